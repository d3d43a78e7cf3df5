import PyProof.Rows.All
import Wide.All
import OpenK.AllK
import Wide.FinOn
import KE.GoesEnum
import HandS.ForMost
import HandS.Walk
import HandS.Zip
import HandS.IsInst
import HandS.NoneIn
import HandS.SortInts
import HandS.Evl
import HandS.Conv
import HandS.Style
import HandS.Star
import HandS.More
import HandS.Strs
import HandS.SetFor
import HandS.Wide
import PyProof.ReprRoads
import PyProof.ReprLen
import HandS.TupAny
import PyProof.TwoTypes
import PyProof.TwoTypesSub
import PyProof.AutoIntG7
import PyProof.FactsMod
import PyProof.CallStr
import HandS.TupMul
import PyProof.CallFns
import PySem.Challenge.RW_shoalmates_k01_seas_and_standings
set_option Elab.async false
set_option linter.all false
set_option maxRecDepth 100000
set_option maxHeartbeats 1000000
/-! Own layer over the hand layer: sequences (a list or a tuple), enumerate of a tuple, defs by one fact each, what is told kept under a growing heap. -/
namespace Sh
open PySem PySem.Spec PyProof.Rows L2

/-! ### heaps -/
theorem same_new {H : Hp} {p : Addr} {o : HO} (h : H p = none) : Same H (upd H p o) := fun b x e => by
  rw [upd_ne (ne_of_none e h)]
  exact e
theorem Same.tup {K : PySem.W.Frag} {H H' : Hp} {a : Addr} {xs : List V} (e : Same H H') (h : SqT K H a xs) : SqT K H' a xs := by
  rcases h with (h | ⟨o, h⟩) | h
  · exact .inl (.inl (e _ _ h))
  · exact .inl (.inr ⟨o, e _ _ h⟩)
  · exact .inr h
/-- a list or a tuple of xs is to be read at a -/
def SqA (K : PySem.W.Frag) (H : Hp) (a : Addr) (xs : List V) : Prop := SqL K H a xs ∨ SqT K H a xs
theorem Same.sqA {K : PySem.W.Frag} {H H' : Hp} {a : Addr} {xs : List V} (e : Same H H') (h : SqA K H a xs) : SqA K H' a xs := h.elim (fun q => .inl (e.seq q)) fun q => .inr (Same.tup e q)
theorem SqA.l {K : PySem.W.Frag} {H : Hp} {a : Addr} {xs : List V} (h : H a = some (.lst xs)) : SqA K H a xs := .inl (SqL.of h)
theorem SqA.t {K : PySem.W.Frag} {H : Hp} {a : Addr} {xs : List V} (h : H a = some (.tup xs)) : SqA K H a xs := .inr (SqT.of h)
/-- nothing but b has changed of what was tracked -/
def But (b : Addr) (H H' : Hp) : Prop := ∀ a o, a ≠ b → H a = some o → H' a = some o
theorem But.refl (b : Addr) (H : Hp) : But b H H := fun _ _ _ e => e
theorem But.trans {b : Addr} {H H1 H2 : Hp} (x : But b H H1) (y : But b H1 H2) : But b H H2 := fun a o n e => y a o n (x a o n e)
theorem Same.but {b : Addr} {H H' : Hp} (e : Same H H') : But b H H' := fun a o _ h => e a o h
theorem But.ups {b : Addr} {H : Hp} {o : HO} : But b H (upd H b o) := fun a x n e => by rw [upd_ne n]; exact e
theorem But.same {b : Addr} {G H H' : Hp} (x : But b H H') (g : Same G H) (n : G b = none) : Same G H' := fun a o e => x a o (ne_of_none e n) (g a o e)

section
variable {K : PySem.W.Frag} {H H' : Hp}
mutual
theorem Dp.same (e : Same H H') : ∀ {v : V} {d : PyData}, Dp K H v d → Dp K H' v d
  | _, _, .non => .non
  | _, _, .bl b => .bl b
  | _, _, .int i => .int i
  | _, _, .str x => .str x
  | _, _, .lst h a => .lst (e.seq h) (DpAll.same e a)
  | _, _, .tup h a => .tup (Same.tup e h) (DpAll.same e a)
theorem DpAll.same (e : Same H H') : ∀ {vs : List V} {ds : List PyData}, DpAll K H vs ds → DpAll K H' vs ds
  | _, _, .nil => .nil
  | _, _, .cons h a => .cons (Dp.same e h) (DpAll.same e a)
end
theorem DpAll.ints : ∀ ns : List Int, DpAll K H (ns.map V.int) (ns.map PyData.int)
  | [] => .nil
  | n :: ns => .cons (.int n) (DpAll.ints ns)
theorem DpAll.len : ∀ {vs : List V} {ds : List PyData}, DpAll K H vs ds → vs.length = ds.length
  | _, _, .nil => rfl
  | _, _, .cons _ a => congrArg Nat.succ (DpAll.len a)
theorem DpAll.get : ∀ {vs : List V} {ds : List PyData} {i : Nat} {v : V}, DpAll K H vs ds → vs[i]? = some v → ∃ d, ds[i]? = some d ∧ Dp K H v d
  | _, _, _, _, .nil, h => by simp at h
  | _, _, 0, _, .cons x _, h => by
    cases Option.some.inj h
    exact ⟨_, rfl, x⟩
  | _, _, i + 1, _, .cons _ a, h => DpAll.get (i := i) a h
end

/-! ### rules for a list or a tuple -/
section
variable {X : Cx}
def rIxA (K : PySem.W.Frag) : R2 := fun x y H Q => ∃ p xs i v, x = .ref p ∧ y = .int i ∧ SqA K H p xs ∧ atI xs i = some v ∧ Q v H
theorem ix_lt : IxR X (rIxA X.K) := fun value slice pins s σ H x y v u Q I rx ry h hs => by
  obtain ⟨p, xs, i, z, e1, e2, hq | hq, he, q⟩ := h
  · exact ix_list value slice pins s σ H x y v u Q I rx ry ⟨p, xs, i, z, e1, e2, hq, he, q⟩ hs
  · exact ix_tup value slice pins s σ H x y v u Q I rx ry ⟨p, xs, i, z, e1, e2, hq, he, q⟩ hs
/-- a written power, its worth written -/
theorem op_powC (v : Int) : OpR X (binaryOp .Pow) (rI (fun i j => CPow i j ∧ i ^ j.toNat = v) fun _ _ => .int v) := fun pins s σ H x y u w Q I rx ry h => by
  obtain ⟨i, j, e1, e2, ⟨hc, hv⟩, q⟩ := h
  exact op_pow pins s σ H x y u w Q I rx ry ⟨i, j, e1, e2, hc, show Q (.int (i ^ j.toNat)) H by rw [hv]; exact q⟩
/-- a < b < c < d -/
def tChain3 (r r' r'' : R2) (ta tb tc td : TE) : TE := fun σ H Q => ta σ H fun x H1 => tb σ H1 fun y H2 => r x y H2 fun z H3 => ∃ k, z = .bl k ∧
  (if k = true then tc σ H3 fun y' H4 => r' y y' H4 fun z' H5 => ∃ k', z' = .bl k' ∧ (if k' = true then td σ H5 fun y'' H6 => r'' y' y'' H6 Q else Q (.bl false) H5) else Q (.bl false) H3)
theorem pe_chain3 {a b c d : Expr} {ta tb tc td : TE} {pos : Pos} {op op' op'' : CmpOp} {r r' r'' : R2} (ho : OpR X (compareOp op) r) (ho' : OpR X (compareOp op') r') (ho'' : OpR X (compareOp op'') r'') (ha : PE X a ta) (hb : PE X b tb) (hc : PE X c tc) (hd : PE X d td)
    (hm : lastMarks [op, op', op''] [b, c, d] = false := by with_unfolding_all rfl) : PE X (.Compare a [op, op', op''] [b, c, d] pos) (tChain3 r r' r'' ta tb tc td) := by
  refine ⟨fun pins s σ H Q I h => ?_⟩
  refine Compare_chain (thn (ha.run pins s σ H _ I h) fun v s1 ⟨x, H1, I1, r1, q1⟩ => chain_link (thn (hb.run pins s1 σ H1 _ I1 q1) fun u s2 ⟨y, H2, I2, r2, q2⟩ =>
    thn (ho pins s2 σ H2 x y v u _ I2 r1 r2 q2) fun e s3 ⟨z, H3, I3, r3, k, ez, q3⟩ => ?_)) hm
  subst ez
  cases r3
  refine wpAny_truthy_bool ?_
  cases k with
  | false => exact ite_ff ⟨.bl false, H3, I3, rfl, q3⟩
  | true =>
    refine ite_tt (chain_link (thn (hc.run pins s3 σ H3 _ I3 q3) fun u' s4 ⟨y', H4, I4, r4, q4⟩ => thn (ho' pins s4 σ H4 y y' u u' _ I4 r2 r4 q4) fun e s5 ⟨z', H5, I5, r5, k', ez', q5⟩ => ?_))
    subst ez'
    cases r5
    refine wpAny_truthy_bool ?_
    cases k' with
    | false => exact ite_ff ⟨.bl false, H5, I5, rfl, q5⟩
    | true => exact ite_tt (chain_last (thn (hd.run pins s5 σ H5 _ I5 q5) fun w' s6 ⟨y'', H6, I6, r6, q6⟩ => ho'' pins s6 σ H6 y' y'' u' w' Q I6 r4 r6 q6))
theorem pt_chain3 {a b c d : Expr} {ta tb tc td : TE} {pos : Pos} {op op' op'' : CmpOp} {r r' r'' : R2} (ho : OpR X (compareOp op) r) (ho' : OpR X (compareOp op') r') (ho'' : OpR X (compareOp op'') r'') (ha : PE X a ta) (hb : PE X b tb) (hc : PE X c tc) (hd : PE X d td)
    (hm : lastMarks [op, op', op''] [b, c, d] = false := by with_unfolding_all rfl) : PT X (.Compare a [op, op', op''] [b, c, d] pos) (tTest (tChain3 r r' r'' ta tb tc td)) := by
  refine ⟨fun pins s σ H Q I h => ?_⟩
  refine isTrue_chain (thn (ha.run pins s σ H _ I h) fun v s1 ⟨x, H1, I1, r1, q1⟩ => test_link (thn (hb.run pins s1 σ H1 _ I1 q1) fun u s2 ⟨y, H2, I2, r2, q2⟩ =>
    thn (ho pins s2 σ H2 x y v u _ I2 r1 r2 q2) fun e s3 ⟨z, H3, I3, r3, k, ez, q3⟩ => ?_)) hm
  subst ez
  cases r3
  refine wpAny_truthy_bool ?_
  cases k with
  | false =>
    obtain ⟨k', e', q'⟩ := q3
    cases e'
    exact ite_ff ⟨H3, I3, q'⟩
  | true =>
    refine ite_tt (test_link (thn (hc.run pins s3 σ H3 _ I3 q3) fun u' s4 ⟨y', H4, I4, r4, q4⟩ => thn (ho' pins s4 σ H4 y y' u u' _ I4 r2 r4 q4) fun e s5 ⟨z', H5, I5, r5, k', ez', q5⟩ => ?_))
    subst ez'
    cases r5
    refine wpAny_truthy_bool ?_
    cases k' with
    | false =>
      obtain ⟨k', e', q'⟩ := q5
      cases e'
      exact ite_ff ⟨H5, I5, q'⟩
    | true =>
      refine ite_tt (test_last (thn (hd.run pins s5 σ H5 _ I5 q5) fun w' s6 ⟨y'', H6, I6, r6, q6⟩ => thn (ho'' pins s6 σ H6 y' y'' u' w' _ I6 r4 r6 q6) fun e s7 ⟨z2, H7, I7, r7, k2, e2, q7⟩ => ?_))
      subst e2
      cases r7
      exact wpAny_truthy_bool ⟨H7, I7, q7⟩
/-- the same, the written part by its own name (within a comprehension) -/
theorem ix_ltK (K : PySem.W.Frag) (hK : X.K = K := by rfl) : IxR X (rIxA K) := hK ▸ ix_lt
theorem call_lenK (K : PySem.W.Frag) (hK : X.K = K := by rfl) : CallR X (.builtin "len") (fun xs H Q => ∃ p ys, xs = [.ref p] ∧ (SqL K H p ys ∨ SqT K H p ys) ∧ Q (.int ys.length) H) := hK ▸ call_len_seq
theorem op_inK (K : PySem.W.Frag) (hK : X.K = K := by rfl) : OpR X (compareOp .In) (rIn K false) := hK ▸ op_in_seq
theorem op_notInK (K : PySem.W.Frag) (hK : X.K = K := by rfl) : OpR X (compareOp .NotIn) (rIn K true) := hK ▸ op_notIn_seq
def gSeq (K : PySem.W.Frag) (n : Nat) (t : TGs) : TG := fun v σ H Q => ∃ a xs, v = .ref a ∧ SqA K H a xs ∧ xs.length = n ∧ t xs σ H Q
theorem pg_seq {es : List Expr} {k : Nat} {t : TGs} {n : Nat} {pos : Pos} (hc : X.calm = true) (h : PGs X es t)
    (hn : (assignEach es X.env).length = n := by rfl) (hst : (assignEach es X.env).findIdx? (·.1) = none := by rfl) : PG X (.Tuple es k pos) (gSeq X.K n t) := by
  refine ⟨fun pins s σ H v u Q I r hw => ?_⟩
  obtain ⟨a, xs, e1, hq | hq, hl, hw⟩ := hw
  · exact (pg_unl hc h hn hst).run pins s σ H v u Q I r ⟨a, xs, e1, hq, hl, hw⟩
  · exact (pg_tup hc h hn hst).run pins s σ H v u Q I r ⟨a, xs, e1, hq, hl, hw⟩
/-- what stands at a stands -/
def Kp (a : Addr) (H H' : Hp) : Prop := ∀ o, H a = some o → H' a = some o
theorem Kp.ofS {a : Addr} {H H' : Hp} (e : Same H H') : Kp a H H' := fun o h => e a o h
theorem Kp.ofB {a b : Addr} {H H' : Hp} (e : But b H H') (n : a ≠ b) : Kp a H H' := fun o h => e a o n h
theorem Kp.refl (a : Addr) (H : Hp) : Kp a H H := fun _ h => h
theorem Kp.sl {K : PySem.W.Frag} {a : Addr} {xs : List V} {H H' : Hp} (k : Kp a H H') (h : SqL K H a xs) : SqL K H' a xs := by
  rcases h with (h | ⟨o, h⟩) | h
  · exact .inl (.inl (k _ h))
  · exact .inl (.inr ⟨o, k _ h⟩)
  · exact .inr h
theorem Kp.st {K : PySem.W.Frag} {a : Addr} {xs : List V} {H H' : Hp} (k : Kp a H H') (h : SqT K H a xs) : SqT K H' a xs := by
  rcases h with (h | ⟨o, h⟩) | h
  · exact .inl (.inl (k _ h))
  · exact .inl (.inr ⟨o, k _ h⟩)
  · exact .inr h
theorem Kp.sa {K : PySem.W.Frag} {a : Addr} {xs : List V} {H H' : Hp} (k : Kp a H H') (h : SqA K H a xs) : SqA K H' a xs := h.elim (fun q => .inl (k.sl q)) fun q => .inr (k.st q)
/-- the walk over what stood at a in H0 -/
def ItA (K : PySem.W.Frag) (H0 : Hp) (a : Addr) (xs : List V) (J : It) : Prop := (J = Itl K a ∧ SqL K H0 a xs) ∨ (J = Itt K a ∧ SqT K H0 a xs)
def iSeq (K : PySem.W.Frag) (tl : TE) : TI := fun σ H R => tl σ H fun x H1 => ∃ (a : Addr) (xs : List V) (H0 : Hp), x = .ref a ∧ SqA K H0 a xs ∧ Kp a H0 H1 ∧ ∀ J, ItA K H0 a xs J → R J H1
theorem pi_seq {tg l : Expr} {tl : TE} (hl : PE X l tl) : PI X tg l (iSeq X.K tl) := by
  refine ⟨fun pins s σ H R I h => ?_⟩
  refine thn (hl.run pins s σ H _ I h) fun v s1 ⟨x, H1, I1, r1, q1⟩ => ?_
  obtain ⟨a, xs, H0, e, hq | hq, hk, q⟩ := q1
  · replace q := q _ (.inl ⟨rfl, hq⟩)
    replace hq := hk.sl hq
    subst e
    cases r1
    obtain ⟨its, rv, p, hz⟩ := I1.list hq
    refine wpAny_pyIter_list p.isList ?_
    refine ⟨s1.heap.objs.size, [s1.heap.objs.size], _, _, H1, rfl, I1.kept (t' := s1.toks) fun b o e => Heap.get?_push_of_some _ e, turn_list a _, ⟨_, Heap.get?_push_size _ rfl, rfl, rfl⟩, fun b hb => ?_, q⟩
    have e : b = s1.heap.objs.size := by simpa using hb
    subst e
    exact I1.fpOk (Nat.le_refl _) (I1.hok.fresh (Nat.le_refl _))
  · replace q := q _ (.inr ⟨rfl, hq⟩)
    replace hq := hk.st hq
    subst e
    cases r1
    obtain ⟨its, rv, p, hz⟩ := I1.tuple hq
    refine wpAny_pyIter_tuple (show s1.heap.IsTuple a its.toArray from p) ?_
    refine ⟨s1.heap.objs.size, [s1.heap.objs.size], _, _, H1, rfl, I1.kept (t' := s1.toks) fun b o e => Heap.get?_push_of_some _ e, turn_tuple a _, ⟨_, Heap.get?_push_size _ rfl, rfl, rfl⟩, fun b hb => ?_, q⟩
    have e : b = s1.heap.objs.size := by simpa using hb
    subst e
    exact I1.fpOk (Nat.le_refl _) (I1.hok.fresh (Nat.le_refl _))
end

theorem ItA.walk {K : PySem.W.Frag} {H0 : Hp} {a : Addr} {xs : List V} {J : It} (h : ItA K H0 a xs J) : ∃ G : Hp → Prop, (∀ H', Kp a H0 H' → G H') ∧ Walk J xs.length G (YAt xs) := by
  rcases h with ⟨rfl, q⟩ | ⟨rfl, q⟩
  · exact ⟨_, fun _ k => k.sl q, walk_list⟩
  · exact ⟨_, fun _ k => k.st q, walk_tup⟩

/-! ### enumerate of a tuple -/
set_option maxHeartbeats 1000000 in
theorem meets_enum1 {v : Value} {o : Obj} {H : Heap → Prop} (B : Begins v o H) :
    Meets (Builtin.«enumerate.__new__» ⟨[.type "enumerate", v], []⟩) (fun _ R s => H s.heap ∧
      R (.ok (.ret (.ref (s.heap.push o).objs.size))) { s with heap := (s.heap.push o).push { cls := .type "enumerate", data := .fields #[.none, .bool false, .ref s.heap.objs.size, rawInt 0, .none, .none] } }) :=
  .of_wp fun prog w A R s h => by
    obtain ⟨hp, g, d, tk, os⟩ := s; obtain ⟨h1, h⟩ := h
    have hsub := sub_enumerate
    have q1 : ∀ {A' : Around} {E : Value → Shared → Prop} {Q : Value → Shared → Prop}, Q (.ref hp.objs.size) ⟨hp.push o, g, d, tk, os⟩ → wpAny (model prog w) A' (pyIter v) Q E ⟨hp, g, d, tk, os⟩ :=
      fun q => B.iter prog w _ _ ⟨hp, g, d, tk, os⟩ _ h1 q
    wp_walk using q1
    refine wpAny_stack_any fun st => wpAny_pure ?_
    split
    · rename_i c _ _ _ _ _
      cases (c == Value.type "enumerate")
      · wp_walk using q1
        exact ⟨_, rfl, h⟩
      · wp_walk using q1
        exact ⟨_, rfl, h⟩
    · wp_walk using q1
      exact ⟨_, rfl, h⟩
section
variable {prog : Program} {w : World} {A : Around} {E : Value → Shared → Prop} {s : Shared}
theorem enum1_begins {v : Value} {o : Obj} {H : Heap → Prop} {Q : Value → Shared → Prop} (B : Begins v o H) (h1 : H s.heap)
    (h : ∀ h', IsEnum h' (s.heap.objs.size + 1) s.heap.objs.size 0 .none → h'.get? s.heap.objs.size = some o → h'.objs.size = s.heap.objs.size + 2 →
      (∀ b o, s.heap.get? b = some o → h'.get? b = some o) → Q (.ref (s.heap.objs.size + 1)) { s with heap := h' }) :
    wpAny (model prog w) A (call (.type "enumerate") [v]) Q E s := by
  refine callType_new F.called_enumerate (by decide) (F.typeCall_enumerate_1 _) (F.newCall_enumerate_1 _) (fun obj => F.args_object_init_2 obj _) F.entry_enumerate_new
    (meets_enum1 B) ⟨h1, ?_⟩
  have hz : (s.heap.push o).objs.size = s.heap.objs.size + 1 := Heap.size_push ..
  show _ ∧ _
  rw [hz]
  have he : IsEnum ((s.heap.push o).push { cls := .type "enumerate", data := .fields #[.none, .bool false, .ref s.heap.objs.size, rawInt 0, .none, .none] }) (s.heap.objs.size + 1) s.heap.objs.size 0 .none := by
    have := Heap.get?_push_size (s.heap.push o) (o := { cls := .type "enumerate", data := .fields #[.none, .bool false, .ref s.heap.objs.size, rawInt 0, .none, .none] }) rfl
    rw [hz] at this; exact this
  refine ⟨⟨_, he, rfl⟩, h _ he (Heap.get?_push_of_some _ (Heap.get?_push_size _ B.free)) (by rw [Heap.size_push, hz]) fun b o x => Heap.get?_push_of_some _ (Heap.get?_push_of_some _ x)⟩
end
/-- the tuple at a as it stands at each turn, each item in a new pair -/
def IteT (K : PySem.W.Frag) (a : Addr) : It :=
  ⟨fun i H => ∃ (xs : List V) (x : V), SqT K H a xs ∧ xs[i]? = some x, fun i H v H' => ∃ T x, v = .ref T ∧ H T = none ∧ H' = upd H T (.tup [.int (i : Nat), x]) ∧ ∀ xs, SqT K H a xs → xs[i]? = some x, fun i H => ∃ xs : List V, SqT K H a xs ∧ xs.length ≤ i⟩
end Sh

namespace Sh
open PySem PySem.Spec PyProof.Rows L2
section
variable {prog : Program} {w : World} {A : Around} {E : Value → Shared → Prop} {s : Shared}
theorem enum_endT {e it t : Addr} {n : Nat} {i : Int} {old : Value} {items : Array Value} {Q : Option Value → Shared → Prop} (hh : A.handled = none)
    (he : IsEnum s.heap e it i old) (hit : s.heap.IsTupleIter it t n) (ht : s.heap.IsTuple t items) (hx : items[n]? = none)
    (hQ : ∀ h', Heap.ExtBut it s.heap h' → Q none { s with heap := h' }) : wpAny (model prog w) A (pyNext (.ref e)) Q E s := by
  have hT : s.TypeIs (.ref e) "enumerate" := ⟨_, he, rfl⟩
  unfold pyNext
  refine wpAny_bind (wpAny_attempt (wpAny_callSpecial?_slot (name := Str.ofString "__next__") hT F.slot_enumerate_next
    (wpAny_call_entry F.slot_enumerate_next hT F.entry_enumerate_next ?_ (F.args_enumerate_next_1 _))))
  show wpAny _ _ (field (.ref e) 2 >>= _) _ _ _
  refine wpAny_bind (wpAny_field he rfl (x := .ref it) rfl ?_)
  refine wpAny_bind (wpAny_nextOf_tuple_end (show _ = none from hh) hit ht hx fun h' x he' hx' => ?_)
  obtain ⟨o, ho, hc⟩ := hx'
  refine wpAny_bind (wpAny_isInstance (T := "StopIteration") (b := true) ⟨o, ho, hc⟩ isSubtype_stop ?_)
  exact wpAny_pure (hQ _ he')
end
theorem turn_enumT {P : Program} {w : World} {K : PySem.W.Frag} {elts : List Expr} {kk : Nat} {tpos : Pos} (a e it : Addr) :
    Turn P w K (.Tuple elts kk tpos) (IteT K a) [e, it] e (fun i h => (∃ old, IsEnum h e it ((i : Nat) : Int) old) ∧ h.IsTupleIter it a i ∧ e ≠ it ∧ a ≠ it ∧ e ≠ a) where
  mem := by simp
  obj := fun i h st b hb => by
    obtain ⟨⟨old, he⟩, ⟨o, ho, hc, hd⟩, _⟩ := st
    have e' : b = e ∨ b = it := by simpa using hb
    rcases e' with z | z
    · rw [z]; exact ⟨_, he, fun v q => nomatch q⟩
    · rw [z]; exact ⟨o, ho, fun v q => by rw [hd] at q; cases q⟩
  keep := fun i h h' st k => let ⟨⟨old, he⟩, hi, hne⟩ := st; ⟨⟨old, k e (by simp) _ he⟩, hi.at fun o q => k it (by simp) o q, hne⟩
  item := by
    intro X hP hw hK hc i pins s σ H E I hf st hg
    subst hP hw hK
    obtain ⟨⟨old, he⟩, hit, hne, hai, hea⟩ := st
    obtain ⟨xs, x, hq, hx⟩ := hg
    obtain ⟨its, rv, p, hz⟩ := I.tuple hq
    obtain ⟨u, hu, ru⟩ := rv.get hx
    have hel : e < s.heap.objs.size := Heap.lt_size he
    have hil : it < s.heap.objs.size := by obtain ⟨_, q, _⟩ := hit; exact Heap.lt_size q
    have D := Draws.tuple (prog := X.prog) (w := X.w) (A := X.A.in1) (show X.A.in1.handled = none from I.ok.hd hc) it a hai its.toArray
    have hlt : i < its.toArray.size := by
      have q := (List.getElem?_eq_some_iff.mp hu).1
      simpa using q
    refine wpAny_pyNext_enum_itemC D he ⟨hit, p⟩ hlt hne (by simp [hne, hea]) fun u' h' tk hP ho hst' hT hsz hk => ?_
    have eu : u' = u := by
      have q : its.toArray[i]? = some u' := hP
      have q2 : its.toArray[i]? = some u := by simpa using hu
      exact Option.some.inj (q.symm.trans q2)
    subst eu
    obtain ⟨hit', _⟩ := hst'
    refine ⟨_, rfl, wpAny_letOwnedTupleGo_enum (s := { s with heap := h', toks := tk + 1 }) ho fun h'' he' sb => ?_⟩
    have hT2 : h''.get? s.heap.objs.size = some { cls := .type "tuple", data := .seq #[.int i tk, u'] } := (sb.2 _ (Nat.ne_of_gt hel)).trans hT
    have new : ObjOk X.prog X.w (upd H s.heap.objs.size (.tup [.int (i : Nat), x])) h'' s.heap.objs.size (.tup [.int (i : Nat), x]) :=
      ⟨by show 2 ≤ sizeLine; decide, [.int i tk, u'], .cons ⟨_, rfl⟩ (.cons ru .nil), ⟨_, hT2, rfl, _, rfl⟩⟩
    have I1 : Inv X pins σ (upd H s.heap.objs.size (.tup [.int (i : Nat), x])) { s with heap := h'', toks := tk + 1 } :=
      I.turnedNew (ch := [e, it]) (fun b ob hb q => (sb.2 b (fun z => hb (by simp [z]))).trans (hk b ob (fun z => hb (by simp [z])) (fun z => hb (by simp [z])) q)) hf (Nat.le_refl _) new
    refine ⟨.ref s.heap.objs.size, _, I1, rfl, ⟨_, x, rfl, I.hok.fresh (Nat.le_refl _), rfl, fun ys hy => by rw [I.tuple_inj hy hq]; exact hx⟩, ⟨⟨u', ?_⟩, hit'.at fun o q => (sb.2 it (Ne.symm hne)).trans q, hne, hai, hea⟩, fun b hb => ?_⟩
    · have e1 : ((i + 1 : Nat) : Int) = (i : Int) + 1 := by omega
      rw [e1]; exact he'
    · have hb' : b < s.heap.objs.size := by
        have e' : b = e ∨ b = it := by simpa using hb
        rcases e' with z | z
        · rw [z]; exact hel
        · rw [z]; exact hil
      rw [upd_ne (Nat.ne_of_lt hb')]
      exact (hf b hb).1
  done := by
    intro X hP hw hK hc i pins s σ H E I hf st hg
    subst hP hw hK
    obtain ⟨⟨old, he⟩, hit, hne, hai, hea⟩ := st
    obtain ⟨xs, hq, hx⟩ := hg
    obtain ⟨its, rv, p, hz⟩ := I.tuple hq
    obtain ⟨f0, f1, f2, f3, f4, f5⟩ := hf it (by simp)
    have hl := rv.length
    exact enum_endT (I.ok.hd hc) he hit p (by simp; omega) fun h' eb => ⟨rfl, I.turned (t' := s.toks) (fun b o hb q => eb b o hb q) f0 f1 f3 f4 f5⟩
  self := fun A i s Q E st h => let ⟨⟨_, he⟩, _⟩ := st; wpAny_pyIter_enum he h
def ItE (K : PySem.W.Frag) (H0 : Hp) (a : Addr) (xs : List V) (J : It) : Prop := (J = Ite K a ∧ SqL K H0 a xs) ∨ (J = IteT K a ∧ SqT K H0 a xs)
def iEnumA (K : PySem.W.Frag) (ta : TA) : TI := fun σ H R => ta σ H fun vs H1 => ∃ (a : Addr) (xs : List V) (H0 : Hp), vs = [.ref a] ∧ SqA K H0 a xs ∧ Kp a H0 H1 ∧ ∀ J, ItE K H0 a xs J → R J H1
theorem pi_enumA {X : Cx} {e : Expr} {ta : TA} {p pos tpos : Pos} {elts : List Expr} {kk : Nat} (hg : Gl X "enumerate") (hm : X.mg "enumerate" = none) (ha : PA X [e] ta) (hs : starEach [e] X.env = [(false, eval e X.env)] := by rfl) :
    PI X (.Tuple elts kk tpos) (.Call (.Name "enumerate" p) [e] [] pos) (iEnumA X.K ta) := by
  refine ⟨fun pins s σ H R I h => ?_⟩
  refine Call_ (ld_blt I hg hm boot_enumerate (PyProof.Rows.callWith_type1 (thn (ha.run pos pins s σ H _ I h) fun us s1 ⟨vs, H1, I1, r1, q1⟩ => ?_) hs rfl))
  obtain ⟨a, xs, H0, ex, hs0, hk, q1⟩ := q1
  subst ex
  cases r1 with
  | cons r rr =>
    cases rr
    cases r
    have fr : ∀ b ∈ [s1.heap.objs.size + 1, s1.heap.objs.size], FpOk X pins H1 b := fun b hb => by
      have e' : b = s1.heap.objs.size + 1 ∨ b = s1.heap.objs.size := by simpa using hb
      have hle : s1.heap.objs.size ≤ b := by
        rcases e' with z | z
        · rw [z]; exact Nat.le_add_right _ _
        · rw [z]; exact Nat.le_refl _
      exact I1.fpOk hle (I1.hok.fresh hle)
    rcases hs0 with hq | hq
    · have q := q1 _ (.inl ⟨rfl, hq⟩)
      replace hq := hk.sl hq
      obtain ⟨its, rv, p', hz⟩ := I1.list hq
      refine call_enumerate_list p'.isList fun h' he hit hsz hk => wpAny_pyIter_enum he ?_
      have I2 : Inv X pins σ H1 { s1 with heap := h' } := I1.kept (t' := s1.toks) hk
      exact ⟨s1.heap.objs.size + 1, [s1.heap.objs.size + 1, s1.heap.objs.size], _, _, H1, rfl, I2, turn_enum a (s1.heap.objs.size + 1) s1.heap.objs.size, ⟨⟨.none, he⟩, hit, Nat.succ_ne_self _⟩, fr, q⟩
    · have q := q1 _ (.inr ⟨rfl, hq⟩)
      replace hq := hk.st hq
      obtain ⟨its, rv, p', hz⟩ := I1.tuple hq
      have al : a < s1.heap.objs.size := by obtain ⟨_, q, _⟩ := id p'; exact Heap.lt_size q
      refine enum1_begins (begins_tuple a its.toArray) p' fun h' he hit hsz hk => wpAny_pyIter_enum he ?_
      have I2 : Inv X pins σ H1 { s1 with heap := h' } := I1.kept (t' := s1.toks) hk
      exact ⟨s1.heap.objs.size + 1, [s1.heap.objs.size + 1, s1.heap.objs.size], _, _, H1, rfl, I2, turn_enumT a (s1.heap.objs.size + 1) s1.heap.objs.size, ⟨⟨.none, he⟩, ⟨_, hit, rfl, rfl⟩, Nat.succ_ne_self _, Nat.ne_of_lt al, Nat.ne_of_gt (Nat.lt_succ_of_lt al)⟩, fr, q⟩
theorem walk_enumT {K : PySem.W.Frag} {a : Addr} {xs : List V} : Walk (IteT K a) xs.length (fun H => SqT K H a xs) (YPair (fun i => some (.int (i : Nat))) (fun i => xs[i]?)) := by
  refine ⟨fun i _ hi q => ⟨xs, xs[i], q, by simp [hi]⟩, fun _ q => ⟨xs, q, Nat.le_refl _⟩, fun i H v H' _ q y => ?_⟩
  obtain ⟨T, x, h1, h2, h3, h4⟩ := y
  exact ⟨T, .int (i : Nat), x, h1, h2, h3, rfl, h4 xs q⟩
theorem ItE.walk {K : PySem.W.Frag} {H0 : Hp} {a : Addr} {xs : List V} {J : It} (h : ItE K H0 a xs J) : ∃ G : Hp → Prop, (∀ H', Kp a H0 H' → G H') ∧ Walk J xs.length G (YPair (fun i => some (.int (i : Nat))) (fun i => xs[i]?)) := by
  rcases h with ⟨rfl, q⟩ | ⟨rfl, q⟩
  · exact ⟨_, fun _ k => k.sl q, walk_enum⟩
  · exact ⟨_, fun _ k => k.st q, walk_enumT⟩
theorem walk_zipT {K : PySem.W.Frag} {a b : Addr} {xs ys : List V} {n : Nat} (hn : n = min xs.length ys.length) : Walk (RZ.ItzT K a b) n (fun H => SqT K H a xs ∧ SqT K H b ys) (YPair (fun i => xs[i]?) (fun i => ys[i]?)) := by
  subst hn
  refine ⟨fun i _ hi q => ?_, fun _ q => ⟨xs, ys, q.1, q.2, by omega⟩, fun i H v H' _ q y => ?_⟩
  · have h1 : i < xs.length := by omega
    have h2 : i < ys.length := by omega
    exact ⟨xs, ys, xs[i], ys[i], q.1, q.2, by simp [h1], by simp [h2]⟩
  · obtain ⟨T, x, z, h1, h2, h3, h4, h5⟩ := y
    exact ⟨T, x, z, h1, h2, h3, h4 xs q.1, h5 ys q.2⟩
end Sh

namespace Sh
open PySem PySem.Spec PyProof.Rows L2
/-- a def of the top: where it stands, and the global name -/
structure Df (K : PySem.W.Frag) (mg : Str → Option Value) (x : Str) (st : Stmt) : Prop where
  ex : ∃ (f : Addr) (fd : FuncData), Fun K x x st f fd ∧ mg x = some (.ref f)
/-- it keeps its promise -/
structure Ok (P : Program) (w : World) (K : PySem.W.Frag) (mg : Str → Option Value) (base : Heap) (k : Nat) (x : Str) (st : Stmt) (ps : List Str) (sp : Sp) : Prop where
  ex : ∃ (f : Addr) (fd : FuncData), Fun K x x st f fd ∧ mg x = some (.ref f) ∧ Binds K fd ps [] ∧ FnOk P w K mg base CX0 k f fd ps sp
section
variable {P : Program} {w : World} {K : PySem.W.Frag} {mg : Str → Option Value} {base : Heap}
theorem Df.ok {x : Str} {st : Stmt} {N ps : List Str} {k : Nat} {sp : Sp} (D : Df K mg x st) (S : FnScope N ps (defScope st))
    (hb : ∀ (kV doc pm : Value) (an : Option Addr) (cdv ct : Value) (us : List Value), us.length = ps.length → bindArgs (PySem.W.fnOf x x (defArgs st) (defBody st) (defScope st) .none kV doc pm an cdv ct) ⟨us, []⟩ = pure (ps.zip us))
    (len : ∀ vs H Q E, sp vs H Q E → vs.length = ps.length)
    (hbody : ∀ (f : Addr) (cdv : Value) (A : Around) (outer : List Env) (s : Shared) (H : Hp) (vs : List V) (Q : VK) (E : XK), Room k (A.deeper (envOfC x (defScope st) s.heap.objs.size f cdv)) → sp vs H Q E →
      ∃ t, PSs (cxOf CX0 P w K mg base N x (defScope st) f cdv A outer s H E).nox (defBody st) t ∧ t { nx := fun _ H' => Q .non H', rt := Q } (start N vs) H) : Ok P w K mg base (k + 1) x st ps sp := by
  obtain ⟨f, fd, F, g⟩ := D.ex
  exact ⟨f, fd, F, g, F.binds hb, F.ok S len (fun cdv A outer s H vs Q E hr h => hbody f cdv A outer s H vs Q E hr h)⟩
theorem Ok.mono {x : Str} {st : Stmt} {ps : List Str} {j k : Nat} {sp : Sp} (O : Ok P w K mg base j x st ps sp) (h : j ≤ k) : Ok P w K mg base k x st ps sp := by
  obtain ⟨f, fd, F, g, b, G⟩ := O.ex
  exact ⟨f, fd, F, g, b, G.mono h⟩
theorem Ok.imp {x : Str} {st : Stmt} {ps : List Str} {k : Nat} {sp sp' : Sp} (O : Ok P w K mg base k x st ps sp) (h : ∀ vs H Q E, sp' vs H Q E → sp vs H Q E) : Ok P w K mg base k x st ps sp' := by
  obtain ⟨f, fd, F, g, b, G⟩ := O.ex
  exact ⟨f, fd, F, g, b, G.imp h⟩
end
/-- the values at the places js -/
def pk {α : Type} (js : List Nat) (l : List α) : List α := js.filterMap fun j => l[j]?
theorem vals_get : ∀ {vs : List V} {us : List Value} (j : Nat), Vals vs us → (vs[j]? = none ∧ us[j]? = none) ∨ ∃ v u, vs[j]? = some v ∧ us[j]? = some u ∧ RelV v u
  | _, _, _, .nil => .inl ⟨by simp, by simp⟩
  | _, _, 0, .cons r _ => .inr ⟨_, _, rfl, rfl, r⟩
  | _, _, j + 1, .cons _ t => by simpa using vals_get j t
theorem vals_app : ∀ {vs zs : List V} {us ws : List Value}, Vals vs us → Vals zs ws → Vals (vs ++ zs) (us ++ ws)
  | _, _, _, _, .nil, h => h
  | _, _, _, _, .cons r t, h => .cons r (vals_app t h)
theorem vals_pk {vs : List V} {us : List Value} (h : Vals vs us) : ∀ js : List Nat, Vals (pk js vs) (pk js us)
  | [] => .nil
  | j :: js => by
    unfold pk
    rcases vals_get j h with ⟨a, b⟩ | ⟨v, u, a, b, r⟩
    · rw [List.filterMap_cons_none a, List.filterMap_cons_none b]
      exact vals_pk h js
    · rw [List.filterMap_cons_some a, List.filterMap_cons_some b]
      exact .cons r (vals_pk h js)
section
variable {X : Cx} {k : Nat} {x : Str} {st : Stmt} {ps : List Str} {sp : Sp} {e : Expr} {es : List Expr} {t tk : TA} {p pos : Pos} {kws : List Keyword} {ks : List Str}
/-- f(e, ..) -/
theorem pe_fn (O : Ok X.prog X.w X.K X.mg X.base k x st ps sp) (hr : Room k X.A) (ha : PA X (e :: es) t) (hg : Gl X x := by rfl)
    (hdb : (x == ("__debug__" : Str)) = false := by decide) (he : starEach (e :: es) X.env = (false, eval e X.env) :: starEach es X.env := by rfl) (hpl : (backTo pos (starEach es X.env)).any (·.1) = false := by rfl) :
    PE X (.Call (.Name x p) (e :: es) [] pos) (tCall sp [] E0 t) := by
  obtain ⟨f, fd, F, g, b, G⟩ := O.ex
  exact pe_call G hr hg g F.kp b .nil pass0 ha hdb he hpl
/-- f(e, .., k = v, ..): the parameters are the places js of all that is handed in -/
def tCallJ (js : List Nat) (n : Nat) (sp : Sp) (t tk : TA) : TE := fun σ H Q => t σ H fun vs H1 => tk σ H1 fun zs H2 => (vs.length + zs.length = n ∧ zs.length = n - vs.length) ∧ sp (pk js (vs ++ zs)) H2 Q E0
theorem run_fnJ {pins : List (Addr × Obj)} {σ : L2.St} {H : Hp} {s : Shared} {Q : VK} {us ws : List Value} {vs zs : List V} {js : List Nat} {f : Addr} {fd : FuncData} (F : Fun X.K x x st f fd) (G : FnOk X.prog X.w X.K X.mg X.base CX0 k f fd ps sp) (hr : Room k X.A)
    (hb : ∀ (kV doc pm : Value) (an : Option Addr) (cdv ct : Value), bindArgs (PySem.W.fnOf x x (defArgs st) (defBody st) (defScope st) .none kV doc pm an cdv ct) ⟨us, ks.zip ws⟩ = pure (ps.zip (pk js (us ++ ws))))
    (I : Inv X pins σ H s) (r : Vals vs us) (rz : Vals zs ws) (h : sp (pk js (vs ++ zs)) H Q E0) : wpAny (model X.prog X.w) X.A (call (.ref f) us (ks.zip ws)) (EP X pins σ Q) X.xe s := by
  obtain ⟨oc, od, kV, doc, pm, an, cdv, ct, osl, rfl, lk, hcd⟩ := F.ex
  refine wpAny_call (codeAny_mono (G.run X.A X.stack s H ⟨us, ks.zip ws⟩ (pk js (us ++ ws)) (pk js (vs ++ zs)) Q E0 hr I.env0 (.of_eq (hb kV doc pm an cdv ct)) (vals_pk (vals_app r rz) js) h) fun r s' hq => ?_)
  cases r with
  | error e => exact pass0 pins σ H s e s' I hq
  | ok fl =>
    cases fl with
    | ret u => exact I.after hq
    | next => exact False.elim hq
    | brk => exact False.elim hq
    | cont => exact False.elim hq
/-- f(k = v, ..) -/
theorem pe_fnK0 (js : List Nat) (O : Ok X.prog X.w X.K X.mg X.base k x st ps sp) (hr : Room k X.A)
    (hb : ∀ (kV doc pm : Value) (an : Option Addr) (cdv ct : Value) (ws : List Value), ws.length = ks.length → bindArgs (PySem.W.fnOf x x (defArgs st) (defBody st) (defScope st) .none kV doc pm an cdv ct) ⟨[], ks.zip ws⟩ = pure (ps.zip (pk js ws)))
    (hkw : PK X kws tk) (hg : Gl X x := by rfl) (hall : (backToKw pos (keywordEach kws X.env)).all (·.1.isSome) = true := by rfl) (hks : (backToKw pos (keywordEach kws X.env)).filterMap (·.1) = ks := by rfl) (hdb : (x == ("__debug__" : Str)) = false := by decide)
    (hpl : ((backTo pos (starEach [] X.env)).any (·.1) || (backToKw pos (keywordEach kws X.env)).any (·.1.isNone)) = false := by rfl) :
    PE X (.Call (.Name x p) [] kws pos) (tCallJ js ks.length sp tNil tk) := by
  obtain ⟨f, fd, F, g, b, G⟩ := O.ex
  refine ⟨fun pins s σ H Q I h => ?_⟩
  refine wpAny_Call_Name_kw (ld_glob I hg g ?_ hdb)
  refine PySem.W.callWith_KW0 (h₀ := X.base) I.ok.mod.kin F.kp hall ?_ hpl
  refine thn (hkw.run pos pins s σ H _ I h) fun ws s2 ⟨zs, H2, I2, rz, l2, q2⟩ => ⟨I2.kIn, ?_⟩
  rw [hks]
  exact run_fnJ (us := []) (vs := []) (js := js) F G hr (fun kV doc pm an cdv ct => hb kV doc pm an cdv ct ws (rz.length.symm.trans l2.2)) I2 .nil rz q2
/-- f(e, .., k = v, ..), n positional ones -/
theorem pe_fnK (js : List Nat) (n : Nat) (O : Ok X.prog X.w X.K X.mg X.base k x st ps sp) (hr : Room k X.A)
    (hb : ∀ (kV doc pm : Value) (an : Option Addr) (cdv ct : Value) (us ws : List Value), us.length = n → ws.length = ks.length → bindArgs (PySem.W.fnOf x x (defArgs st) (defBody st) (defScope st) .none kV doc pm an cdv ct) ⟨us, ks.zip ws⟩ = pure (ps.zip (pk js (us ++ ws))))
    (ha : PA X (e :: es) t) (hkw : PK X kws tk) (hg : Gl X x := by rfl) (hall : (backToKw pos (keywordEach kws X.env)).all (·.1.isSome) = true := by rfl) (hks : (backToKw pos (keywordEach kws X.env)).filterMap (·.1) = ks := by rfl)
    (hdb : (x == ("__debug__" : Str)) = false := by decide) (he : starEach (e :: es) X.env = (false, eval e X.env) :: starEach es X.env := by rfl)
    (hpl : ((backTo pos (starEach (e :: es) X.env)).any (·.1) || (backToKw pos (keywordEach kws X.env)).any (·.1.isNone)) = false := by rfl) :
    PE X (.Call (.Name x p) (e :: es) kws pos) (fun σ H Q => t σ H fun vs H1 => tk σ H1 fun zs H2 => (vs.length = n ∧ zs.length = ks.length) ∧ sp (pk js (vs ++ zs)) H2 Q E0) := by
  obtain ⟨f, fd, F, g, b, G⟩ := O.ex
  refine ⟨fun pins s σ H Q I h => ?_⟩
  refine wpAny_Call_Name_kw (ld_glob I hg g ?_ hdb)
  refine PySem.W.callWith_KW (h₀ := X.base) I.ok.mod.kin F.kp hall (thn (ha.run pos pins s σ H _ I h) fun us s1 ⟨vs, H1, I1, r, q⟩ => ?_) hpl he
  refine thn (hkw.run pos pins s1 σ H1 _ I1 q) fun ws s2 ⟨zs, H2, I2, rz, ⟨l1, l2⟩, q2⟩ => ⟨I2.kIn, ?_⟩
  rw [hks]
  exact run_fnJ (js := js) F G hr (fun kV doc pm an cdv ct => hb kV doc pm an cdv ct us ws (r.length.symm.trans l1) (rz.length.symm.trans l2)) I2 r rz q2
end
theorem tyes {σ : L2.St} {H : Hp} {Q : Bool → Hp → Prop} (h : Q true H) : tYes σ H Q := h
/-! ### xs[a:b:c] -/
def pickV (xs : List V) (lo hi st : Option Int) : List V := pk (sliceRange (sliceBounds lo hi st xs.length).1 (sliceBounds lo hi st xs.length).2.1 (sliceBounds lo hi st xs.length).2.2) xs
theorem pick_vals {xs : List V} {us : List Value} (r : Vals xs us) (lo hi st : Option Int) : Vals (pickV xs lo hi st) (slicePick us.toArray lo hi st).toList := by
  have e := vals_pk r (sliceRange (sliceBounds lo hi st xs.length).1 (sliceBounds lo hi st xs.length).2.1 (sliceBounds lo hi st xs.length).2.2)
  have e2 : (slicePick us.toArray lo hi st).toList = pk (sliceRange (sliceBounds lo hi st xs.length).1 (sliceBounds lo hi st xs.length).2.1 (sliceBounds lo hi st xs.length).2.2) us := by
    unfold slicePick pk
    rw [List.size_toArray, ← r.length]
    simp
  rw [e2]
  exact e
section
variable {X : Cx}
def tStep (K : PySem.W.Frag) (te : TE) (tl th ts : TO) : TE := fun σ H Q => te σ H fun x H1 => tl σ H1 fun l H2 => th σ H2 fun u H3 => ts σ H3 fun o H4 => ∃ a xs, x = .ref a ∧ SqL K H4 a xs ∧ o ≠ some 0 ∧ (pickV xs l u o).length ≤ sizeLine ∧ ∀ p, H4 p = none → Q (.ref p) (upd H4 p (.lst (pickV xs l u o)))
theorem pe_step {e st : Expr} {lo hi : Option Expr} {te : TE} {tl th ts : TO} {p3 pos : Pos} (he : PE X e te) (hlo : PO X lo tl) (hhi : PO X hi th) (hst : PO X (some st) ts) : PE X (.Subscript e (.Slice lo hi (some st) p3) pos) (tStep X.K te tl th ts) := by
  refine ⟨fun pins s σ H Q I h => ?_⟩
  refine Subscript_ (thn (he.run pins s σ H _ I h) fun v s1 ⟨x, H1, I1, r1, q1⟩ => ?_)
  refine wpAny_Slice (thn (hlo.run pins s1 σ H1 _ I1 q1) fun vl s2 ⟨l, H2, I2, pl, q2⟩ => ?_)
  refine thn (hhi.run pins s2 σ H2 _ I2 q2) fun vu s3 ⟨u, H3, I3, pu, q3⟩ => ?_
  refine thn (hst.run pins s3 σ H3 _ I3 q3) fun vs s4 ⟨o, H4, I4, ps, q4⟩ => ?_
  obtain ⟨a, xs, ex, hx, h0, hz2, q⟩ := q4
  subst ex
  cases r1
  have I5 : Inv X pins σ H4 { s4 with heap := s4.heap.push { cls := .type "slice", data := .fields #[vl, vu, vs] } } := I4.kept (t' := s4.toks) fun b ob q => Heap.get?_push_of_some _ q
  obtain ⟨its, r, ht, hz⟩ := I5.list hx
  have hlen := r.length
  show wpAny (model X.prog X.w) X.A (subscriptTail e (.Slice lo hi (some st) p3) (.ref a) (.ref s4.heap.objs.size)) (EP X pins σ Q) X.xe { s4 with heap := s4.heap.push { cls := .type "slice", data := .fields #[vl, vu, vs] } }
  refine tail_any (ops := [.ref a, .ref s4.heap.objs.size]) ht.isList.typeIs (PySem.slot_list_getitem.lookup) ?_ (by with_unfolding_all rfl)
  refine wpAny_getItem_list_slice ht.isList (Heap.IsSliceOf.new _ vl vu vs) pl pu ps h0 ?_ (by rw [List.size_toArray]; omega)
  refine ⟨.ref _, _, I5.laid (t' := s4.toks) (o := .lst (pickV xs l u o)) (fun b ob q => Heap.get?_push_of_some _ q) (Nat.le_refl _) ?_, rfl, q _ (I5.hok.fresh (Nat.le_refl _))⟩
  exact ⟨hz2, (slicePick its.toArray l u o).toList, 0, pick_vals r l u o, Heap.get?_push_size _ rfl⟩
end
/-! ### set(t) of a tuple of ints, as a thing that stands -/
def rSetT (K : PySem.W.Frag) (w : World) : List V → Hp → VK → Prop := fun xs H Q => ∃ (q : Addr) (ns : List Int), xs = [.ref q] ∧ SqT K H q (ns.map V.int) ∧ ns.length ≤ 1000 ∧ ∀ (a : Addr) (c : Nat), H a = none → c ≤ ns.length → Q (.ref a) (upd H a (SetO w a (fun j => decide (j ∈ ns)) c))
theorem cr_setT {X : Cx} (hc : X.calm = true) : CallR X (.type "set") (rSetT X.K X.w) := by
  intro pins s σ H xs us Q I r h
  obtain ⟨q, ns, rfl, hq, hl, k⟩ := h
  rw [Vals.ref1 r]
  obtain ⟨its, rv, pt, hz⟩ := I.tuple hq
  have hi : IntsAre its.toArray.toList ns := ints_of_vals rv
  refine call_set_tupI ns (I.ok.hd hc) (show s.heap.IsTuple q its.toArray from pt) hi (by unfold scanBound; omega) fun h' tk c R1 hcn kk => ?_
  exact ⟨.ref _, upd H s.heap.objs.size (SetO X.w s.heap.objs.size _ c), I.laid (t' := tk) kk (Nat.le_refl _) (setO_new R1), rfl, k _ _ (I.hok.fresh (Nat.le_refl _)) hcn⟩
theorem cr_setTw {X : Cx} (w : World) (hc : X.calm = true) (hw : X.w = w := by rfl) : CallR X (.type "set") (rSetT X.K w) := hw ▸ cr_setT hc
theorem cr_sortedSetw {X : Cx} (w : World) (hc : X.calm = true) (hw : X.w = w := by rfl) : CallR X (.builtin "sorted") (rSortedSet w) := hw ▸ cr_sortedSet hc
/-- names of Python's own that the top leaves alone -/
structure Bt (mg : Str → Option Value) : Prop where
  len_ : mg "len" = none
  range_ : mg "range" = none
  abs_ : mg "abs" = none
  int_ : mg "int" = none
  min_ : mg "min" = none
  max_ : mg "max" = none
  list_ : mg "list" = none
  tuple_ : mg "tuple" = none
  all_ : mg "all" = none
  any_ : mg "any" = none
  sorted_ : mg "sorted" = none
  sum_ : mg "sum" = none
  repr_ : mg "repr" = none
  zip_ : mg "zip" = none
  enumerate_ : mg "enumerate" = none
  isinstance_ : mg "isinstance" = none
  reversed_ : mg "reversed" = none
  str_ : mg "str" = none
  bool_ : mg "bool" = none
  set_ : mg "set" = none
end Sh

/-! calls where no text of a list is under way: then repr(..) is known -/
namespace Sh
open PySem PySem.Spec PyProof.Rows L2
/-- a def's promise, kept where no repr is under way -/
structure FnG (P : Program) (w : World) (K : PySem.W.Frag) (mg : Str → Option Value) (bs : Heap) (k : Nat) (f : Addr) (fd : FuncData) (ps : List Str) (sp : Sp) : Prop where
  many : ∀ vs H Q E, sp vs H Q E → vs.length = ps.length
  go : ∀ (B : Around) (fr : List Env) (s : Shared) (H : Hp) (gs : Args) (us : List Value) (vs : List V) (Q : VK) (E : XK), Room k B → B.guards = some [] → Env0 P w K mg bs B fr s H → BindsTo s fd gs (ps.zip us) → Vals vs us → sp vs H Q E → codeAny (model P w) B (.call (.ref f) gs) (CR CX0 fr P w H s Q E) s
structure OkG (P : Program) (w : World) (K : PySem.W.Frag) (mg : Str → Option Value) (bs : Heap) (k : Nat) (x : Str) (st : Stmt) (ps : List Str) (sp : Sp) : Prop where
  ex : ∃ (f : Addr) (fd : FuncData), Fun K x x st f fd ∧ mg x = some (.ref f) ∧ Binds K fd ps [] ∧ FnG P w K mg bs k f fd ps sp
section
variable {P : Program} {w : World} {K : PySem.W.Frag} {mg : Str → Option Value} {bs : Heap}
theorem FnG.mono {j k : Nat} {f : Addr} {fd : FuncData} {ps : List Str} {sp : Sp} (G : FnG P w K mg bs j f fd ps sp) (h : j ≤ k) : FnG P w K mg bs k f fd ps sp := ⟨G.many, fun B fr s H gs us vs Q E hr => G.go B fr s H gs us vs Q E (hr.mono h)⟩
theorem OkG.mono {x : Str} {st : Stmt} {ps : List Str} {j k : Nat} {sp : Sp} (O : OkG P w K mg bs j x st ps sp) (h : j ≤ k) : OkG P w K mg bs k x st ps sp := by
  obtain ⟨f, fd, F, g, b, G⟩ := O.ex
  exact ⟨f, fd, F, g, b, G.mono h⟩
theorem Df.okG {x : Str} {st : Stmt} {N ps : List Str} {k : Nat} {sp : Sp} (D : Df K mg x st) (S : FnScope N ps (defScope st))
    (hb : ∀ (kV dc pm : Value) (an : Option Addr) (cdv ct : Value) (us : List Value), us.length = ps.length → bindArgs (PySem.W.fnOf x x (defArgs st) (defBody st) (defScope st) .none kV dc pm an cdv ct) ⟨us, []⟩ = pure (ps.zip us))
    (many : ∀ vs H Q E, sp vs H Q E → vs.length = ps.length)
    (bd : ∀ (f : Addr) (cdv : Value) (B : Around) (fr : List Env) (s : Shared) (H : Hp) (vs : List V) (Q : VK) (E : XK), Room k (B.deeper (envOfC x (defScope st) s.heap.objs.size f cdv)) → (B.deeper (envOfC x (defScope st) s.heap.objs.size f cdv)).guards = some [] → sp vs H Q E →
      ∃ t, PSs (cxOf CX0 P w K mg bs N x (defScope st) f cdv B fr s H E).nox (defBody st) t ∧ t { nx := fun _ J => Q .non J, rt := Q } (start N vs) H) : OkG P w K mg bs (k + 1) x st ps sp := by
  obtain ⟨f, fd, F, g⟩ := D.ex
  have F0 := F
  obtain ⟨oc, od, kV, dc, pm, an, cdv, ct, osl, rfl, lk, hcd⟩ := F.ex
  refine ⟨f, _, F0, g, F0.binds hb, many, fun B fr s H gs us vs Q E rm gd e0 bnd r wish => ?_⟩
  have nm := many _ _ _ _ wish
  have kin : K.In s.heap := e0.mod.kin.keeps fun a o e => (e0.bs a o e).1
  have nol : s.heap.NoLimit := e0.mod.nolimit.keeps fun a o e => (e0.bs a o e).1
  have kinds : ∀ y ∈ ps.zip us, (defScope st).names.lookup y.1 = some .local ∨ ((defScope st).names.lookup y.1 = some .cell ∧ ((cellsFrom (s.heap.objs.size + 1) (defScope st).names []).lookup y.1).isSome = true) := by
    rintro ⟨n, v⟩ hy
    cases S.par n (List.of_mem_zip hy).1 with
    | inl q => exact .inl q
    | inr q => exact .inr ⟨q, PySem.W.cellsFrom_some _ _ _ (.inl q)⟩
  refine codeAny_call_function rm.depth (kin _ _ lk) rfl S.co S.gen rfl (PySem.W.codeRec_of kin hcd) (bnd _ _ _ _ ?_)
  refine wpAny_newFunctionEnv_cells S.kind kinds fun env ee s1 z => ?_
  subst ee
  refine ⟨nol.keeps z.toInCall.keep, codeAny_func ?_⟩
  obtain ⟨t, ht, hq⟩ := bd f cdv B fr s H vs Q E (rm.deeper _) gd wish
  have ht' := ht.nox
  have I : Inv (cxOf CX0 P w K mg bs N x (defScope st) f cdv B fr s H E) [] (start N vs) H s1 := inv_start S rm.hd e0 nm r z
  refine wpAny_mono (ht'.run [] s1 (start N vs) H _ I hq) (fun fl s2 hs => ?_) fun e s2 hs => hs
  cases fl with
  | ret u =>
    obtain ⟨v, σ2, H2, J, rv, q⟩ := hs
    exact ⟨v, H2, J.os, J.bare, J.base, J.hok, rv, q⟩
  | next =>
    obtain ⟨σ2, H2, J, q⟩ := hs
    exact ⟨V.non, H2, J.os, J.bare, J.base, J.hok, rfl, q⟩
  | brk =>
    obtain ⟨_, _, _, q⟩ := hs
    exact q.elim
  | cont =>
    obtain ⟨_, _, _, q⟩ := hs
    exact q.elim
end
section
variable {X : Cx} {k : Nat} {x : Str} {st : Stmt} {ps : List Str} {sp : Sp} {e : Expr} {es : List Expr} {t : TA} {p pos : Pos}
/-- f(e, ..) -/
theorem pe_fnG (O : OkG X.prog X.w X.K X.mg X.base k x st ps sp) (hr : Room k X.A) (gd : X.A.guards = some []) (ha : PA X (e :: es) t) (hg : Gl X x := by rfl)
    (hdb : (x == ("__debug__" : Str)) = false := by decide) (he : starEach (e :: es) X.env = (false, eval e X.env) :: starEach es X.env := by rfl) (hpl : (backTo pos (starEach es X.env)).any (·.1) = false := by rfl) :
    PE X (.Call (.Name x p) (e :: es) [] pos) (tCall sp [] E0 t) := by
  obtain ⟨f, fd, F, g, b, G⟩ := O.ex
  refine ⟨fun pins s σ H Q I h => ?_⟩
  refine wpAny_Call_Name_kw (ld_glob I hg g ?_ hdb)
  refine PySem.W.callWith_K (h₀ := X.base) I.ok.mod.kin F.kp (thn (ha.run pos pins s σ H _ I h) fun us s1 ⟨vs, H1, I1, r, q⟩ => ⟨I1.kIn, ?_⟩) he hpl
  have q' : sp vs H1 Q E0 := by
    have z : sp (vs ++ []) H1 Q E0 := q
    rw [List.append_nil] at z
    exact z
  have nm : us.length = ps.length := by
    rw [← r.length]
    exact G.many _ _ _ _ q'
  have bd : BindsTo s1 fd ⟨us, []⟩ (ps.zip us) := by
    have z := b s1 us I1.kIn (by rw [List.append_nil]; exact nm)
    rw [List.append_nil] at z
    exact z
  refine wpAny_call (codeAny_mono (G.go X.A X.stack s1 H1 ⟨us, []⟩ us vs Q E0 hr gd I1.env0 bd r q') fun y s2 hq => ?_)
  cases y with
  | error e => exact pass0 pins σ H1 s1 e s2 I1 hq
  | ok fl =>
    cases fl with
    | ret u => exact I1.after hq
    | next => exact hq.elim
    | brk => exact hq.elim
    | cont => exact hq.elim
theorem reprU {A : Around} (r : Room k A) : A.units + 66 < cLine := by
  have := r.un
  omega
/-- repr(x) of a list or a tuple of data -/
def rRepr (K : PySem.W.Frag) : List V → Hp → VK → Prop := fun xs H Q => ∃ (a : Addr) (d : PyData), xs = [.ref a] ∧ Dp K H (.ref a) d ∧ SeqAt.shaped d = true ∧ d.showable = true ∧ d.shown.length ≤ sizeLine ∧ Q (.str d.shown) H
theorem cr_repr (gd : X.A.guards = some []) (hu : X.A.units + 66 < cLine) : CallR X (.builtin "repr") (rRepr X.K) := by
  intro pins s σ H xs us Q I r h
  obtain ⟨a, d, rfl, hd, sd, sh, sz, q⟩ := h
  rw [Vals.ref1 r]
  obtain ⟨as, r1⟩ := Dp.reads I d (.ref a) (.ref a) hd rfl
  have lay := SeqAt.canLay_of_shaped sd
  have dp : d.depth ≤ 64 := by
    have z := sd
    unfold SeqAt.shaped at z
    rw [Bool.and_eq_true] at z
    exact of_decide_eq_true z.2
  exact repr_of_reads' r1 sh (PyData.noDict_hsm (PyData.hasDict_of_canLay _ lay)) gd (by omega) (fun _ _ e => e) (fun h' u tk hk => ⟨.str d.shown, H, I.kept hk, ⟨u, rfl⟩, q⟩) sz
end
/-! ### the law's call, where nothing is under way -/
section
theorem script_call {P : Program} {w : World} {K : PySem.W.Frag} {mg mb : Str → Option Value} {k : Nat} {fa a : Addr} {fd : FuncData} {x : Str} {sp : Sp} {s1 : Shared} {vs : List Value} {ns : List Int}
    (kin : K.In s1.heap) (hns : s1.heap.Ns mainGlobals mg) (hbn : s1.heap.Ns builtinsNs mb) (hbb : ∀ y : Str, y ≠ "__name__" → mb y = bootBuiltins y) (nol : s1.heap.NoLimit) (hgn : s1.gens = #[])
    (hla : s1.heap.get? a = some { cls := .type "list", data := .seq vs.toArray }) (hit : IntsAre vs ns) (hsz : ns.length ≤ sizeLine) (rm : Room k callerA)
    (F : ∀ bs : Heap, K.In bs → bs.Ns mainGlobals mg → FnG P w K mg bs k fa fd [x] sp) (bnd : ∀ (s : Shared) (u : Value), BindsTo s fd ⟨[u], []⟩ [(x, u)])
    (wish : ∀ H : Hp, Only H → SqL K H a (ns.map V.int) → sp [.ref a] H (fun v _ => v = .bl true) fun _ _ _ => False) :
    codeAny (model P w) callerA (.call (.ref fa) ⟨[.ref a], []⟩) (fun y s2 => y = .ok (.ret (.bool true)) ∧ OldK s1.heap s2.heap ∧ s2.os = s1.os ∧ AllBare s2.gens) s1 := by
  have rv := vals_ints hit
  have many := hit.length
  have step : ∀ H : Hp, Only H → SqL K H a (ns.map V.int) → HOk P w H s1.heap → (∀ b, H b ≠ none → b = a) → (H a ≠ none → K.lookup a = none) →
      codeAny (model P w) callerA (.call (.ref fa) ⟨[.ref a], []⟩) (fun y s2 => y = .ok (.ret (.bool true)) ∧ OldK s1.heap s2.heap ∧ s2.os = s1.os ∧ AllBare s2.gens) s1 := by
    intro H only sq hok sole apart
    have hid : ∀ {b : Addr} {o : Obj}, s1.heap.get? b = some o → H b = none → (hidT s1.heap H).get? b = some o := fun e n => hidT_get e n
    have isa : ∀ {b : Addr} {u : HO}, H b = some u → b = a := fun {b u} q => sole b (by rw [q]; exact fun z => nomatch z)
    have bare : ∀ {b : Addr} {o : Obj} {es : Array DictEntry} {ep : Nat}, s1.heap.get? b = some o → o.data = .dict es ep → H b = none := by
      intro b o es ep e d
      cases q : H b with
      | none => rfl
      | some u =>
        obtain rfl := isa q
        rw [hla] at e
        cases e
        cases (show Data.seq vs.toArray _ = Data.dict es ep from d)
    have spaces : ∀ {b : Addr} {m : Str → Option Value}, s1.heap.Ns b m → (hidT s1.heap H).Ns b m := by
      rintro b m ⟨o, es, ep, e, d, r⟩
      exact ⟨o, es, ep, hid e (bare e d), d, r⟩
    have kin0 : K.In (hidT s1.heap H) := by
      intro b o e
      refine hid (kin b o e) ?_
      cases q : H b with
      | none => rfl
      | some u =>
        obtain rfl := isa q
        rw [apart (by rw [q]; exact fun z => nomatch z)] at e
        cases e
    have md : Mod K mg (hidT s1.heap H) := by
      obtain ⟨mc, n1, n2⟩ := nol
      exact ⟨kin0, spaces hns, ⟨mb, spaces hbn, hbb⟩, ⟨mc, spaces n1, n2⟩⟩
    have at0 : Env0 P w K mg (hidT s1.heap H) callerA [] s1 H := by
      refine ⟨rfl, md, fun b o e => of_hidT e, Nat.le_of_eq (hidT_size _ _), trivial, fun b hb => ?_, hok, .of_eq hgn⟩
      exact absurd (show b ∈ ([] : List Addr) from hb) List.not_mem_nil
    refine codeAny_mono ((F _ kin0 (spaces hns)).go callerA [] s1 H ⟨[.ref a], []⟩ [.ref a] [.ref a] _ _ rm rfl at0 (bnd s1 (.ref a)) (.cons rfl .nil) (wish H only sq)) fun y s2 h => ?_
    cases y with
    | error e => exact False.elim (show False from h)
    | ok fl =>
      cases fl with
      | next => exact h.elim
      | brk => exact h.elim
      | cont => exact h.elim
      | ret u =>
        obtain ⟨v, H2, os, br, un, hok2, r2, q⟩ := h
        obtain rfl : v = .bl true := q
        obtain rfl : u = Value.bool true := r2
        refine ⟨rfl, OldK.of_keep fun b o e => ?_, os, br⟩
        cases q : H b with
        | none => exact un.keep b o e q (fun z => absurd (show b ∈ ([] : List Addr) from z) List.not_mem_nil) (by simp)
        | some u =>
          cases only b with
          | inl z =>
            rw [q] at z
            cases z
          | inr z =>
            obtain ⟨ob, xs, z⟩ := z
            have z2 := un.frzs b ob _ z
            obtain ⟨e1, _⟩ := hok b _ z
            obtain ⟨e2, _⟩ := hok2 b _ z2
            rw [e] at e1
            cases e1
            exact e2
  cases hk : K.lookup a with
  | some o =>
    have e := kin a o hk
    rw [hla] at e
    cases e
    refine step (fun _ => none) (fun _ => .inl rfl) (.inr ⟨_, vs.toArray, _, hk, rfl, rfl, rfl, by rw [List.size_toArray, many]; exact hsz, by simpa using rv⟩) ?_ (fun b z => absurd rfl z) fun z => absurd rfl z
    intro b u z
    cases (show (none : Option HO) = some u from z)
  | none =>
    refine step (fun b => if b = a then some (.frz { cls := .type "list", data := .seq vs.toArray } (.lst (ns.map V.int))) else none) ?_ (.inl (.inr ⟨{ cls := .type "list", data := .seq vs.toArray }, if_pos rfl⟩)) ?_ ?_ fun _ => hk
    · intro b
      by_cases c : b = a
      · exact .inr ⟨_, _, if_pos c⟩
      · exact .inl (if_neg c)
    · intro b u z
      by_cases c : b = a
      · cases (if_pos c).symm.trans z
        subst c
        exact ⟨hla, by rw [List.length_map]; exact hsz, vs, _, rv, hla⟩
      · cases (if_neg c).symm.trans z
    · intro b z
      by_cases c : b = a
      · exact c
      · exact absurd (if_neg c) z
theorem walk_ofG {l : PySem.W.OpenLaw} {n k : Nat} {q : Program} {loose : List Str} {XP : (Str → Option Value) → Heap → Prop} {YP : World → Heap → Prop} {d : DefRec} {K : Params → PySem.W.Frag} {sp : World → Sp} {x : Str}
    (hn : l.most = some n) (hz : n ≤ sizeLine) (hdf : d.params.defaults = []) (rm : Room k callerA) (hY : ∀ (w : World) (h : Heap), YP w h → (K w.params).In h)
    (F : ∀ (w : World) (mg : Str → Option Value) (fa : Addr) (h : Heap), (K w.params).In h → h.Ns mainGlobals mg → mg d.name = some (.ref fa) → ∃ fd : FuncData, (∀ (s : Shared) (u : Value), BindsTo s fd ⟨[u], []⟩ [(x, u)]) ∧ ∀ bs : Heap, (K w.params).In bs → bs.Ns mainGlobals mg → FnG l.prog w (K w.params) mg bs k fa fd [x] (sp w))
    (wish : ∀ (w : World) (H : Hp) (a : Addr) (ns : List Int), ns.length ≤ n → Only H → SqL (K w.params) H a (ns.map V.int) → sp w [.ref a] H (fun v _ => v = .bl true) fun _ _ _ => False) :
    PySem.W.WalkO q loose XP YP l.row.toRowW d [] (fun f vs => PySem.call f vs) := by
  refine Att.attach_call hn hdf fun w s0 s1 mg mb fa o pm cd dc a vs ns G Y ho hd hcd hmg hobj hints hlen hg => ?_
  obtain ⟨fd, bnd, hF⟩ := F w mg fa _ (hY w _ Y) G.T.g hmg
  exact script_call (hY w _ Y) G.T.g G.T.b G.T.builtins G.T.nolimit hg hobj hints (Nat.le_trans hlen hz) rm hF bnd fun H hO hS => wish w H a ns hlen hO hS
end
end Sh

/-! truths as numbers: x + i, i - x, str(x) where x is an int or a truth -/
namespace Sh
open PySem PySem.Spec PyProof.Rows L2
def numV : V → Option Int
  | .int i => some i
  | .bl k => some (if k = true then 1 else 0)
  | _ => none
def strV : V → Option Str
  | .int i => if i.natAbs.log2 < 1920 then some (toString i) else none
  | .bl k => some (if k then "True" else "False")
  | _ => none
theorem add_bi_gives (b : Bool) (a : Int) (t : Tok) : Gives (Builtin.«int.__add__» ⟨[.bool b, .int a t], []⟩) (.int ((if b = true then (1 : Int) else 0) + a)) :=
  .of_wp fun M A E s Q h => by obtain ⟨hp, g, d, tk, os⟩ := s; wp_walk; exact ⟨_, rfl, h⟩
section
variable {prog : Program} {w : World} {A : Around} {E : Value → Shared → Prop} {s : Shared} {a : Int} {t : Tok} {b : Bool}
theorem same_sub : reflectedDiffers (.type "int") (.type "bool") "sub" = pure false := by
  unfold reflectedDiffers
  show (typeLookup (.type "bool") (dunderR "sub") >>= fun rb => typeLookup (.type "int") (dunderR "sub") >>= fun ra => pure (rb.isSome && rb != ra)) = pure false
  rw [typeLookup_type, typeLookup_type, builtinLookup_eq_fast]; kernel_rfl
theorem sub_int_bool {Q : Value → Shared → Prop} (h : Q (.int (a - if b = true then (1 : Int) else 0) s.toks) { s with toks := s.toks + 1 }) : wpAny (model prog w) A (binaryOp .Sub (.int a t) (.bool b)) Q E s :=
  binaryOp_sub_gives (op := .Sub) (T := "int") (U := "bool") (by decide) (typeIs_int s a t) rfl F.fills_int_sub F.fills_bool_sub isSubtype_bool_int same_sub F.slot_int_sub F.entry_int_sub (F.args_int_sub_2 _ _)
    (AutoIntG7.int___sub___int_bool_0 a t b) trivial h
theorem add_bool_int {Q : Value → Shared → Prop} (h : Q (.int ((if b = true then (1 : Int) else 0) + a) s.toks) { s with toks := s.toks + 1 }) : wpAny (model prog w) A (binaryOp .Add (.bool b) (.int a t)) Q E s :=
  binaryOp_left_gives (op := .Add) (T := "bool") (U := "int") (by decide) rfl (fun s' => typeIs_int s' a t) F.fills_bool_add F.fills_int_add isSubtype_int_bool F.slot_bool_add F.slot_int_radd F.entry_int_add (F.args_int_add_2 _ _)
    (add_bi_gives b a t) trivial h
end
section
variable {X : Cx}
theorem op_addX : OpR X (binaryOp .Add) (fun x y H Q => ∃ i j, numV x = some i ∧ y = .int j ∧ Q (.int (i + j)) H) := by
  intro pins s σ H x y v u Q I rx ry h
  obtain ⟨i, j, hx, rfl, q⟩ := h
  cases x with
  | int a =>
    cases hx
    exact op_add pins s σ H _ _ v u Q I rx ry ⟨i, j, rfl, rfl, q⟩
  | bl k =>
    cases hx
    cases rx
    obtain ⟨t, rfl⟩ := ry
    exact add_bool_int ⟨.int _, H, I.tok _, ⟨_, rfl⟩, q⟩
  | _ => cases hx
theorem op_subX : OpR X (binaryOp .Sub) (fun x y H Q => ∃ i j, x = .int i ∧ numV y = some j ∧ Q (.int (i - j)) H) := by
  intro pins s σ H x y v u Q I rx ry h
  obtain ⟨i, j, rfl, hy, q⟩ := h
  cases y with
  | int a =>
    cases hy
    exact op_sub pins s σ H _ _ v u Q I rx ry ⟨i, j, rfl, rfl, q⟩
  | bl k =>
    cases hy
    cases ry
    obtain ⟨t, rfl⟩ := rx
    exact sub_int_bool ⟨.int _, H, I.tok _, ⟨_, rfl⟩, q⟩
  | _ => cases hy
theorem call_strX : CallR X (.type "str") (fun xs H Q => ∃ x z, xs = [x] ∧ strV x = some z ∧ Q (.str z) H) := by
  intro pins s σ H xs us Q I r h
  obtain ⟨x, z, rfl, hx, q⟩ := h
  cases x with
  | int i =>
    by_cases c : i.natAbs.log2 < 1920
    · have e : strV (.int i) = some (toString i) := if_pos c
      rw [e] at hx
      cases hx
      exact call_str_int pins s σ H _ us Q I r ⟨i, rfl, c, q⟩
    · have e : strV (.int i) = none := if_neg c
      rw [e] at hx
      cases hx
  | bl k =>
    cases hx
    obtain ⟨u, rfl, r1⟩ := vals1 r
    cases r1
    exact PySem.P.str_of_bool ⟨.str _, H, I.tok _, ⟨_, rfl⟩, q⟩
  | _ => cases hx
end
end Sh

/-! repr(x) of any data -/
namespace Sh
open PySem PySem.Spec PyProof.Rows L2
section
variable {X : Cx}
def rReprD (K : PySem.W.Frag) : List V → Hp → VK → Prop := fun xs H Q => ∃ (v : V) (d : PyData), xs = [v] ∧ Dp K H v d ∧ SeqAt.shaped d = true ∧ d.showable = true ∧ d.shown.length ≤ sizeLine ∧ Q (.str d.shown) H
theorem cr_reprD (gd : X.A.guards = some []) (hu : X.A.units + 66 < cLine) : CallR X (.builtin "repr") (rReprD X.K) := by
  intro pins s σ H xs us Q I r h
  obtain ⟨v, d, rfl, hd, sd, sh, sz, q⟩ := h
  cases hd with
  | non =>
    obtain ⟨u, rfl, r1⟩ := vals1 r
    cases r1
    exact PySem.P.repr_of_none ⟨.str _, H, I.tok _, ⟨_, rfl⟩, q⟩
  | bl b =>
    obtain ⟨u, rfl, r1⟩ := vals1 r
    cases r1
    exact PySem.P.repr_of_bool ⟨.str _, H, I.tok _, ⟨_, rfl⟩, q⟩
  | int i =>
    obtain ⟨u, rfl, t, rfl⟩ := vals1 r
    exact PySem.P.repr_of_int (of_decide_eq_true sh) ⟨.str _, H, I.tok _, ⟨_, rfl⟩, q⟩
  | str x =>
    obtain ⟨u, rfl, t, rfl⟩ := vals1 r
    exact PySem.P.repr_of_str ⟨.str _, H, I.tok _, ⟨_, rfl⟩, q⟩ sz
  | lst h a => exact cr_repr gd hu pins s σ H _ us Q I r ⟨_, _, rfl, .lst h a, sd, sh, sz, q⟩
  | tup h a => exact cr_repr gd hu pins s σ H _ us Q I r ⟨_, _, rfl, .tup h a, sd, sh, sz, q⟩
end
end Sh

namespace Sh
open PySem PySem.Spec PyProof.Rows L2
/-! ### the text by places -/
def topS (i : Nat) : Stmt := PySem.Challenge.pw_shoalmates_k01_seas_and_standings.main.body.getD i (.Pass ⟨0, 0, 0, 0⟩)
end Sh

namespace Sh
open PySem PySem.Spec PyProof.Rows L2
/-! ### what is drawn from -/
def BoxOk (xs : List V) (n : Nat) : Prop := ∃ b0 b1 b2 : Int, xs = [.int b0, .int b1, .int b2] ∧ 0 ≤ b0 ∧ 0 ≤ b1 ∧ b1 < 4611686018427387904 ∧ 0 ≤ b2 ∧ b2 + (n : Int) ≤ 1099511627776
def BoxAt (H : Hp) (b : Addr) (n : Nat) : Prop := ∃ xs, H b = some (.lst xs) ∧ BoxOk xs n
theorem BoxOk.mono {xs : List V} {n m : Nat} (h : BoxOk xs n) (l : m ≤ n) : BoxOk xs m := by
  obtain ⟨b0, b1, b2, e, h0, h1, h2, h3, h4⟩ := h
  exact ⟨b0, b1, b2, e, h0, h1, h2, h3, by omega⟩
theorem BoxAt.mono {H : Hp} {b : Addr} {n m : Nat} (h : BoxAt H b n) (l : m ≤ n) : BoxAt H b m := let ⟨xs, e, k⟩ := h; ⟨xs, e, k.mono l⟩
theorem BoxAt.same {H H' : Hp} {b : Addr} {n : Nat} (h : BoxAt H b n) (s : Same H H') : BoxAt H' b n := let ⟨xs, e, k⟩ := h; ⟨xs, s _ _ e, k⟩
theorem BoxAt.some {H : Hp} {b : Addr} {n : Nat} (h : BoxAt H b n) : H b ≠ none := fun z => by
  obtain ⟨xs, e, _⟩ := h
  rw [e] at z
  cases z
/-- a new place is not the box -/
theorem BoxAt.ne {H : Hp} {b p : Addr} {n : Nat} (h : BoxAt H b n) (z : H p = none) : b ≠ p := let ⟨_, e, _⟩ := h; ne_of_none e z
def spTake : Sp := fun vs H Q _ => ∃ (b : Addr) (n : Nat) (span : Int), vs = [.ref b, .int span] ∧ 0 < span ∧ span < 1152921504606846976 ∧ BoxAt H b (n + 1) ∧ ∀ (v : Int) (xs : List V), 0 ≤ v → v < span → BoxOk xs n → Q (.int v) (upd H b (.lst xs))
abbrev s__law_take : Stmt := topS 11
theorem sc__law_take : FnScope (["_law_box_here", "_law_span", "_law_found", "_law_once", "_law_twice"] : List Str) (["_law_box_here", "_law_span"] : List Str) (defScope s__law_take) := ⟨rfl, rfl, rfl, by decide +kernel, rfl, by decide +kernel, by decide +kernel⟩
theorem b__law_take (kV doc pm : Value) (an : Option Addr) (cdv ct : Value) (us : List Value) (hl : us.length = (["_law_box_here", "_law_span"] : List Str).length) : bindArgs (PySem.W.fnOf "_law_take" "_law_take" (defArgs s__law_take) (defBody s__law_take) (defScope s__law_take) .none kV doc pm an cdv ct) ⟨us, []⟩ = pure ((["_law_box_here", "_law_span"] : List Str).zip us) :=
  match us, hl with | [_, _], _ => rfl
section
variable {P : Program} {w : World} {K : PySem.W.Frag} {mg : Str → Option Value} {base : Heap}
theorem ok_take {k : Nat} (D : Df K mg "_law_take" s__law_take) (T : Bt mg) : Ok P w K mg base (k + 1) "_law_take" s__law_take ["_law_box_here", "_law_span"] spTake := by
  refine D.ok sc__law_take b__law_take (fun vs H Q E h => ?_) (fun f cdv A outer s H vs Q E hr h => ?_)
  · obtain ⟨b, n, span, rfl, _⟩ := h
    rfl
  · obtain ⟨b, n, span, rfl, s0, s1, ⟨xs, hb, b0, b1, b2, rfl, h0, h1, h1', h2, h3⟩, q⟩ := h
    refine ⟨_, (pss_cons (ps_if (pt_cmpR op_gt (pe_ix ix_lt (pv 0) pe_int (fun _ _ => rfl)) pe_int (nomark _))
        (pss_cons (ps_set (i := 2) sc__law_take.nd rfl (.inl rfl) (pe_op op_mod (pe_ix ix_lt (pv 0) pe_int (fun _ _ => rfl)) (pv 1)))
          (pss_cons (ps_asg (pe_op op_fdivW (pe_ix ix_lt (pv 0) pe_int (fun _ _ => rfl)) (pv 1)) (pg_sub (pv 0) pe_int set_list))
          (pss_one (ps_ret (pv 2)))))
        pss_nil)
      (pss_cons (ps_asg (pe_op op_add (pe_ix ix_lt (pv 0) pe_int (fun _ _ => rfl)) pe_int) (pg_sub (pv 0) pe_int set_list))
      (pss_cons (ps_set (i := 3) sc__law_take.nd rfl (.inl rfl) (pe_op op_mod (pe_op op_mul (pe_op op_add (pe_ix ix_lt (pv 0) pe_int (fun _ _ => rfl)) (pe_op op_mul pe_int (pe_ix ix_lt (pv 0) pe_int (fun _ _ => rfl)))) (pe_op op_add pe_int (pe_ix ix_lt (pv 0) pe_int (fun _ _ => rfl)))) pe_int))
      (pss_cons (ps_set (i := 4) sc__law_take.nd rfl (.inl rfl) (pe_op op_mod (pe_op op_mul (pe_op op_add (pe_op op_add (pv 3) (pe_ix ix_lt (pv 0) pe_int (fun _ _ => rfl))) (pe_op op_fdiv (pe_ix ix_lt (pv 0) pe_int (fun _ _ => rfl)) pe_int)) (pe_op op_add (pe_op op_mod (pv 3) pe_int) pe_int)) pe_int))
      (pss_one (ps_ret (pe_op op_mod (pe_op op_fdiv (pe_op op_mod (pe_op op_add (pe_op op_mul (pv 4) pe_int) (pv 3)) pe_int) pe_int) (pv 1)))))))), ?_⟩
    have hq : SqA K H b [.int b0, .int b1, .int b2] := SqA.l hb
    refine ⟨_, rfl, b, _, 0, .int b0, rfl, rfl, hq, rfl, b0, 0, rfl, rfl, _, rfl, ite2 (fun c => ?_) (fun c => ?_)⟩
    · have c0 : 0 < b0 := of_decide_eq_true c
      refine ⟨_, rfl, b, _, 0, .int b0, rfl, rfl, hq, rfl, _, rfl, b0, span, rfl, rfl, s0, ?_⟩
      refine ⟨_, rfl, b, _, 0, .int b0, rfl, rfl, hq, rfl, _, rfl, b0, span, rfl, rfl, wide_div (b := 60) s0 (show span.natAbs < 1152921504606846976 by omega) (by decide) (by decide), ?_⟩
      refine ⟨_, rfl, b, _, 0, 0, rfl, rfl, hb, rfl, ?_⟩
      refine ⟨_, rfl, ?_⟩
      exact q _ _ (Int.emod_nonneg _ (by omega)) (Int.emod_lt_of_pos _ s0) ⟨b0 / span, b1, b2, rfl, Int.ediv_nonneg h0 (by omega), h1, h1', h2, by omega⟩
    · refine ⟨_, rfl, b, _, 2, .int b2, rfl, rfl, hq, rfl, b2, 1, rfl, rfl, ?_⟩
      refine ⟨_, rfl, b, _, 2, 2, rfl, rfl, hb, rfl, ?_⟩
      have hq2 : SqA K (upd H b (.lst [.int b0, .int b1, .int (b2 + 1)])) b [.int b0, .int b1, .int (b2 + 1)] := SqA.l upd_same
      have m1 : 0 ≤ (b1 + 48271 * (b2 + 1)) * (39373 + (b2 + 1)) % 2147483647 := Int.emod_nonneg _ (by decide)
      have m2 : (b1 + 48271 * (b2 + 1)) * (39373 + (b2 + 1)) % 2147483647 < 2147483647 := Int.emod_lt_of_pos _ (by decide)
      refine ⟨_, rfl, b, _, 1, .int b1, rfl, rfl, hq2, rfl, _, rfl, b, _, 2, .int (b2 + 1), rfl, rfl, hq2, rfl, 48271, b2 + 1, rfl, rfl, .inl ⟨by decide, by decide⟩, b1, _, rfl, rfl, ?_⟩
      refine ⟨_, rfl, b, _, 2, .int (b2 + 1), rfl, rfl, hq2, rfl, 39373, b2 + 1, rfl, rfl, _, _, rfl, rfl, .inr ⟨by omega, by omega⟩, _, 2147483647, rfl, rfl, (show (0 : Int) < 2147483647 by decide), ?_⟩
      dsimp only
      generalize (b1 + 48271 * (b2 + 1)) * (39373 + (b2 + 1)) % 2147483647 = once at m1 m2
      have o1 : 0 ≤ once % 40009 := Int.emod_nonneg _ (by decide)
      have o2 : once % 40009 < 40009 := Int.emod_lt_of_pos _ (by decide)
      refine ⟨_, rfl, _, rfl, b, _, 2, .int (b2 + 1), rfl, rfl, hq2, rfl, once, b2 + 1, rfl, rfl, _, rfl, b, _, 1, .int b1, rfl, rfl, hq2, rfl, b1, 1000003, rfl, rfl, ⟨by decide, by decide⟩, _, _, rfl, rfl, ?_⟩
      refine ⟨_, rfl, once, 40009, rfl, rfl, (show (0 : Int) < 40009 by decide), _, 7, rfl, rfl, _, _, rfl, rfl, .inr ⟨by omega, by omega⟩, _, 2147483629, rfl, rfl, (show (0 : Int) < 2147483629 by decide), ?_⟩
      dsimp only
      have t1 : 0 ≤ (once + (b2 + 1) + b1 / 1000003) * (once % 40009 + 7) % 2147483629 := Int.emod_nonneg _ (by decide)
      have t2 : (once + (b2 + 1) + b1 / 1000003) * (once % 40009 + 7) % 2147483629 < 2147483629 := Int.emod_lt_of_pos _ (by decide)
      generalize (once + (b2 + 1) + b1 / 1000003) * (once % 40009 + 7) % 2147483629 = twice at t1 t2
      refine ⟨_, rfl, twice, 48271, rfl, rfl, .inl ⟨by omega, by omega⟩, _, rfl, _, once, rfl, rfl, _, 2147483587, rfl, rfl, (show (0 : Int) < 2147483587 by decide), _, 64, rfl, rfl, ⟨by decide, by decide⟩, _, rfl, _, span, rfl, rfl, s0, ?_⟩
      exact q _ _ (Int.emod_nonneg _ (by omega)) (Int.emod_lt_of_pos _ s0) ⟨b0, b1, b2 + 1, rfl, h0, h1, h1', by omega, by omega⟩
end
end Sh

namespace Sh
open PySem PySem.Spec PyProof.Rows L2
theorem SqA.at {K : PySem.W.Frag} {H : Hp} {b l : Addr} {o : HO} {xs : List V} (n : l ≠ b) (h : SqA K H l xs) : SqA K (upd H b o) l xs := by
  rcases h with ((h | ⟨z, h⟩) | h) | ((h | ⟨z, h⟩) | h)
  · exact .inl (.inl (.inl (by rw [upd_ne n]; exact h)))
  · exact .inl (.inl (.inr ⟨z, by rw [upd_ne n]; exact h⟩))
  · exact .inl (.inr h)
  · exact .inr (.inl (.inl (by rw [upd_ne n]; exact h)))
  · exact .inr (.inl (.inr ⟨z, by rw [upd_ne n]; exact h⟩))
  · exact .inr (.inr h)
theorem at_nat {xs : List V} {i : Int} {j : Nat} {v : V} (e : i = (j : Int)) (h : xs[j]? = some v) : atI xs i = some v := L2.at_of e h
theorem b01 (c : Bool) : (0 : Int) ≤ if c = true then 1 else 0 := by cases c <;> decide
theorem b01' (c : Bool) : (-(2 ^ 64) : Int) < (if c = true then 1 else 0) ∧ (if c = true then 1 else 0) < (2 ^ 64 : Int) := by cases c <;> decide
/-- a cell of the script: some int -/
def spCellAt (K : PySem.W.Frag) : Sp := fun vs H Q _ => ∃ (l : Addr) (ns : List Int) (j : Nat), vs = [.ref l, .int (j : Int)] ∧ SqL K H l (ns.map V.int) ∧ ∀ z : Int, Q (.int z) H
abbrev s__law_cell_at : Stmt := topS 9
theorem sc__law_cell_at : FnScope (["_law_script", "_law_k"] : List Str) (["_law_script", "_law_k"] : List Str) (defScope s__law_cell_at) := ⟨rfl, rfl, rfl, by decide +kernel, rfl, by decide +kernel, by decide +kernel⟩
theorem b__law_cell_at (kV doc pm : Value) (an : Option Addr) (cdv ct : Value) (us : List Value) (hl : us.length = (["_law_script", "_law_k"] : List Str).length) : bindArgs (PySem.W.fnOf "_law_cell_at" "_law_cell_at" (defArgs s__law_cell_at) (defBody s__law_cell_at) (defScope s__law_cell_at) .none kV doc pm an cdv ct) ⟨us, []⟩ = pure ((["_law_script", "_law_k"] : List Str).zip us) :=
  match us, hl with | [_, _], _ => rfl
def spBox (K : PySem.W.Frag) : Sp := fun vs H Q _ => ∃ (l : Addr) (ns : List Int) (j : Nat), vs = [.ref l, .int (j : Int)] ∧ j ≤ 100 ∧ SqL K H l (ns.map V.int) ∧ ∀ (p : Addr) (xs : List V), H p = none → BoxOk xs 549755813888 → Q (.ref p) (upd H p (.lst xs))
abbrev s__law_box : Stmt := topS 10
theorem sc__law_box : FnScope (["_law_script", "_law_k", "_law_core"] : List Str) (["_law_script", "_law_k"] : List Str) (defScope s__law_box) := ⟨rfl, rfl, rfl, by decide +kernel, rfl, by decide +kernel, by decide +kernel⟩
theorem b__law_box (kV doc pm : Value) (an : Option Addr) (cdv ct : Value) (us : List Value) (hl : us.length = (["_law_script", "_law_k"] : List Str).length) : bindArgs (PySem.W.fnOf "_law_box" "_law_box" (defArgs s__law_box) (defBody s__law_box) (defScope s__law_box) .none kV doc pm an cdv ct) ⟨us, []⟩ = pure ((["_law_script", "_law_k"] : List Str).zip us) :=
  match us, hl with | [_, _], _ => rfl
section
variable {P : Program} {w : World} {K : PySem.W.Frag} {mg : Str → Option Value} {base : Heap}
theorem ok_cell_at {k : Nat} (D : Df K mg "_law_cell_at" s__law_cell_at) (T : Bt mg) : Ok P w K mg base (k + 1) "_law_cell_at" s__law_cell_at ["_law_script", "_law_k"] (spCellAt K) := by
  refine D.ok sc__law_cell_at b__law_cell_at (fun vs H Q E h => ?_) (fun f cdv A outer s H vs Q E hr h => ?_)
  · obtain ⟨l, ns, j, rfl, _⟩ := h
    rfl
  · obtain ⟨l, ns, j, rfl, hs, q⟩ := h
    refine ⟨_, (pss_cons (ps_if (pt_cmpR op_lt (pv 1) (pe_callB call_len_seq (by rfl) T.len_ PySem.boot_len (pa_cons (pv 0) pa_nil)) (nomark _))
        (pss_one (ps_ret (pe_ix ix_lt (pv 0) (pv 1) (fun _ _ => rfl))))
        pss_nil)
      (pss_one (ps_ret pe_int))), ?_⟩
    refine ⟨_, rfl, _, rfl, l, _, rfl, .inl hs, _, _, rfl, rfl, _, rfl, ite2 (fun c => ?_) (fun c => ?_)⟩
    · have c0 : (j : Int) < ((ns.map V.int).length : Int) := of_decide_eq_true c
      rw [List.length_map] at c0
      have c1 : j < ns.length := by omega
      refine ⟨_, rfl, _, rfl, l, _, _, .int ns[j], rfl, rfl, .inl hs, at_nat rfl (by simp [c1]), q _⟩
    · exact q 0
theorem ok_box {k : Nat} (D : Df K mg "_law_box" s__law_box) (T : Bt mg) (O__law_cell_at : Ok P w K mg base k "_law_cell_at" s__law_cell_at ["_law_script", "_law_k"] (spCellAt K)) : Ok P w K mg base (k + 1) "_law_box" s__law_box ["_law_script", "_law_k"] (spBox K) := by
  refine D.ok sc__law_box b__law_box (fun vs H Q E h => ?_) (fun f cdv A outer s H vs Q E hr h => ?_)
  · obtain ⟨l, ns, j, rfl, _⟩ := h
    rfl
  · obtain ⟨l, ns, j, rfl, hj, hs, q⟩ := h
    refine ⟨_, (pss_cons (ps_set (i := 2) sc__law_box.nd rfl (.inl rfl) (pe_fn O__law_cell_at (hr.mono (by omega)) (pa_cons (pv 0) (pa_cons (pv 1) pa_nil))))
      (pss_one (ps_ret (pe_lst (pa_cons (pe_op op_mul (pe_callB call_abs (by rfl) T.abs_ (by decide +kernel) (pa_cons (pv 2) pa_nil)) (pe_callTy call_int1 (by rfl) T.int_ (by decide +kernel) (pa_cons (pe_cmpR op_ge (pe_callB call_abs (by rfl) T.abs_ (by decide +kernel) (pa_cons (pv 2) pa_nil)) (pe_op (op_powC 1000000000000000000) pe_int pe_int) (nomark _)) pa_nil))) (pa_cons (pe_op op_add (pe_op op_add (pe_op op_mod (pv 2) pe_int) (pe_op op_mul pe_int (pv 1))) pe_int) (pa_cons pe_int pa_nil))))))), ?_⟩
    refine ⟨_, rfl, _, rfl, l, ns, j, rfl, hs, fun z => ?_⟩
    have z1 : 0 ≤ z % 2305843009213693951 := Int.emod_nonneg _ (by decide)
    have z2 : z % 2305843009213693951 < 2305843009213693951 := Int.emod_lt_of_pos _ (by decide)
    have za : 0 ≤ (if z < 0 then -z else z) := by split <;> omega
    refine ⟨_, rfl, z, rfl, _, rfl, z, rfl, 10, 18, rfl, rfl, ⟨⟨by decide, by decide, by decide⟩, by decide⟩, _, _, rfl, rfl, .inr ⟨_, rfl, ?_⟩⟩
    refine ⟨_, _, rfl, rfl, .inr (b01' _), ?_⟩
    refine ⟨_, rfl, z, _, rfl, rfl, (show (0 : Int) < 2305843009213693951 by decide), _, rfl, 39373, (j : Int), rfl, rfl, .inl ⟨by decide, by decide⟩, _, _, rfl, rfl, _, 17, rfl, rfl, ?_⟩
    refine ⟨(by show 3 ≤ sizeLine; decide), fun p np => ?_⟩
    refine q p _ np ⟨_, _, 0, rfl, ?_, by omega, by omega, by omega, by omega⟩
    exact Int.mul_nonneg za (b01 _)
end
/-! ### one of some -/
def spOf (K : PySem.W.Frag) : Sp := fun vs H Q _ => ∃ (b l : Addr) (n : Nat) (xs : List V), vs = [.ref b, .ref l] ∧ SqA K H l xs ∧ l ≠ b ∧ 0 < xs.length ∧ xs.length < 1000000 ∧ BoxAt H b (n + 1) ∧ ∀ (v : V) (ys : List V), v ∈ xs → BoxOk ys n → Q v (upd H b (.lst ys))
abbrev s__law_of : Stmt := topS 12
theorem sc__law_of : FnScope (["_law_box_here", "_law_some"] : List Str) (["_law_box_here", "_law_some"] : List Str) (defScope s__law_of) := ⟨rfl, rfl, rfl, by decide +kernel, rfl, by decide +kernel, by decide +kernel⟩
theorem b__law_of (kV doc pm : Value) (an : Option Addr) (cdv ct : Value) (us : List Value) (hl : us.length = (["_law_box_here", "_law_some"] : List Str).length) : bindArgs (PySem.W.fnOf "_law_of" "_law_of" (defArgs s__law_of) (defBody s__law_of) (defScope s__law_of) .none kV doc pm an cdv ct) ⟨us, []⟩ = pure ((["_law_box_here", "_law_some"] : List Str).zip us) :=
  match us, hl with | [_, _], _ => rfl
section
variable {P : Program} {w : World} {K : PySem.W.Frag} {mg : Str → Option Value} {base : Heap}
theorem ok_of {k : Nat} (D : Df K mg "_law_of" s__law_of) (T : Bt mg) (O__law_take : Ok P w K mg base k "_law_take" s__law_take ["_law_box_here", "_law_span"] spTake) : Ok P w K mg base (k + 1) "_law_of" s__law_of ["_law_box_here", "_law_some"] (spOf K) := by
  refine D.ok sc__law_of b__law_of (fun vs H Q E h => ?_) (fun f cdv A outer s H vs Q E hr h => ?_)
  · obtain ⟨b, l, n, xs, rfl, _⟩ := h
    rfl
  · obtain ⟨b, l, n, xs, rfl, hl, hne, l0, l1, hb, q⟩ := h
    refine ⟨_, (pss_one (ps_ret (pe_ix ix_lt (pv 1) (pe_fn O__law_take (hr.mono (by omega)) (pa_cons (pv 0) (pa_cons (pe_callB call_len_seq (by rfl) T.len_ PySem.boot_len (pa_cons (pv 1) pa_nil)) pa_nil))) (fun _ _ => rfl)))), ?_⟩
    refine ⟨_, rfl, _, rfl, _, rfl, l, xs, rfl, hl, b, n, _, rfl, by omega, by omega, hb, fun v ys v0 v1 hy => ?_⟩
    have hi : v.toNat < xs.length := by omega
    refine ⟨l, xs, v, xs[v.toNat], rfl, rfl, SqA.at hne hl, at_nat (j := v.toNat) (by omega) (by simp [hi]), ?_⟩
    exact q _ _ (List.getElem_mem hi) hy
end
end Sh

namespace Sh
open PySem PySem.Spec PyProof.Rows L2
/-! ### what is told is what is due -/
def tyS : PyData → String
  | .none => "NoneType" | .bool _ => "bool" | .int _ => "int" | .str _ => "str" | .list _ => "list" | .tuple _ => "tuple" | .dict _ => "dict"
/-- at most so deep, no longer than a hundred thousand -/
def Lv : Nat → PyData → Prop
  | 0, _ => False
  | _ + 1, .none => True
  | _ + 1, .bool _ => True
  | _ + 1, .int _ => True
  | _ + 1, .str _ => True
  | n + 1, .list ds => ds.length ≤ 100000 ∧ ∀ e ∈ ds, Lv n e
  | n + 1, .tuple ds => ds.length ≤ 100000 ∧ ∀ e ∈ ds, Lv n e
  | _ + 1, .dict _ => False
theorem lv_ints {n : Nat} (ns : List Int) (h : ns.length ≤ 100000) : Lv (n + 2) (.list (ns.map .int)) := ⟨by rw [List.length_map]; exact h, fun e he => by
  obtain ⟨i, _, rfl⟩ := List.mem_map.mp he
  exact trivial⟩
theorem lv_intsT {n : Nat} (ns : List Int) (h : ns.length ≤ 100000) : Lv (n + 2) (.tuple (ns.map .int)) := ⟨by rw [List.length_map]; exact h, fun e he => by
  obtain ⟨i, _, rfl⟩ := List.mem_map.mp he
  exact trivial⟩
section
variable {K : PySem.W.Frag} {H : Hp}
theorem ty_list {a : Addr} {xs : List V} (h : SqL K H a xs) : TyX K H (.ref a) (.type "list") := by
  rcases h with (h | ⟨o, h⟩) | ⟨o, its, n, h, c, _⟩
  · exact .base (.lst h)
  · exact .base (.frz h)
  · exact .kList h c
theorem ty_tup {a : Addr} {xs : List V} (h : SqT K H a xs) : TyX K H (.ref a) (.type "tuple") := by
  rcases h with (h | ⟨o, h⟩) | ⟨o, its, n, h, c, _⟩
  · exact .base (.tup h)
  · exact .fTuple h
  · exact .kTuple h c
theorem ty_of {v : V} {d : PyData} (h : Dp K H v d) : TyX K H v (.type (tyS d)) := by
  cases h with
  | non => exact .base .non
  | bl b => exact .base (.bl b)
  | int i => exact .base (.int i)
  | str x => exact .base (.str x)
  | lst h _ => exact ty_list h
  | tup h _ => exact ty_tup h
theorem kit2 {t a b : String} {r1 r2 r : Bool} (h1 : kitB t a = some r1) (h2 : kitB t b = some r2) (hr : (r1 || r2) = r) : PySem.W.kitAny K (.type t) [.type a, .type b] = some r := by
  refine kitAny_cons (b := r1) (kit_ty h1) (fun e => ?_) (fun e => ?_)
  · refine kitAny_cons (b := r2) (kit_ty h2) (fun e2 => ?_) (fun e2 => ?_)
    · rw [← hr, e, e2]
      exact kitAny_nil
    · rw [← hr, e, e2]
      all_goals rfl
  · rw [← hr, e]
    all_goals rfl
end
def spSame (K : PySem.W.Frag) (n : Nat) : Sp := fun vs H Q _ => ∃ (x y : V) (d : PyData), vs = [x, y] ∧ Dp K H x d ∧ Dp K H y d ∧ Lv n d ∧ ∀ H', Same H H' → Q (.bl true) H'
abbrev s__law_same : Stmt := topS 13
theorem sc__law_same : FnScope (["_law_found", "_law_due", "_law_a", "_law_b"] : List Str) (["_law_found", "_law_due"] : List Str) (defScope s__law_same) := ⟨rfl, rfl, rfl, by decide +kernel, rfl, by decide +kernel, by decide +kernel⟩
theorem b__law_same (kV doc pm : Value) (an : Option Addr) (cdv ct : Value) (us : List Value) (hl : us.length = (["_law_found", "_law_due"] : List Str).length) : bindArgs (PySem.W.fnOf "_law_same" "_law_same" (defArgs s__law_same) (defBody s__law_same) (defScope s__law_same) .none kV doc pm an cdv ct) ⟨us, []⟩ = pure ((["_law_found", "_law_due"] : List Str).zip us) :=
  match us, hl with | [_, _], _ => rfl
section
variable {P : Program} {w : World} {K : PySem.W.Frag} {mg : Str → Option Value} {base : Heap}
theorem same0 (D : Df K mg "_law_same" s__law_same) : Ok P w K mg base 0 "_law_same" s__law_same ["_law_found", "_law_due"] (spSame K 0) := by
  obtain ⟨f, fd, F, g⟩ := D.ex
  refine ⟨f, fd, F, g, F.binds b__law_same, ⟨fun vs H Q E h => ?_, fun A outer s H args us vs Q E hr he hb hv h => ?_⟩⟩
  · obtain ⟨x, y, d, _, _, _, lv, _⟩ := h
    cases d <;> exact lv.elim
  · obtain ⟨x, y, d, _, _, _, lv, _⟩ := h
    cases d <;> exact lv.elim
set_option maxHeartbeats 4000000 in
theorem same1 {m : Nat} (D : Df K mg "_law_same" s__law_same) (T : Bt mg) (O__law_same : Ok P w K mg base m "_law_same" s__law_same ["_law_found", "_law_due"] (spSame K m)) : Ok P w K mg base (m + 1) "_law_same" s__law_same ["_law_found", "_law_due"] (spSame K (m + 1)) := by
  refine D.ok sc__law_same b__law_same (fun vs H Q E h => ?_) (fun f cdv A outer s H vs Q E hr h => ?_)
  · obtain ⟨x, y, d, rfl, _⟩ := h
    rfl
  · obtain ⟨x, y, d, rfl, hx, hy, lv, q⟩ := h
    refine ⟨_, (pss_cons (ps_if (pt_val (pe_callB call_isiT (by rfl) T.isinstance_ (by decide +kernel) (pa_cons (pv 1) (pa_cons (pe_tup (pa_cons (pe_bltn (v := .ty "list") (by rfl) T.list_ (by decide +kernel) rfl) (pa_cons (pe_bltn (v := .ty "tuple") (by rfl) T.tuple_ (by decide +kernel) rfl) pa_nil))) pa_nil))))
        (pss_cons (ps_if (PW.pt (pw_or (pt_cmpR op_ne (pe_callB call_isi (by rfl) T.isinstance_ (by decide +kernel) (pa_cons (pv 0) (pa_cons (pe_bltn (v := .ty "list") (by rfl) T.list_ (by decide +kernel) rfl) pa_nil))) (pe_callB call_isi (by rfl) T.isinstance_ (by decide +kernel) (pa_cons (pv 1) (pa_cons (pe_bltn (v := .ty "list") (by rfl) T.list_ (by decide +kernel) rfl) pa_nil))) (nomark _)) (pw_or1 (pt_cmpR op_ne (pe_callB call_isi (by rfl) T.isinstance_ (by decide +kernel) (pa_cons (pv 0) (pa_cons (pe_bltn (v := .ty "tuple") (by rfl) T.tuple_ (by decide +kernel) rfl) pa_nil))) (pe_callB call_isi (by rfl) T.isinstance_ (by decide +kernel) (pa_cons (pv 1) (pa_cons (pe_bltn (v := .ty "tuple") (by rfl) T.tuple_ (by decide +kernel) rfl) pa_nil))) (nomark _)))))
            (pss_one (ps_ret pe_bl))
            pss_nil)
          (pss_one (ps_ret (pe_and (pe_cmpR op_eq (pe_callB call_len_seq (by rfl) T.len_ PySem.boot_len (pa_cons (pv 0) pa_nil)) (pe_callB call_len_seq (by rfl) T.len_ PySem.boot_len (pa_cons (pv 1) pa_nil)) (nomark _)) (pe_one (pe_callB (cr_all rfl) (by rfl) T.all_ (by decide +kernel) (pa_cons (pe_lc (own := [("_law_a", 2), ("_law_b", 3)]) (g := (gSeq K 2 (gCons (gName 2) (gCons (gName 3) gNil)))) (tt := tYes) (by rfl) sc__law_same.nd (RZ.pi_zipA (by rfl) T.zip_ (pa_cons (pv 0) (pa_cons (pv 1) pa_nil))) (blkOk_by (own := [("_law_a", 2), ("_law_b", 3)]) (N := (["_law_found", "_law_due", "_law_a", "_law_b"] : List Str)) (sc := defScope s__law_same) (by decide +kernel)) (fun _ _ _ _ _ => (pg_seq rfl (pgs_cons (pg_name (i := 2) sc__law_same.nd rfl (.inl rfl)) (pgs_cons (pg_name (i := 3) sc__law_same.nd rfl (.inl rfl)) pgs_nil)))) (fun _ _ _ _ _ => pts_nil) (fun _ _ _ _ _ => (pe_fn O__law_same (hr.mono (by omega)) (pa_cons (pv 2) (pa_cons (pv 3) pa_nil))))) pa_nil)))))))
        pss_nil)
      (pss_cons (ps_if (PW.pt (pw_or (pt_cmpR op_isN (pv 1) pe_non (nomark _)) (pw_or1 (pt_val (pe_callB call_isiT (by rfl) T.isinstance_ (by decide +kernel) (pa_cons (pv 1) (pa_cons (pe_tup (pa_cons (pe_bltn (v := .ty "bool") (by rfl) T.bool_ (by decide +kernel) rfl) (pa_cons (pe_bltn (v := .ty "str") (by rfl) T.str_ (by decide +kernel) rfl) pa_nil))) pa_nil)))))))
        (pss_one (ps_ret (pe_and (pe_cmpR op_eq (pv 0) (pv 1) (nomark _)) (pe_and (pe_cmpR op_eq (pe_callB call_isi (by rfl) T.isinstance_ (by decide +kernel) (pa_cons (pv 0) (pa_cons (pe_bltn (v := .ty "bool") (by rfl) T.bool_ (by decide +kernel) rfl) pa_nil))) (pe_callB call_isi (by rfl) T.isinstance_ (by decide +kernel) (pa_cons (pv 1) (pa_cons (pe_bltn (v := .ty "bool") (by rfl) T.bool_ (by decide +kernel) rfl) pa_nil))) (nomark _)) (pe_one (pe_cmpR op_eq (pe_cmpR op_isN (pv 0) pe_non (nomark _)) (pe_cmpR op_isN (pv 1) pe_non (nomark _)) (nomark _)))))))
        pss_nil)
      (pss_one (ps_ret (pe_and (pe_callB call_isi (by rfl) T.isinstance_ (by decide +kernel) (pa_cons (pv 0) (pa_cons (pe_bltn (v := .ty "int") (by rfl) T.int_ (by decide +kernel) rfl) pa_nil))) (pe_and (pe_not (pe_callB call_isi (by rfl) T.isinstance_ (by decide +kernel) (pa_cons (pv 0) (pa_cons (pe_bltn (v := .ty "bool") (by rfl) T.bool_ (by decide +kernel) rfl) pa_nil)))) (pe_one (pe_cmpR op_eq (pv 0) (pv 1) (nomark _))))))))), ?_⟩
    refine ⟨_, rfl, (by show 2 ≤ sizeLine; decide), fun tp ntp => ?_⟩
    have s1 : Same H (upd H tp (.tup [.ty "list", .ty "tuple"])) := same_new ntp
    generalize eH1 : upd H tp (.tup [.ty "list", .ty "tuple"]) = H1 at s1
    have htp : H1 tp = some (.tup [.ty "list", .ty "tuple"]) := by rw [← eH1, upd_same]
    clear eH1 ntp
    cases d with
    | dict kvs => exact lv.elim
    | list ds =>
      obtain ⟨a, xs, hsx, hax⟩ : ∃ a xs, SqL K H1 a xs ∧ DpAll K H1 xs ds ∧ x = .ref a := by cases hx with | lst h a => exact ⟨_, _, s1.seq h, DpAll.same s1 a, rfl⟩
      obtain ⟨b, ys, hsy, hay⟩ : ∃ a xs, SqL K H1 a xs ∧ DpAll K H1 xs ds ∧ y = .ref a := by cases hy with | lst h a => exact ⟨_, _, s1.seq h, DpAll.same s1 a, rfl⟩
      obtain ⟨hax, rfl⟩ := hax
      obtain ⟨hay, rfl⟩ := hay
      have lx : xs.length = ds.length := DpAll.len hax
      have ly : ys.length = ds.length := DpAll.len hay
      refine ⟨.ref b, tp, [.ty "list", .ty "tuple"], .type "list", [.type "list", .type "tuple"], true, rfl, htp, .cons (.ty _) (.cons (.ty _) .nil), ty_list hsy, kit2 (r1 := true) (r2 := false) (by decide +kernel) (by decide +kernel) rfl, _, rfl, iteT ?_⟩
      refine ⟨_, rfl, .ref a, .ty "list", .type "list", .type "list", true, rfl, .ty _, ty_list hsx, kit_ty (by decide +kernel), _, rfl, .ref b, .ty "list", .type "list", .type "list", true, rfl, .ty _, ty_list hsy, kit_ty (by decide +kernel), rfl, _, rfl, iteNS rfl ?_⟩
      refine ⟨_, rfl, .ref a, .ty "tuple", .type "list", .type "tuple", false, rfl, .ty _, ty_list hsx, kit_ty (by decide +kernel), _, rfl, .ref b, .ty "tuple", .type "list", .type "tuple", false, rfl, .ty _, ty_list hsy, kit_ty (by decide +kernel), rfl, _, rfl, iteNS rfl ?_⟩
      refine ⟨_, rfl, a, xs, rfl, .inl hsx, _, rfl, b, ys, rfl, .inl hsy, rfl, _, rfl, ?_⟩
      rw [if_pos (decide_eq_true (by rw [lx, ly]))]
      refine ⟨_, rfl, _, rfl, a, b, xs, ys, rfl, .inl ⟨hsx, hsy, fun C nC => ?_⟩⟩
      refine lc_it (walk_zip (n := ds.length) (by rw [lx, ly]; exact (Nat.min_self _).symm)) (fun i H' => Same H1 H' ∧ H' C = some (.lst ((List.replicate i true).map V.bl))) ⟨same_new nC, upd_same⟩ (fun i H' _ p => ⟨p.1.seq hsx, p.1.seq hsy⟩) ?_ ?_
      · rintro i z H2 H3 hi ⟨sm, hC⟩ ⟨t, u, v, rfl, nt, rfl, gu, gv⟩
        have sm2 : Same H1 (upd H2 t (.tup [u, v])) := sm.trans (same_new nt)
        obtain ⟨e, ge, he⟩ := DpAll.get (DpAll.same sm2 hax) gu
        obtain ⟨e', ge', he'⟩ := DpAll.get (DpAll.same sm2 hay) gv
        obtain rfl : e = e' := Option.some.inj (ge.symm.trans ge')
        refine ⟨t, [u, v], rfl, SqA.t upd_same, rfl, u, [v], rfl, v, [], rfl, rfl, rfl, tyes (iteT ?_)⟩
        refine ⟨_, rfl, _, rfl, u, v, e, rfl, he, he', lv.2 e (List.mem_of_getElem? ge), fun H4 s4 => ?_⟩
        refine ⟨_, s4 _ _ (by rw [upd_ne (ne_of_none hC nt)]; exact hC), ?_, fun p o ho => ?_, ?_⟩
        · have h1 := lv.1
          rw [List.length_map, List.length_replicate]
          exact Nat.lt_of_lt_of_le hi (Nat.le_trans h1 (by decide))
        · have np : p ≠ C := ne_of_none ho nC
          rw [upd_ne np]
          exact s4 _ _ (sm2 _ _ ho)
        · rw [upd_same, List.replicate_succ', List.map_append]
          rfl
      · rintro H2 ⟨sm, hC⟩
        refine ⟨C, _, rfl, SqL.of hC, ?_⟩
        have e : (List.replicate ds.length true).all id = true := by simp
        rw [e]
        exact q _ (s1.trans sm)
    | tuple ds =>
      obtain ⟨a, xs, hsx, hax⟩ : ∃ a xs, SqT K H1 a xs ∧ DpAll K H1 xs ds ∧ x = .ref a := by cases hx with | tup h a => exact ⟨_, _, Same.tup s1 h, DpAll.same s1 a, rfl⟩
      obtain ⟨b, ys, hsy, hay⟩ : ∃ a xs, SqT K H1 a xs ∧ DpAll K H1 xs ds ∧ y = .ref a := by cases hy with | tup h a => exact ⟨_, _, Same.tup s1 h, DpAll.same s1 a, rfl⟩
      obtain ⟨hax, rfl⟩ := hax
      obtain ⟨hay, rfl⟩ := hay
      have lx : xs.length = ds.length := DpAll.len hax
      have ly : ys.length = ds.length := DpAll.len hay
      refine ⟨.ref b, tp, [.ty "list", .ty "tuple"], .type "tuple", [.type "list", .type "tuple"], true, rfl, htp, .cons (.ty _) (.cons (.ty _) .nil), ty_tup hsy, kit2 (r1 := false) (r2 := true) (by decide +kernel) (by decide +kernel) rfl, _, rfl, iteT ?_⟩
      refine ⟨_, rfl, .ref a, .ty "list", .type "tuple", .type "list", false, rfl, .ty _, ty_tup hsx, kit_ty (by decide +kernel), _, rfl, .ref b, .ty "list", .type "tuple", .type "list", false, rfl, .ty _, ty_tup hsy, kit_ty (by decide +kernel), rfl, _, rfl, iteNS rfl ?_⟩
      refine ⟨_, rfl, .ref a, .ty "tuple", .type "tuple", .type "tuple", true, rfl, .ty _, ty_tup hsx, kit_ty (by decide +kernel), _, rfl, .ref b, .ty "tuple", .type "tuple", .type "tuple", true, rfl, .ty _, ty_tup hsy, kit_ty (by decide +kernel), rfl, _, rfl, iteNS rfl ?_⟩
      refine ⟨_, rfl, a, xs, rfl, .inr hsx, _, rfl, b, ys, rfl, .inr hsy, rfl, _, rfl, ?_⟩
      rw [if_pos (decide_eq_true (by rw [lx, ly]))]
      refine ⟨_, rfl, _, rfl, a, b, xs, ys, rfl, .inr ⟨hsx, hsy, fun C nC => ?_⟩⟩
      refine lc_it (walk_zipT (n := ds.length) (by rw [lx, ly]; exact (Nat.min_self _).symm)) (fun i H' => Same H1 H' ∧ H' C = some (.lst ((List.replicate i true).map V.bl))) ⟨same_new nC, upd_same⟩ (fun i H' _ p => ⟨Same.tup p.1 hsx, Same.tup p.1 hsy⟩) ?_ ?_
      · rintro i z H2 H3 hi ⟨sm, hC⟩ ⟨t, u, v, rfl, nt, rfl, gu, gv⟩
        have sm2 : Same H1 (upd H2 t (.tup [u, v])) := sm.trans (same_new nt)
        obtain ⟨e, ge, he⟩ := DpAll.get (DpAll.same sm2 hax) gu
        obtain ⟨e', ge', he'⟩ := DpAll.get (DpAll.same sm2 hay) gv
        obtain rfl : e = e' := Option.some.inj (ge.symm.trans ge')
        refine ⟨t, [u, v], rfl, SqA.t upd_same, rfl, u, [v], rfl, v, [], rfl, rfl, rfl, tyes (iteT ?_)⟩
        refine ⟨_, rfl, _, rfl, u, v, e, rfl, he, he', lv.2 e (List.mem_of_getElem? ge), fun H4 s4 => ?_⟩
        refine ⟨_, s4 _ _ (by rw [upd_ne (ne_of_none hC nt)]; exact hC), ?_, fun p o ho => ?_, ?_⟩
        · have h1 := lv.1
          rw [List.length_map, List.length_replicate]
          exact Nat.lt_of_lt_of_le hi (Nat.le_trans h1 (by decide))
        · have np : p ≠ C := ne_of_none ho nC
          rw [upd_ne np]
          exact s4 _ _ (sm2 _ _ ho)
        · rw [upd_same, List.replicate_succ', List.map_append]
          rfl
      · rintro H2 ⟨sm, hC⟩
        refine ⟨C, _, rfl, SqL.of hC, ?_⟩
        have e : (List.replicate ds.length true).all id = true := by simp
        rw [e]
        exact q _ (s1.trans sm)
    | int i =>
      cases hx; cases hy
      refine ⟨.int i, tp, [.ty "list", .ty "tuple"], .type "int", [.type "list", .type "tuple"], false, rfl, htp, .cons (.ty _) (.cons (.ty _) .nil), .base (.int i), kit2 (r1 := false) (r2 := false) (by decide +kernel) (by decide +kernel) rfl, _, rfl, iteF ?_⟩
      refine ⟨_, rfl, rfl, _, rfl, iteF ?_⟩
      refine ⟨_, rfl, (by show 2 ≤ sizeLine; decide), fun tq ntq => ?_⟩
      refine ⟨.int i, tq, [.ty "bool", .ty "str"], .type "int", [.type "bool", .type "str"], false, rfl, upd_same, .cons (.ty _) (.cons (.ty _) .nil), .base (.int i), kit2 (r1 := false) (r2 := false) (by decide +kernel) (by decide +kernel) rfl, _, rfl, iteF ?_⟩
      refine ⟨_, rfl, .int i, .ty "int", .type "int", .type "int", true, rfl, .ty _, .base (.int i), kit_ty (by decide +kernel), _, rfl, iteT ?_⟩
      refine ⟨_, rfl, .int i, .ty "bool", .type "int", .type "bool", false, rfl, .ty _, .base (.int i), kit_ty (by decide +kernel), _, rfl, _, rfl, iteT ?_⟩
      refine ⟨_, rfl, _, rfl, rfl, ?_⟩
      rw [decide_eq_true rfl]
      exact q _ (s1.trans (same_new ntq))
    | none =>
      cases hx; cases hy
      refine ⟨.non, tp, [.ty "list", .ty "tuple"], .type "NoneType", [.type "list", .type "tuple"], false, rfl, htp, .cons (.ty _) (.cons (.ty _) .nil), .base .non, kit2 (r1 := false) (r2 := false) (by decide +kernel) (by decide +kernel) rfl, _, rfl, iteF ?_⟩
      refine ⟨_, rfl, rfl, _, rfl, iteT (iteT ?_)⟩
      refine ⟨_, rfl, _, rfl, rfl, _, rfl, iteT ?_⟩
      refine ⟨_, rfl, .non, .ty "bool", .type "NoneType", .type "bool", false, rfl, .ty _, .base .non, kit_ty (by decide +kernel), _, rfl, .non, .ty "bool", .type "NoneType", .type "bool", false, rfl, .ty _, .base .non, kit_ty (by decide +kernel), rfl, _, rfl, iteT ?_⟩
      refine ⟨_, rfl, rfl, _, rfl, rfl, rfl, ?_⟩
      exact q _ s1
    | bool c =>
      cases hx; cases hy
      refine ⟨.bl c, tp, [.ty "list", .ty "tuple"], .type "bool", [.type "list", .type "tuple"], false, rfl, htp, .cons (.ty _) (.cons (.ty _) .nil), .base (.bl c), kit2 (r1 := false) (r2 := false) (by decide +kernel) (by decide +kernel) rfl, _, rfl, iteF ?_⟩
      refine ⟨_, rfl, rfl, _, rfl, iteF ?_⟩
      refine ⟨_, rfl, (by show 2 ≤ sizeLine; decide), fun tq ntq => ?_⟩
      refine ⟨.bl c, tq, [.ty "bool", .ty "str"], .type "bool", [.type "bool", .type "str"], true, rfl, upd_same, .cons (.ty _) (.cons (.ty _) .nil), .base (.bl c), kit2 (r1 := true) (r2 := false) (by decide +kernel) (by decide +kernel) rfl, _, rfl, iteT ?_⟩
      refine ⟨_, rfl, _, rfl, rfl, _, rfl, ?_⟩
      rw [if_pos (decide_eq_true rfl)]
      refine ⟨_, rfl, .bl c, .ty "bool", .type "bool", .type "bool", true, rfl, .ty _, .base (.bl c), kit_ty (by decide +kernel), _, rfl, .bl c, .ty "bool", .type "bool", .type "bool", true, rfl, .ty _, .base (.bl c), kit_ty (by decide +kernel), rfl, _, rfl, iteT ?_⟩
      refine ⟨_, rfl, rfl, _, rfl, rfl, rfl, ?_⟩
      exact q _ (s1.trans (same_new ntq))
    | str c =>
      cases hx; cases hy
      refine ⟨.str c, tp, [.ty "list", .ty "tuple"], .type "str", [.type "list", .type "tuple"], false, rfl, htp, .cons (.ty _) (.cons (.ty _) .nil), .base (.str c), kit2 (r1 := false) (r2 := false) (by decide +kernel) (by decide +kernel) rfl, _, rfl, iteF ?_⟩
      refine ⟨_, rfl, rfl, _, rfl, iteF ?_⟩
      refine ⟨_, rfl, (by show 2 ≤ sizeLine; decide), fun tq ntq => ?_⟩
      refine ⟨.str c, tq, [.ty "bool", .ty "str"], .type "str", [.type "bool", .type "str"], true, rfl, upd_same, .cons (.ty _) (.cons (.ty _) .nil), .base (.str c), kit2 (r1 := false) (r2 := true) (by decide +kernel) (by decide +kernel) rfl, _, rfl, iteT ?_⟩
      refine ⟨_, rfl, _, rfl, rfl, _, rfl, ?_⟩
      rw [if_pos (decide_eq_true rfl)]
      refine ⟨_, rfl, .str c, .ty "bool", .type "str", .type "bool", false, rfl, .ty _, .base (.str c), kit_ty (by decide +kernel), _, rfl, .str c, .ty "bool", .type "str", .type "bool", false, rfl, .ty _, .base (.str c), kit_ty (by decide +kernel), rfl, _, rfl, iteT ?_⟩
      refine ⟨_, rfl, rfl, _, rfl, rfl, rfl, ?_⟩
      exact q _ (s1.trans (same_new ntq))
theorem ok_same (D : Df K mg "_law_same" s__law_same) (T : Bt mg) : ∀ m : Nat, Ok P w K mg base m "_law_same" s__law_same ["_law_found", "_law_due"] (spSame K m)
  | 0 => same0 D
  | m + 1 => same1 D T (ok_same D T m)
end
end Sh

namespace Sh
open PySem PySem.Spec PyProof.Rows L2
/-! ### a drawn sea -/
theorem But.put {b p : Addr} {H H' : Hp} {o : HO} (h : But b H H') (n : H p = none) : But b H (upd H' p o) := fun a x na e => by
  rw [upd_ne (ne_of_none e n)]
  exact h a x na e
theorem But.box {b : Addr} {H H' : Hp} {o : HO} (h : But b H H') : But b H (upd H' b o) := fun a x na e => by
  rw [upd_ne na]
  exact h a x na e
theorem BoxAt.put {H : Hp} {b : Addr} {n : Nat} {xs : List V} (h : BoxOk xs n) : BoxAt (upd H b (.lst xs)) b n := ⟨xs, upd_same, h⟩
theorem BoxAt.at {H : Hp} {b p : Addr} {n : Nat} {o : HO} (h : BoxAt H b n) (ne : b ≠ p) : BoxAt (upd H p o) b n := let ⟨xs, e, k⟩ := h; ⟨xs, by rw [upd_ne ne]; exact e, k⟩
structure SeaOk (most : Nat) (h t : Int) (ds : List Int) : Prop where
  h0 : 0 ≤ h
  h1 : h ≤ 1000000000000
  t0 : 0 ≤ t
  t1 : t ≤ 1000000000000
  l0 : 0 < ds.length
  l1 : ds.length ≤ most
  d0 : ∀ d ∈ ds, 0 ≤ d ∧ d ≤ 1000000000000
def spSea : Sp := fun vs H Q _ => ∃ (b : Addr) (n most : Nat), vs = [.ref b, .int (most : Int)] ∧ 0 < most ∧ most ≤ 60 ∧ BoxAt H b (n + 200) ∧
  ∀ (H' : Hp) (p q : Addr) (h t : Int) (ds : List Int), But b H H' → BoxAt H' b n → H p = none → H q = none → H' p = some (.tup [.int h, .int t, .ref q]) → H' q = some (.tup (ds.map V.int)) → SeaOk most h t ds → Q (.ref p) H'
abbrev s__law_sea : Stmt := topS 14
theorem sc__law_sea : FnScope (["_law_box_here", "_law_most", "_law_count", "_law_far", "_law_wide", "_law_depths", "_law_draughts", "_law_side", "_law_whom"] : List Str) (["_law_box_here", "_law_most"] : List Str) (defScope s__law_sea) := ⟨rfl, rfl, rfl, by decide +kernel, rfl, by decide +kernel, by decide +kernel⟩
theorem b__law_sea (kV doc pm : Value) (an : Option Addr) (cdv ct : Value) (us : List Value) (hl : us.length = (["_law_box_here", "_law_most"] : List Str).length) : bindArgs (PySem.W.fnOf "_law_sea" "_law_sea" (defArgs s__law_sea) (defBody s__law_sea) (defScope s__law_sea) .none kV doc pm an cdv ct) ⟨us, []⟩ = pure ((["_law_box_here", "_law_most"] : List Str).zip us) :=
  match us, hl with | [_, _], _ => rfl
section
variable {P : Program} {w : World} {K : PySem.W.Frag} {mg : Str → Option Value} {base : Heap}
/-- a new object, a draw: what stands, stands -/
theorem al {b p : Addr} {H Hc : Hp} {n : Nat} {o : HO} (u : But b H Hc) (x : BoxAt Hc b n) (np : Hc p = none) : But b H (upd Hc p o) ∧ BoxAt (upd Hc p o) b n ∧ upd Hc p o p = some o ∧ p ≠ b :=
  ⟨fun a z na e => by rw [upd_ne (ne_of_none (u a z na e) np)]; exact u a z na e, x.at (x.ne np), upd_same, (x.ne np).symm⟩
theorem tk {b : Addr} {H Hc : Hp} {n : Nat} {ys : List V} (u : But b H Hc) (y : BoxOk ys n) : But b H (upd Hc b (.lst ys)) ∧ BoxAt (upd Hc b (.lst ys)) b n := ⟨u.box, .put y⟩
theorem But.free {b p : Addr} {H H' : Hp} (u : But b H H') (n : p ≠ b) (h : H' p = none) : H p = none := by
  cases e : H p with
  | none => rfl
  | some o =>
    rw [u p o n e] at h
    cases h
theorem two_of {ns : List Int} (h : ns.length = 2) : ∃ a b, ns = [a, b] := by
  match ns, h with
  | [a, b], _ => exact ⟨a, b, rfl⟩
theorem ints_mem {v : V} {ns : List Int} (h : v ∈ ns.map V.int) : ∃ i ∈ ns, v = .int i := by
  obtain ⟨i, hi, e⟩ := List.mem_map.mp h
  exact ⟨i, hi, e.symm⟩
theorem ne_box {H : Hp} {b p : Addr} {n : Nat} (h : BoxAt H b n) (z : H p = none) : p ≠ b := (h.ne z).symm
set_option maxHeartbeats 4000000 in
theorem ok_sea {k : Nat} (D : Df K mg "_law_sea" s__law_sea) (T : Bt mg) (O__law_take : Ok P w K mg base k "_law_take" s__law_take ["_law_box_here", "_law_span"] spTake) (O__law_of : Ok P w K mg base k "_law_of" s__law_of ["_law_box_here", "_law_some"] (spOf K)) :
    Ok P w K mg base (k + 1) "_law_sea" s__law_sea ["_law_box_here", "_law_most"] spSea := by
  refine D.ok sc__law_sea b__law_sea (fun vs H Q E h => ?_) (fun f cdv A outer s H vs Q E hr h => ?_)
  · obtain ⟨b, n, most, rfl, _⟩ := h
    rfl
  · obtain ⟨b, n, most, rfl, m0, m1, hb, q⟩ := h
    refine ⟨_, (pss_cons (ps_asg (pe_tup (pa_cons (pe_op op_add pe_int (pe_fn O__law_take (hr.mono (by omega)) (pa_cons (pv 0) (pa_cons (pv 1) pa_nil)))) (pa_cons (pe_fn O__law_of (hr.mono (by omega)) (pa_cons (pv 0) (pa_cons (pe_lst (pa_cons pe_int (pa_cons pe_int (pa_cons pe_int (pa_cons (pe_op op_sub (pe_op op_sub (pe_op (op_powC 1000000000000) pe_int pe_int) pe_int) (pe_fn O__law_take (hr.mono (by omega)) (pa_cons (pv 0) (pa_cons (pe_op (op_powC 1000000) pe_int pe_int) pa_nil)))) pa_nil))))) pa_nil))) pa_nil))) (pg_seq rfl (pgs_cons (pg_name (i := 2) sc__law_sea.nd rfl (.inr rfl)) (pgs_cons (pg_name (i := 3) sc__law_sea.nd rfl (.inr rfl)) pgs_nil))))
      (pss_cons (ps_set (i := 4) sc__law_sea.nd rfl (.inr rfl) (pe_fn O__law_of (hr.mono (by omega)) (pa_cons (pv 0) (pa_cons (pe_lst (pa_cons pe_int (pa_cons (pe_op op_add (pv 2) pe_int) (pa_cons (pe_op op_add (pe_op op_mul pe_int (pv 2)) pe_int) pa_nil)))) pa_nil))))
      (pss_cons (ps_setLc (i := 5) (own := [("_law_side", 7)]) (g := (gName 7)) (tt := tYes) (by rfl) sc__law_sea.nd rfl rfl (sw_true rfl rfl rfl (by decide +kernel)) (pi_range1 (by rfl) T.range_ (pa_cons pe_int pa_nil)) (blkOk_by (own := [("_law_side", 7)]) (N := (["_law_box_here", "_law_most", "_law_count", "_law_far", "_law_wide", "_law_depths", "_law_draughts", "_law_side", "_law_whom"] : List Str)) (sc := defScope s__law_sea) (by decide +kernel)) (fun _ _ _ _ _ => (pg_name (i := 7) sc__law_sea.nd rfl (.inl rfl))) (fun _ _ _ _ _ => pts_nil) (fun _ _ _ _ _ => (pe_op op_add (pv 3) (pe_op op_mul (pe_fn O__law_take (hr.mono (by omega)) (pa_cons (pv 0) (pa_cons (pe_op op_add (pv 2) pe_int) pa_nil))) (pe_fn O__law_take (hr.mono (by omega)) (pa_cons (pv 0) (pa_cons pe_int pa_nil)))))))
      (pss_cons (ps_set (i := 6) sc__law_sea.nd rfl (.inr rfl) (pe_lc (own := [("_law_whom", 8)]) (g := (gName 8)) (tt := tYes) (by rfl) sc__law_sea.nd (pi_range1 (by rfl) T.range_ (pa_cons (pv 2) pa_nil)) (blkOk_by (own := [("_law_whom", 8)]) (N := (["_law_box_here", "_law_most", "_law_count", "_law_far", "_law_wide", "_law_depths", "_law_draughts", "_law_side", "_law_whom"] : List Str)) (sc := defScope s__law_sea) (by decide +kernel)) (fun _ _ _ _ _ => (pg_name (i := 8) sc__law_sea.nd rfl (.inl rfl))) (fun _ _ _ _ _ => pts_nil) (fun _ _ _ _ _ => (pe_op op_add (pv 3) (pe_fn O__law_take (hr.mono (by omega)) (pa_cons (pv 0) (pa_cons (pv 4) pa_nil)))))))
      (pss_cons (ps_if (pt_cmpR op_eq (pe_fn O__law_take (hr.mono (by omega)) (pa_cons (pv 0) (pa_cons pe_int pa_nil))) pe_int (nomark _))
        (pss_one (ps_set (i := 6) sc__law_sea.nd rfl (.inr rfl) (pe_lc (own := [("_law_whom", 8)]) (g := (gName 8)) (tt := tYes) (by rfl) sc__law_sea.nd (pi_range1 (by rfl) T.range_ (pa_cons (pv 2) pa_nil)) (blkOk_by (own := [("_law_whom", 8)]) (N := (["_law_box_here", "_law_most", "_law_count", "_law_far", "_law_wide", "_law_depths", "_law_draughts", "_law_side", "_law_whom"] : List Str)) (sc := defScope s__law_sea) (by decide +kernel)) (fun _ _ _ _ _ => (pg_name (i := 8) sc__law_sea.nd rfl (.inl rfl))) (fun _ _ _ _ _ => pts_nil) (fun _ _ _ _ _ => (pe_ifExp (pt_cmpR op_eq (pe_fn O__law_take (hr.mono (by omega)) (pa_cons (pv 0) (pa_cons pe_int pa_nil))) pe_int (nomark _)) (pe_ix (ix_ltK K) (pv 6) (pv 8) (fun _ _ => rfl)) (pe_ix (ix_ltK K) (pv 6) pe_int (fun _ _ => rfl)))))))
        pss_nil)
      (pss_one (ps_ret (pe_tup (pa_cons (pe_ix ix_lt (pv 5) pe_int (fun _ _ => rfl)) (pa_cons (pe_ix ix_lt (pv 5) pe_int (fun _ _ => rfl)) (pa_cons (pe_callTy call_tuple_of (by rfl) T.tuple_ (by decide +kernel) (pa_cons (pv 6) pa_nil)) pa_nil))))))))))), ?_⟩
    -- 1 + take(box, most)
    refine ⟨_, rfl, _, rfl, b, n + 199, _, rfl, by omega, by omega, hb, fun c ys1 c0 c1 y1 => ?_⟩
    refine ⟨1, c, rfl, rfl, ?_⟩
    have u1 : But b H (upd H b (.lst ys1)) := But.ups
    have x1 : BoxAt (upd H b (.lst ys1)) b (n + 199) := .put y1
    generalize upd H b (.lst ys1) = H1 at u1 x1
    -- of(box, [0, 0, 0, 10 ** 12 - 200 - take(box, 10 ** 6)])
    refine ⟨_, rfl, 10, 12, rfl, rfl, ⟨⟨by decide, by decide, by decide⟩, by decide⟩, _, 200, rfl, rfl, _, rfl, 10, 6, rfl, rfl, ⟨⟨by decide, by decide, by decide⟩, by decide⟩, ?_⟩
    refine ⟨b, n + 198, 1000000, rfl, by decide, by decide, x1, fun r ys2 r0 r1 y2 => ?_⟩
    have u2 : But b H (upd H1 b (.lst ys2)) := u1.box
    have x2 : BoxAt (upd H1 b (.lst ys2)) b (n + 198) := .put y2
    generalize upd H1 b (.lst ys2) = H2 at u2 x2
    refine ⟨_, _, rfl, rfl, (by show 4 ≤ sizeLine; decide), fun l nl => ?_⟩
    have u3 : But b H (upd H2 l (.lst [.int 0, .int 0, .int 0, .int (1000000000000 - 200 - r)])) := fun a o na e => by
      rw [upd_ne (ne_of_none (u2 a o na e) nl)]
      exact u2 a o na e
    refine ⟨b, l, n + 197, _, rfl, SqA.l upd_same, ne_box x2 nl, (by show 0 < 4; decide), (by show 4 < 1000000; decide), x2.at (x2.ne nl), fun v ys3 hv y3 => ?_⟩
    obtain ⟨far, f0, f1, rfl⟩ : ∃ far : Int, 0 ≤ far ∧ far ≤ 1000000000000 - 200 ∧ v = .int far := by
      have e4 : v = .int 0 ∨ v = .int (1000000000000 - 200 - r) := by
        have e5 : v = .int 0 ∨ v = .int 0 ∨ v = .int 0 ∨ v = .int (1000000000000 - 200 - r) := by simpa using hv
        rcases e5 with e | e | e | e
        · exact .inl e
        · exact .inl e
        · exact .inl e
        · exact .inr e
      rcases e4 with e | e
      · exact ⟨0, by decide, by decide, e⟩
      · exact ⟨_, by omega, by omega, e⟩
    replace u3 : But b H (upd (upd H2 l (.lst [.int 0, .int 0, .int 0, .int (1000000000000 - 200 - r)])) b (.lst ys3)) := u3.box
    have x3 : BoxAt (upd (upd H2 l (.lst [.int 0, .int 0, .int 0, .int (1000000000000 - 200 - r)])) b (.lst ys3)) b (n + 197) := .put y3
    try dsimp only
    generalize upd (upd H2 l (.lst [.int 0, .int 0, .int 0, .int (1000000000000 - 200 - r)])) b (.lst ys3) = H3 at u3 x3
    refine ⟨(by show 2 ≤ sizeLine; decide), fun tp ntp => ?_⟩
    refine ⟨tp, _, rfl, SqA.t upd_same, rfl, _, _, rfl, _, _, rfl, rfl, ?_⟩
    obtain ⟨u4, x4, _, _⟩ := al (o := .tup [.int (1 + c), .int far]) u3 x3 ntp
    try dsimp only
    generalize upd H3 tp (.tup [.int (1 + c), .int far]) = H4 at u4 x4
    obtain ⟨cn, ec⟩ : ∃ cn : Nat, 1 + c = ((cn : Nat) : Int) := ⟨(1 + c).toNat, by omega⟩
    have cn0 : 0 < cn := by omega
    have cn1 : cn ≤ most := by omega
    rw [ec]
    -- wide
    refine ⟨_, rfl, _, rfl, _, 2, rfl, rfl, _, rfl, 2, _, rfl, rfl, .inl ⟨by decide, by decide⟩, _, 2, rfl, rfl, (by show 3 ≤ sizeLine; decide), fun l2 nl2 => ?_⟩
    obtain ⟨u5, x5, e5, n5⟩ := al (o := .lst [.int 2, .int ((cn : Int) + 2), .int (2 * (cn : Int) + 2)]) u4 x4 nl2
    refine ⟨b, l2, n + 196, _, rfl, SqA.l upd_same, n5, (by show 0 < 3; decide), (by show 3 < 1000000; decide), x5.mono (by omega), fun v ys6 hv y6 => ?_⟩
    obtain ⟨wide, w0, w1, rfl⟩ : ∃ wide : Int, 2 ≤ wide ∧ wide ≤ 122 ∧ v = .int wide := by
      have e5 : v = .int 2 ∨ v = .int ((cn : Int) + 2) ∨ v = .int (2 * (cn : Int) + 2) := by simpa using hv
      rcases e5 with e | e | e
      · exact ⟨2, by decide, by decide, e⟩
      · exact ⟨_, by omega, by omega, e⟩
      · exact ⟨_, by omega, by omega, e⟩
    obtain ⟨u6, x6⟩ := tk u5 y6
    try dsimp only
    generalize upd (upd H4 l2 (.lst [.int 2, .int ((cn : Int) + 2), .int (2 * (cn : Int) + 2)])) b (.lst ys6) = H6 at u6 x6
    -- depths
    refine ⟨2, rfl, by decide, by decide, fun C nC => ?_⟩
    refine lc_range (fun i Hc => ∃ ns : List Int, But b H6 Hc ∧ BoxAt Hc b (n + 196 - 2 * i) ∧ Hc C = some (.lst (ns.map V.int)) ∧ ns.length = i ∧ ∀ d ∈ ns, 0 ≤ d ∧ d ≤ 1000000000000) ?_ ?_ ?_
    · exact ⟨[], (al (But.refl b H6) x6 nC).1, (al (But.refl b H6) x6 nC).2.1, upd_same, rfl, fun d hd => by simp at hd⟩
    · rintro i Hc hi ⟨ns, uc, xc, hC, hl, hn⟩
      have nCb : C ≠ b := (x6.ne nC).symm
      have i2 : i < 2 := hi
      refine ⟨rfl, tyes (iteT ?_)⟩
      refine ⟨_, rfl, _, rfl, _, rfl, _, 2, rfl, rfl, ?_⟩
      refine ⟨b, n + 196 - 2 * i - 1, _, rfl, by omega, by omega, xc.mono (by omega), fun v ys v0 v1 y => ?_⟩
      obtain ⟨ud, xd⟩ := tk uc y
      have hD : upd Hc b (.lst ys) C = some (.lst (ns.map V.int)) := by rw [upd_ne nCb]; exact hC
      generalize upd Hc b (.lst ys) = Hd at ud xd hD
      refine ⟨_, rfl, ?_⟩
      refine ⟨b, n + 196 - 2 * i - 2, 2, rfl, by decide, by decide, xd.mono (by omega), fun v' ys' v0' v1' y' => ?_⟩
      obtain ⟨ue, xe⟩ := tk ud y'
      have hE : upd Hd b (.lst ys') C = some (.lst (ns.map V.int)) := by rw [upd_ne nCb]; exact hD
      generalize upd Hd b (.lst ys') = He at ue xe hE
      refine ⟨v, v', rfl, rfl, .inl ⟨by omega, by omega⟩, far, v * v', rfl, rfl, ns.map V.int, hE, ?_, ns ++ [far + v * v'], ?_, ?_, ?_, ?_, ?_⟩
      · rw [List.length_map, hl]
        exact Nat.lt_trans i2 (by decide)
      · exact fun a o na e => by rw [upd_ne (ne_of_none e nC)]; exact ue a o na e
      · exact (xe.at (x6.ne nC)).mono (by omega)
      · rw [upd_same, List.map_append]
        rfl
      · simp [hl]
      · intro d hd
        rcases List.mem_append.mp hd with z | z
        · exact hn d z
        · have e : d = far + v * v' := by simpa using z
          have e01 : v' = 0 ∨ v' = 1 := by omega
          rcases e01 with z | z <;> (rw [e, z]; omega)
    · rintro H7 ⟨ds2, u7', x7, h7, l7, b7⟩
      have u7 : But b H H7 := u6.trans u7'
      clear u7'
      replace x7 : BoxAt H7 b (n + 192) := x7.mono (by omega)
      have nCb : C ≠ b := (x6.ne nC).symm
      -- draughts
      refine ⟨_, rfl, _, rfl, by omega, by omega, fun C2 nC2 => ?_⟩
      rw [show ((cn : Int)).toNat = cn by omega]
      refine lc_range (fun i Hc => ∃ ns : List Int, But b H7 Hc ∧ BoxAt Hc b (n + 192 - i) ∧ Hc C2 = some (.lst (ns.map V.int)) ∧ ns.length = i ∧ ∀ d ∈ ns, 0 ≤ d ∧ d ≤ 1000000000000) ?_ ?_ ?_
      · exact ⟨[], (al (But.refl b H7) x7 nC2).1, (al (But.refl b H7) x7 nC2).2.1, upd_same, rfl, fun d hd => by simp at hd⟩
      · rintro i Hc hi ⟨ns, uc, xc, hC, hl, hn⟩
        have nCb2 : C2 ≠ b := (x7.ne nC2).symm
        refine ⟨rfl, tyes (iteT ?_)⟩
        refine ⟨_, rfl, _, rfl, _, rfl, ?_⟩
        refine ⟨b, n + 192 - i - 1, wide, rfl, by omega, by omega, xc.mono (by omega), fun v ys v0 v1 y => ?_⟩
        obtain ⟨ud, xd⟩ := tk uc y
        have hD : upd Hc b (.lst ys) C2 = some (.lst (ns.map V.int)) := by rw [upd_ne nCb2]; exact hC
        generalize upd Hc b (.lst ys) = Hd at ud xd hD
        refine ⟨far, v, rfl, rfl, ns.map V.int, hD, ?_, ns ++ [far + v], ?_, ?_, ?_, ?_, ?_⟩
        · rw [List.length_map, hl]
          exact Nat.lt_of_lt_of_le hi (Nat.le_trans (show cn ≤ 60 by omega) (by decide))
        · exact fun a o na e => by rw [upd_ne (ne_of_none e nC2)]; exact ud a o na e
        · exact (xd.at (x7.ne nC2)).mono (by omega)
        · rw [upd_same, List.map_append]
          rfl
        · simp [hl]
        · intro d hd
          rcases List.mem_append.mp hd with z | z
          · exact hn d z
          · have e : d = far + v := by simpa using z
            omega
      · rintro H8 ⟨ds, u8', x8, h8, l8, b8⟩
        have h7' : H8 C = some (.lst (ds2.map V.int)) := u8' _ _ nCb h7
        have u8 : But b H H8 := u7.trans u8'
        have nC2b : C2 ≠ b := (x7.ne nC2).symm
        have nCC : C ≠ C2 := ne_of_none h7 nC2
        replace x8 : BoxAt H8 b (n + 132) := x8.mono (by omega)
        clear u8'
        -- take(box, 4) == 0
        refine ⟨_, rfl, b, n + 131, 4, rfl, by decide, by decide, x8.mono (by omega), fun v ys v0 v1 y => ?_⟩
        obtain ⟨u9, x9⟩ := tk u8 y
        have h9 : upd H8 b (.lst ys) C = some (.lst (ds2.map V.int)) := by rw [upd_ne nCb]; exact h7'
        have g9 : upd H8 b (.lst ys) C2 = some (.lst (ds.map V.int)) := by rw [upd_ne nC2b]; exact h8
        generalize upd H8 b (.lst ys) = H9 at u9 x9 h9 g9
        obtain ⟨d0, d1, rfl⟩ := two_of l7
        refine ⟨rfl, _, rfl, ite2 (fun c => ?_) (fun c => ?_)⟩
        · refine ⟨_, rfl, _, rfl, by omega, by omega, fun C3 nC3 => ?_⟩
          rw [show ((cn : Int)).toNat = cn by omega]
          have nC3b : C3 ≠ b := (x9.ne nC3).symm
          refine lc_range (fun i Hc => ∃ ns : List Int, But b H9 Hc ∧ BoxAt Hc b (n + 131 - i) ∧ Hc C3 = some (.lst (ns.map V.int)) ∧ ns.length = i ∧ ∀ d ∈ ns, 0 ≤ d ∧ d ≤ 1000000000000) ?_ ?_ ?_
          · exact ⟨[], (al (But.refl b H9) x9 nC3).1, (al (But.refl b H9) x9 nC3).2.1, upd_same, rfl, fun d hd => by simp at hd⟩
          · rintro i Hc hi ⟨ns, uc, xc, hC, hl, hn⟩
            refine ⟨rfl, tyes (iteT ?_)⟩
            refine ⟨_, rfl, b, n + 131 - i - 1, 2, rfl, by decide, by decide, xc.mono (by omega), fun v ys v0 v1 y => ?_⟩
            obtain ⟨ud, xd⟩ := tk uc y
            have hD : upd Hc b (.lst ys) C3 = some (.lst (ns.map V.int)) := by rw [upd_ne nC3b]; exact hC
            generalize upd Hc b (.lst ys) = Hd at ud xd hD
            have gd : Hd C2 = some (.lst (ds.map V.int)) := ud _ _ nC2b g9
            have fin : ∀ z ∈ ds, ∃ acc : List V, Hd C3 = some (.lst acc) ∧ acc.length < sizeLine ∧ ∃ ns : List Int, But b H9 (upd Hd C3 (.lst (acc ++ [.int z]))) ∧ BoxAt (upd Hd C3 (.lst (acc ++ [.int z]))) b (n + 131 - (i + 1)) ∧
                upd Hd C3 (.lst (acc ++ [.int z])) C3 = some (.lst (ns.map V.int)) ∧ ns.length = i + 1 ∧ ∀ d ∈ ns, 0 ≤ d ∧ d ≤ 1000000000000 := fun z hz => by
              refine ⟨ns.map V.int, hD, ?_, ns ++ [z], ?_, ?_, ?_, ?_, ?_⟩
              · rw [List.length_map, hl]
                exact Nat.lt_of_lt_of_le hi (Nat.le_trans (show cn ≤ 60 by omega) (by decide))
              · exact fun a o na e => by rw [upd_ne (ne_of_none e nC3)]; exact ud a o na e
              · exact (xd.at (x9.ne nC3)).mono (by omega)
              · rw [upd_same, List.map_append]
                rfl
              · simp [hl]
              · intro d hd
                rcases List.mem_append.mp hd with z2 | z2
                · exact hn d z2
                · have e : d = z := by simpa using z2
                  rw [e]
                  exact b8 z hz
            refine ⟨rfl, _, rfl, ite2 (fun c => ?_) (fun c => ?_)⟩
            · have hi' : i < ds.length := by omega
              exact ⟨_, rfl, _, rfl, C2, _, _, .int ds[i], rfl, rfl, SqA.l gd, at_nat (j := i) (by omega) (by simp [hi']), fin _ (List.getElem_mem hi')⟩
            · have hi' : 0 < ds.length := by omega
              exact ⟨_, rfl, C2, _, _, .int ds[0], rfl, rfl, SqA.l gd, at_nat (j := 0) rfl (by simp [hi']), fin _ (List.getElem_mem hi')⟩
          · rintro H10 ⟨ds', u10', x10, h10, l10, b10⟩
            have u10 : But b H H10 := u9.trans u10'
            refine ⟨_, rfl, C, _, 0, .int d0, rfl, rfl, SqA.l (u10' _ _ nCb h9), rfl, _, rfl, C, _, 1, .int d1, rfl, rfl, SqA.l (u10' _ _ nCb h9), rfl, _, rfl, C3, _, rfl, .inl ⟨SqL.of h10, fun q' nq => ?_⟩⟩
            refine ⟨(by show 3 ≤ sizeLine; decide), fun p np => ?_⟩
            obtain ⟨uq, xq, eq, nqb⟩ := al (o := .tup (ds'.map V.int)) u10 x10 nq
            obtain ⟨up, xp, ep, npb⟩ := al (o := .tup [.int d0, .int d1, .ref q']) uq xq np
            refine q _ p q' d0 d1 ds' up (xp.mono (by omega)) (uq.free npb np) (u10.free nqb nq) ep ?_ ⟨(b7 d0 (by simp)).1, (b7 d0 (by simp)).2, (b7 d1 (by simp)).1, (b7 d1 (by simp)).2, by omega, by omega, b10⟩
            rw [upd_ne (ne_of_none eq np)]
            exact eq
        · refine ⟨_, rfl, C, _, 0, .int d0, rfl, rfl, SqA.l h9, rfl, _, rfl, C, _, 1, .int d1, rfl, rfl, SqA.l h9, rfl, _, rfl, C2, _, rfl, .inl ⟨SqL.of g9, fun q' nq => ?_⟩⟩
          refine ⟨(by show 3 ≤ sizeLine; decide), fun p np => ?_⟩
          obtain ⟨uq, xq, eq, nqb⟩ := al (o := .tup (ds.map V.int)) u9 x9 nq
          obtain ⟨up, xp, ep, npb⟩ := al (o := .tup [.int d0, .int d1, .ref q']) uq xq np
          refine q _ p q' d0 d1 ds up (xp.mono (by omega)) (uq.free npb np) (u9.free nqb nq) ep ?_ ⟨(b7 d0 (by simp)).1, (b7 d0 (by simp)).2, (b7 d1 (by simp)).1, (b7 d1 (by simp)).2, by omega, by omega, b8⟩
          rw [upd_ne (ne_of_none eq np)]
          exact eq
end
end Sh

namespace Sh
open PySem PySem.Spec PyProof.Rows L2
/-! ### what many laws ask -/
/-- a sea (list or tuple) is handed in -/
def SeaA (K : PySem.W.Frag) (H : Hp) (v : V) (h t : Int) (ds : List Int) : Prop := ∃ p q, v = .ref p ∧ SqA K H p [.int h, .int t, .ref q] ∧ SqA K H q (ds.map V.int)
theorem SeaA.same {K : PySem.W.Frag} {H H' : Hp} {v : V} {h t : Int} {ds : List Int} (s : SeaA K H v h t ds) (e : Same H H') : SeaA K H' v h t ds := let ⟨p, q, a, b, c⟩ := s; ⟨p, q, a, Same.sqA e b, Same.sqA e c⟩
theorem lay_ints : ∀ ns : List Int, PyData.canLayAll0 (ns.map .int) = true ∧ PyData.depthAll (ns.map .int) = 0
  | [] => ⟨rfl, rfl⟩
  | n :: ns => by
    obtain ⟨a, b⟩ := lay_ints ns
    constructor
    · show (PyData.canLay0 (.int n) && PyData.canLayAll0 (ns.map .int)) = true
      rw [a]
      rfl
    · show max (PyData.depth (.int n)) (PyData.depthAll (ns.map .int)) = 0
      rw [b]
      rfl
theorem shaped_ints (ns : List Int) : SeqAt.shaped (.list (ns.map .int)) = true := by
  obtain ⟨a, b⟩ := lay_ints ns
  unfold SeqAt.shaped
  rw [show PyData.canLay0 (.list (ns.map .int)) = PyData.canLayAll0 (ns.map .int) from rfl, show PyData.depth (.list (ns.map .int)) = PyData.depthAll (ns.map .int) + 1 from rfl, a, b]
  rfl
theorem flat_ints (ns : List Int) : (ns.map V.int).all flatV = true := by
  rw [List.all_map]
  exact List.all_eq_true.mpr fun _ _ => rfl
theorem same_over {H H1 : Hp} {p : Addr} {o : HO} (s : Same H H1) (n : H p = none) : Same H (upd H1 p o) := fun a x e => by
  rw [upd_ne (ne_of_none e n)]
  exact s _ _ e
end Sh

namespace Sh
open PySem PySem.Spec PyProof.Rows L2
/-! ### standings as lists of ships -/
def ni (L : List Nat) : List V := L.map fun (i : Nat) => V.int (i : Int)
theorem ni_len (L : List Nat) : (ni L).length = L.length := by unfold ni; simp
theorem ni_get {L : List Nat} {i : Nat} (h : i < L.length) : (ni L)[i]? = some (.int ((L[i] : Nat) : Int)) := by unfold ni; simp [h]
theorem ni_app (L M : List Nat) : ni (L ++ M) = ni L ++ ni M := by unfold ni; simp
theorem ni_ints (L : List Nat) : ni L = (L.map fun (i : Nat) => (i : Int)).map V.int := by unfold ni; simp
theorem ni_flat (L : List Nat) : (ni L).all flatV = true := by unfold ni; rw [List.all_map]; exact List.all_eq_true.mpr fun _ _ => rfl
/-- a rising lot of ships below c -/
structure Lot (c : Nat) (L : List Nat) : Prop where
  up : L.Pairwise (· < ·)
  lt : ∀ i ∈ L, i < c
theorem up_len : ∀ {L : List Nat} {lo c : Nat}, L.Pairwise (· < ·) → (∀ i ∈ L, lo ≤ i ∧ i < c) → L.length ≤ c - lo
  | [], _, _, _, _ => Nat.zero_le _
  | a :: r, lo, c, h, hb => by
    obtain ⟨h1, h2⟩ := List.pairwise_cons.mp h
    have ha := hb a List.mem_cons_self
    have := up_len (lo := a + 1) (c := c) h2 fun i hi => ⟨h1 i hi, (hb i (List.mem_cons_of_mem _ hi)).2⟩
    rw [List.length_cons]
    omega
theorem Lot.len {c : Nat} {L : List Nat} (h : Lot c L) : L.length ≤ c := up_len (lo := 0) h.up fun i hi => ⟨Nat.zero_le _, h.lt i hi⟩
theorem Lot.nil (c : Nat) : Lot c [] := ⟨.nil, fun _ h => by cases h⟩
theorem Lot.all (c : Nat) : Lot c (List.range c) := ⟨List.pairwise_lt_range, fun _ h => List.mem_range.mp h⟩
theorem Lot.filter {c : Nat} {L : List Nat} (h : Lot c L) (p : Nat → Bool) : Lot c (L.filter p) := ⟨h.up.filter p, fun i hi => h.lt i (List.mem_filter.mp hi).1⟩
theorem rgV_ni (n : Nat) : rgV 0 (n : Int) = ni (List.range n) := by
  unfold rgV ni
  rw [show ((n : Int) - 0).toNat = n by omega]
  refine List.map_congr_left fun i _ => ?_
  rw [Int.zero_add]
theorem dp_ni {K : PySem.W.Frag} {H : Hp} {a : Addr} {L : List Nat} (h : H a = some (.lst (ni L))) : Dp K H (.ref a) (.list ((L.map fun (i : Nat) => (i : Int)).map .int)) := by
  rw [ni_ints] at h
  exact .lst (SqL.of h) (DpAll.ints _)
end Sh

namespace Sh
open PySem PySem.Spec PyProof.Rows L2
/-! ### a drawn lot -/
def spLot : Sp := fun vs H Q _ => ∃ (b : Addr) (n c : Nat), vs = [.ref b, .int (c : Int)] ∧ c ≤ 60 ∧ BoxAt H b (n + 100) ∧
  ∀ (H' : Hp) (p : Addr) (L : List Nat), But b H H' → BoxAt H' b n → H p = none → H' p = some (.tup (ni L)) → Lot c L → Q (.ref p) H'
abbrev s__law_lot : Stmt := topS 15
theorem sc__law_lot : FnScope (["_law_box_here", "_law_count", "_law_odds", "_law_whom"] : List Str) (["_law_box_here", "_law_count"] : List Str) (defScope s__law_lot) := ⟨rfl, rfl, rfl, by decide +kernel, rfl, by decide +kernel, by decide +kernel⟩
theorem b__law_lot (kV doc pm : Value) (an : Option Addr) (cdv ct : Value) (us : List Value) (hl : us.length = (["_law_box_here", "_law_count"] : List Str).length) : bindArgs (PySem.W.fnOf "_law_lot" "_law_lot" (defArgs s__law_lot) (defBody s__law_lot) (defScope s__law_lot) .none kV doc pm an cdv ct) ⟨us, []⟩ = pure ((["_law_box_here", "_law_count"] : List Str).zip us) :=
  match us, hl with | [_, _], _ => rfl
section
variable {P : Program} {w : World} {K : PySem.W.Frag} {mg : Str → Option Value} {base : Heap}
theorem ok_lot {k : Nat} (D : Df K mg "_law_lot" s__law_lot) (T : Bt mg) (O__law_take : Ok P w K mg base k "_law_take" s__law_take ["_law_box_here", "_law_span"] spTake) (O__law_of : Ok P w K mg base k "_law_of" s__law_of ["_law_box_here", "_law_some"] (spOf K)) :
    Ok P w K mg base (k + 1) "_law_lot" s__law_lot ["_law_box_here", "_law_count"] spLot := by
  refine D.ok sc__law_lot b__law_lot (fun vs H Q E h => ?_) (fun f cdv A outer s H vs Q E hr h => ?_)
  · obtain ⟨b, n, c, rfl, _⟩ := h
    rfl
  · obtain ⟨b, n, c, rfl, c60, hb, q⟩ := h
    refine ⟨_, (pss_cons (ps_set (i := 2) sc__law_lot.nd rfl (.inr rfl) (pe_fn O__law_of (hr.mono (by omega)) (pa_cons (pv 0) (pa_cons (pe_lst (pa_cons pe_int (pa_cons pe_int (pa_cons pe_int (pa_cons pe_int (pa_cons pe_int pa_nil)))))) pa_nil))))
      (pss_cons (ps_if (pt_cmpR op_eq (pe_fn O__law_take (hr.mono (by omega)) (pa_cons (pv 0) (pa_cons pe_int pa_nil))) pe_int (nomark _))
        (pss_one (ps_ret (pe_ifExp (pt_cmpR op_eq (pe_fn O__law_take (hr.mono (by omega)) (pa_cons (pv 0) (pa_cons pe_int pa_nil))) pe_int (nomark _)) (pe_tupRg (by rfl) (by rfl) T.tuple_ (prg_1 (by rfl) T.range_ (pv 1))) (pe_tup pa_nil))))
        pss_nil)
      (pss_one (ps_ret (pe_callTy call_tuple_of (by rfl) T.tuple_ (by decide +kernel) (pa_cons (pe_lc (own := [("_law_whom", 3)]) (g := (gName 3)) (by rfl) sc__law_lot.nd (pi_range1 (by rfl) T.range_ (pa_cons (pv 1) pa_nil)) (blkOk_by (own := [("_law_whom", 3)]) (N := (["_law_box_here", "_law_count", "_law_odds", "_law_whom"] : List Str)) (sc := defScope s__law_lot) (by decide +kernel)) (fun _ _ _ _ _ => (pg_name (i := 3) sc__law_lot.nd rfl (.inl rfl))) (fun _ _ _ _ _ => (pts_one (pt_cmpR op_eq (pe_fn O__law_take (hr.mono (by omega)) (pa_cons (pv 0) (pa_cons (pv 2) pa_nil))) pe_int (nomark _)))) (fun _ _ _ _ _ => (pv 3))) pa_nil)))))), ?_⟩
    -- odds
    refine ⟨_, rfl, (by show 5 ≤ sizeLine; decide), fun l nl => ?_⟩
    obtain ⟨u1, x1, e1, n1⟩ := al (o := .lst [.int 1, .int 2, .int 2, .int 3, .int 4]) (But.refl b H) hb nl
    refine ⟨b, l, n + 99, _, rfl, SqA.l upd_same, n1, (by show 0 < 5; decide), (by show 5 < 1000000; decide), x1.mono (by omega), fun v ys hv y => ?_⟩
    obtain ⟨o, o0, o1, rfl⟩ : ∃ o : Int, 1 ≤ o ∧ o ≤ 4 ∧ v = .int o := by
      have e5 : v = .int 1 ∨ v = .int 2 ∨ v = .int 3 ∨ v = .int 4 := by simpa using hv
      rcases e5 with e | e | e | e
      · exact ⟨1, by decide, by decide, e⟩
      · exact ⟨2, by decide, by decide, e⟩
      · exact ⟨3, by decide, by decide, e⟩
      · exact ⟨4, by decide, by decide, e⟩
    obtain ⟨u2, x2⟩ := tk u1 y
    generalize upd (upd H l (.lst [.int 1, .int 2, .int 2, .int 3, .int 4])) b (.lst ys) = H2 at u2 x2
    -- take(box, 8) == 0
    refine ⟨_, rfl, b, n + 98, 8, rfl, by decide, by decide, x2.mono (by omega), fun v ys v0 v1 y => ?_⟩
    obtain ⟨u3, x3⟩ := tk u2 y
    generalize upd H2 b (.lst ys) = H3 at u3 x3
    refine ⟨rfl, _, rfl, ite2 (fun _ => ?_) (fun _ => ?_)⟩
    · refine ⟨_, rfl, b, n + 97, 2, rfl, by decide, by decide, x3.mono (by omega), fun v ys v0 v1 y => ?_⟩
      obtain ⟨u4, x4⟩ := tk u3 y
      generalize upd H3 b (.lst ys) = H4 at u4 x4
      refine ⟨rfl, _, rfl, ite2 (fun _ => ?_) (fun _ => ?_)⟩
      · refine ⟨_, rfl, _, rfl, .of_le (by omega) (by omega) (by omega) (by omega), fun p np => ?_⟩
        rw [rgV_ni]
        obtain ⟨u5, x5, e5, n5⟩ := al (o := .tup (ni (List.range c))) u4 x4 np
        exact q _ p _ u5 (x5.mono (by omega)) (u4.free n5 np) e5 (Lot.all c)
      · refine ⟨Nat.zero_le _, fun p np => ?_⟩
        obtain ⟨u5, x5, e5, n5⟩ := al (o := .tup []) u4 x4 np
        exact q _ p [] u5 (x5.mono (by omega)) (u4.free n5 np) e5 (Lot.nil c)
    · refine ⟨_, rfl, _, rfl, by omega, by omega, fun C nC => ?_⟩
      rw [show ((c : Int)).toNat = c by omega]
      have nCb : C ≠ b := (x3.ne nC).symm
      refine lc_range (fun i Hc => ∃ L : List Nat, But b H3 Hc ∧ BoxAt Hc b (n + 98 - i) ∧ Hc C = some (.lst (ni L)) ∧ Lot i L) ?_ ?_ ?_
      · exact ⟨[], (al (But.refl b H3) x3 nC).1, (al (But.refl b H3) x3 nC).2.1, upd_same, Lot.nil 0⟩
      · rintro i Hc hi ⟨L, uc, xc, hC, hL⟩
        refine ⟨rfl, ?_⟩
        refine ⟨_, rfl, _, rfl, b, n + 98 - i - 1, o, rfl, by omega, by omega, xc.mono (by omega), fun v ys v0 v1 y => ?_⟩
        obtain ⟨ud, xd⟩ := tk uc y
        have hD : upd Hc b (.lst ys) C = some (.lst (ni L)) := by rw [upd_ne nCb]; exact hC
        generalize upd Hc b (.lst ys) = Hd at ud xd hD
        refine ⟨rfl, _, rfl, ite2 (fun _ => ?_) (fun _ => ?_)⟩
        · refine ⟨_, rfl, _, hD, ?_, L ++ [i], ?_, ?_, ?_, ?_⟩
          · rw [ni_len]
            exact small1000 (by have := hL.len; omega)
          · exact fun a z na e => by rw [upd_ne (ne_of_none e nC)]; exact ud a z na e
          · exact (xd.at (x3.ne nC)).mono (by omega)
          · rw [upd_same, ni_app]
            exact congrArg (fun z => some (HO.lst (ni L ++ [V.int z]))) (Int.zero_add (i : Int))
          · refine ⟨List.pairwise_append.mpr ⟨hL.up, List.pairwise_singleton _ _, fun a ha z hz => ?_⟩, fun a ha => ?_⟩
            · rw [List.mem_singleton.mp hz]
              exact hL.lt a ha
            · rcases List.mem_append.mp ha with z | z
              · have := hL.lt a z
                omega
              · rw [List.mem_singleton.mp z]
                omega
        · exact ⟨L, ud, xd.mono (by omega), hD, hL.up, fun a ha => Nat.lt_succ_of_lt (hL.lt a ha)⟩
      · rintro H4 ⟨L, u4', x4, h4, hL⟩
        have u4 := u3.trans u4'
        refine ⟨C, _, rfl, .inl ⟨SqL.of h4, fun p np => ?_⟩⟩
        obtain ⟨u5, x5, e5, n5⟩ := al (o := .tup (ni L)) u4 x4 np
        exact q _ p L u5 (x5.mono (by omega)) (u4.free n5 np) e5 hL
end
end Sh

namespace Sh
open PySem PySem.Spec PyProof.Rows L2
/-! ### who may go -/
/-- how many others lie here -/
def near (L : List Nat) (i : Nat) : Nat := (L.filter fun j => !decide (j = i)).length
def mayB (h t : Int) (ds : List Int) (L : List Nat) (i : Nat) : Bool := decide (ds.getD i 0 ≤ h + (near L i : Int)) && decide (ds.getD i 0 ≤ t + (ds.length : Int) - 1 - (near L i : Int))
def lets (h t : Int) (ds : List Int) (L : List Nat) (n : Nat) : List Nat := (List.range n).filter (mayB h t ds L)
theorem filter_succ (p : Nat → Bool) (n : Nat) : (List.range (n + 1)).filter p = (List.range n).filter p ++ (if p n = true then [n] else []) := by
  rw [List.range_succ, List.filter_append]
  congr 1
  by_cases h : p n = true
  · rw [if_pos h, List.filter_cons_of_pos h]
    rfl
  · rw [if_neg h, List.filter_cons_of_neg h]
    rfl
theorem filter_len (p : Nat → Bool) (n : Nat) : ((List.range n).filter p).length ≤ n := Nat.le_trans (List.length_filter_le _ _) (by simp)
theorem take_succ_get {α : Type} {L : List α} {i : Nat} (h : i < L.length) : L.take (i + 1) = L.take i ++ [L[i]] := by rw [List.take_add_one, List.getElem?_eq_getElem h]; rfl
/-- a standing is handed in -/
def LotA (K : PySem.W.Frag) (H : Hp) (v : V) (L : List Nat) : Prop := ∃ p, v = .ref p ∧ SqA K H p (ni L)
theorem LotA.same {K : PySem.W.Frag} {H H' : Hp} {v : V} {L : List Nat} (s : LotA K H v L) (e : Same H H') : LotA K H' v L := let ⟨p, a, b⟩ := s; ⟨p, a, Same.sqA e b⟩
end Sh

namespace Sh
open PySem PySem.Spec PyProof.Rows L2
/-! ### who is afloat -/
theorem Lot.mem_eq {c : Nat} {L : List Nat} (h : Lot c L) : L = (List.range c).filter fun j => decide (j ∈ L) := by
  have h2 : Lot c ((List.range c).filter fun j => decide (j ∈ L)) := (Lot.all c).filter _
  refine List.Perm.eq_of_pairwise (le := (· < ·)) (fun a b _ _ h1 h2 => absurd (Nat.lt_trans h1 h2) (Nat.lt_irrefl _)) h.up h2.up ?_
  refine (List.perm_ext_iff_of_nodup (h.up.imp Nat.ne_of_lt) (h2.up.imp Nat.ne_of_lt)).mpr fun a => ?_
  rw [List.mem_filter, List.mem_range, decide_eq_true_eq]
  exact ⟨fun q => ⟨h.lt a q, q⟩, fun q => q.2⟩
theorem filter_filter_len (p q : Nat → Bool) : ∀ l : List Nat, (l.filter p).length = (l.filter fun j => p j && q j).length + (l.filter fun j => p j && !q j).length
  | [] => rfl
  | a :: l => by
    have ih := filter_filter_len p q l
    cases hp : p a <;> cases hq : q a <;> simp [List.filter_cons, hp, hq, ih] <;> omega
/-- how many mates: here, or there -/
def mates (c : Nat) (L : List Nat) (i : Nat) : List Nat := (List.range c).filter fun j => !decide (j = i) && (decide (j ∈ L) == decide (i ∈ L))
theorem near_in {c : Nat} {L : List Nat} (h : Lot c L) (i : Nat) : near L i = ((List.range c).filter fun j => decide (j ∈ L) && !decide (j = i)).length := by
  unfold near
  conv => lhs; rw [h.mem_eq]
  rw [List.filter_filter]
  congr 1
  refine List.filter_congr fun a _ => ?_
  cases decide (a ∈ L) <;> cases decide (a = i) <;> rfl
theorem mates_here {c : Nat} {L : List Nat} (h : Lot c L) {i : Nat} (hi : i ∈ L) : (mates c L i).length = near L i := by
  rw [near_in h, mates]
  congr 1
  refine List.filter_congr fun a _ => ?_
  rw [decide_eq_true hi]
  cases decide (a ∈ L) <;> cases decide (a = i) <;> rfl
theorem one_of {c i : Nat} (hi : i < c) : ((List.range c).filter fun j => decide (j = i)).length = 1 := by
  have e : ((List.range c).filter fun j => decide (j = i)) = [i] := by
    refine List.Perm.eq_of_pairwise (le := (· < ·)) (fun a b _ _ h1 h2 => absurd (Nat.lt_trans h1 h2) (Nat.lt_irrefl _)) (List.pairwise_lt_range.filter _) (List.pairwise_singleton _ _) ?_
    refine (List.perm_ext_iff_of_nodup ((List.pairwise_lt_range.filter _).imp Nat.ne_of_lt) (by simp)).mpr fun a => ?_
    rw [List.mem_filter, List.mem_range, decide_eq_true_eq, List.mem_singleton]
    exact ⟨fun q => q.2, fun q => ⟨q ▸ hi, q⟩⟩
  rw [e]
  rfl
theorem mates_there {c : Nat} {L : List Nat} (h : Lot c L) {i : Nat} (hc : i < c) (hi : i ∉ L) : ((mates c L i).length : Int) = (c : Int) - 1 - (near L i : Int) := by
  have e1 := filter_filter_len (fun j => !decide (j = i)) (fun j => decide (j ∈ L)) (List.range c)
  have e2 := filter_filter_len (fun _ => true) (fun j => decide (j = i)) (List.range c)
  have e3 : ((List.range c).filter fun j => true && decide (j = i)).length = 1 := one_of hc
  have e4 : ((List.range c).filter fun _ => true).length = c := by rw [List.filter_eq_self.mpr fun _ _ => rfl, List.length_range]
  have e5 : ((List.range c).filter fun j => !decide (j = i) && decide (j ∈ L)).length = near L i := by
    rw [near_in h]
    congr 1
    exact List.filter_congr fun a _ => Bool.and_comm _ _
  have e6 : ((List.range c).filter fun j => !decide (j = i) && !decide (j ∈ L)).length = (mates c L i).length := by
    unfold mates
    congr 1
    refine List.filter_congr fun a _ => ?_
    rw [decide_eq_false hi]
    cases decide (a ∈ L) <;> cases decide (a = i) <;> rfl
  have e7 : ((List.range c).filter fun j => true && !decide (j = i)).length = ((List.range c).filter fun j => !decide (j = i)).length := rfl
  rw [e5, e6] at e1
  rw [e3, e4, e7] at e2
  omega
/-- afloat where it lies -/
def aflB (h t : Int) (ds : List Int) (L : List Nat) (i : Nat) : Bool := if i ∈ L then decide (ds.getD i 0 ≤ h + (near L i : Int)) else decide (ds.getD i 0 ≤ t + ((ds.length : Int) - 1 - (near L i : Int)))
def afl (h t : Int) (ds : List Int) (L : List Nat) (n : Nat) : List Nat := (List.range n).filter (aflB h t ds L)
theorem aflB_mates {h t : Int} {ds : List Int} {L : List Nat} {i : Nat} (hL : Lot ds.length L) (hi : i < ds.length) :
    aflB h t ds L i = decide (ds.getD i 0 ≤ (if i ∈ L then h else t) + ((mates ds.length L i).length : Int)) := by
  unfold aflB
  by_cases z : i ∈ L
  · rw [if_pos z, if_pos z, mates_here hL z]
  · rw [if_neg z, if_neg z, mates_there hL hi z]
theorem in_ni {i : Nat} {L : List Nat} : inV (.int (i : Int)) (ni L) = decide (i ∈ L) := by
  unfold inV ni
  rw [List.any_map, Bool.eq_iff_iff, List.any_eq_true, decide_eq_true_eq]
  constructor
  · rintro ⟨x, hx, e⟩
    have e' : ((x : Int) == (i : Int)) = true := e
    have : x = i := by have := beq_iff_eq.mp e'; omega
    rw [← this]
    exact hx
  · intro hx
    exact ⟨i, hx, beq_self_eq_true (i : Int)⟩
def spAfl (K : PySem.W.Frag) : Sp := fun vs H Q _ => ∃ (v l : V) (h t : Int) (ds : List Int) (L : List Nat), vs = [v, l] ∧ SeaA K H v h t ds ∧ LotA K H l L ∧ ds.length ≤ 1000 ∧ Lot ds.length L ∧
  ∀ (H' : Hp) (p : Addr), Same H H' → H p = none → H' p = some (.lst (ni (afl h t ds L ds.length))) → Q (.ref p) H'
/-- the same of who may go: of a standing -/
def spMay (K : PySem.W.Frag) : Sp := fun vs H Q _ => ∃ (v l : V) (h t : Int) (ds : List Int) (L : List Nat), vs = [v, l] ∧ SeaA K H v h t ds ∧ LotA K H l L ∧ ds.length ≤ 1000 ∧ Lot ds.length L ∧
  ∀ (H' : Hp) (p : Addr), Same H H' → H p = none → H' p = some (.lst (ni (lets h t ds L ds.length))) → Q (.ref p) H'
end Sh

namespace Sh
open PySem PySem.Spec PyProof.Rows L2
theorem eqv_nil (ns : List Int) : PyData.eqv (.list (ns.map .int)) (.list []) = ns.isEmpty := by cases ns <;> rfl
end Sh

namespace Sh
open PySem PySem.Spec PyProof.Rows L2
/-! ### sorted lists of ships -/
theorem nat_list {c : Nat} : ∀ {ns : List Int}, (∀ z ∈ ns, 0 ≤ z ∧ z < (c : Int)) → ∃ L : List Nat, ns = L.map (fun (i : Nat) => (i : Int)) ∧ ∀ i ∈ L, i < c
  | [], _ => ⟨[], rfl, fun _ h => by cases h⟩
  | z :: ns, h => by
    obtain ⟨L, e, hL⟩ := nat_list (ns := ns) fun y hy => h y (List.mem_cons_of_mem _ hy)
    have hz := h z List.mem_cons_self
    refine ⟨z.toNat :: L, ?_, fun i hi => ?_⟩
    · rw [List.map_cons, ← e]
      congr 1
      omega
    · rcases List.mem_cons.mp hi with q | q
      · omega
      · exact hL i q
theorem map_inj {L M : List Nat} (h : (L.map fun (i : Nat) => (i : Int)).Perm (M.map fun (i : Nat) => (i : Int))) : L.Perm M := by
  have h2 := h.map Int.toNat
  rw [List.map_map, List.map_map] at h2
  have e : (Int.toNat ∘ fun (i : Nat) => (i : Int)) = id := by
    funext i
    exact Int.toNat_natCast i
  rw [e, List.map_id, List.map_id] at h2
  exact h2
/-- sorted ints that are a rearrangement of different ships: a lot -/
theorem lot_sorted {c : Nat} {ns : List Int} {M : List Nat} (pm : ns.Perm (M.map fun (i : Nat) => (i : Int))) (up : ns.Pairwise (· ≤ ·)) (nd : M.Nodup) (lt : ∀ i ∈ M, i < c) :
    ∃ L : List Nat, ns = L.map (fun (i : Nat) => (i : Int)) ∧ L.Perm M ∧ Lot c L := by
  obtain ⟨L, rfl, hL⟩ := nat_list (c := c) (ns := ns) fun z hz => by
    obtain ⟨i, hi, rfl⟩ := List.mem_map.mp (pm.mem_iff.mp hz)
    have := lt i hi
    omega
  have p2 := map_inj pm
  refine ⟨L, rfl, p2, ?_, hL⟩
  have ndL : L.Nodup := p2.nodup_iff.mpr nd
  have up2 : L.Pairwise (· ≤ ·) := by
    rw [List.pairwise_map] at up
    exact up.imp fun h => by omega
  exact (up2.and ndL).imp fun h => Nat.lt_of_le_of_ne h.1 h.2
theorem cut_take (xs : List V) (l : Nat) : cutV xs none (some (l : Int)) = xs.take l := by
  unfold cutV
  rw [HT.sIx_none, HT.sIx_nat]
  show (xs.drop 0).take (min l xs.length - 0) = xs.take l
  rw [List.drop_zero, Nat.sub_zero]
  by_cases h : l ≤ xs.length
  · rw [Nat.min_eq_left h]
  · rw [Nat.min_eq_right (by omega), List.take_length, List.take_of_length_le (by omega)]
theorem near_out {L : List Nat} {i : Nat} (h : i ∉ L) : near L i = L.length := by
  unfold near
  rw [List.filter_eq_self.mpr fun a ha => ?_]
  have : ¬ a = i := fun e => h (e ▸ ha)
  simpa using this
theorem near_perm {L M : List Nat} (i : Nat) (h : L.Perm M) : near L i = near M i := (h.filter _).length_eq
theorem near_add {L : List Nat} {i : Nat} (h : i ∉ L) : near (L ++ [i]) i = L.length := by
  rw [← near_out h]
  unfold near
  rw [List.filter_append]
  simp
end Sh

namespace Sh
open PySem PySem.Spec PyProof.Rows L2
def spRight : Sp := fun vs H Q _ => ∃ b : Addr, vs = [.ref b] ∧ BoxAt H b 100000 ∧ ∀ H', But b H H' → Q (.bl true) H'
end Sh

namespace Sh
open PySem PySem.Spec PyProof.Rows L2
/-! ### what is told: seas and standings -/
/-- a standing told: a tuple that is read -/
def LotT (K : PySem.W.Frag) (H : Hp) (v : V) (L : List Nat) : Prop := ∃ p, v = .ref p ∧ SqT K H p (ni L)
theorem LotT.a {K : PySem.W.Frag} {H : Hp} {v : V} {L : List Nat} (h : LotT K H v L) : LotA K H v L := let ⟨p, e, q⟩ := h; ⟨p, e, .inr q⟩
theorem LotT.same {K : PySem.W.Frag} {H H' : Hp} {v : V} {L : List Nat} (h : LotT K H v L) (s : Same H H') : LotT K H' v L := let ⟨p, e, q⟩ := h; ⟨p, e, Same.tup s q⟩
theorem tup_but {K : PySem.W.Frag} {H H' : Hp} {b p : Addr} {n : Nat} {xs : List V} (q : SqT K H p xs) (x : BoxAt H b n) (u : But b H H') : SqT K H' p xs := by
  obtain ⟨ys, hb, _⟩ := x
  rcases q with (q | ⟨o, q⟩) | q
  · exact .inl (.inl (u _ _ (ne_of q hb (by intro z; cases z)) q))
  · exact .inl (.inr ⟨o, u _ _ (ne_of q hb (by intro z; cases z)) q⟩)
  · exact .inr q
theorem LotT.but {K : PySem.W.Frag} {H H' : Hp} {b : Addr} {n : Nat} {v : V} {L : List Nat} (h : LotT K H v L) (x : BoxAt H b n) (u : But b H H') : LotT K H' v L := let ⟨p, e, q⟩ := h; ⟨p, e, tup_but q x u⟩
theorem LotT.dp {K : PySem.W.Frag} {H : Hp} {v : V} {L : List Nat} (h : LotT K H v L) : Dp K H v (.tuple ((L.map fun (i : Nat) => (i : Int)).map .int)) := by
  obtain ⟨p, e, q⟩ := h
  rw [e]
  rw [ni_ints] at q
  exact .tup q (DpAll.ints _)
/-- a sea told -/
def SeaT (K : PySem.W.Frag) (H : Hp) (v : V) (h t : Int) (ds : List Int) : Prop := ∃ p q, v = .ref p ∧ SqT K H p [.int h, .int t, .ref q] ∧ SqT K H q (ds.map V.int)
theorem SeaT.a {K : PySem.W.Frag} {H : Hp} {v : V} {h t : Int} {ds : List Int} (s : SeaT K H v h t ds) : SeaA K H v h t ds := let ⟨p, q, e, a, b⟩ := s; ⟨p, q, e, .inr a, .inr b⟩
theorem SeaT.same {K : PySem.W.Frag} {H H' : Hp} {v : V} {h t : Int} {ds : List Int} (s : SeaT K H v h t ds) (e : Same H H') : SeaT K H' v h t ds := let ⟨p, q, e1, a, b⟩ := s; ⟨p, q, e1, Same.tup e a, Same.tup e b⟩
theorem SeaT.but {K : PySem.W.Frag} {H H' : Hp} {b : Addr} {n : Nat} {v : V} {h t : Int} {ds : List Int} (s : SeaT K H v h t ds) (x : BoxAt H b n) (u : But b H H') : SeaT K H' v h t ds := let ⟨p, q, e1, a, c⟩ := s; ⟨p, q, e1, tup_but a x u, tup_but c x u⟩
theorem SeaT.dp {K : PySem.W.Frag} {H : Hp} {v : V} {h t : Int} {ds : List Int} (s : SeaT K H v h t ds) : Dp K H v (.tuple [.int h, .int t, .tuple (ds.map .int)]) := by
  obtain ⟨p, q, e, a, b⟩ := s
  rw [e]
  exact .tup a (.cons (.int _) (.cons (.int _) (.cons (.tup b (DpAll.ints _)) .nil)))
theorem lv_sea {n : Nat} {h t : Int} {ds : List Int} (l : ds.length ≤ 100000) : Lv (n + 3) (.tuple [.int h, .int t, .tuple (ds.map .int)]) := ⟨by show 3 ≤ 100000; decide, fun e he => by
  rcases List.mem_cons.mp he with z | z
  · rw [z]; exact trivial
  · rcases List.mem_cons.mp z with z | z
    · rw [z]; exact trivial
    · rw [List.mem_singleton.mp z]; exact lv_intsT _ l⟩
theorem lv_lot {n : Nat} {L : List Nat} (l : L.length ≤ 100000) : Lv (n + 2) (.tuple ((L.map fun (i : Nat) => (i : Int)).map .int)) := lv_intsT _ (by rw [List.length_map]; exact l)
end Sh

namespace Sh
open PySem PySem.Spec PyProof.Rows L2
/-! ### texts of data: no longer than so much -/
structure Fit (n m : Nat) (d : PyData) : Prop where
  len : d.shown.length ≤ n
  sh : d.showable = true
  lay : d.canLay0 = true
  dp : d.depth ≤ m
structure FitAll (n m : Nat) (ds : List PyData) : Prop where
  len : ((PyData.shownAll ds).map (·.length)).sum + 2 * ds.length ≤ n
  sh : PyData.showableAll ds = true
  lay : PyData.canLayAll0 ds = true
  dp : PyData.depthAll ds ≤ m
theorem shownAll_len : ∀ ds : List PyData, (PyData.shownAll ds).length = ds.length
  | [] => rfl
  | d :: ds => by
    show (PyData.shown d :: PyData.shownAll ds).length = _
    rw [List.length_cons, List.length_cons, shownAll_len ds]
theorem Fit.mono {n m n' m' : Nat} {d : PyData} (f : Fit n m d) (h : n ≤ n') (h' : m ≤ m') : Fit n' m' d := ⟨Nat.le_trans f.len h, f.sh, f.lay, Nat.le_trans f.dp h'⟩
theorem FitAll.mono {n m n' m' : Nat} {ds : List PyData} (f : FitAll n m ds) (h : n ≤ n') (h' : m ≤ m') : FitAll n' m' ds := ⟨Nat.le_trans f.len h, f.sh, f.lay, Nat.le_trans f.dp h'⟩
theorem fit_int {i : Int} (h : i.natAbs < 10 ^ 14) : Fit 15 0 (.int i) := by
  refine ⟨?_, ?_, rfl, Nat.le_refl 0⟩
  · show (Str.ofString (toString i)).length ≤ 15
    rw [PySem.ofString_length]
    exact int_text_length_le10 (k := 14) (by decide) h
  · show decide (i.natAbs.log2 < 1920) = true
    refine decide_eq_true ?_
    by_cases z : i.natAbs = 0
    · rw [z]
      decide
    · exact (Nat.log2_lt z).mpr (Nat.lt_trans h (by decide +kernel))
theorem FitAll.nil (m : Nat) : FitAll 0 m [] := ⟨Nat.le_refl 0, rfl, rfl, Nat.zero_le m⟩
theorem FitAll.cons {a b m : Nat} {d : PyData} {ds : List PyData} (f : Fit a m d) (g : FitAll b m ds) : FitAll (a + 2 + b) m (d :: ds) := by
  refine ⟨?_, ?_, ?_, ?_⟩
  · show ((PyData.shown d :: PyData.shownAll ds).map (·.length)).sum + 2 * (d :: ds).length ≤ _
    rw [List.map_cons, List.sum_cons, List.length_cons]
    have := f.len
    have := g.len
    omega
  · show (PyData.showable d && PyData.showableAll ds) = true
    rw [f.sh, g.sh]
    rfl
  · show (PyData.canLay0 d && PyData.canLayAll0 ds) = true
    rw [f.lay, g.lay]
    rfl
  · show max (PyData.depth d) (PyData.depthAll ds) ≤ m
    exact Nat.max_le.mpr ⟨f.dp, g.dp⟩
theorem FitAll.ints : ∀ {ns : List Int}, (∀ i ∈ ns, i.natAbs < 10 ^ 14) → FitAll (17 * ns.length) 0 (ns.map .int)
  | [], _ => FitAll.nil 0
  | i :: ns, h => by
    have g := FitAll.ints (ns := ns) fun j hj => h j (List.mem_cons_of_mem _ hj)
    have f := fit_int (h i List.mem_cons_self)
    refine (FitAll.cons f g).mono ?_ (Nat.le_refl 0)
    rw [List.length_cons]
    omega
theorem Fit.list {n m : Nat} {ds : List PyData} (f : FitAll n m ds) : Fit (n + 3) (m + 1) (.list ds) := by
  refine ⟨?_, f.sh, f.lay, ?_⟩
  · show (listText (PyData.shownAll ds)).length ≤ _
    have a := listText_len_le (PyData.shownAll ds)
    rw [shownAll_len] at a
    have := f.len
    omega
  · show PyData.depthAll ds + 1 ≤ m + 1
    exact Nat.succ_le_succ f.dp
theorem Fit.tup {n m : Nat} {ds : List PyData} (f : FitAll n m ds) : Fit (n + 3) (m + 1) (.tuple ds) := by
  refine ⟨?_, f.sh, f.lay, ?_⟩
  · show (tupleText (PyData.shownAll ds)).length ≤ _
    have a := tupleText_len_le (PyData.shownAll ds)
    rw [shownAll_len] at a
    have := f.len
    omega
  · show PyData.depthAll ds + 1 ≤ m + 1
    exact Nat.succ_le_succ f.dp
theorem Fit.shaped {n m : Nat} {d : PyData} (f : Fit n m d) (h : m ≤ 64) : SeqAt.shaped d = true := by
  unfold SeqAt.shaped
  rw [f.lay, decide_eq_true (Nat.le_trans f.dp h)]
  rfl
theorem Fit.sz {n m : Nat} {d : PyData} (f : Fit n m d) (h : n ≤ 1000000) : d.shown.length ≤ sizeLine := by
  rw [sizeLine_eq]
  have := f.len
  omega
/-- a sea, a standing -/
theorem fit_lot {L : List Nat} (c : L.length ≤ 100) (h : ∀ i ∈ L, i < 100000) : FitAll 1700 0 ((L.map fun (i : Nat) => (i : Int)).map .int) := by
  refine (FitAll.ints fun i hi => ?_).mono (by rw [List.length_map]; omega) (Nat.le_refl 0)
  obtain ⟨j, hj, rfl⟩ := List.mem_map.mp hi
  have := h j hj
  show ((j : Int)).natAbs < 100000000000000
  omega
theorem fit_sea {h t : Int} {ds : List Int} {m : Nat} (so : SeaOk m h t ds) (c : m ≤ 100) : Fit 2000 2 (.tuple [.int h, .int t, .tuple (ds.map .int)]) := by
  have f : FitAll 1700 0 (ds.map .int) := by
    refine (FitAll.ints fun i hi => ?_).mono (by have := so.l1; omega) (Nat.le_refl 0)
    have := so.d0 i hi
    show i.natAbs < 100000000000000
    omega
  have fh : h.natAbs < 10 ^ 14 := by
    have := so.h0
    have := so.h1
    show h.natAbs < 100000000000000
    omega
  have ft : t.natAbs < 10 ^ 14 := by
    have := so.t0
    have := so.t1
    show t.natAbs < 100000000000000
    omega
  exact (Fit.tup (.cons ((fit_int fh).mono (Nat.le_refl _) (Nat.zero_le 1)) (.cons ((fit_int ft).mono (Nat.le_refl _) (Nat.zero_le 1)) (.cons (Fit.tup f) (.nil 1))))).mono (by omega) (Nat.le_refl 2)
end Sh

namespace Sh
open PySem PySem.Spec PyProof.Rows L2
/-! ### the program: kinds of things, of any data -/
def isNumD : PyData → Bool
  | .int i => decide (0 ≤ i)
  | _ => false
def isTupD (n : Nat) : PyData → Bool
  | .tuple ds => decide (ds.length = n)
  | _ => false
def spIsNum (K : PySem.W.Frag) : Sp := fun vs H Q _ => ∃ (v : V) (d : PyData), vs = [v] ∧ Dp K H v d ∧ Q (.bl (isNumD d)) H
def spIsTup (K : PySem.W.Frag) : Sp := fun vs H Q _ => ∃ (v : V) (d : PyData) (n : Nat), vs = [v, .int (n : Int)] ∧ Dp K H v d ∧ Q (.bl (isTupD n d)) H
theorem dec_int (a b : Nat) : decide (V.int (a : Int) = V.int (b : Int)) = decide (a = b) := by
  by_cases z : a = b
  · rw [z, decide_eq_true rfl, decide_eq_true rfl]
  · rw [decide_eq_false z, decide_eq_false fun e => z (by have := V.int.inj e; omega)]
abbrev s_is_number : Stmt := topS 1
theorem sc_is_number : FnScope (["thing"] : List Str) (["thing"] : List Str) (defScope s_is_number) := ⟨rfl, rfl, rfl, by decide +kernel, rfl, by decide +kernel, by decide +kernel⟩
theorem b_is_number (kV doc pm : Value) (an : Option Addr) (cdv ct : Value) (us : List Value) (hl : us.length = (["thing"] : List Str).length) : bindArgs (PySem.W.fnOf "is_number" "is_number" (defArgs s_is_number) (defBody s_is_number) (defScope s_is_number) .none kV doc pm an cdv ct) ⟨us, []⟩ = pure ((["thing"] : List Str).zip us) :=
  match us, hl with | [_], _ => rfl
abbrev s_is_tuple_of : Stmt := topS 2
theorem sc_is_tuple_of : FnScope (["thing", "many"] : List Str) (["thing", "many"] : List Str) (defScope s_is_tuple_of) := ⟨rfl, rfl, rfl, by decide +kernel, rfl, by decide +kernel, by decide +kernel⟩
theorem b_is_tuple_of (kV doc pm : Value) (an : Option Addr) (cdv ct : Value) (us : List Value) (hl : us.length = (["thing", "many"] : List Str).length) : bindArgs (PySem.W.fnOf "is_tuple_of" "is_tuple_of" (defArgs s_is_tuple_of) (defBody s_is_tuple_of) (defScope s_is_tuple_of) .none kV doc pm an cdv ct) ⟨us, []⟩ = pure ((["thing", "many"] : List Str).zip us) :=
  match us, hl with | [_, _], _ => rfl
section
variable {P : Program} {w : World} {K : PySem.W.Frag} {mg : Str → Option Value} {base : Heap}
theorem ok_is_number {k : Nat} (D : Df K mg "is_number" s_is_number) (T : Bt mg) : Ok P w K mg base (k + 1) "is_number" s_is_number ["thing"] (spIsNum K) := by
  refine D.ok sc_is_number b_is_number (fun vs H Q E h => ?_) (fun f cdv A outer s H vs Q E hr h => ?_)
  · obtain ⟨v, d, rfl, _⟩ := h
    rfl
  · obtain ⟨v, d, rfl, hv, q⟩ := h
    refine ⟨_, (pss_one (ps_ret (pe_and (pe_callB call_isi (by rfl) T.isinstance_ (by decide +kernel) (pa_cons (pv 0) (pa_cons (pe_bltn (v := .ty "int") (by rfl) T.int_ (by decide +kernel) rfl) pa_nil))) (pe_and (pe_not (pe_callB call_isi (by rfl) T.isinstance_ (by decide +kernel) (pa_cons (pv 0) (pa_cons (pe_bltn (v := .ty "bool") (by rfl) T.bool_ (by decide +kernel) rfl) pa_nil)))) (pe_one (pe_cmpR op_ge (pv 0) pe_int (nomark _))))))), ?_⟩
    have ht := ty_of hv
    cases hv with
    | non => exact ⟨_, rfl, _, .ty "int", .type "NoneType", .type "int", false, rfl, .ty _, ht, kit_ty (by decide +kernel), _, rfl, q⟩
    | bl b =>
      refine ⟨_, rfl, _, .ty "int", .type "bool", .type "int", true, rfl, .ty _, ht, kit_ty (by decide +kernel), _, rfl, ?_⟩
      refine ⟨_, rfl, _, .ty "bool", .type "bool", .type "bool", true, rfl, .ty _, ht, kit_ty (by decide +kernel), _, rfl, _, rfl, ?_⟩
      exact q
    | int i =>
      refine ⟨_, rfl, _, .ty "int", .type "int", .type "int", true, rfl, .ty _, ht, kit_ty (by decide +kernel), _, rfl, ?_⟩
      refine ⟨_, rfl, _, .ty "bool", .type "int", .type "bool", false, rfl, .ty _, ht, kit_ty (by decide +kernel), _, rfl, _, rfl, ?_⟩
      exact ⟨_, rfl, i, 0, rfl, rfl, q⟩
    | str x => exact ⟨_, rfl, _, .ty "int", .type "str", .type "int", false, rfl, .ty _, ht, kit_ty (by decide +kernel), _, rfl, q⟩
    | lst h a => exact ⟨_, rfl, _, .ty "int", .type "list", .type "int", false, rfl, .ty _, ht, kit_ty (by decide +kernel), _, rfl, q⟩
    | tup h a => exact ⟨_, rfl, _, .ty "int", .type "tuple", .type "int", false, rfl, .ty _, ht, kit_ty (by decide +kernel), _, rfl, q⟩
theorem ok_is_tuple {k : Nat} (D : Df K mg "is_tuple_of" s_is_tuple_of) (T : Bt mg) : Ok P w K mg base (k + 1) "is_tuple_of" s_is_tuple_of ["thing", "many"] (spIsTup K) := by
  refine D.ok sc_is_tuple_of b_is_tuple_of (fun vs H Q E h => ?_) (fun f cdv A outer s H vs Q E hr h => ?_)
  · obtain ⟨v, d, n, rfl, _⟩ := h
    rfl
  · obtain ⟨v, d, n, rfl, hv, q⟩ := h
    refine ⟨_, (pss_one (ps_ret (pe_and (pe_callB call_isi (by rfl) T.isinstance_ (by decide +kernel) (pa_cons (pv 0) (pa_cons (pe_bltn (v := .ty "tuple") (by rfl) T.tuple_ (by decide +kernel) rfl) pa_nil))) (pe_one (pe_cmpR op_eq (pe_callB call_len_seq (by rfl) T.len_ PySem.boot_len (pa_cons (pv 0) pa_nil)) (pv 1) (nomark _)))))), ?_⟩
    have ht := ty_of hv
    cases hv with
    | non => exact ⟨_, rfl, _, .ty "tuple", .type "NoneType", .type "tuple", false, rfl, .ty _, ht, kit_ty (by decide +kernel), _, rfl, q⟩
    | bl b => exact ⟨_, rfl, _, .ty "tuple", .type "bool", .type "tuple", false, rfl, .ty _, ht, kit_ty (by decide +kernel), _, rfl, q⟩
    | int i => exact ⟨_, rfl, _, .ty "tuple", .type "int", .type "tuple", false, rfl, .ty _, ht, kit_ty (by decide +kernel), _, rfl, q⟩
    | str x => exact ⟨_, rfl, _, .ty "tuple", .type "str", .type "tuple", false, rfl, .ty _, ht, kit_ty (by decide +kernel), _, rfl, q⟩
    | lst h a => exact ⟨_, rfl, _, .ty "tuple", .type "list", .type "tuple", false, rfl, .ty _, ht, kit_ty (by decide +kernel), _, rfl, q⟩
    | tup h a =>
      refine ⟨_, rfl, _, .ty "tuple", .type "tuple", .type "tuple", true, rfl, .ty _, ht, kit_ty (by decide +kernel), _, rfl, ?_⟩
      refine ⟨_, rfl, _, _, rfl, .inr h, _, rfl, rfl, ?_⟩
      have l := DpAll.len a
      rw [dec_int, l]
      exact q
end
end Sh

namespace Sh
open PySem PySem.Spec PyProof.Rows L2
/-! ### rising numbers, seas, places, standings: of any data -/
def risesAt (ns : List Int) (i : Nat) : Bool := decide (ns.getD i 0 < ns.getD (i + 1) 0)
theorem getD_ix {ns : List Int} {i : Nat} (h : i < ns.length) : ns.getD i 0 = ns[i] := by
  rw [List.getD_eq_getElem?_getD, List.getElem?_eq_getElem h]
  rfl
theorem rises_lt {ns : List Int} {i : Nat} (h : i + 1 < ns.length) : risesAt ns i = decide (ns[i] < ns[i + 1]) := by
  unfold risesAt
  rw [getD_ix h, getD_ix (Nat.lt_of_succ_lt h)]
theorem rises_step : ∀ (ns : List Int), (∀ i, i + 1 < ns.length → risesAt ns i = true) ↔ ns.Pairwise (· < ·)
  | [] => ⟨fun _ => List.Pairwise.nil, fun _ i hi => absurd hi (Nat.not_lt_zero _)⟩
  | [a] => ⟨fun _ => List.pairwise_singleton _ _, fun _ i hi => by simp at hi⟩
  | a :: b :: ns => by
    have ih := rises_step (b :: ns)
    constructor
    · intro h
      have h2 : (b :: ns).Pairwise (· < ·) := ih.mp fun i hi => h (i + 1) (by simpa using hi)
      refine List.pairwise_cons.mpr ⟨fun x hx => ?_, h2⟩
      have ab : a < b := of_decide_eq_true (h 0 (by simp))
      rcases List.mem_cons.mp hx with z | z
      · rw [z]; exact ab
      · exact Int.lt_trans ab ((List.pairwise_cons.mp h2).1 x z)
    · intro h i hi
      obtain ⟨h1, h2⟩ := List.pairwise_cons.mp h
      cases i with
      | zero => exact decide_eq_true (h1 b List.mem_cons_self)
      | succ i => exact ih.mpr h2 i (by simpa using hi)
def risingB (ns : List Int) : Bool := decide (ns.Pairwise (· < ·))
theorem rises_all {ns : List Int} : ((List.range (ns.length - 1)).map (risesAt ns)).all id = risingB ns := by
  unfold risingB
  rw [Bool.eq_iff_iff, List.all_eq_true, decide_eq_true_eq, ← rises_step]
  constructor
  · intro h i hi
    exact h _ (List.mem_map.mpr ⟨i, List.mem_range.mpr (by omega), rfl⟩)
  · intro h x hx
    obtain ⟨i, hi, rfl⟩ := List.mem_map.mp hx
    exact h i (by have := List.mem_range.mp hi; omega)
theorem cut_one (ns : List Int) : cutV (ns.map V.int) (some 1) none = (ns.drop 1).map V.int := by
  unfold cutV
  rw [HT.sIx_none, show (1 : Int) = ((1 : Nat) : Int) from rfl, HT.sIx_nat, List.length_map]
  by_cases c : 1 ≤ ns.length
  · rw [Nat.min_eq_left c, List.map_drop, List.take_of_length_le]
    rw [List.length_drop, List.length_map]
    exact Nat.le_refl _
  · have e : ns = [] := List.length_eq_zero_iff.mp (by omega)
    subst e
    rfl
def spRising (K : PySem.W.Frag) : Sp := fun vs H Q _ => ∃ (p : Addr) (ns : List Int), vs = [.ref p] ∧ SqA K H p (ns.map V.int) ∧ ns.length ≤ 100000 ∧ ∀ H' : Hp, Same H H' → Q (.bl (risingB ns)) H'
abbrev s_are_rising : Stmt := topS 3
theorem sc_are_rising : FnScope (["numbers", "low", "high"] : List Str) (["numbers"] : List Str) (defScope s_are_rising) := ⟨rfl, rfl, rfl, by decide +kernel, rfl, by decide +kernel, by decide +kernel⟩
theorem b_are_rising (kV doc pm : Value) (an : Option Addr) (cdv ct : Value) (us : List Value) (hl : us.length = (["numbers"] : List Str).length) : bindArgs (PySem.W.fnOf "are_rising" "are_rising" (defArgs s_are_rising) (defBody s_are_rising) (defScope s_are_rising) .none kV doc pm an cdv ct) ⟨us, []⟩ = pure ((["numbers"] : List Str).zip us) :=
  match us, hl with | [_], _ => rfl
section
variable {P : Program} {w : World} {K : PySem.W.Frag} {mg : Str → Option Value} {base : Heap}
set_option maxHeartbeats 4000000 in
theorem ok_rising {k : Nat} (D : Df K mg "are_rising" s_are_rising) (T : Bt mg) : Ok P w K mg base (k + 1) "are_rising" s_are_rising ["numbers"] (spRising K) := by
  refine D.ok sc_are_rising b_are_rising (fun vs H Q E h => ?_) (fun f cdv A outer s H vs Q E hr h => ?_)
  · obtain ⟨p, ns, rfl, _⟩ := h
    rfl
  · obtain ⟨p, ns, rfl, hp, l0, q⟩ := h
    refine ⟨_, (pss_one (ps_ret (pe_callB (cr_all rfl) (by rfl) T.all_ (by decide +kernel) (pa_cons (pe_lc (own := [("low", 1), ("high", 2)]) (g := (gSeq K 2 (gCons (gName 1) (gCons (gName 2) gNil)))) (tt := tYes) (by rfl) sc_are_rising.nd (RZ.pi_zipA (by rfl) T.zip_ (pa_cons (pv 0) (pa_cons (pe_slice (SlR.or sl_list sl_tupA) (pv 0) (po_some pe_int) po_none) pa_nil))) (blkOk_by (own := [("low", 1), ("high", 2)]) (N := (["numbers", "low", "high"] : List Str)) (sc := defScope s_are_rising) (by decide +kernel)) (fun _ _ _ _ _ => (pg_seq rfl (pgs_cons (pg_name (i := 1) sc_are_rising.nd rfl (.inl rfl)) (pgs_cons (pg_name (i := 2) sc_are_rising.nd rfl (.inl rfl)) pgs_nil)))) (fun _ _ _ _ _ => pts_nil) (fun _ _ _ _ _ => (pe_cmpR op_lt (pv 1) (pv 2) (nomark _)))) pa_nil)))), ?_⟩
    rcases hp with hp | hp
    · refine ⟨_, rfl, _, rfl, 1, rfl, .inl ⟨p, _, rfl, hp, fun b nb => ?_⟩⟩
      rw [cut_one]
      have s1 : Same H (upd H b (.lst ((ns.drop 1).map V.int))) := same_new nb
      have e1 : upd H b (.lst ((ns.drop 1).map V.int)) b = some (.lst ((ns.drop 1).map V.int)) := upd_same
      generalize upd H b (.lst ((ns.drop 1).map V.int)) = H1 at s1 e1
      replace hp := s1.seq hp
      refine ⟨p, b, _, _, rfl, .inl ⟨hp, SqL.of e1, fun C nC => ?_⟩⟩
      refine lc_it (walk_zip (n := ns.length - 1) (by rw [List.length_map, List.length_map, List.length_drop]; omega)) (fun i H' => Same H1 H' ∧ H' C = some (.lst (((List.range i).map (risesAt ns)).map V.bl))) ⟨same_new nC, upd_same⟩ (fun i H' _ p => ⟨p.1.seq hp, SqL.of (p.1 _ _ e1)⟩) ?_ ?_
      · rintro i z H2 H3 hi ⟨sm, hC⟩ ⟨t, u, v, rfl, nt, rfl, gu, gv⟩
        obtain ⟨a1, rfl⟩ : ∃ a1, u = .int ns[i] := ⟨0, by
          have g3 : (ns.map V.int)[i]? = some (.int ns[i]) := by rw [List.getElem?_map, List.getElem?_eq_getElem (by omega)]; rfl
          exact Option.some.inj (gu.symm.trans g3)⟩
        obtain ⟨a2, rfl⟩ : ∃ a2, v = .int ns[i + 1] := ⟨0, by
          have g3 : ((ns.drop 1).map V.int)[i]? = some (.int ns[i + 1]) := by
            rw [List.getElem?_map, List.getElem?_drop, Nat.add_comm 1 i, List.getElem?_eq_getElem (by omega)]
            rfl
          exact Option.some.inj (gv.symm.trans g3)⟩
        have sm2 : Same H1 (upd H2 t (.tup [.int ns[i], .int ns[i + 1]])) := sm.trans (same_new nt)
        have hC2 : upd H2 t (.tup [.int ns[i], .int ns[i + 1]]) C = _ := same_new nt _ _ hC
        refine ⟨t, _, rfl, SqA.t upd_same, rfl, _, _, rfl, _, _, rfl, rfl, rfl, tyes (iteT ?_)⟩
        refine ⟨_, rfl, _, rfl, _, _, rfl, rfl, _, hC2, ?_, same_over sm2 nC, ?_⟩
        · rw [List.length_map, List.length_map, List.length_range]
          exact Nat.lt_of_lt_of_le (show i < 100000 by omega) (by decide)
        · rw [upd_same, List.range_succ, List.map_append, List.map_append]
          show _ = some (HO.lst (_ ++ [V.bl (risesAt ns i)]))
          rw [rises_lt (by omega)]
      · rintro H2 ⟨sm, hC⟩
        refine ⟨C, _, rfl, SqL.of hC, ?_⟩
        rw [rises_all]
        exact q _ (s1.trans sm)
    · refine ⟨_, rfl, _, rfl, 1, rfl, .inr ⟨p, _, rfl, hp, fun whole => ?_, fun _ b nb => ?_⟩⟩
      · have e : ns = [] := by
          have := whole.1
          rw [show (some (1 : Int)) = some ((1 : Nat) : Int) from rfl, HT.sIx_nat, List.length_map] at this
          exact List.length_eq_zero_iff.mp (by omega)
        subst e
        refine ⟨p, p, _, _, rfl, .inr ⟨hp, hp, fun C nC => ?_⟩⟩
        refine lc_it (walk_zipT (n := 0) rfl) (fun i H' => Same H H' ∧ H' C = some (.lst [])) ⟨same_new nC, upd_same⟩ (fun i H' _ p => ⟨Same.tup p.1 hp, Same.tup p.1 hp⟩) ?_ ?_
        · intro i z H2 H3 hi
          exact absurd hi (Nat.not_lt_zero _)
        · rintro H2 ⟨sm, hC⟩
          refine ⟨C, [], rfl, SqL.of hC, ?_⟩
          exact q _ sm
      rw [cut_one]
      have s1 : Same H (upd H b (.tup ((ns.drop 1).map V.int))) := same_new nb
      have e1 : upd H b (.tup ((ns.drop 1).map V.int)) b = some (.tup ((ns.drop 1).map V.int)) := upd_same
      generalize upd H b (.tup ((ns.drop 1).map V.int)) = H1 at s1 e1
      replace hp := Same.tup s1 hp
      refine ⟨p, b, _, _, rfl, .inr ⟨hp, SqT.of e1, fun C nC => ?_⟩⟩
      refine lc_it (walk_zipT (n := ns.length - 1) (by rw [List.length_map, List.length_map, List.length_drop]; omega)) (fun i H' => Same H1 H' ∧ H' C = some (.lst (((List.range i).map (risesAt ns)).map V.bl))) ⟨same_new nC, upd_same⟩ (fun i H' _ p => ⟨Same.tup p.1 hp, SqT.of (p.1 _ _ e1)⟩) ?_ ?_
      · rintro i z H2 H3 hi ⟨sm, hC⟩ ⟨t, u, v, rfl, nt, rfl, gu, gv⟩
        obtain ⟨a1, rfl⟩ : ∃ a1, u = .int ns[i] := ⟨0, by
          have g3 : (ns.map V.int)[i]? = some (.int ns[i]) := by rw [List.getElem?_map, List.getElem?_eq_getElem (by omega)]; rfl
          exact Option.some.inj (gu.symm.trans g3)⟩
        obtain ⟨a2, rfl⟩ : ∃ a2, v = .int ns[i + 1] := ⟨0, by
          have g3 : ((ns.drop 1).map V.int)[i]? = some (.int ns[i + 1]) := by
            rw [List.getElem?_map, List.getElem?_drop, Nat.add_comm 1 i, List.getElem?_eq_getElem (by omega)]
            rfl
          exact Option.some.inj (gv.symm.trans g3)⟩
        have sm2 : Same H1 (upd H2 t (.tup [.int ns[i], .int ns[i + 1]])) := sm.trans (same_new nt)
        have hC2 : upd H2 t (.tup [.int ns[i], .int ns[i + 1]]) C = _ := same_new nt _ _ hC
        refine ⟨t, _, rfl, SqA.t upd_same, rfl, _, _, rfl, _, _, rfl, rfl, rfl, tyes (iteT ?_)⟩
        refine ⟨_, rfl, _, rfl, _, _, rfl, rfl, _, hC2, ?_, same_over sm2 nC, ?_⟩
        · rw [List.length_map, List.length_map, List.length_range]
          exact Nat.lt_of_lt_of_le (show i < 100000 by omega) (by decide)
        · rw [upd_same, List.range_succ, List.map_append, List.map_append]
          show _ = some (HO.lst (_ ++ [V.bl (risesAt ns i)]))
          rw [rises_lt (by omega)]
      · rintro H2 ⟨sm, hC⟩
        refine ⟨C, _, rfl, SqL.of hC, ?_⟩
        rw [rises_all]
        exact q _ (s1.trans sm)
end
end Sh

namespace Sh
open PySem PySem.Spec PyProof.Rows L2
/-! ### places, seas, standings: of any data -/
def isPlD (c : Nat) : PyData → Bool
  | .int i => decide (0 ≤ i) && decide (i < (c : Int))
  | _ => false
def isTuD : PyData → Bool
  | .tuple _ => true
  | _ => false
def drD : PyData → Bool
  | .tuple ds => decide (0 < ds.length) && ds.all isNumD
  | _ => false
def isSea3 : List PyData → Bool
  | [a, b, c] => isNumD a && (isNumD b && (isTuD c && drD c))
  | _ => false
def isSeaD : PyData → Bool
  | .tuple ds => isSea3 ds
  | _ => false
def intD : PyData → Int
  | .int i => i
  | _ => 0
def isStD (c : Nat) : PyData → Bool
  | .tuple ds => ds.all (isPlD c) && risingB (ds.map intD)
  | _ => false
theorem dp_num {K : PySem.W.Frag} {H : Hp} {v : V} {d : PyData} (h : Dp K H v d) (n : isNumD d = true) : ∃ i : Int, v = .int i ∧ d = .int i ∧ 0 ≤ i := by
  cases h with
  | int i => exact ⟨i, rfl, rfl, of_decide_eq_true n⟩
  | _ => cases n
theorem pl_num {c : Nat} {d : PyData} (n : isNumD d = false) : isPlD c d = false := by
  cases d with
  | int i =>
    show (decide (0 ≤ i) && _) = false
    rw [show decide (0 ≤ i) = false from n, Bool.false_and]
  | _ => rfl
theorem dps_ints {K : PySem.W.Frag} {H : Hp} {c : Nat} : ∀ {vs : List V} {ds : List PyData}, DpAll K H vs ds → ds.all (isPlD c) = true → vs = (ds.map intD).map V.int
  | _, _, .nil, _ => rfl
  | _, _, .cons x a, h => by
    rw [List.all_cons, Bool.and_eq_true] at h
    have ih := dps_ints a h.2
    cases x with
    | int i => rw [List.map_cons, List.map_cons, ← ih]; rfl
    | _ => cases h.1
theorem three_of {α : Type} {l : List α} (h : l.length = 3) : ∃ a b c, l = [a, b, c] := by
  match l, h with
  | [a, b, c], _ => exact ⟨a, b, c, rfl⟩
theorem sea_tup {d : PyData} (n : isTupD 3 d = false) : isSeaD d = false := by
  cases d with
  | tuple ds =>
    have h : ds.length ≠ 3 := of_decide_eq_false n
    show isSea3 ds = false
    match ds, h with
    | [], _ => rfl
    | [_], _ => rfl
    | [_, _], _ => rfl
    | [_, _, _], h => exact absurd rfl h
    | _ :: _ :: _ :: _ :: _, _ => rfl
  | _ => rfl
theorem dp_three {K : PySem.W.Frag} {H : Hp} {v : V} {d : PyData} (h : Dp K H v d) (n : isTupD 3 d = true) : ∃ (p : Addr) (x y z : V) (a b c : PyData), v = .ref p ∧ d = .tuple [a, b, c] ∧ SqT K H p [x, y, z] ∧ Dp K H x a ∧ Dp K H y b ∧ Dp K H z c := by
  cases h with
  | tup h all =>
    rename_i p xs ds
    have l : ds.length = 3 := of_decide_eq_true n
    obtain ⟨a, b, c, rfl⟩ := three_of l
    cases all with
    | cons x all =>
      cases all with
      | cons y all =>
        cases all with
        | cons z all =>
          cases all
          exact ⟨p, _, _, _, a, b, c, rfl, rfl, h, x, y, z⟩
  | non => cases n
  | bl b => cases n
  | int i => cases n
  | str x => cases n
  | lst h a => cases n
theorem dp_tup {K : PySem.W.Frag} {H : Hp} {v : V} {d : PyData} (h : Dp K H v d) (n : isTuD d = true) : ∃ (p : Addr) (xs : List V) (ds : List PyData), v = .ref p ∧ d = .tuple ds ∧ SqT K H p xs ∧ DpAll K H xs ds := by
  cases h with
  | tup h all => exact ⟨_, _, _, rfl, rfl, h, all⟩
  | _ => cases n
theorem kit_tup {d : PyData} : kitB (tyS d) "tuple" = some (isTuD d) := by
  cases d with
  | none => exact (by decide +kernel : kitB "NoneType" "tuple" = some false)
  | bool b => exact (by decide +kernel : kitB "bool" "tuple" = some false)
  | int i => exact (by decide +kernel : kitB "int" "tuple" = some false)
  | str s => exact (by decide +kernel : kitB "str" "tuple" = some false)
  | list xs => exact (by decide +kernel : kitB "list" "tuple" = some false)
  | tuple xs => exact (by decide +kernel : kitB "tuple" "tuple" = some true)
  | dict kvs => exact (by decide +kernel : kitB "dict" "tuple" = some false)
theorem sea_three (a b c : PyData) : isSeaD (.tuple [a, b, c]) = (isNumD a && (isNumD b && (isTuD c && drD c))) := rfl
def spIsPlace (K : PySem.W.Frag) : Sp := fun vs H Q _ => ∃ (v z : V) (h t : Int) (ds : List Int) (d : PyData), vs = [v, z] ∧ SeaA K H v h t ds ∧ Dp K H z d ∧ Q (.bl (isPlD ds.length d)) H
def spIsSea (K : PySem.W.Frag) : Sp := fun vs H Q _ => ∃ (n : Nat) (v : V) (d : PyData), vs = [v] ∧ Dp K H v d ∧ Lv n d ∧ ∀ H', Same H H' → Q (.bl (isSeaD d)) H'
def spIsStand (K : PySem.W.Frag) : Sp := fun vs H Q _ => ∃ (n : Nat) (v z : V) (h t : Int) (ds : List Int) (d : PyData), vs = [v, z] ∧ SeaA K H v h t ds ∧ Dp K H z d ∧ Lv n d ∧ ∀ H', Same H H' → Q (.bl (isStD ds.length d)) H'
abbrev s_is_place : Stmt := topS 6
theorem sc_is_place : FnScope (["sea", "thing"] : List Str) (["sea", "thing"] : List Str) (defScope s_is_place) := ⟨rfl, rfl, rfl, by decide +kernel, rfl, by decide +kernel, by decide +kernel⟩
theorem b_is_place (kV doc pm : Value) (an : Option Addr) (cdv ct : Value) (us : List Value) (hl : us.length = (["sea", "thing"] : List Str).length) : bindArgs (PySem.W.fnOf "is_place" "is_place" (defArgs s_is_place) (defBody s_is_place) (defScope s_is_place) .none kV doc pm an cdv ct) ⟨us, []⟩ = pure ((["sea", "thing"] : List Str).zip us) :=
  match us, hl with | [_, _], _ => rfl
abbrev s_is_sea : Stmt := topS 5
theorem sc_is_sea : FnScope (["thing", "here", "there", "draughts", "draught"] : List Str) (["thing"] : List Str) (defScope s_is_sea) := ⟨rfl, rfl, rfl, by decide +kernel, rfl, by decide +kernel, by decide +kernel⟩
theorem b_is_sea (kV doc pm : Value) (an : Option Addr) (cdv ct : Value) (us : List Value) (hl : us.length = (["thing"] : List Str).length) : bindArgs (PySem.W.fnOf "is_sea" "is_sea" (defArgs s_is_sea) (defBody s_is_sea) (defScope s_is_sea) .none kV doc pm an cdv ct) ⟨us, []⟩ = pure ((["thing"] : List Str).zip us) :=
  match us, hl with | [_], _ => rfl
abbrev s_is_standing : Stmt := topS 7
theorem sc_is_standing : FnScope (["sea", "thing", "ship"] : List Str) (["sea", "thing"] : List Str) (defScope s_is_standing) := ⟨rfl, rfl, rfl, by decide +kernel, rfl, by decide +kernel, by decide +kernel⟩
theorem b_is_standing (kV doc pm : Value) (an : Option Addr) (cdv ct : Value) (us : List Value) (hl : us.length = (["sea", "thing"] : List Str).length) : bindArgs (PySem.W.fnOf "is_standing" "is_standing" (defArgs s_is_standing) (defBody s_is_standing) (defScope s_is_standing) .none kV doc pm an cdv ct) ⟨us, []⟩ = pure ((["sea", "thing"] : List Str).zip us) :=
  match us, hl with | [_, _], _ => rfl
section
variable {P : Program} {w : World} {K : PySem.W.Frag} {mg : Str → Option Value} {base : Heap}
theorem ok_is_place {k : Nat} (D : Df K mg "is_place" s_is_place) (T : Bt mg) (O_is_number : Ok P w K mg base k "is_number" s_is_number ["thing"] (spIsNum K)) : Ok P w K mg base (k + 1) "is_place" s_is_place ["sea", "thing"] (spIsPlace K) := by
  refine D.ok sc_is_place b_is_place (fun vs H Q E h => ?_) (fun f cdv A outer s H vs Q E hr h => ?_)
  · obtain ⟨v, z, h, t, ds, d, rfl, _⟩ := h
    rfl
  · obtain ⟨v, z, h, t, ds, d, rfl, ⟨p, q', rfl, hp, hq⟩, hz, q⟩ := h
    refine ⟨_, (pss_one (ps_ret (pe_and (pe_fn O_is_number (hr.mono (by omega)) (pa_cons (pv 1) pa_nil)) (pe_one (pe_cmpR op_lt (pv 1) (pe_callB call_len_seq (by rfl) T.len_ PySem.boot_len (pa_cons (pe_ix ix_lt (pv 0) pe_int (fun _ _ => rfl)) pa_nil)) (nomark _)))))), ?_⟩
    refine ⟨_, rfl, z, d, rfl, hz, _, rfl, ?_⟩
    cases e : isNumD d with
    | false =>
      rw [pl_num e] at q
      exact q
    | true =>
      obtain ⟨i, rfl, rfl, i0⟩ := dp_num hz e
      refine ⟨_, rfl, _, rfl, p, _, 2, .ref q', rfl, rfl, hp, rfl, q', _, rfl, hq, _, _, rfl, rfl, ?_⟩
      rw [List.length_map]
      have : isPlD ds.length (.int i) = decide (i < (ds.length : Int)) := by
        show (decide (0 ≤ i) && _) = _
        rw [decide_eq_true i0, Bool.true_and]
      rw [this] at q
      exact q
set_option maxHeartbeats 4000000 in
theorem ok_is_sea {k : Nat} (D : Df K mg "is_sea" s_is_sea) (T : Bt mg) (O_is_number : Ok P w K mg base k "is_number" s_is_number ["thing"] (spIsNum K)) (O_is_tuple_of : Ok P w K mg base k "is_tuple_of" s_is_tuple_of ["thing", "many"] (spIsTup K)) : Ok P w K mg base (k + 1) "is_sea" s_is_sea ["thing"] (spIsSea K) := by
  refine D.ok sc_is_sea b_is_sea (fun vs H Q E h => ?_) (fun f cdv A outer s H vs Q E hr h => ?_)
  · obtain ⟨n, v, d, rfl, _⟩ := h
    rfl
  · obtain ⟨n, v, d, rfl, hv, lv, q⟩ := h
    refine ⟨_, (pss_cons (ps_if (pt_not (pt_val (pe_fn O_is_tuple_of (hr.mono (by omega)) (pa_cons (pv 0) (pa_cons pe_int pa_nil)))))
        (pss_one (ps_ret pe_bl))
        pss_nil)
      (pss_cons (ps_asg (pv 0) (pg_seq rfl (pgs_cons (pg_name (i := 1) sc_is_sea.nd rfl (.inl rfl)) (pgs_cons (pg_name (i := 2) sc_is_sea.nd rfl (.inl rfl)) (pgs_cons (pg_name (i := 3) sc_is_sea.nd rfl (.inl rfl)) pgs_nil)))))
      (pss_cons (ps_if (pt_not (PW.pt (pw_and (pt_val (pe_fn O_is_number (hr.mono (by omega)) (pa_cons (pv 1) pa_nil))) (pw_and (pt_val (pe_fn O_is_number (hr.mono (by omega)) (pa_cons (pv 2) pa_nil))) (pw_and1 (pt_val (pe_callB call_isi (by rfl) T.isinstance_ (by decide +kernel) (pa_cons (pv 3) (pa_cons (pe_bltn (v := .ty "tuple") (by rfl) T.tuple_ (by decide +kernel) rfl) pa_nil)))))))))
        (pss_one (ps_ret pe_bl))
        pss_nil)
      (pss_one (ps_ret (pe_and (pe_cmpR op_gt (pe_callB call_len_seq (by rfl) T.len_ PySem.boot_len (pa_cons (pv 3) pa_nil)) pe_int (nomark _)) (pe_one (pe_callB (cr_all rfl) (by rfl) T.all_ (by decide +kernel) (pa_cons (pe_lc (own := [("draught", 4)]) (g := (gName 4)) (tt := tYes) (by rfl) sc_is_sea.nd (pi_seq (pv 3)) (blkOk_by (own := [("draught", 4)]) (N := (["thing", "here", "there", "draughts", "draught"] : List Str)) (sc := defScope s_is_sea) (by decide +kernel)) (fun _ _ _ _ _ => (pg_name (i := 4) sc_is_sea.nd rfl (.inl rfl))) (fun _ _ _ _ _ => pts_nil) (fun _ _ _ _ _ => (pe_fn O_is_number (hr.mono (by omega)) (pa_cons (pv 4) pa_nil)))) pa_nil))))))))), ?_⟩
    refine ⟨_, rfl, v, d, 3, rfl, hv, _, rfl, ?_⟩
    cases e : isTupD 3 d with
    | false =>
      rw [sea_tup e] at q
      exact iteT (q _ (Same.refl _))
    | true =>
      obtain ⟨p, x, y, z, a, b, c, rfl, rfl, hp, hx, hy, hz⟩ := dp_three hv e
      refine iteF ?_
      rw [sea_three] at q
      refine ⟨_, rfl, p, _, rfl, .inr hp, rfl, _, _, rfl, _, _, rfl, _, _, rfl, rfl, ?_⟩
      refine ⟨_, rfl, x, a, rfl, hx, _, rfl, ?_⟩
      cases ea : isNumD a with
      | false =>
        rw [ea] at q
        exact iteF (iteT (q _ (Same.refl _)))
      | true =>
        rw [ea, Bool.true_and] at q
        refine ⟨_, rfl, y, b, rfl, hy, _, rfl, ?_⟩
        cases eb : isNumD b with
        | false =>
          rw [eb] at q
          exact iteF (iteT (q _ (Same.refl _)))
        | true =>
          rw [eb, Bool.true_and] at q
          refine ⟨_, rfl, z, .ty "tuple", _, .type "tuple", isTuD c, rfl, .ty _, ty_of hz, kit_ty kit_tup, _, rfl, ?_⟩
          cases ec : isTuD c with
          | false =>
            rw [ec] at q
            exact iteT (q _ (Same.refl _))
          | true =>
            rw [ec, Bool.true_and] at q
            obtain ⟨pc, xs, cs, rfl, rfl, hc, al⟩ := dp_tup hz ec
            have lx := DpAll.len al
            have lc : cs.length ≤ 100000 := by
              cases n with
              | zero => exact lv.elim
              | succ n =>
                have := lv.2 _ (show PyData.tuple cs ∈ [a, b, PyData.tuple cs] by simp)
                cases n with
                | zero => exact this.elim
                | succ n => exact this.1
            refine iteF ?_
            have eq : drD (.tuple cs) = (decide (0 < cs.length) && cs.all isNumD) := rfl
            rw [eq] at q
            refine ⟨_, rfl, pc, _, rfl, .inr hc, _, 0, rfl, rfl, _, rfl, ?_⟩
            rw [lx]
            by_cases l0 : 0 < cs.length
            · rw [decide_eq_true l0, Bool.true_and] at q
              have l1 : decide ((cs.length : Int) > 0) = true := decide_eq_true (by omega)
              rw [l1]
              refine iteT ?_
              refine ⟨_, rfl, pc, _, H, rfl, .inr hc, Kp.refl _ _, fun J hJ C nC => ?_⟩
              obtain ⟨G, g, W⟩ := hJ.walk
              refine lc_it W (fun i H' => Same H H' ∧ H' C = some (.lst (((cs.take i).map isNumD).map V.bl))) ⟨same_new nC, upd_same⟩ (fun i H' _ z => g H' (.ofS z.1)) ?_ ?_
              · rintro i x' Ha Hb hi ⟨sm, hC⟩ ⟨rfl, gx⟩
                rw [lx] at hi
                obtain ⟨d, gd, hd⟩ := DpAll.get al gx
                obtain rfl : cs[i] = d := by
                  rw [List.getElem?_eq_getElem hi] at gd
                  exact Option.some.inj gd
                refine ⟨rfl, tyes (iteT ?_)⟩
                refine ⟨_, rfl, x', cs[i], rfl, Dp.same sm hd, _, hC, ?_, same_over sm nC, ?_⟩
                · rw [List.length_map, List.length_map, List.length_take]
                  exact Nat.lt_of_lt_of_le (show min i cs.length < 100000 by omega) (by decide)
                · rw [upd_same, take_succ_get hi, List.map_append, List.map_append]
                  rfl
              · rintro Ha ⟨sm, hC⟩
                rw [lx, List.take_length] at hC
                refine ⟨C, _, rfl, SqL.of hC, ?_⟩
                have : (cs.map isNumD).all id = cs.all isNumD := by rw [List.all_map]; rfl
                rw [this]
                exact q _ sm
            · rw [decide_eq_false l0, Bool.false_and] at q
              have l1 : decide ((cs.length : Int) > 0) = false := decide_eq_false (by omega)
              rw [l1]
              exact iteF (q _ (Same.refl _))
set_option maxHeartbeats 4000000 in
theorem ok_is_stand {k : Nat} (D : Df K mg "is_standing" s_is_standing) (T : Bt mg) (O_is_place : Ok P w K mg base k "is_place" s_is_place ["sea", "thing"] (spIsPlace K)) (O_are_rising : Ok P w K mg base k "are_rising" s_are_rising ["numbers"] (spRising K)) : Ok P w K mg base (k + 1) "is_standing" s_is_standing ["sea", "thing"] (spIsStand K) := by
  refine D.ok sc_is_standing b_is_standing (fun vs H Q E h => ?_) (fun f cdv A outer s H vs Q E hr h => ?_)
  · obtain ⟨n, v, z, h, t, ds, d, rfl, _⟩ := h
    rfl
  · obtain ⟨n, v, z, h, t, ds, d, rfl, hv, hz, lv, q⟩ := h
    refine ⟨_, (pss_cons (ps_if (pt_not (pt_val (pe_callB call_isi (by rfl) T.isinstance_ (by decide +kernel) (pa_cons (pv 1) (pa_cons (pe_bltn (v := .ty "tuple") (by rfl) T.tuple_ (by decide +kernel) rfl) pa_nil)))))
        (pss_one (ps_ret pe_bl))
        pss_nil)
      (pss_one (ps_ret (pe_and (pe_callB (cr_all rfl) (by rfl) T.all_ (by decide +kernel) (pa_cons (pe_lc (own := [("ship", 2)]) (g := (gName 2)) (tt := tYes) (by rfl) sc_is_standing.nd (pi_seq (pv 1)) (blkOk_by (own := [("ship", 2)]) (N := (["sea", "thing", "ship"] : List Str)) (sc := defScope s_is_standing) (by decide +kernel)) (fun _ _ _ _ _ => (pg_name (i := 2) sc_is_standing.nd rfl (.inl rfl))) (fun _ _ _ _ _ => pts_nil) (fun _ _ _ _ _ => (pe_fn O_is_place (hr.mono (by omega)) (pa_cons (pv 0) (pa_cons (pv 2) pa_nil))))) pa_nil)) (pe_one (pe_fn O_are_rising (hr.mono (by omega)) (pa_cons (pv 1) pa_nil))))))), ?_⟩
    refine ⟨_, rfl, z, .ty "tuple", _, .type "tuple", isTuD d, rfl, .ty _, ty_of hz, kit_ty kit_tup, _, rfl, ?_⟩
    cases ec : isTuD d with
    | false =>
      have : isStD ds.length d = false := by cases d <;> first | rfl | cases ec
      rw [this] at q
      exact iteT (q _ (Same.refl _))
    | true =>
      obtain ⟨pc, xs, cs, rfl, rfl, hc, al⟩ := dp_tup hz ec
      have lx := DpAll.len al
      have lc : cs.length ≤ 100000 := by
        cases n with
        | zero => exact lv.elim
        | succ n => exact lv.1
      refine iteF ?_
      refine ⟨_, rfl, pc, _, H, rfl, .inr hc, Kp.refl _ _, fun J hJ C nC => ?_⟩
      obtain ⟨G, g, W⟩ := hJ.walk
      refine lc_it W (fun i H' => Same H H' ∧ H' C = some (.lst (((cs.take i).map (isPlD ds.length)).map V.bl))) ⟨same_new nC, upd_same⟩ (fun i H' _ z => g H' (.ofS z.1)) ?_ ?_
      · rintro i x' Ha Hb hi ⟨sm, hC⟩ ⟨rfl, gx⟩
        rw [lx] at hi
        obtain ⟨d, gd, hd⟩ := DpAll.get al gx
        obtain rfl : cs[i] = d := by
          rw [List.getElem?_eq_getElem hi] at gd
          exact Option.some.inj gd
        refine ⟨rfl, tyes (iteT ?_)⟩
        refine ⟨_, rfl, _, rfl, v, x', h, t, ds, cs[i], rfl, hv.same sm, Dp.same sm hd, _, hC, ?_, same_over sm nC, ?_⟩
        · rw [List.length_map, List.length_map, List.length_take]
          exact Nat.lt_of_lt_of_le (show min i cs.length < 100000 by omega) (by decide)
        · rw [upd_same, take_succ_get hi, List.map_append, List.map_append]
          rfl
      · rintro Ha ⟨sm, hC⟩
        rw [lx, List.take_length] at hC
        refine ⟨C, _, rfl, SqL.of hC, _, rfl, ?_⟩
        have : (cs.map (isPlD ds.length)).all id = cs.all (isPlD ds.length) := by rw [List.all_map]; rfl
        rw [this]
        have eq : isStD ds.length (.tuple cs) = (cs.all (isPlD ds.length) && risingB (cs.map intD)) := rfl
        rw [eq] at q
        cases ea : cs.all (isPlD ds.length) with
        | false =>
          rw [ea] at q
          exact q _ sm
        | true =>
          rw [ea, Bool.true_and] at q
          have xe := dps_ints al ea
          rw [xe] at hc
          exact ⟨_, rfl, pc, cs.map intD, rfl, .inr (Same.tup sm hc), by rw [List.length_map]; exact lc, fun H' s' => q _ (sm.trans s')⟩
end
end Sh

namespace Sh
open PySem PySem.Spec PyProof.Rows L2
/-! ### tuples put together, cut: one way out, whatever is empty -/
def rCatS (K : PySem.W.Frag) : R2 := fun x y H Q => ∃ a b xs ys, x = .ref a ∧ y = .ref b ∧ SqT K H a xs ∧ SqT K H b ys ∧ xs.length + ys.length ≤ sizeLine ∧ ∀ (r : Addr) (H' : Hp), Same H H' → SqT K H' r (xs ++ ys) → Q (.ref r) H'
theorem op_catS {X : Cx} : OpR X (binaryOp .Add) (rCatS X.K) := by
  intro pins s σ H x y v u Q I rx ry h
  obtain ⟨a, b, xs, ys, e1, e2, hx, hy, l, q⟩ := h
  refine op_catA pins s σ H x y v u Q I rx ry ⟨a, b, xs, ys, e1, e2, hx, hy, l, fun z => ?_, fun _ z => ?_, fun _ _ p np => q p _ (same_new np) (SqT.of upd_same)⟩
  · subst z
    exact q b H (Same.refl _) hy
  · subst z
    refine q a H (Same.refl _) ?_
    rw [List.append_nil]
    exact hx
def rSlS (K : PySem.W.Frag) : V → Option Int → Option Int → Hp → VK → Prop := fun x lo hi H Q => ∃ a xs, x = .ref a ∧ SqT K H a xs ∧ ∀ (r : Addr) (H' : Hp), Same H H' → SqT K H' r (cutV xs lo hi) → Q (.ref r) H'
theorem sl_tupS {X : Cx} : SlR X (rSlS X.K) := by
  intro pins s σ H x v vl vu lo hi sl Q I rx hs pl pu h
  obtain ⟨a, xs, e, hx, q⟩ := h
  refine sl_tupA pins s σ H x v vl vu lo hi sl Q I rx hs pl pu ⟨a, xs, e, hx, fun w => q a H (Same.refl _) ?_, fun _ p np => q p _ (same_new np) (SqT.of upd_same)⟩
  unfold cutV
  rw [w.1, w.2, List.drop_zero, Nat.sub_zero, List.take_length]
  exact hx
theorem cut_drop (xs : List V) (l : Nat) : cutV xs (some (l : Int)) none = xs.drop l := by
  unfold cutV
  rw [HT.sIx_none, HT.sIx_nat]
  by_cases c : l ≤ xs.length
  · rw [Nat.min_eq_left c, List.take_of_length_le (by rw [List.length_drop]; exact Nat.le_refl _)]
  · rw [Nat.min_eq_right (by omega), List.drop_length, List.drop_of_length_le (by omega), List.take_nil]
/-- [x for x in xs if test], the test may lay new things -/
theorem lc_filterS {σ : L2.St} {H : Hp} {C : Addr} {vs : List Nat} {i : Nat} {tt : TT} {Qd : Hp → Prop} {X : List Nat} {J : It} {G : Hp → Prop} (p : Nat → Bool) (W : Walk J (ni X).length G (YAt (ni X))) (g : ∀ H', Same H H' → G H') (nC : H C = none) (lX : X.length ≤ 1000)
    (hw : ∀ v, wipe ((wipe σ vs).set i (some v)) vs = wipe σ vs) (hv : ∀ v : V, ((wipe σ vs).set i (some v))[i]? = some (some v))
    (ht : ∀ x ∈ X, ∀ H', Same H H' → ∀ Q : Bool → Hp → Prop, (∀ H2, Same H' H2 → Q (p x) H2) → tt ((wipe σ vs).set i (some (.int (x : Int)))) H' Q) (hd : ∀ H', Same H H' → H' C = some (.lst (ni (X.filter p))) → Qd H') :
    ∃ W : Nat → Nat → Hp → Prop, (∃ m, W 0 m (upd H C (.lst []))) ∧ ∀ j m H, W j m H →
      (J.stop j H ∧ Qd H) ∨ (J.go j H ∧ ∃ Nx : Hp → Prop, (∀ H', Nx H' → ∃ m', m' < m ∧ W (j + 1) m' H') ∧ ∀ x H', J.yld j H x H' → gName i x (wipe σ vs) H' fun σ2 H2 => wipe σ2 vs = wipe σ vs ∧ tt σ2 H2 fun b H3 =>
        if b = true then tVar i σ2 H3 fun y H4 => ∃ acc, H4 C = some (.lst acc) ∧ acc.length < sizeLine ∧ Nx (upd H4 C (.lst (acc ++ [y]))) else Nx H3) := by
  refine lc_it W (fun j H' => Same H H' ∧ H' C = some (.lst (ni ((X.take j).filter p)))) ⟨same_new nC, upd_same⟩ (fun j H' _ z => g H' z.1) ?_ ?_
  · rintro j x H3 H4 hj ⟨s3, hC⟩ ⟨rfl, gx⟩
    rw [ni_len] at hj
    obtain rfl : .int ((X[j] : Nat) : Int) = x := Option.some.inj ((ni_get hj).symm.trans gx)
    refine ⟨hw _, ht X[j] (List.getElem_mem hj) _ s3 _ fun H5 s5 => ?_⟩
    cases e : p X[j] with
    | true =>
      rw [if_pos rfl]
      refine ⟨_, hv _, _, s5 _ _ hC, ?_, same_over (s3.trans s5) nC, ?_⟩
      · rw [ni_len]
        have h1 := List.length_filter_le p (X.take j)
        rw [List.length_take] at h1
        exact small1000 (by omega)
      · rw [upd_same, take_succ_get hj, List.filter_append, ni_app, List.filter_cons_of_pos e]
        rfl
    | false =>
      rw [if_neg Bool.false_ne_true]
      refine ⟨s3.trans s5, ?_⟩
      rw [s5 _ _ hC, take_succ_get hj, List.filter_append, List.filter_cons_of_neg (by rw [e]; exact Bool.false_ne_true)]
      simp
  · rintro H3 ⟨s3, hC⟩
    rw [ni_len, List.take_length] at hC
    exact hd H3 s3 hC
end Sh

namespace Sh
open PySem PySem.Spec PyProof.Rows L2
/-! ### data of any kind: hidden objects, bounds -/
/-- the heap without those of Z -/
def hide (Z : Addr → Bool) (H : Hp) : Hp := fun a => if Z a = true then none else H a
section
variable {Z : Addr → Bool} {H H' : Hp} {b p : Addr} {o : HO}
theorem hide_some {a : Addr} (h : hide Z H a = some o) : Z a = false ∧ H a = some o := by
  unfold hide at h
  by_cases z : Z a = true
  · rw [if_pos z] at h
    cases h
  · rw [if_neg z] at h
    exact ⟨by simpa using z, h⟩
theorem hide_at {a : Addr} (z : Z a = false) (h : H a = some o) : hide Z H a = some o := by
  unfold hide
  rw [if_neg (by rw [z]; exact Bool.false_ne_true)]
  exact h
theorem hide_same : Same (hide Z H) H := fun a o h => (hide_some h).2
theorem hide_but (zb : Z b = true) (u : But b H H') : Same (hide Z H) (hide Z H') := fun a o h => by
  obtain ⟨z, e⟩ := hide_some h
  exact hide_at z (u a o (fun q => by rw [q, zb] at z; cases z) e)
theorem hide_of (s : Same H H') : Same (hide Z H) (hide Z H') := fun a o h => by
  obtain ⟨z, e⟩ := hide_some h
  exact hide_at z (s a o e)
/-- what is hidden stands -/
def Hid (Z : Addr → Bool) (H : Hp) : Prop := ∀ a, Z a = true → H a ≠ none
theorem Hid.new (hz : Hid Z H) (np : H p = none) : Z p = false := by
  cases e : Z p with
  | false => rfl
  | true => exact absurd np (hz p e)
theorem Hid.same (hz : Hid Z H) (s : Same H H') : Hid Z H' := fun a z e => by
  cases q : H a with
  | none => exact hz a z q
  | some o => rw [s a o q] at e; cases e
theorem Hid.but {n : Nat} (hz : Hid Z H) (u : But b H H') (x : BoxAt H' b n) : Hid Z H' := fun a z e => by
  by_cases y : a = b
  · subst y
    exact x.some e
  · cases q : H a with
    | none => exact hz a z q
    | some o => rw [u a o y q] at e; cases e
end
theorem dpall_mem {K : PySem.W.Frag} {H : Hp} : ∀ {vs : List V} {ds : List PyData} {v : V}, DpAll K H vs ds → v ∈ vs → ∃ d ∈ ds, Dp K H v d
  | _, _, _, .nil, h => by cases h
  | _, _, _, .cons x a, h => by
    rcases List.mem_cons.mp h with z | z
    · subst z
      exact ⟨_, List.mem_cons_self, x⟩
    · obtain ⟨d, hd, q⟩ := dpall_mem a z
      exact ⟨d, List.mem_cons_of_mem _ hd, q⟩
theorem dpall_app {K : PySem.W.Frag} {H : Hp} : ∀ {vs ws : List V} {ds es : List PyData}, DpAll K H vs ds → DpAll K H ws es → DpAll K H (vs ++ ws) (ds ++ es)
  | _, _, _, _, .nil, h => h
  | _, _, _, _, .cons x a, h => .cons x (dpall_app a h)
theorem dpall_take {K : PySem.W.Frag} {H : Hp} : ∀ {vs : List V} {ds : List PyData} (n : Nat), DpAll K H vs ds → DpAll K H (vs.take n) (ds.take n)
  | _, _, 0, _ => by simpa using DpAll.nil
  | _, _, n + 1, .nil => by simpa using DpAll.nil
  | _, _, n + 1, .cons x a => by simpa using DpAll.cons x (dpall_take n a)
theorem dpall_drop {K : PySem.W.Frag} {H : Hp} : ∀ {vs : List V} {ds : List PyData} (n : Nat), DpAll K H vs ds → DpAll K H (vs.drop n) (ds.drop n)
  | _, _, 0, a => by simpa using a
  | _, _, n + 1, .nil => by simpa using DpAll.nil
  | _, _, n + 1, .cons x a => by simpa using dpall_drop n a
theorem dpall_rev {K : PySem.W.Frag} {H : Hp} : ∀ {vs : List V} {ds : List PyData}, DpAll K H vs ds → DpAll K H vs.reverse ds.reverse
  | _, _, .nil => by simpa using DpAll.nil
  | _, _, .cons x a => by
    rw [List.reverse_cons, List.reverse_cons]
    exact dpall_app (dpall_rev a) (.cons x .nil)
theorem dpall_set {K : PySem.W.Frag} {H : Hp} {v : V} {d : PyData} (h : Dp K H v d) : ∀ {vs : List V} {ds : List PyData} (n : Nat), DpAll K H vs ds → DpAll K H (vs.set n v) (ds.set n d)
  | _, _, _, .nil => by simpa using DpAll.nil
  | _, _, 0, .cons x a => by simpa using DpAll.cons h a
  | _, _, n + 1, .cons x a => by simpa using DpAll.cons x (dpall_set h n a)
/-- so deep at most, so long at most, numbers no greater than B -/
def Bd (n : Nat) (B : Int) : Nat → PyData → Prop
  | 0, _ => False
  | _ + 1, .none => True
  | _ + 1, .bool _ => True
  | _ + 1, .int i => -B ≤ i ∧ i ≤ B
  | _ + 1, .str s => s.length ≤ 20 ∧ PySem.PyData.strOk s = true
  | m + 1, .list ds => ds.length ≤ n ∧ ∀ e ∈ ds, Bd n B m e
  | m + 1, .tuple ds => ds.length ≤ n ∧ ∀ e ∈ ds, Bd n B m e
  | _ + 1, .dict _ => False
theorem Bd.mono {n n' : Nat} {B B' : Int} (hn : n ≤ n') (hB : B ≤ B') : ∀ {m m' : Nat} {d : PyData}, m ≤ m' → Bd n B m d → Bd n' B' m' d
  | 0, _, _, _, h => h.elim
  | m + 1, 0, _, l, _ => absurd l (by omega)
  | m + 1, m' + 1, d, l, h => by
    cases d with
    | none => trivial
    | bool b => trivial
    | int i => exact ⟨by have := h.1; omega, by have := h.2; omega⟩
    | str s => exact h
    | list ds => exact ⟨Nat.le_trans h.1 hn, fun e he => Bd.mono hn hB (by omega) (h.2 e he)⟩
    | tuple ds => exact ⟨Nat.le_trans h.1 hn, fun e he => Bd.mono hn hB (by omega) (h.2 e he)⟩
    | dict k => exact h.elim
theorem Bd.lv {n : Nat} {B : Int} (hn : n ≤ 100000) : ∀ {m : Nat} {d : PyData}, Bd n B m d → Lv m d
  | 0, _, h => h.elim
  | m + 1, d, h => by
    cases d with
    | none => trivial
    | bool b => trivial
    | int i => trivial
    | str s => trivial
    | list ds => exact ⟨Nat.le_trans h.1 hn, fun e he => Bd.lv hn (h.2 e he)⟩
    | tuple ds => exact ⟨Nat.le_trans h.1 hn, fun e he => Bd.lv hn (h.2 e he)⟩
    | dict k => exact h.elim
/-- how long its text is at most -/
def lenB (n : Nat) : Nat → Nat
  | 0 => 0
  | m + 1 => 300 + n * (lenB n m + 2)
theorem fit_all {m l : Nat} : ∀ {ds : List PyData}, (∀ e ∈ ds, Fit l m e) → FitAll (ds.length * (l + 2)) m ds
  | [], _ => by simpa using FitAll.nil m
  | d :: ds, h => by
    have g := fit_all (ds := ds) fun e he => h e (List.mem_cons_of_mem _ he)
    refine (FitAll.cons (h d List.mem_cons_self) g).mono ?_ (Nat.le_refl m)
    rw [List.length_cons, Nat.succ_mul]
    omega
theorem Bd.fit {n : Nat} {B : Int} (hB : B ≤ 10000000000100) : ∀ {m : Nat} {d : PyData}, Bd n B m d → Fit (lenB n m) m d
  | 0, _, h => h.elim
  | m + 1, d, h => by
    have l0 : 300 ≤ lenB n (m + 1) := Nat.le_add_right _ _
    have key : ∀ {ds : List PyData}, ds.length ≤ n → (∀ e ∈ ds, Bd n B m e) → FitAll (n * (lenB n m + 2)) m ds := fun {ds} a c => (fit_all fun e he => Bd.fit hB (c e he)).mono (Nat.mul_le_mul_right _ a) (Nat.le_refl m)
    cases d with
    | none => exact ⟨Nat.le_trans (show 4 ≤ 300 by decide) l0, rfl, rfl, Nat.zero_le _⟩
    | bool b => exact ⟨Nat.le_trans (by cases b <;> decide) l0, rfl, rfl, Nat.zero_le _⟩
    | int i =>
      refine (fit_int (i := i) ?_).mono (Nat.le_trans (by decide) l0) (Nat.zero_le _)
      have := h.1
      have := h.2
      show i.natAbs < 100000000000000
      omega
    | str s =>
      refine ⟨Nat.le_trans ?_ l0, rfl, ?_, Nat.zero_le _⟩
      · have := PySem.StrLaws.reprText_len s fun c hc => by
          have z := h.2
          unfold PySem.PyData.strOk at z
          rw [← Array.all_toList, List.all_eq_true] at z
          exact Nat.lt_trans (of_decide_eq_true (z c hc)) (by decide)
        have := h.1
        show (reprText s).length ≤ 300
        omega
      · exact h.2
    | list ds =>
      refine (Fit.list (key h.1 h.2)).mono ?_ (Nat.le_refl _)
      show n * (lenB n m + 2) + 3 ≤ 300 + n * (lenB n m + 2)
      omega
    | tuple ds =>
      refine (Fit.tup (key h.1 h.2)).mono ?_ (Nat.le_refl _)
      show n * (lenB n m + 2) + 3 ≤ 300 + n * (lenB n m + 2)
      omega
    | dict k => exact h.elim
theorem bd_text (s : String) (l : s.length ≤ 20) {n m : Nat} {B : Int} : Bd n B (m + 1) (.str (Str.ofString s)) := by
  refine ⟨by rw [PySem.ofString_length]; exact l, ?_⟩
  unfold PySem.PyData.strOk
  rw [Str.ofString_eq_toList, ← Array.all_toList, List.all_eq_true]
  intro c hc
  obtain ⟨x, _, rfl⟩ := List.mem_map.mp (show c ∈ (s.toList.map Char.toNat).toArray.toList from hc)
  refine decide_eq_true ?_
  have v := x.valid
  show x.val.toNat < 0x110000
  rcases v with v | v
  · exact Nat.lt_trans v (by decide)
  · exact v.2
end Sh

namespace Sh
open PySem PySem.Spec PyProof.Rows L2
abbrev s__law_is_count : Stmt := topS 16
theorem sc__law_is_count : FnScope (["_law_part"] : List Str) (["_law_part"] : List Str) (defScope s__law_is_count) := ⟨rfl, rfl, rfl, by decide +kernel, rfl, by decide +kernel, by decide +kernel⟩
theorem b__law_is_count (kV doc pm : Value) (an : Option Addr) (cdv ct : Value) (us : List Value) (hl : us.length = (["_law_part"] : List Str).length) : bindArgs (PySem.W.fnOf "_law_is_count" "_law_is_count" (defArgs s__law_is_count) (defBody s__law_is_count) (defScope s__law_is_count) .none kV doc pm an cdv ct) ⟨us, []⟩ = pure ((["_law_part"] : List Str).zip us) :=
  match us, hl with | [_], _ => rfl
section
variable {P : Program} {w : World} {K : PySem.W.Frag} {mg : Str → Option Value} {base : Heap}
theorem ok_is_count {k : Nat} (D : Df K mg "_law_is_count" s__law_is_count) (T : Bt mg) : Ok P w K mg base (k + 1) "_law_is_count" s__law_is_count ["_law_part"] (spIsNum K) := by
  refine D.ok sc__law_is_count b__law_is_count (fun vs H Q E h => ?_) (fun f cdv A outer s H vs Q E hr h => ?_)
  · obtain ⟨v, d, rfl, _⟩ := h
    rfl
  · obtain ⟨v, d, rfl, hv, q⟩ := h
    refine ⟨_, (pss_one (ps_ret (pe_and (pe_callB call_isi (by rfl) T.isinstance_ (by decide +kernel) (pa_cons (pv 0) (pa_cons (pe_bltn (v := .ty "int") (by rfl) T.int_ (by decide +kernel) rfl) pa_nil))) (pe_and (pe_not (pe_callB call_isi (by rfl) T.isinstance_ (by decide +kernel) (pa_cons (pv 0) (pa_cons (pe_bltn (v := .ty "bool") (by rfl) T.bool_ (by decide +kernel) rfl) pa_nil)))) (pe_one (pe_cmpR op_ge (pv 0) pe_int (nomark _))))))), ?_⟩
    have ht := ty_of hv
    cases hv with
    | non => exact ⟨_, rfl, _, .ty "int", .type "NoneType", .type "int", false, rfl, .ty _, ht, kit_ty (by decide +kernel), _, rfl, q⟩
    | bl b =>
      refine ⟨_, rfl, _, .ty "int", .type "bool", .type "int", true, rfl, .ty _, ht, kit_ty (by decide +kernel), _, rfl, ?_⟩
      refine ⟨_, rfl, _, .ty "bool", .type "bool", .type "bool", true, rfl, .ty _, ht, kit_ty (by decide +kernel), _, rfl, _, rfl, ?_⟩
      exact q
    | int i =>
      refine ⟨_, rfl, _, .ty "int", .type "int", .type "int", true, rfl, .ty _, ht, kit_ty (by decide +kernel), _, rfl, ?_⟩
      refine ⟨_, rfl, _, .ty "bool", .type "int", .type "bool", false, rfl, .ty _, ht, kit_ty (by decide +kernel), _, rfl, _, rfl, ?_⟩
      exact ⟨_, rfl, i, 0, rfl, rfl, q⟩
    | str x => exact ⟨_, rfl, _, .ty "int", .type "str", .type "int", false, rfl, .ty _, ht, kit_ty (by decide +kernel), _, rfl, q⟩
    | lst h a => exact ⟨_, rfl, _, .ty "int", .type "list", .type "int", false, rfl, .ty _, ht, kit_ty (by decide +kernel), _, rfl, q⟩
    | tup h a => exact ⟨_, rfl, _, .ty "int", .type "tuple", .type "int", false, rfl, .ty _, ht, kit_ty (by decide +kernel), _, rfl, q⟩
end
theorem eqv_empty (cs : List PyData) : PyData.eqv (.tuple cs) (.tuple []) = cs.isEmpty := by
  cases cs with
  | nil => simp [PyData.eqv, PyData.eqvAll]
  | cons c cs => simp [PyData.eqv, PyData.eqvAll]
def spSeaDue (K : PySem.W.Frag) : Sp := fun vs H Q _ => ∃ (n m : Nat) (B : Int) (v : V) (d : PyData), vs = [v] ∧ Dp K H v d ∧ Bd n B m d ∧ n ≤ 60 ∧ m ≤ 60 ∧ B ≤ 10000000000100 ∧ ∀ H', Same H H' → Q (.bl (isSeaD d)) H'
def spLotDue (K : PySem.W.Frag) : Sp := fun vs H Q _ => ∃ (n m c : Nat) (B : Int) (v : V) (d : PyData), vs = [.int (c : Int), v] ∧ Dp K H v d ∧ Bd n B m d ∧ n ≤ 60 ∧ m ≤ 60 ∧ B ≤ 10000000000100 ∧ ∀ H', Same H H' → Q (.bl (isStD c d)) H'
abbrev s__law_sea_due : Stmt := topS 17
theorem sc__law_sea_due : FnScope (["_law_matter", "_law_part"] : List Str) (["_law_matter"] : List Str) (defScope s__law_sea_due) := ⟨rfl, rfl, rfl, by decide +kernel, rfl, by decide +kernel, by decide +kernel⟩
theorem b__law_sea_due (kV doc pm : Value) (an : Option Addr) (cdv ct : Value) (us : List Value) (hl : us.length = (["_law_matter"] : List Str).length) : bindArgs (PySem.W.fnOf "_law_sea_due" "_law_sea_due" (defArgs s__law_sea_due) (defBody s__law_sea_due) (defScope s__law_sea_due) .none kV doc pm an cdv ct) ⟨us, []⟩ = pure ((["_law_matter"] : List Str).zip us) :=
  match us, hl with | [_], _ => rfl
abbrev s__law_lot_due : Stmt := topS 18
theorem sc__law_lot_due : FnScope (["_law_count", "_law_matter", "_law_part"] : List Str) (["_law_count", "_law_matter"] : List Str) (defScope s__law_lot_due) := ⟨rfl, rfl, rfl, by decide +kernel, rfl, by decide +kernel, by decide +kernel⟩
theorem b__law_lot_due (kV doc pm : Value) (an : Option Addr) (cdv ct : Value) (us : List Value) (hl : us.length = (["_law_count", "_law_matter"] : List Str).length) : bindArgs (PySem.W.fnOf "_law_lot_due" "_law_lot_due" (defArgs s__law_lot_due) (defBody s__law_lot_due) (defScope s__law_lot_due) .none kV doc pm an cdv ct) ⟨us, []⟩ = pure ((["_law_count", "_law_matter"] : List Str).zip us) :=
  match us, hl with | [_, _], _ => rfl
theorem up_eqI : ∀ {L M : List Int}, L.Pairwise (· < ·) → M.Pairwise (· < ·) → (∀ i, i ∈ L ↔ i ∈ M) → L = M
  | [], [], _, _, _ => rfl
  | [], b :: M, _, _, h => absurd ((h b).mpr List.mem_cons_self) List.not_mem_nil
  | a :: L, [], _, _, h => absurd ((h a).mp List.mem_cons_self) List.not_mem_nil
  | a :: L, b :: M, hL, hM, h => by
    obtain ⟨a1, a2⟩ := List.pairwise_cons.mp hL
    obtain ⟨b1, b2⟩ := List.pairwise_cons.mp hM
    have e : a = b := by
      rcases List.mem_cons.mp ((h a).mp List.mem_cons_self) with z | z
      · exact z
      · rcases List.mem_cons.mp ((h b).mpr List.mem_cons_self) with y | y
        · exact y.symm
        · have := a1 b y
          have := b1 a z
          omega
    subst e
    rw [up_eqI a2 b2 fun i => ⟨fun z => ?_, fun z => ?_⟩]
    · have := a1 i z
      rcases List.mem_cons.mp ((h i).mp (List.mem_cons_of_mem _ z)) with y | y
      · omega
      · exact y
    · have := b1 i z
      rcases List.mem_cons.mp ((h i).mpr (List.mem_cons_of_mem _ z)) with y | y
      · omega
      · exact y
theorem eqv_intsL : ∀ ns ms : List Int, PyData.eqv (.list (ns.map .int)) (.list (ms.map .int)) = decide (ns = ms)
  | [], [] => by simp [PyData.eqv, PyData.eqvAll]
  | [], _ :: _ => by simp [PyData.eqv, PyData.eqvAll]
  | _ :: _, [] => by simp [PyData.eqv, PyData.eqvAll]
  | a :: ns, b :: ms => by
    have ih := eqv_intsL ns ms
    simp [PyData.eqv, PyData.eqvAll] at ih ⊢
    by_cases e : a = b
    · subst e
      simpa using ih
    · simp [e]
section
variable {P : Program} {w : World} {K : PySem.W.Frag} {mg : Str → Option Value} {base : Heap}
set_option maxHeartbeats 8000000 in
theorem ok_sea_due {k : Nat} (D : Df K mg "_law_sea_due" s__law_sea_due) (T : Bt mg) (O__law_is_count : Ok P w K mg base k "_law_is_count" s__law_is_count ["_law_part"] (spIsNum K)) : Ok P w K mg base (k + 1) "_law_sea_due" s__law_sea_due ["_law_matter"] (spSeaDue K) := by
  refine D.ok sc__law_sea_due b__law_sea_due (fun vs H Q E h => ?_) (fun f cdv A outer s H vs Q E hr h => ?_)
  · obtain ⟨n, m, B, v, d, rfl, _⟩ := h
    rfl
  · obtain ⟨n, m, B, v, d, rfl, hv, bd, n1, m1, B1, q⟩ := h
    refine ⟨_, (pss_cons (ps_if (PW.pt (pw_or (pt_not (pt_val (pe_callB call_isi (by rfl) T.isinstance_ (by decide +kernel) (pa_cons (pv 0) (pa_cons (pe_bltn (v := .ty "tuple") (by rfl) T.tuple_ (by decide +kernel) rfl) pa_nil))))) (pw_or (pt_cmpR op_ne (pe_callB call_len_seq (by rfl) T.len_ PySem.boot_len (pa_cons (pv 0) pa_nil)) pe_int (nomark _)) (pw_or (pt_not (pt_val (pe_callB call_isi (by rfl) T.isinstance_ (by decide +kernel) (pa_cons (pe_ix ix_lt (pv 0) pe_int (fun _ _ => rfl)) (pa_cons (pe_bltn (v := .ty "tuple") (by rfl) T.tuple_ (by decide +kernel) rfl) pa_nil))))) (pw_or1 (pt_cmpR (op_eqD hr.units) (pe_ix ix_lt (pv 0) pe_int (fun _ _ => rfl)) (pe_tup pa_nil) (nomark _)))))))
        (pss_one (ps_ret pe_bl))
        pss_nil)
      (pss_one (ps_ret (pe_callB (cr_all rfl) (by rfl) T.all_ (by decide +kernel) (pa_cons (pe_lc (own := [("_law_part", 1)]) (g := (gName 1)) (tt := tYes) (by rfl) sc__law_sea_due.nd (pi_seq (pe_op op_cat (pe_callTy call_list_of (by rfl) T.list_ (by decide +kernel) (pa_cons (pe_slice sl_tupS (pv 0) po_none (po_some pe_int)) pa_nil)) (pe_callTy call_list_of (by rfl) T.list_ (by decide +kernel) (pa_cons (pe_ix ix_lt (pv 0) pe_int (fun _ _ => rfl)) pa_nil)))) (blkOk_by (own := [("_law_part", 1)]) (N := (["_law_matter", "_law_part"] : List Str)) (sc := defScope s__law_sea_due) (by decide +kernel)) (fun _ _ _ _ _ => (pg_name (i := 1) sc__law_sea_due.nd rfl (.inl rfl))) (fun _ _ _ _ _ => pts_nil) (fun _ _ _ _ _ => (pe_fn O__law_is_count (hr.mono (by omega)) (pa_cons (pv 1) pa_nil)))) pa_nil))))), ?_⟩
    refine ⟨_, rfl, v, .ty "tuple", _, .type "tuple", isTuD d, rfl, .ty _, ty_of hv, kit_ty kit_tup, _, rfl, ?_⟩
    cases e1 : isTuD d with
    | false =>
      have : isSeaD d = false := by cases d <;> first | rfl | cases e1
      rw [this] at q
      exact iteT (q _ (Same.refl _))
    | true =>
      obtain ⟨p, xs, cs, rfl, rfl, hp, al⟩ := dp_tup hv e1
      have lx := DpAll.len al
      refine iteF ?_
      refine ⟨_, rfl, p, _, rfl, .inr hp, rfl, _, rfl, ?_⟩
      by_cases l3 : cs.length = 3
      · obtain ⟨a, b, c, rfl⟩ := three_of l3
        cases al with
        | cons hx al =>
        cases al with
        | cons hy al =>
        cases al with
        | cons hz al =>
        cases al
        rename_i x y z
        refine iteNS rfl ?_
        rw [sea_three] at q
        refine ⟨_, rfl, p, _, 2, z, rfl, rfl, .inr hp, rfl, z, .ty "tuple", _, .type "tuple", isTuD c, rfl, .ty _, ty_of hz, kit_ty kit_tup, _, rfl, ?_⟩
        cases e2 : isTuD c with
        | false =>
          rw [e2, Bool.false_and, Bool.and_false, Bool.and_false] at q
          exact iteT (q _ (Same.refl _))
        | true =>
          rw [e2, Bool.true_and] at q
          obtain ⟨pc, zs, ds, rfl, rfl, hc, al⟩ := dp_tup hz e2
          have lz := DpAll.len al
          refine iteF ?_
          obtain ⟨m', bc⟩ : ∃ m', Bd n B m' (.tuple ds) ∧ m' ≤ 60 := by
            cases m with
            | zero => exact bd.elim
            | succ m => exact ⟨m, bd.2 _ (by simp), by omega⟩
          have sc : SeqAt.shaped (.tuple ds) = true := (bc.1.fit B1).shaped (by have := bc.2; omega)
          have ld : ds.length ≤ 60 := by
            cases m' with
            | zero => exact bc.1.elim
            | succ m' => exact Nat.le_trans bc.1.1 n1
          refine ⟨_, rfl, p, _, 2, .ref pc, rfl, rfl, .inr hp, rfl, Nat.zero_le _, fun em nem => ?_⟩
          have s1 : Same H (upd H em (.tup [])) := same_new nem
          have e3 : upd H em (.tup []) em = some (.tup []) := upd_same
          generalize upd H em (.tup []) = H1 at s1 e3
          refine ⟨.tuple ds, .tuple [], .tup (Same.tup s1 hc) (DpAll.same s1 al), .tup (SqT.of e3) .nil, sc, rfl, _, rfl, ?_⟩
          rw [eqv_empty]
          cases ds with
          | nil =>
            have : drD (.tuple []) = false := rfl
            rw [this, Bool.and_false, Bool.and_false] at q
            exact iteT (q _ s1)
          | cons d0 dr =>
            refine iteF ?_
            have : drD (.tuple (d0 :: dr)) = (d0 :: dr).all isNumD := rfl
            rw [this] at q
            generalize d0 :: dr = ds at al lz ld q
            have hp1 := Same.tup s1 hp
            refine ⟨_, rfl, 2, rfl, p, _, rfl, hp1, fun sl H2 s2 hsl => ?_⟩
            rw [show cutV [x, y, V.ref pc] none (some 2) = [x, y] from rfl] at hsl
            refine ⟨sl, _, rfl, .inr hsl, fun l1 nl1 => ?_⟩
            have s3 : Same H2 (upd H2 l1 (.lst [x, y])) := same_new nl1
            have e4 : upd H2 l1 (.lst [x, y]) l1 = some (.lst [x, y]) := upd_same
            generalize upd H2 l1 (.lst [x, y]) = H3 at s3 e4
            have s13 := s1.trans (s2.trans s3)
            refine ⟨_, rfl, p, _, 2, .ref pc, rfl, rfl, .inr (Same.tup s13 hp), rfl, pc, _, rfl, .inr (Same.tup s13 hc), fun l2 nl2 => ?_⟩
            have s4 : Same H3 (upd H3 l2 (.lst zs)) := same_new nl2
            have e5 : upd H3 l2 (.lst zs) l2 = some (.lst zs) := upd_same
            generalize upd H3 l2 (.lst zs) = H4 at s4 e5
            refine ⟨l1, l2, _, _, rfl, rfl, s4 _ _ e4, e5, ?_, fun l3' nl3 => ?_⟩
            · show 2 + zs.length ≤ sizeLine
              exact Nat.le_trans (show 2 + zs.length ≤ 100 by omega) (by decide)
            have s5 : Same H4 (upd H4 l3' (.lst ([x, y] ++ zs))) := same_new nl3
            have e6 : upd H4 l3' (.lst ([x, y] ++ zs)) l3' = some (.lst ([x, y] ++ zs)) := upd_same
            generalize upd H4 l3' (.lst ([x, y] ++ zs)) = H5 at s5 e6
            have s15 := s13.trans (s4.trans s5)
            have al5 : DpAll K H5 ([x, y] ++ zs) ([a, b] ++ ds) := DpAll.same s15 (.cons hx (.cons hy al))
            have la : ([x, y] ++ zs).length = ([a, b] ++ ds).length := DpAll.len al5
            have qe : (isNumD a && (isNumD b && ds.all isNumD)) = ([a, b] ++ ds).all isNumD := rfl
            rw [qe] at q
            have lc : ([a, b] ++ ds).length ≤ 100 := by
              show (a :: b :: ds).length ≤ 100
              rw [List.length_cons, List.length_cons]
              omega
            generalize [x, y] ++ zs = ws at e6 al5 la
            generalize [a, b] ++ ds = es at al5 la q lc
            refine ⟨l3', _, H5, rfl, SqA.l e6, Kp.refl _ _, fun J hJ C nC => ?_⟩
            obtain ⟨G, g, W⟩ := hJ.walk
            refine lc_it W (fun i H' => Same H5 H' ∧ H' C = some (.lst (((es.take i).map isNumD).map V.bl))) ⟨same_new nC, upd_same⟩ (fun i H' _ z => g H' (.ofS z.1)) ?_ ?_
            · rintro i x' Ha Hb hi ⟨sm, hC⟩ ⟨rfl, gx⟩
              rw [la] at hi
              obtain ⟨d, gd, hd⟩ := DpAll.get al5 gx
              obtain rfl : es[i] = d := by
                rw [List.getElem?_eq_getElem hi] at gd
                exact Option.some.inj gd
              refine ⟨rfl, tyes (iteT ?_)⟩
              refine ⟨_, rfl, x', es[i], rfl, Dp.same sm hd, _, hC, ?_, same_over sm nC, ?_⟩
              · rw [List.length_map, List.length_map, List.length_take]
                exact small1000 (by omega)
              · rw [upd_same, take_succ_get hi, List.map_append, List.map_append]
                rfl
            · rintro Ha ⟨sm, hC⟩
              rw [la, List.take_length] at hC
              refine ⟨C, _, rfl, SqL.of hC, ?_⟩
              have : (es.map isNumD).all id = es.all isNumD := by rw [List.all_map]; rfl
              rw [this]
              exact q _ (s15.trans sm)
      · have sf : isSeaD (.tuple cs) = false := sea_tup (decide_eq_false l3)
        rw [sf] at q
        have ne : ¬ V.int (xs.length : Int) = V.int 3 := fun z => l3 (by have := V.int.inj z; omega)
        rw [decide_eq_false ne]
        exact iteT (q _ (Same.refl _))
set_option maxHeartbeats 8000000 in
theorem ok_lot_due {k : Nat} (D : Df K mg "_law_lot_due" s__law_lot_due) (T : Bt mg) (O__law_is_count : Ok P w K mg base k "_law_is_count" s__law_is_count ["_law_part"] (spIsNum K)) : Ok P w K mg base (k + 1) "_law_lot_due" s__law_lot_due ["_law_count", "_law_matter"] (spLotDue K) := by
  refine D.ok sc__law_lot_due b__law_lot_due (fun vs H Q E h => ?_) (fun f cdv A outer s H vs Q E hr h => ?_)
  · obtain ⟨n, m, c, B, v, d, rfl, _⟩ := h
    rfl
  · obtain ⟨n, m, c, B, v, d, rfl, hv, bd, n1, m1, B1, q⟩ := h
    refine ⟨_, (pss_cons (ps_if (PW.pt (pw_or (pt_not (pt_val (pe_callB call_isi (by rfl) T.isinstance_ (by decide +kernel) (pa_cons (pv 1) (pa_cons (pe_bltn (v := .ty "tuple") (by rfl) T.tuple_ (by decide +kernel) rfl) pa_nil))))) (pw_or1 (pt_not (pt_val (pe_callB (cr_all rfl) (by rfl) T.all_ (by decide +kernel) (pa_cons (pe_lc (own := [("_law_part", 2)]) (g := (gName 2)) (tt := tYes) (by rfl) sc__law_lot_due.nd (pi_seq (pv 1)) (blkOk_by (own := [("_law_part", 2)]) (N := (["_law_count", "_law_matter", "_law_part"] : List Str)) (sc := defScope s__law_lot_due) (by decide +kernel)) (fun _ _ _ _ _ => (pg_name (i := 2) sc__law_lot_due.nd rfl (.inl rfl))) (fun _ _ _ _ _ => pts_nil) (fun _ _ _ _ _ => (pe_and (pe_fn O__law_is_count (hr.mono (by omega)) (pa_cons (pv 2) pa_nil)) (pe_one (pe_cmpR op_lt (pv 2) (pv 0) (nomark _)))))) pa_nil)))))))
        (pss_one (ps_ret pe_bl))
        pss_nil)
      (pss_one (ps_ret (pe_cmpR (op_eqD hr.units) (pe_callTy call_list_of (by rfl) T.list_ (by decide +kernel) (pa_cons (pv 1) pa_nil)) (pe_callB (cr_sortedSetw w rfl) (by rfl) T.sorted_ (by decide +kernel) (pa_cons (pe_callTy (cr_setTw w rfl) (by rfl) T.set_ (by decide +kernel) (pa_cons (pv 1) pa_nil)) pa_nil)) (nomark _))))), ?_⟩
    refine ⟨_, rfl, v, .ty "tuple", _, .type "tuple", isTuD d, rfl, .ty _, ty_of hv, kit_ty kit_tup, _, rfl, ?_⟩
    cases e1 : isTuD d with
    | false =>
      have : isStD c d = false := by cases d <;> first | rfl | cases e1
      rw [this] at q
      exact iteT (q _ (Same.refl _))
    | true =>
      obtain ⟨p, xs, cs, rfl, rfl, hp, al⟩ := dp_tup hv e1
      have lx := DpAll.len al
      have lc : cs.length ≤ 60 := by
        cases m with
        | zero => exact bd.elim
        | succ m => exact Nat.le_trans bd.1 n1
      refine iteF ?_
      refine ⟨_, rfl, p, _, H, rfl, .inr hp, Kp.refl _ _, fun J hJ C nC => ?_⟩
      obtain ⟨G, g, W⟩ := hJ.walk
      refine lc_it W (fun i H' => Same H H' ∧ H' C = some (.lst (((cs.take i).map (isPlD c)).map V.bl))) ⟨same_new nC, upd_same⟩ (fun i H' _ z => g H' (.ofS z.1)) ?_ ?_
      · rintro i x' Ha Hb hi ⟨sm, hC⟩ ⟨rfl, gx⟩
        rw [lx] at hi
        obtain ⟨d, gd, hd⟩ := DpAll.get al gx
        obtain rfl : cs[i] = d := by
          rw [List.getElem?_eq_getElem hi] at gd
          exact Option.some.inj gd
        refine ⟨rfl, tyes (iteT ?_)⟩
        have fin : ∀ b : Bool, b = isPlD c cs[i] → ∃ acc, Hb C = some (.lst acc) ∧ acc.length < sizeLine ∧ Same H (upd Hb C (.lst (acc ++ [.bl b]))) ∧ upd Hb C (.lst (acc ++ [.bl b])) C = some (.lst (((cs.take (i + 1)).map (isPlD c)).map V.bl)) := fun b eb => by
          refine ⟨_, hC, ?_, same_over sm nC, ?_⟩
          · rw [List.length_map, List.length_map, List.length_take]
            exact small1000 (by omega)
          · rw [upd_same, take_succ_get hi, List.map_append, List.map_append, eb]
            rfl
        refine ⟨_, rfl, x', cs[i], rfl, Dp.same sm hd, _, rfl, ?_⟩
        cases e : isNumD cs[i] with
        | false => exact fin false (pl_num e).symm
        | true =>
          obtain ⟨j, rfl, ej, j0⟩ := dp_num hd e
          refine ⟨_, rfl, _, rfl, _, _, rfl, rfl, ?_⟩
          refine fin _ ?_
          rw [ej]
          show _ = (decide (0 ≤ j) && decide (j < (c : Int)))
          rw [decide_eq_true j0, Bool.true_and]
      · rintro H1 ⟨s1, hC⟩
        rw [lx, List.take_length] at hC
        refine ⟨C, _, rfl, SqL.of hC, _, rfl, ?_⟩
        have : (cs.map (isPlD c)).all id = cs.all (isPlD c) := by rw [List.all_map]; rfl
        rw [this]
        have eq : isStD c (.tuple cs) = (cs.all (isPlD c) && risingB (cs.map intD)) := rfl
        rw [eq] at q
        cases ea : cs.all (isPlD c) with
        | false =>
          rw [ea] at q
          exact iteT (q _ s1)
        | true =>
          rw [ea, Bool.true_and] at q
          refine iteF ?_
          have xe := dps_ints al ea
          have ln : (cs.map intD).length ≤ 60 := by rw [List.length_map]; exact lc
          rw [xe] at hp
          generalize cs.map intD = ns at hp ln q
          have hp1 := Same.tup s1 hp
          refine ⟨_, rfl, p, _, rfl, .inr hp1, fun l1 nl1 => ?_⟩
          have s2 : Same H1 (upd H1 l1 (.lst (ns.map V.int))) := same_new nl1
          have e2 : upd H1 l1 (.lst (ns.map V.int)) l1 = some (.lst (ns.map V.int)) := upd_same
          generalize upd H1 l1 (.lst (ns.map V.int)) = H2 at s2 e2
          refine ⟨_, rfl, p, ns, rfl, Same.tup s2 hp1, by omega, fun sa cn nsa hcn => ?_⟩
          refine ⟨sa, _, cn, rfl, upd_same, by omega, fun ms sb up hm _ nsb => ?_⟩
          have s3 : Same H2 (upd (upd H2 sa (SetO w sa (fun j => decide (j ∈ ns)) cn)) sb (.lst (ms.map V.int))) := (same_new nsa).trans (same_new nsb)
          have e3 : upd (upd H2 sa (SetO w sa (fun j => decide (j ∈ ns)) cn)) sb (.lst (ms.map V.int)) sb = some (.lst (ms.map V.int)) := upd_same
          generalize upd (upd H2 sa (SetO w sa (fun j => decide (j ∈ ns)) cn)) sb (.lst (ms.map V.int)) = H3 at s3 e3
          refine ⟨.list (ns.map .int), .list (ms.map .int), .lst (SqL.of (s3 _ _ e2)) (DpAll.ints ns), .lst (SqL.of e3) (DpAll.ints ms), shaped_ints _, shaped_ints _, ?_⟩
          rw [eqv_intsL]
          have er : decide (ns = ms) = risingB ns := by
            unfold risingB
            refine decide_eq_decide.mpr ⟨fun z => by rw [z]; exact up, fun z => up_eqI z up fun i => ?_⟩
            rw [hm]
            exact decide_eq_true_iff.symm
          rw [er]
          exact q _ (s1.trans (s2.trans s3))
end
end Sh

namespace Sh
open PySem PySem.Spec PyProof.Rows L2
/-! ### some other thing -/
def oddD : List PyData := [.none, .bool true, .bool false, .int 0, .int 1, .int (-1), .int 7, .int 10000000000000, .str "", .str "here", .tuple [], .list [], .tuple [.int 0], .tuple [.int 1, .int 0], .tuple [.int 0, .int 0], .list [.int 0], .tuple [.int 0, .int 1, .tuple []]]
theorem odd_bd {B : Int} (hB : 10000000000000 ≤ B) : ∀ d ∈ oddD, Bd 3 B 2 d := by
  have st : ∀ s : String, s.length ≤ 20 → Bd 3 B 2 (.str (Str.ofString s)) := fun s l => bd_text s l
  have iv : ∀ {m : Nat} (i : Int), -10000000000000 ≤ i → i ≤ 10000000000000 → Bd 3 B (m + 1) (.int i) := fun i a c => ⟨by omega, by omega⟩
  unfold oddD
  intro d hd
  rcases List.mem_cons.mp hd with rfl | hd
  · trivial
  rcases List.mem_cons.mp hd with rfl | hd
  · trivial
  rcases List.mem_cons.mp hd with rfl | hd
  · trivial
  rcases List.mem_cons.mp hd with rfl | hd
  · exact iv 0 (by decide) (by decide)
  rcases List.mem_cons.mp hd with rfl | hd
  · exact iv 1 (by decide) (by decide)
  rcases List.mem_cons.mp hd with rfl | hd
  · exact iv (-1) (by decide) (by decide)
  rcases List.mem_cons.mp hd with rfl | hd
  · exact iv 7 (by decide) (by decide)
  rcases List.mem_cons.mp hd with rfl | hd
  · exact iv 10000000000000 (by decide) (by decide)
  rcases List.mem_cons.mp hd with rfl | hd
  · exact st "" (by decide)
  rcases List.mem_cons.mp hd with rfl | hd
  · exact st "here" (by decide)
  rcases List.mem_cons.mp hd with rfl | hd
  · exact ⟨by decide, fun e he => by cases he⟩
  rcases List.mem_cons.mp hd with rfl | hd
  · exact ⟨by decide, fun e he => by cases he⟩
  rcases List.mem_cons.mp hd with rfl | hd
  · exact ⟨by decide, fun e he => by rw [List.mem_singleton.mp he]; exact iv 0 (by decide) (by decide)⟩
  rcases List.mem_cons.mp hd with rfl | hd
  · refine ⟨by decide, fun e he => ?_⟩
    rcases List.mem_cons.mp he with rfl | he
    · exact iv 1 (by decide) (by decide)
    · rw [List.mem_singleton.mp he]
      exact iv 0 (by decide) (by decide)
  rcases List.mem_cons.mp hd with rfl | hd
  · refine ⟨by decide, fun e he => ?_⟩
    rcases List.mem_cons.mp he with rfl | he
    · exact iv 0 (by decide) (by decide)
    · rw [List.mem_singleton.mp he]
      exact iv 0 (by decide) (by decide)
  rcases List.mem_cons.mp hd with rfl | hd
  · exact ⟨by decide, fun e he => by rw [List.mem_singleton.mp he]; exact iv 0 (by decide) (by decide)⟩
  rw [List.mem_singleton.mp hd]
  refine ⟨by decide, fun e he => ?_⟩
  rcases List.mem_cons.mp he with rfl | he
  · exact iv 0 (by decide) (by decide)
  rcases List.mem_cons.mp he with rfl | he
  · exact iv 1 (by decide) (by decide)
  rw [List.mem_singleton.mp he]
  exact ⟨by decide, fun e he => by cases he⟩
def spOdd (K : PySem.W.Frag) : Sp := fun vs H Q _ => ∃ (b : Addr) (n nn m : Nat) (B : Int) (Z : Addr → Bool) (v : V) (d : PyData), vs = [.ref b, v] ∧ BoxAt H b (n + 1) ∧ Z b = true ∧ Hid Z H ∧ Dp K (hide Z H) v d ∧ Bd nn B m d ∧ 10000000000000 ≤ B ∧ B ≤ 10000000000050 ∧
  ∀ (H' : Hp) (v' : V) (d' : PyData), But b H H' → BoxAt H' b n → Hid Z H' → Dp K (hide Z H') v' d' → Bd 3 (B + 1) 2 d' → Q v' H'
abbrev s__law_odd : Stmt := topS 19
theorem sc__law_odd : FnScope (["_law_box_here", "_law_matter", "_law_some"] : List Str) (["_law_box_here", "_law_matter"] : List Str) (defScope s__law_odd) := ⟨rfl, rfl, rfl, by decide +kernel, rfl, by decide +kernel, by decide +kernel⟩
theorem b__law_odd (kV doc pm : Value) (an : Option Addr) (cdv ct : Value) (us : List Value) (hl : us.length = (["_law_box_here", "_law_matter"] : List Str).length) : bindArgs (PySem.W.fnOf "_law_odd" "_law_odd" (defArgs s__law_odd) (defBody s__law_odd) (defScope s__law_odd) .none kV doc pm an cdv ct) ⟨us, []⟩ = pure ((["_law_box_here", "_law_matter"] : List Str).zip us) :=
  match us, hl with | [_, _], _ => rfl
section
variable {P : Program} {w : World} {K : PySem.W.Frag} {mg : Str → Option Value} {base : Heap}
set_option maxHeartbeats 8000000 in
theorem ok_odd {k : Nat} (D : Df K mg "_law_odd" s__law_odd) (T : Bt mg) (O__law_of : Ok P w K mg base k "_law_of" s__law_of ["_law_box_here", "_law_some"] (spOf K)) : Ok P w K mg base (k + 1) "_law_odd" s__law_odd ["_law_box_here", "_law_matter"] (spOdd K) := by
  refine D.ok sc__law_odd b__law_odd (fun vs H Q E h => ?_) (fun f cdv A outer s H vs Q E hr h => ?_)
  · obtain ⟨b, n, nn, m, B, Z, v, d, rfl, _⟩ := h
    rfl
  · obtain ⟨b, n, nn, m, B, Z, v, d, rfl, hb, zb, hz, hv, bd, B0, B1, q⟩ := h
    refine ⟨_, (pss_cons (ps_set (i := 2) sc__law_odd.nd rfl (.inl rfl) (pe_lst (pa_cons pe_non (pa_cons pe_bl (pa_cons pe_bl (pa_cons pe_int (pa_cons pe_int (pa_cons (pe_un un_neg pe_int) (pa_cons pe_int (pa_cons (pe_op (op_powC 10000000000000) pe_int pe_int) (pa_cons pe_str (pa_cons pe_str (pa_cons (pe_tup pa_nil) (pa_cons (pe_lst pa_nil) (pa_cons (pe_tup (pa_cons pe_int pa_nil)) (pa_cons (pe_tup (pa_cons pe_int (pa_cons pe_int pa_nil))) (pa_cons (pe_tup (pa_cons pe_int (pa_cons pe_int pa_nil))) (pa_cons (pe_lst (pa_cons pe_int pa_nil)) (pa_cons (pe_tup (pa_cons pe_int (pa_cons pe_int (pa_cons (pe_tup pa_nil) pa_nil)))) pa_nil)))))))))))))))))))
      (Evl.pss_cut (ps_if (pt_val (pe_callB call_isi (by rfl) T.isinstance_ (by decide +kernel) (pa_cons (pv 1) (pa_cons (pe_bltn (v := .ty "int") (by rfl) T.int_ (by decide +kernel) rfl) pa_nil))))
        (pss_one (ps_set (i := 2) sc__law_odd.nd rfl (.inl rfl) (pe_op op_cat (pv 2) (pe_lst (pa_cons (pe_op op_addX (pv 1) pe_int) (pa_cons (pe_op op_subX pe_int (pv 1)) (pa_cons (pe_callTy call_strX (by rfl) T.str_ (by decide +kernel) (pa_cons (pv 1) pa_nil)) (pa_cons (pe_cmpR (op_eqD hr.units) (pv 1) pe_int (nomark _)) pa_nil))))))))
        pss_nil)
      (pss_one (ps_ret (pe_fn O__law_of (hr.mono (by omega)) (pa_cons (pv 0) (pa_cons (pv 2) pa_nil))))))), ?_⟩
    refine ⟨1, rfl, 10, 13, rfl, rfl, ⟨⟨by decide, by decide, by decide⟩, by decide⟩, Nat.zero_le _, fun t0 nt0 => ?_⟩
    have st0 : Same H (upd H t0 (.tup [])) := same_new nt0
    have et0 : upd H t0 (.tup []) t0 = some (.tup []) := upd_same
    have zt0 : Z t0 = false := (hz).new nt0
    generalize upd H t0 (.tup []) = O0 at st0 et0
    have sA0 := st0
    refine ⟨Nat.zero_le _, fun l0 nl0 => ?_⟩
    have sl0 : Same O0 (upd O0 l0 (.lst [])) := same_new nl0
    have el0 : upd O0 l0 (.lst []) l0 = some (.lst []) := upd_same
    have zl0 : Z l0 = false := (hz.same sA0).new nl0
    generalize upd O0 l0 (.lst []) = O1 at sl0 el0
    have sA1 := sA0.trans sl0
    refine ⟨(by show 1 ≤ sizeLine; decide), fun t1 nt1 => ?_⟩
    have st1 : Same O1 (upd O1 t1 (.tup [.int 0])) := same_new nt1
    have et1 : upd O1 t1 (.tup [.int 0]) t1 = some (.tup [.int 0]) := upd_same
    have zt1 : Z t1 = false := (hz.same sA1).new nt1
    generalize upd O1 t1 (.tup [.int 0]) = O2 at st1 et1
    have sA2 := sA1.trans st1
    refine ⟨(by show 2 ≤ sizeLine; decide), fun t2 nt2 => ?_⟩
    have st2 : Same O2 (upd O2 t2 (.tup [.int 1, .int 0])) := same_new nt2
    have et2 : upd O2 t2 (.tup [.int 1, .int 0]) t2 = some (.tup [.int 1, .int 0]) := upd_same
    have zt2 : Z t2 = false := (hz.same sA2).new nt2
    generalize upd O2 t2 (.tup [.int 1, .int 0]) = O3 at st2 et2
    have sA3 := sA2.trans st2
    refine ⟨(by show 2 ≤ sizeLine; decide), fun t3 nt3 => ?_⟩
    have st3 : Same O3 (upd O3 t3 (.tup [.int 0, .int 0])) := same_new nt3
    have et3 : upd O3 t3 (.tup [.int 0, .int 0]) t3 = some (.tup [.int 0, .int 0]) := upd_same
    have zt3 : Z t3 = false := (hz.same sA3).new nt3
    generalize upd O3 t3 (.tup [.int 0, .int 0]) = O4 at st3 et3
    have sA4 := sA3.trans st3
    refine ⟨(by show 1 ≤ sizeLine; decide), fun l1 nl1 => ?_⟩
    have sl1 : Same O4 (upd O4 l1 (.lst [.int 0])) := same_new nl1
    have el1 : upd O4 l1 (.lst [.int 0]) l1 = some (.lst [.int 0]) := upd_same
    have zl1 : Z l1 = false := (hz.same sA4).new nl1
    generalize upd O4 l1 (.lst [.int 0]) = O5 at sl1 el1
    have sA5 := sA4.trans sl1
    refine ⟨Nat.zero_le _, fun t4 nt4 => ?_⟩
    have st4 : Same O5 (upd O5 t4 (.tup [])) := same_new nt4
    have et4 : upd O5 t4 (.tup []) t4 = some (.tup []) := upd_same
    have zt4 : Z t4 = false := (hz.same sA5).new nt4
    generalize upd O5 t4 (.tup []) = O6 at st4 et4
    have sA6 := sA5.trans st4
    refine ⟨(by show 3 ≤ sizeLine; decide), fun t5 nt5 => ?_⟩
    have st5 : Same O6 (upd O6 t5 (.tup [.int 0, .int 1, .ref t4])) := same_new nt5
    have et5 : upd O6 t5 (.tup [.int 0, .int 1, .ref t4]) t5 = some (.tup [.int 0, .int 1, .ref t4]) := upd_same
    have zt5 : Z t5 = false := (hz.same sA6).new nt5
    generalize upd O6 t5 (.tup [.int 0, .int 1, .ref t4]) = O7 at st5 et5
    have sA7 := sA6.trans st5
    replace et0 := (((((((sl0).trans st1).trans st2).trans st3).trans sl1).trans st4).trans st5) _ _ et0
    replace el0 := ((((((st1).trans st2).trans st3).trans sl1).trans st4).trans st5) _ _ el0
    replace et1 := (((((st2).trans st3).trans sl1).trans st4).trans st5) _ _ et1
    replace et2 := ((((st3).trans sl1).trans st4).trans st5) _ _ et2
    replace et3 := (((sl1).trans st4).trans st5) _ _ et3
    replace el1 := ((st4).trans st5) _ _ el1
    replace et4 := (st5) _ _ et4
    refine ⟨(by show 17 ≤ sizeLine; decide), fun ls nls => ?_⟩
    have sB := sA7.trans (same_new nls (o := .lst ([.non, .bl true, .bl false, .int 0, .int 1, .int (-1), .int 7, .int 10000000000000, .str "", .str "here", .ref t0, .ref l0, .ref t1, .ref t2, .ref t3, .ref l1, .ref t5] : List V)))
    have eB : upd O7 ls (.lst ([.non, .bl true, .bl false, .int 0, .int 1, .int (-1), .int 7, .int 10000000000000, .str "", .str "here", .ref t0, .ref l0, .ref t1, .ref t2, .ref t3, .ref l1, .ref t5] : List V)) ls = some (.lst ([.non, .bl true, .bl false, .int 0, .int 1, .int (-1), .int 7, .int 10000000000000, .str "", .str "here", .ref t0, .ref l0, .ref t1, .ref t2, .ref t3, .ref l1, .ref t5] : List V)) := upd_same
    have sN : Same O7 (upd O7 ls (.lst ([.non, .bl true, .bl false, .int 0, .int 1, .int (-1), .int 7, .int 10000000000000, .str "", .str "here", .ref t0, .ref l0, .ref t1, .ref t2, .ref t3, .ref l1, .ref t5] : List V))) := same_new nls
    have zls : Z ls = false := (hz.same sA7).new nls
    have al : DpAll K (hide Z (upd O7 ls (.lst ([.non, .bl true, .bl false, .int 0, .int 1, .int (-1), .int 7, .int 10000000000000, .str "", .str "here", .ref t0, .ref l0, .ref t1, .ref t2, .ref t3, .ref l1, .ref t5] : List V)))) ([.non, .bl true, .bl false, .int 0, .int 1, .int (-1), .int 7, .int 10000000000000, .str "", .str "here", .ref t0, .ref l0, .ref t1, .ref t2, .ref t3, .ref l1, .ref t5] : List V) oddD := by
      have T0 : ∀ {a : Addr} {xs : List V}, Z a = false → O7 a = some (.tup xs) → SqT K (hide Z (upd O7 ls (.lst ([.non, .bl true, .bl false, .int 0, .int 1, .int (-1), .int 7, .int 10000000000000, .str "", .str "here", .ref t0, .ref l0, .ref t1, .ref t2, .ref t3, .ref l1, .ref t5] : List V)))) a xs := fun z e => SqT.of (hide_at z (sN _ _ e))
      have L0 : ∀ {a : Addr} {xs : List V}, Z a = false → O7 a = some (.lst xs) → SqL K (hide Z (upd O7 ls (.lst ([.non, .bl true, .bl false, .int 0, .int 1, .int (-1), .int 7, .int 10000000000000, .str "", .str "here", .ref t0, .ref l0, .ref t1, .ref t2, .ref t3, .ref l1, .ref t5] : List V)))) a xs := fun z e => SqL.of (hide_at z (sN _ _ e))
      exact .cons .non (.cons (.bl true) (.cons (.bl false) (.cons (.int 0) (.cons (.int 1) (.cons (.int (-1)) (.cons (.int 7) (.cons (.int 10000000000000) (.cons (.str "") (.cons (.str "here")
        (.cons (.tup (T0 zt0 et0) .nil) (.cons (.lst (L0 zl0 el0) .nil) (.cons (.tup (T0 zt1 et1) (.cons (.int 0) .nil)) (.cons (.tup (T0 zt2 et2) (.cons (.int 1) (.cons (.int 0) .nil))) (.cons (.tup (T0 zt3 et3) (.cons (.int 0) (.cons (.int 0) .nil)))
        (.cons (.lst (L0 zl1 el1) (.cons (.int 0) .nil)) (.cons (.tup (T0 zt5 et5) (.cons (.int 0) (.cons (.int 1) (.cons (.tup (T0 zt4 et4) .nil) .nil)))) .nil))))))))))))))))
    have ll : ([.non, .bl true, .bl false, .int 0, .int 1, .int (-1), .int 7, .int 10000000000000, .str "", .str "here", .ref t0, .ref l0, .ref t1, .ref t2, .ref t3, .ref l1, .ref t5] : List V).length = 17 := rfl
    dsimp only
    generalize hG : upd O7 ls (.lst ([.non, .bl true, .bl false, .int 0, .int 1, .int (-1), .int 7, .int 10000000000000, .str "", .str "here", .ref t0, .ref l0, .ref t1, .ref t2, .ref t3, .ref l1, .ref t5] : List V)) = H1 at sB eB sN al
    generalize ([.non, .bl true, .bl false, .int 0, .int 1, .int (-1), .int 7, .int 10000000000000, .str "", .str "here", .ref t0, .ref l0, .ref t1, .ref t2, .ref t3, .ref l1, .ref t5] : List V) = xs at eB al ll
    have lsb : ls ≠ b := fun e => by
      rw [e, zb] at zls
      cases zls
    have x1 := hb.same sB
    have bo := odd_bd B0
    refine ⟨fun σ' H' => ∃ (ls : Addr) (xs : List V) (ds : List PyData), σ' = [some (.ref b), some v, some (.ref ls)] ∧ Same H H' ∧ ls ≠ b ∧ H' ls = some (.lst xs) ∧ 0 < xs.length ∧ xs.length ≤ 30 ∧ DpAll K (hide Z H') xs ds ∧ ∀ d ∈ ds, Bd 3 (B + 1) 2 d, ?_, ?_⟩
    · have hv1 : Dp K H1 v d := Dp.same sB (Dp.same hide_same hv)
      have ty := ty_of hv1
      have no : ∃ (ls' : Addr) (xs' : List V) (ds' : List PyData), [some (V.ref b), some v, some (V.ref ls)] = [some (.ref b), some v, some (.ref ls')] ∧ Same H H1 ∧ ls' ≠ b ∧ H1 ls' = some (.lst xs') ∧ 0 < xs'.length ∧ xs'.length ≤ 30 ∧ DpAll K (hide Z H1) xs' ds' ∧ ∀ d ∈ ds', Bd 3 (B + 1) 2 d :=
        ⟨ls, xs, oddD, rfl, sB, lsb, eB, by omega, by omega, al, fun d hd => (bo d hd).mono (Nat.le_refl _) (by omega) (Nat.le_refl _)⟩
      have yes : ∀ (i : Int) (z : Str) (tb : Bool) (l4 lr : Addr), H1 l4 = none → upd H1 l4 (.lst [.int (i + 1), .int (0 - i), .str z, .bl tb]) lr = none → z.length ≤ 20 → PySem.PyData.strOk z = true → -B ≤ i → i ≤ B →
          ∃ (ls' : Addr) (xs' : List V) (ds' : List PyData), [some (V.ref b), some v, some (V.ref lr)] = [some (.ref b), some v, some (.ref ls')] ∧ Same H (upd (upd H1 l4 (.lst [.int (i + 1), .int (0 - i), .str z, .bl tb])) lr (.lst (xs ++ [.int (i + 1), .int (0 - i), .str z, .bl tb]))) ∧ ls' ≠ b ∧ upd (upd H1 l4 (.lst [.int (i + 1), .int (0 - i), .str z, .bl tb])) lr (.lst (xs ++ [.int (i + 1), .int (0 - i), .str z, .bl tb])) ls' = some (.lst xs') ∧ 0 < xs'.length ∧ xs'.length ≤ 30 ∧ DpAll K (hide Z (upd (upd H1 l4 (.lst [.int (i + 1), .int (0 - i), .str z, .bl tb])) lr (.lst (xs ++ [.int (i + 1), .int (0 - i), .str z, .bl tb])))) xs' ds' ∧ ∀ d ∈ ds', Bd 3 (B + 1) 2 d := fun i z tb l4 lr n4 nr z1 z2 i0 i1 => by
        have sX := (same_new n4 (o := .lst [.int (i + 1), .int (0 - i), .str z, .bl tb])).trans (same_new nr (o := .lst (xs ++ [.int (i + 1), .int (0 - i), .str z, .bl tb])))
        have sY := sB.trans ((same_new n4 (o := .lst [.int (i + 1), .int (0 - i), .str z, .bl tb])))
        refine ⟨lr, xs ++ [.int (i + 1), .int (0 - i), .str z, .bl tb], oddD ++ [.int (i + 1), .int (0 - i), .str z, .bool tb], rfl, sB.trans sX, fun e => ?_, upd_same, by rw [List.length_append]; omega, by rw [List.length_append, ll]; exact (by decide : 17 + 4 ≤ 30), ?_, ?_⟩
        · have : Z lr = false := (hz.same sY).new nr
          rw [e, zb] at this
          cases this
        · exact dpall_app (DpAll.same (hide_of sX) al) (.cons (.int _) (.cons (.int _) (.cons (.str _) (.cons (.bl _) .nil))))
        · intro d hd
          rcases List.mem_append.mp hd with y | y
          · exact (bo d y).mono (Nat.le_refl _) (by omega) (Nat.le_refl _)
          rcases List.mem_cons.mp y with rfl | y
          · exact ⟨by omega, by omega⟩
          rcases List.mem_cons.mp y with rfl | y
          · exact ⟨by omega, by omega⟩
          rcases List.mem_cons.mp y with rfl | y
          · exact ⟨z1, z2⟩
          rw [List.mem_singleton.mp y]
          trivial
      cases hv1 with
      | non => exact ⟨_, rfl, _, .ty "int", .type "NoneType", .type "int", false, rfl, .ty _, ty, kit_ty (by decide +kernel), _, rfl, iteF no⟩
      | str x => exact ⟨_, rfl, _, .ty "int", .type "str", .type "int", false, rfl, .ty _, ty, kit_ty (by decide +kernel), _, rfl, iteF no⟩
      | lst h a => exact ⟨_, rfl, _, .ty "int", .type "list", .type "int", false, rfl, .ty _, ty, kit_ty (by decide +kernel), _, rfl, iteF no⟩
      | tup h a => exact ⟨_, rfl, _, .ty "int", .type "tuple", .type "int", false, rfl, .ty _, ty, kit_ty (by decide +kernel), _, rfl, iteF no⟩
      | int i =>
        refine ⟨_, rfl, _, .ty "int", .type "int", .type "int", true, rfl, .ty _, ty, kit_ty (by decide +kernel), _, rfl, iteT ?_⟩
        have bi : -B ≤ i ∧ i ≤ B := by
          cases m with
          | zero => exact bd.elim
          | succ m => exact bd
        have na : i.natAbs < 10 ^ 14 := by
          show i.natAbs < 100000000000000
          omega
        have ft := fit_int na
        have lg : i.natAbs.log2 < 1920 := of_decide_eq_true ft.sh
        have tl : (Str.ofString (toString i)).length ≤ 15 := ft.len
        obtain ⟨tb1, tb2⟩ : Bd 3 B 1 (.str (Str.ofString (toString i))) := bd_text (toString i) (by rw [PySem.ofString_length] at tl; omega)
        refine ⟨_, rfl, _, rfl, i, 1, rfl, rfl, _, rfl, 0, i, rfl, rfl, _, rfl, _, Str.ofString (toString i), rfl, if_pos lg, ?_⟩
        refine ⟨_, rfl, .int i, .int 1, .int i, .int 1, rfl, rfl, (by show 4 ≤ sizeLine; decide), fun l4 n4 => ?_⟩
        refine ⟨ls, l4, xs, _, rfl, rfl, same_new n4 _ _ eB, upd_same, by rw [ll]; exact (by decide : 17 + 4 ≤ sizeLine), fun lr nr => ?_⟩
        exact yes i _ _ l4 lr n4 nr tb1 tb2 bi.1 bi.2
      | bl bb =>
        refine ⟨_, rfl, _, .ty "int", .type "bool", .type "int", true, rfl, .ty _, ty, kit_ty (by decide +kernel), _, rfl, iteT ?_⟩
        refine ⟨_, rfl, _, rfl, (if bb = true then 1 else 0), 1, rfl, rfl, _, rfl, 0, (if bb = true then 1 else 0), rfl, rfl, _, rfl, _, (if bb then "True" else "False"), rfl, rfl, ?_⟩
        refine ⟨_, rfl, .bool bb, .int 1, .bl bb, .int 1, rfl, rfl, (by show 4 ≤ sizeLine; decide), fun l4 n4 => ?_⟩
        refine ⟨ls, l4, xs, _, rfl, rfl, same_new n4 _ _ eB, upd_same, by rw [ll]; exact (by decide : 17 + 4 ≤ sizeLine), fun lr nr => ?_⟩
        exact yes _ _ _ l4 lr n4 nr (by cases bb <;> decide) (by cases bb <;> decide +kernel) (by cases bb <;> simp <;> omega) (by cases bb <;> simp <;> omega)
    · rintro σ H2 ⟨ls, xs, ds, rfl, s2, nb, e2, l0, l1, al2, b2⟩
      refine ⟨_, rfl, _, rfl, b, ls, n, xs, rfl, SqA.l e2, nb, l0, by omega, hb.same s2, fun v' ys hv' hy => ?_⟩
      obtain ⟨d', hd', dd⟩ := dpall_mem al2 hv'
      have u3 : But b H2 (upd H2 b (.lst ys)) := But.ups
      have x3 : BoxAt (upd H2 b (.lst ys)) b n := .put hy
      exact q _ v' d' ((Same.but s2).trans u3) x3 ((hz.same s2).but u3 x3) (Dp.same (hide_but zb u3) dd) (b2 d' hd')
end
end Sh

namespace Sh
open PySem PySem.Spec PyProof.Rows L2
/-! ### one thing otherwise, within -/
theorem cut_mid (xs : List V) (i j : Nat) : cutV xs (some (i : Int)) (some (j : Int)) = (xs.drop (min i xs.length)).take (min j xs.length - min i xs.length) := by
  unfold cutV
  rw [HT.sIx_nat, HT.sIx_nat]
theorem sixN {i n : Nat} (h : i < n) : ixN n (i : Int) = some i := by
  unfold ixN
  rw [if_pos (by omega), if_pos (by omega), Int.toNat_natCast]
/-- one more is hidden -/
def andZ (Z : Addr → Bool) (a : Addr) : Addr → Bool := fun x => Z x || decide (x = a)
theorem andZ_self {Z : Addr → Bool} {a : Addr} : andZ Z a a = true := by unfold andZ; simp
theorem andZ_of {Z : Addr → Bool} {a x : Addr} (h : Z x = true) : andZ Z a x = true := by unfold andZ; rw [h]; rfl
theorem hide_more {Z : Addr → Bool} {H : Hp} {a : Addr} (n : H a = none) : Same (hide Z H) (hide (andZ Z a) H) := fun x o h => by
  obtain ⟨z, e⟩ := hide_some h
  refine hide_at ?_ e
  unfold andZ
  rw [z, decide_eq_false (fun q => by rw [q, n] at e; cases e)]
  rfl
theorem hide_less {Z : Addr → Bool} {H : Hp} {a : Addr} : Same (hide (andZ Z a) H) (hide Z H) := fun x o h => by
  obtain ⟨z, e⟩ := hide_some h
  refine hide_at ?_ e
  unfold andZ at z
  exact (Bool.or_eq_false_iff.mp z).1
theorem Hid.more {Z : Addr → Bool} {H : Hp} {a : Addr} {o : HO} (h : Hid Z H) (e : H a = some o) : Hid (andZ Z a) H := fun x z => by
  unfold andZ at z
  rcases Bool.or_eq_true_iff.mp z with y | y
  · exact h x y
  · rw [of_decide_eq_true y, e]
    intro q
    cases q
theorem Hid.less {Z : Addr → Bool} {H : Hp} {a : Addr} (h : Hid (andZ Z a) H) : Hid Z H := fun x z => h x (andZ_of z)
def spBent (K : PySem.W.Frag) (jj : Nat) : Sp := fun vs H Q _ => ∃ (b : Addr) (n nn m j : Nat) (B : Int) (Z : Addr → Bool) (v : V) (d : PyData), vs = [.ref b, v, .int (j : Int)] ∧ j < jj ∧ BoxAt H b (n + 3 * (j + 1)) ∧ Z b = true ∧ Hid Z H ∧ Dp K (hide Z H) v d ∧ Bd nn B m d ∧ 3 ≤ nn ∧ nn ≤ 50 ∧ 2 + j ≤ m ∧ 10000000000000 ≤ B ∧ B ≤ 10000000000050 ∧
  ∀ (H' : Hp) (v' : V) (d' : PyData), But b H H' → BoxAt H' b n → Hid Z H' → Dp K (hide Z H') v' d' → Bd (nn + 1) (B + 1) m d' → Q v' H'
def seqD (tu : Bool) (cs : List PyData) : PyData := if tu then .tuple cs else .list cs
def seqT (tu : Bool) : String := if tu then "tuple" else "list"
theorem dp_seq {K : PySem.W.Frag} {H : Hp} {v : V} {d : PyData} (h : Dp K H v d) : (∃ ty : String, (∀ H' : Hp, TyX K H' v (.type ty)) ∧ kitB ty "list" = some false ∧ kitB ty "tuple" = some false) ∨ (∃ (p : Addr) (xs : List V) (cs : List PyData) (tu : Bool), v = .ref p ∧ d = seqD tu cs ∧ (if tu then SqT K H p xs else SqL K H p xs) ∧ DpAll K H xs cs) := by
  cases h with
  | non => exact .inl ⟨"NoneType", fun _ => .base .non, by decide +kernel, by decide +kernel⟩
  | bl b => exact .inl ⟨"bool", fun _ => .base (.bl b), by decide +kernel, by decide +kernel⟩
  | int i => exact .inl ⟨"int", fun _ => .base (.int i), by decide +kernel, by decide +kernel⟩
  | str x => exact .inl ⟨"str", fun _ => .base (.str x), by decide +kernel, by decide +kernel⟩
  | lst h a => exact .inr ⟨_, _, _, false, rfl, rfl, h, a⟩
  | tup h a => exact .inr ⟨_, _, _, true, rfl, rfl, h, a⟩
theorem seq_ty {K : PySem.W.Frag} {H : Hp} {p : Addr} {xs : List V} {tu : Bool} (h : if tu then SqT K H p xs else SqL K H p xs) : SqA K H p xs ∧ TyX K H (.ref p) (.type (seqT tu)) ∧ kitB (seqT tu) "list" = some (!tu) ∧ kitB (seqT tu) "tuple" = some tu := by
  cases tu with
  | true => exact ⟨.inr h, ty_tup h, by decide +kernel, by decide +kernel⟩
  | false => exact ⟨.inl h, ty_list h, by decide +kernel, by decide +kernel⟩
theorem bd_seq {n m : Nat} {B : Int} {tu : Bool} {cs : List PyData} : Bd n B (m + 1) (seqD tu cs) ↔ cs.length ≤ n ∧ ∀ e ∈ cs, Bd n B m e := by
  cases tu <;> exact Iff.rfl
theorem dp_of_seq {K : PySem.W.Frag} {H : Hp} {p : Addr} {xs : List V} {cs : List PyData} {tu : Bool} (h : if tu then H p = some (.tup xs) else H p = some (.lst xs)) (a : DpAll K H xs cs) : Dp K H (.ref p) (seqD tu cs) := by
  cases tu with
  | true => exact .tup (SqT.of h) a
  | false => exact .lst (SqL.of h) a
abbrev s__law_bent : Stmt := topS 20
theorem sc__law_bent : FnScope (["_law_box_here", "_law_matter", "_law_deep", "_law_manner", "_law_some", "_law_at"] : List Str) (["_law_box_here", "_law_matter", "_law_deep"] : List Str) (defScope s__law_bent) := ⟨rfl, rfl, rfl, by decide +kernel, rfl, by decide +kernel, by decide +kernel⟩
theorem b__law_bent (kV doc pm : Value) (an : Option Addr) (cdv ct : Value) (us : List Value) (hl : us.length = (["_law_box_here", "_law_matter", "_law_deep"] : List Str).length) : bindArgs (PySem.W.fnOf "_law_bent" "_law_bent" (defArgs s__law_bent) (defBody s__law_bent) (defScope s__law_bent) .none kV doc pm an cdv ct) ⟨us, []⟩ = pure ((["_law_box_here", "_law_matter", "_law_deep"] : List Str).zip us) :=
  match us, hl with | [_, _, _], _ => rfl
section
variable {P : Program} {w : World} {K : PySem.W.Frag} {mg : Str → Option Value} {base : Heap}
theorem bent0 {c : Nat} (D : Df K mg "_law_bent" s__law_bent) : Ok P w K mg base c "_law_bent" s__law_bent ["_law_box_here", "_law_matter", "_law_deep"] (spBent K 0) := by
  obtain ⟨f, fd, F, g⟩ := D.ex
  refine ⟨f, fd, F, g, F.binds b__law_bent, ⟨fun vs H Q E h => ?_, fun A outer s H args us vs Q E hr he hb hv h => ?_⟩⟩
  · obtain ⟨b, n, nn, m, j, B, Z, v, d, _, lt, _⟩ := h
    exact absurd lt (Nat.not_lt_zero _)
  · obtain ⟨b, n, nn, m, j, B, Z, v, d, _, lt, _⟩ := h
    exact absurd lt (Nat.not_lt_zero _)
set_option maxHeartbeats 8000000 in
theorem bent1 {k jj : Nat} (D : Df K mg "_law_bent" s__law_bent) (T : Bt mg) (O__law_take : Ok P w K mg base k "_law_take" s__law_take ["_law_box_here", "_law_span"] spTake) (O__law_odd : Ok P w K mg base k "_law_odd" s__law_odd ["_law_box_here", "_law_matter"] (spOdd K))
    (O__law_bent : Ok P w K mg base k "_law_bent" s__law_bent ["_law_box_here", "_law_matter", "_law_deep"] (spBent K jj)) : Ok P w K mg base (k + 1) "_law_bent" s__law_bent ["_law_box_here", "_law_matter", "_law_deep"] (spBent K (jj + 1)) := by
  refine D.ok sc__law_bent b__law_bent (fun vs H Q E h => ?_) (fun f cdv A outer s H vs Q E hr h => ?_)
  · obtain ⟨b, n, nn, m, j, B, Z, v, d, rfl, _⟩ := h
    rfl
  · obtain ⟨b, n, nn, m, j, B, Z, v, d, rfl, lj, hb, zb, hz, hv, bd, n3, n5, jm, B0, B1, q⟩ := h
    refine ⟨_, (pss_cons (ps_set (i := 3) sc__law_bent.nd rfl (.inl rfl) (pe_fn O__law_take (hr.mono (by omega)) (pa_cons (pv 0) (pa_cons pe_int pa_nil))))
      (pss_cons (ps_if (PW.pt (pw_or (pt_not (pt_val (pe_callB call_isiT (by rfl) T.isinstance_ (by decide +kernel) (pa_cons (pv 1) (pa_cons (pe_tup (pa_cons (pe_bltn (v := .ty "list") (by rfl) T.list_ (by decide +kernel) rfl) (pa_cons (pe_bltn (v := .ty "tuple") (by rfl) T.tuple_ (by decide +kernel) rfl) pa_nil))) pa_nil))))) (pw_or (pt_cmpR op_eq (pe_callB call_len_seq (by rfl) T.len_ PySem.boot_len (pa_cons (pv 1) pa_nil)) pe_int (nomark _)) (pw_or (pt_cmpR op_eq (pv 3) pe_int (nomark _)) (pw_or1 (pt_cmpR op_eq (pv 2) pe_int (nomark _)))))))
        (pss_one (ps_ret (pe_fn O__law_odd (hr.mono (by omega)) (pa_cons (pv 0) (pa_cons (pv 1) pa_nil)))))
        pss_nil)
      (pss_cons (ps_if (pt_cmpR op_eq (pv 3) pe_int (nomark _))
        (pss_one (ps_ret (pe_ifExp (pt_val (pe_callB call_isi (by rfl) T.isinstance_ (by decide +kernel) (pa_cons (pv 1) (pa_cons (pe_bltn (v := .ty "list") (by rfl) T.list_ (by decide +kernel) rfl) pa_nil)))) (pe_callTy call_tuple_of (by rfl) T.tuple_ (by decide +kernel) (pa_cons (pv 1) pa_nil)) (pe_callTy call_list_of (by rfl) T.list_ (by decide +kernel) (pa_cons (pv 1) pa_nil)))))
        pss_nil)
      (pss_cons (ps_par (i := 4) (j := 5) (by rfl) sc__law_bent.nd rfl rfl (by decide) rfl rfl (pa_cons (pe_callTy call_list_of (by rfl) T.list_ (by decide +kernel) (pa_cons (pv 1) pa_nil)) (pa_cons (pe_fn O__law_take (hr.mono (by omega)) (pa_cons (pv 0) (pa_cons (pe_callB call_len_seq (by rfl) T.len_ PySem.boot_len (pa_cons (pv 1) pa_nil)) pa_nil))) pa_nil)) (by rfl))
      (Evl.pss_cut (ps_if (pt_cmpR op_eq (pv 3) pe_int (nomark _))
        (pss_one (ps_set (i := 4) sc__law_bent.nd rfl (.inl rfl) (pe_op op_cat (pe_slice sl_list (pv 4) po_none (po_some (pv 5))) (pe_slice sl_list (pv 4) (po_some (pe_op op_add (pv 5) pe_int)) po_none))))
        (pss_one (ps_if (pt_cmpR op_eq (pv 3) pe_int (nomark _))
            (pss_one (ps_set (i := 4) sc__law_bent.nd rfl (.inl rfl) (pe_op op_cat (pe_slice sl_list (pv 4) po_none (po_some (pe_op op_add (pv 5) pe_int))) (pe_slice sl_list (pv 4) (po_some (pv 5)) po_none))))
            (pss_one (ps_if (pt_cmpR op_eq (pv 3) pe_int (nomark _))
                (pss_one (ps_set (i := 4) sc__law_bent.nd rfl (.inl rfl) (pe_op op_cat (pe_op op_cat (pe_slice sl_list (pv 4) po_none (po_some (pv 5))) (pe_revL (pe_slice sl_list (pv 4) (po_some (pv 5)) (po_some (pe_op op_add (pv 5) pe_int))))) (pe_slice sl_list (pv 4) (po_some (pe_op op_add (pv 5) pe_int)) po_none))))
                (pss_one (ps_asg (pe_fn O__law_bent (hr.mono (by omega)) (pa_cons (pv 0) (pa_cons (pe_ix ix_lt (pv 4) (pv 5) (fun _ _ => rfl)) (pa_cons (pe_op op_sub (pv 2) pe_int) pa_nil)))) (pg_sub (pv 4) (pv 5) set_list))))))))
      (pss_one (ps_ret (pe_ifExp (pt_val (pe_callB call_isi (by rfl) T.isinstance_ (by decide +kernel) (pa_cons (pv 1) (pa_cons (pe_bltn (v := .ty "list") (by rfl) T.list_ (by decide +kernel) rfl) pa_nil)))) (pv 4) (pe_callTy call_tuple_of (by rfl) T.tuple_ (by decide +kernel) (pa_cons (pv 4) pa_nil)))))))))), ?_⟩
    refine ⟨_, rfl, b, n + 3 * (j + 1) - 1, 8, rfl, by decide, by decide, hb.mono (by omega), fun ma ys a0 a1 hy => ?_⟩
    have u1 : But b H (upd H b (.lst ys)) := But.ups
    have x1 : BoxAt (upd H b (.lst ys)) b (n + 3 * (j + 1) - 1) := .put hy
    have hz1 := hz.but u1 x1
    have hv1 := Dp.same (hide_but zb u1) hv
    generalize upd H b (.lst ys) = H1 at u1 x1 hz1 hv1
    clear hy hv hz
    refine ⟨_, rfl, (by show 2 ≤ sizeLine; decide), fun tp ntp => ?_⟩
    have s2 : Same H1 (upd H1 tp (.tup [.ty "list", .ty "tuple"])) := same_new ntp
    have e2 : upd H1 tp (.tup [.ty "list", .ty "tuple"]) tp = some (.tup [.ty "list", .ty "tuple"]) := upd_same
    generalize upd H1 tp (.tup [.ty "list", .ty "tuple"]) = H2 at s2 e2
    have u2 := u1.trans (Same.but (b := b) s2)
    have x2 := x1.same s2
    have hz2 := hz1.same s2
    have hv2 := Dp.same (hide_of s2) hv1
    clear u1 x1 hz1 hv1 s2
    have bd3 : ∀ {d' : PyData}, Bd 3 (B + 1) 2 d' → Bd (nn + 1) (B + 1) m d' := fun h => h.mono (by omega) (Int.le_refl _) (by omega)
    have dp2 := Dp.same hide_same hv2
    rcases dp_seq hv2 with ⟨ty, tx, k1, k2⟩ | ⟨p, xs, cs, tu, rfl, rfl, hp, al⟩
    · refine ⟨v, tp, [.ty "list", .ty "tuple"], .type ty, [.type "list", .type "tuple"], false, rfl, e2, .cons (.ty _) (.cons (.ty _) .nil), tx _, kit2 k1 k2 rfl, _, rfl, iteT ?_⟩
      exact ⟨_, rfl, _, rfl, b, n, nn, m, B, Z, v, d, rfl, x2.mono (by omega), zb, hz2, hv2, bd, B0, B1, fun H' v' d' u x hz' dd bd' => q _ v' d' (u2.trans u) x hz' dd (bd3 bd')⟩
    obtain ⟨hq, tx, k1, k2⟩ := seq_ty hp
    have lx := DpAll.len al
    obtain ⟨m, rfl⟩ : ∃ m', m = m' + 1 := ⟨m - 1, by omega⟩
    obtain ⟨lc, bc⟩ := bd_seq.mp bd
    have hqH : SqA K H2 p xs := Same.sqA hide_same hq
    have hpH : if tu then SqT K H2 p xs else SqL K H2 p xs := by
      cases tu with
      | true => exact Same.tup hide_same hp
      | false => exact hide_same.seq hp
    have txH : TyX K H2 (.ref p) (.type (seqT tu)) := (seq_ty hpH).2.1
    refine ⟨.ref p, tp, [.ty "list", .ty "tuple"], .type (seqT tu), [.type "list", .type "tuple"], true, rfl, e2, .cons (.ty _) (.cons (.ty _) .nil), txH, kit2 k1 k2 (by cases tu <;> rfl), _, rfl, iteF ?_⟩
    refine ⟨_, rfl, p, _, rfl, hqH, rfl, _, rfl, ?_⟩
    by_cases l0 : xs.length = 0
    · rw [decide_eq_true (by rw [l0]; rfl)]
      refine iteT ?_
      exact ⟨_, rfl, _, rfl, b, n, nn, m + 1, B, Z, .ref p, seqD tu cs, rfl, x2.mono (by omega), zb, hz2, hv2, bd, B0, B1, fun H' v' d' u x hz' dd bd' => q _ v' d' (u2.trans u) x hz' dd (bd3 bd')⟩
    rw [decide_eq_false (fun e => l0 (by have := V.int.inj e; omega))]
    refine iteF ?_
    refine ⟨_, rfl, rfl, _, rfl, ?_⟩
    by_cases c0 : ma = 0
    · rw [decide_eq_true (by rw [c0])]
      refine iteT ?_
      exact ⟨_, rfl, _, rfl, b, n, nn, m + 1, B, Z, .ref p, seqD tu cs, rfl, x2.mono (by omega), zb, hz2, hv2, bd, B0, B1, fun H' v' d' u x hz' dd bd' => q _ v' d' (u2.trans u) x hz' dd (bd3 bd')⟩
    rw [decide_eq_false (fun e => c0 (V.int.inj e))]
    refine iteF ?_
    refine ⟨_, rfl, rfl, _, rfl, ?_⟩
    by_cases j0 : j = 0
    · rw [decide_eq_true (by rw [j0]; rfl)]
      refine iteT ?_
      exact ⟨_, rfl, _, rfl, b, n, nn, m + 1, B, Z, .ref p, seqD tu cs, rfl, x2.mono (by omega), zb, hz2, hv2, bd, B0, B1, fun H' v' d' u x hz' dd bd' => q _ v' d' (u2.trans u) x hz' dd (bd3 bd')⟩
    rw [decide_eq_false (fun e => j0 (by have := V.int.inj e; omega))]
    refine iteF ?_
    have bcn : ∀ e ∈ cs, Bd (nn + 1) (B + 1) m e := fun e he => (bc e he).mono (by omega) (by omega) (Nat.le_refl _)
    -- the other kind
    refine ⟨_, rfl, rfl, _, rfl, ?_⟩
    by_cases c1 : ma = 1
    · rw [decide_eq_true (by rw [c1])]
      refine iteT ?_
      refine ⟨_, rfl, .ref p, .ty "list", _, .type "list", !tu, rfl, .ty _, txH, kit_ty k1, _, rfl, ?_⟩
      have alH := DpAll.same hide_same al
      cases tu with
      | false =>
        refine iteT ?_
        refine ⟨_, rfl, p, _, rfl, .inl ⟨hpH, fun a na => ?_⟩⟩
        have s3 : Same H2 (upd H2 a (.tup xs)) := same_new na
        refine q _ (.ref a) (.tuple cs) (u2.trans (Same.but s3)) ((x2.same s3).mono (by omega)) (hz2.same s3) (.tup (SqT.of (hide_at (hz2.new na) upd_same)) (DpAll.same (hide_of s3) al)) ⟨by omega, bcn⟩
      | true =>
        refine iteF ?_
        refine ⟨_, rfl, p, _, rfl, hqH, fun a na => ?_⟩
        have s3 : Same H2 (upd H2 a (.lst xs)) := same_new na
        refine q _ (.ref a) (.list cs) (u2.trans (Same.but s3)) ((x2.same s3).mono (by omega)) (hz2.same s3) (.lst (SqL.of (hide_at (hz2.new na) upd_same)) (DpAll.same (hide_of s3) al)) ⟨by omega, bcn⟩
    rw [decide_eq_false (fun e => c1 (V.int.inj e))]
    refine iteF ?_
    -- a list of its own, a place in it
    refine ⟨_, rfl, p, _, rfl, hqH, fun so nso => ?_⟩
    have s3 : Same H2 (upd H2 so (.lst xs)) := same_new nso
    have e3 : upd H2 so (.lst xs) so = some (.lst xs) := upd_same
    have zso := hz2.new nso
    have sob : so ≠ b := fun e => by rw [e, zb] at zso; cases zso
    generalize upd H2 so (.lst xs) = H3 at s3 e3
    have nso0 : H so = none := But.free u2 sob nso
    have seqY : ∀ {Ha Hb : Hp}, Same Ha Hb → (if tu then SqT K Ha p xs else SqL K Ha p xs) → if tu then SqT K Hb p xs else SqL K Hb p xs := fun s h => by
      cases tu with
      | true => exact Same.tup s h
      | false => exact s.seq h
    have hy3 : if tu then SqT K (hide (andZ Z so) H3) p xs else SqL K (hide (andZ Z so) H3) p xs := seqY (hide_of s3) (seqY (hide_more nso) hp)
    have ay3 : DpAll K (hide (andZ Z so) H3) xs cs := DpAll.same (hide_of s3) (DpAll.same (hide_more nso) al)
    have hp3 : if tu then SqT K (hide Z H3) p xs else SqL K (hide Z H3) p xs := by
      cases tu with
      | true => exact Same.tup (hide_of s3) hp
      | false => exact (hide_of s3).seq hp
    have u3 := u2.trans (Same.but (b := b) s3)
    have x3 := x2.same s3
    have hz3 := hz2.same s3
    have al3 := DpAll.same (hide_of s3) al
    have hqH3 := Same.sqA s3 hqH
    clear hv2 s3 u2 x2 hz2 hp hq al hpH txH tx e2 hqH
    refine ⟨_, rfl, _, rfl, p, _, rfl, hqH3, b, n + 3 * j, _, rfl, by omega, by omega, x3.mono (by omega), fun at' ys at0 at1 hy => ?_⟩
    obtain ⟨ai, rfl⟩ : ∃ ai : Nat, at' = (ai : Int) := ⟨at'.toNat, by omega⟩
    have hai : ai < xs.length := by omega
    have u4 : But b H3 (upd H3 b (.lst ys)) := But.ups
    have x4 : BoxAt (upd H3 b (.lst ys)) b (n + 3 * j) := .put hy
    have hz4 := hz3.but u4 x4
    have e4 := u4 _ _ sob e3
    have hh := hide_but (Z := Z) zb u4
    have al4 := DpAll.same hh al3
    have ay4 := DpAll.same (hide_but (Z := andZ Z so) (andZ_of zb) u4) ay3
    have hy4 := seqY (hide_but (Z := andZ Z so) (andZ_of zb) u4) hy3
    have hp4 : if tu then SqT K (hide Z (upd H3 b (.lst ys))) p xs else SqL K (hide Z (upd H3 b (.lst ys))) p xs := by
      cases tu with
      | true => exact Same.tup hh hp3
      | false => exact hh.seq hp3
    generalize upd H3 b (.lst ys) = H4 at u4 x4 hz4 e4 al4 hp4 ay4 hy4
    clear ay3 hy3
    replace u4 := u3.trans u4
    clear hh u3 x3 hz3 al3 hp3 hqH3 e3 hy
    refine ⟨_, _, rfl, ?_⟩
    refine ⟨fun σ' H' => ∃ (so : Addr) (xs' : List V) (cs' : List PyData), σ' = [some (.ref b), some (.ref p), some (.int (j : Int)), some (.int ma), some (.ref so), some (.int (ai : Int))] ∧ But b H H' ∧ BoxAt H' b n ∧ Hid Z H' ∧ Z so = false ∧ H' so = some (.lst xs') ∧ DpAll K (hide Z H') xs' cs' ∧ cs'.length ≤ nn + 1 ∧ (∀ e ∈ cs', Bd (nn + 1) (B + 1) m e) ∧ (if tu then SqT K H' p xs else SqL K H' p xs), ?_, ?_⟩
    · have lcs : ai < cs.length := by omega
      have seqS : ∀ {H5 : Hp}, Same (hide Z H4) H5 → if tu then SqT K H5 p xs else SqL K H5 p xs := fun s => by
        cases tu with
        | true => exact Same.tup s hp4
        | false => exact s.seq hp4
      have fin : ∀ (H5 : Hp) (r : Addr) (xs' : List V) (cs' : List PyData), Same H4 H5 → Z r = false → H5 r = some (.lst xs') → DpAll K (hide Z H4) xs' cs' → cs'.length ≤ nn + 1 → (∀ e ∈ cs', e ∈ cs) →
          ∃ (so : Addr) (xs' : List V) (cs' : List PyData), [some (V.ref b), some (V.ref p), some (V.int (j : Int)), some (V.int ma), some (V.ref r), some (V.int (ai : Int))] = [some (.ref b), some (.ref p), some (.int (j : Int)), some (.int ma), some (.ref so), some (.int (ai : Int))] ∧ But b H H5 ∧ BoxAt H5 b n ∧ Hid Z H5 ∧ Z so = false ∧ H5 so = some (.lst xs') ∧ DpAll K (hide Z H5) xs' cs' ∧ cs'.length ≤ nn + 1 ∧ (∀ e ∈ cs', Bd (nn + 1) (B + 1) m e) ∧ (if tu then SqT K H5 p xs else SqL K H5 p xs) := fun H5 r xs' cs' s zr er a l i =>
        ⟨r, xs', cs', rfl, u4.trans (Same.but s), (x4.same s).mono (by omega), hz4.same s, zr, er, DpAll.same (hide_of s) a, l, fun e he => bcn e (i e he), seqS (hide_same.trans s)⟩
      have lxs : xs.length ≤ 60 := by omega
      refine ⟨_, rfl, rfl, _, rfl, ?_⟩
      by_cases c2 : ma = 2
      · rw [decide_eq_true (by rw [c2])]
        refine iteT ?_
        refine ⟨_, rfl, _, rfl, (ai : Int), rfl, so, _, rfl, SqL.of e4, fun p1 np1 => ?_⟩
        rw [cut_take]
        have s5 : Same H4 (upd H4 p1 (.lst (xs.take ai))) := same_new np1
        have e5 : upd H4 p1 (.lst (xs.take ai)) p1 = some (.lst (xs.take ai)) := upd_same
        generalize upd H4 p1 (.lst (xs.take ai)) = H5 at s5 e5
        refine ⟨_, rfl, _, rfl, (ai : Int), 1, rfl, rfl, ((ai + 1 : Nat) : Int), rfl, so, _, rfl, SqL.of (s5 _ _ e4), fun p2 np2 => ?_⟩
        rw [cut_drop]
        have s6 : Same H5 (upd H5 p2 (.lst (xs.drop (ai + 1)))) := same_new np2
        have e6 : upd H5 p2 (.lst (xs.drop (ai + 1))) p2 = some (.lst (xs.drop (ai + 1))) := upd_same
        generalize upd H5 p2 (.lst (xs.drop (ai + 1))) = H6 at s6 e6
        refine ⟨p1, p2, _, _, rfl, rfl, s6 _ _ e5, e6, ?_, fun p3 np3 => ?_⟩
        · rw [List.length_take, List.length_drop]
          exact Nat.le_trans (show min ai xs.length + (xs.length - (ai + 1)) ≤ 100 by omega) (by decide)
        have s7 := s5.trans s6
        refine fin _ p3 _ (cs.take ai ++ cs.drop (ai + 1)) (s7.trans (same_new np3)) ((hz4.same s7).new np3) upd_same (dpall_app (dpall_take ai al4) (dpall_drop (ai + 1) al4)) ?_ ?_
        · rw [List.length_append, List.length_take, List.length_drop]
          omega
        · intro e he
          rcases List.mem_append.mp he with y | y
          · exact List.mem_of_mem_take y
          · exact List.mem_of_mem_drop y
      rw [decide_eq_false (fun e => c2 (V.int.inj e))]
      refine iteF ?_
      refine ⟨_, rfl, rfl, _, rfl, ?_⟩
      by_cases c3 : ma = 3
      · rw [decide_eq_true (by rw [c3])]
        refine iteT ?_
        refine ⟨_, rfl, _, rfl, (ai : Int), 1, rfl, rfl, ((ai + 1 : Nat) : Int), rfl, so, _, rfl, SqL.of e4, fun p1 np1 => ?_⟩
        rw [cut_take]
        have s5 : Same H4 (upd H4 p1 (.lst (xs.take (ai + 1)))) := same_new np1
        have e5 : upd H4 p1 (.lst (xs.take (ai + 1))) p1 = some (.lst (xs.take (ai + 1))) := upd_same
        generalize upd H4 p1 (.lst (xs.take (ai + 1))) = H5 at s5 e5
        refine ⟨_, rfl, _, rfl, (ai : Int), rfl, so, _, rfl, SqL.of (s5 _ _ e4), fun p2 np2 => ?_⟩
        rw [cut_drop]
        have s6 : Same H5 (upd H5 p2 (.lst (xs.drop ai))) := same_new np2
        have e6 : upd H5 p2 (.lst (xs.drop ai)) p2 = some (.lst (xs.drop ai)) := upd_same
        generalize upd H5 p2 (.lst (xs.drop ai)) = H6 at s6 e6
        refine ⟨p1, p2, _, _, rfl, rfl, s6 _ _ e5, e6, ?_, fun p3 np3 => ?_⟩
        · rw [List.length_take, List.length_drop]
          exact Nat.le_trans (show min (ai + 1) xs.length + (xs.length - ai) ≤ 200 by omega) (by decide)
        have s7 := s5.trans s6
        refine fin _ p3 _ (cs.take (ai + 1) ++ cs.drop ai) (s7.trans (same_new np3)) ((hz4.same s7).new np3) upd_same (dpall_app (dpall_take (ai + 1) al4) (dpall_drop ai al4)) ?_ ?_
        · rw [List.length_append, List.length_take, List.length_drop]
          omega
        · intro e he
          rcases List.mem_append.mp he with y | y
          · exact List.mem_of_mem_take y
          · exact List.mem_of_mem_drop y
      rw [decide_eq_false (fun e => c3 (V.int.inj e))]
      refine iteF ?_
      refine ⟨_, rfl, rfl, _, rfl, ?_⟩
      by_cases c4 : ma = 4
      · rw [decide_eq_true (by rw [c4])]
        refine iteT ?_
        refine ⟨_, rfl, _, rfl, (ai : Int), rfl, so, _, rfl, SqL.of e4, fun p1 np1 => ?_⟩
        rw [cut_take]
        have s5 : Same H4 (upd H4 p1 (.lst (xs.take ai))) := same_new np1
        have e5 : upd H4 p1 (.lst (xs.take ai)) p1 = some (.lst (xs.take ai)) := upd_same
        generalize upd H4 p1 (.lst (xs.take ai)) = H5 at s5 e5
        refine ⟨_, rfl, _, rfl, (ai : Int), rfl, _, rfl, (ai : Int), 2, rfl, rfl, ((ai + 2 : Nat) : Int), rfl, so, _, rfl, SqL.of (s5 _ _ e4), fun p2 np2 => ?_⟩
        have mid : cutV xs (some (ai : Int)) (some ((ai + 2 : Nat) : Int)) = (xs.drop ai).take (min (ai + 2) xs.length - ai) := by rw [cut_mid, Nat.min_eq_left (Nat.le_of_lt hai)]
        rw [mid]
        have lm : ((xs.drop ai).take (min (ai + 2) xs.length - ai)).length ≤ 2 := by
          rw [List.length_take, List.length_drop]
          omega
        have am : DpAll K (hide Z H4) ((xs.drop ai).take (min (ai + 2) xs.length - ai)) ((cs.drop ai).take (min (ai + 2) xs.length - ai)) := dpall_take _ (dpall_drop _ al4)
        generalize (xs.drop ai).take (min (ai + 2) xs.length - ai) = ms at lm am
        have s6 : Same H5 (upd H5 p2 (.lst ms)) := same_new np2
        have e6 : upd H5 p2 (.lst ms) p2 = some (.lst ms) := upd_same
        generalize upd H5 p2 (.lst ms) = H6 at s6 e6
        refine ⟨p2, _, rfl, SqL.of e6, fun p3 np3 => ?_⟩
        have s7 : Same H6 (upd H6 p3 (.lst ms.reverse)) := same_new np3
        have e7 : upd H6 p3 (.lst ms.reverse) p3 = some (.lst ms.reverse) := upd_same
        generalize upd H6 p3 (.lst ms.reverse) = H7 at s7 e7
        refine ⟨p1, p3, _, _, rfl, rfl, (s6.trans s7) _ _ e5, e7, ?_, fun p4 np4 => ?_⟩
        · rw [List.length_take, List.length_reverse]
          exact Nat.le_trans (show min ai xs.length + ms.length ≤ 200 by omega) (by decide)
        have s8 : Same H7 (upd H7 p4 (.lst (xs.take ai ++ ms.reverse))) := same_new np4
        have e8 : upd H7 p4 (.lst (xs.take ai ++ ms.reverse)) p4 = some (.lst (xs.take ai ++ ms.reverse)) := upd_same
        generalize upd H7 p4 (.lst (xs.take ai ++ ms.reverse)) = H8 at s8 e8
        have s48 := s5.trans (s6.trans (s7.trans s8))
        refine ⟨_, rfl, _, rfl, (ai : Int), 2, rfl, rfl, ((ai + 2 : Nat) : Int), rfl, so, _, rfl, SqL.of (s48 _ _ e4), fun p5 np5 => ?_⟩
        rw [cut_drop]
        have s9 : Same H8 (upd H8 p5 (.lst (xs.drop (ai + 2)))) := same_new np5
        have e9 : upd H8 p5 (.lst (xs.drop (ai + 2))) p5 = some (.lst (xs.drop (ai + 2))) := upd_same
        generalize upd H8 p5 (.lst (xs.drop (ai + 2))) = H9 at s9 e9
        have lms := DpAll.len am
        refine ⟨p4, p5, _, _, rfl, rfl, s9 _ _ e8, e9, ?_, fun p6 np6 => ?_⟩
        · rw [List.length_append, List.length_take, List.length_reverse, List.length_drop]
          exact Nat.le_trans (show min ai xs.length + ms.length + (xs.length - (ai + 2)) ≤ 200 by omega) (by decide)
        have s49 := s48.trans s9
        refine fin _ p6 _ (cs.take ai ++ ((cs.drop ai).take (min (ai + 2) xs.length - ai)).reverse ++ cs.drop (ai + 2)) (s49.trans (same_new np6)) ((hz4.same s49).new np6) upd_same (dpall_app (dpall_app (dpall_take ai al4) (dpall_rev am)) (dpall_drop (ai + 2) al4)) ?_ ?_
        · rw [List.length_append, List.length_append, List.length_take, List.length_reverse, List.length_take, List.length_drop, List.length_drop]
          omega
        · intro e he
          rcases List.mem_append.mp he with y | y
          · rcases List.mem_append.mp y with y | y
            · exact List.mem_of_mem_take y
            · exact List.mem_of_mem_drop (List.mem_of_mem_take (List.mem_reverse.mp y))
          · exact List.mem_of_mem_drop y
      rw [decide_eq_false (fun e => c4 (V.int.inj e))]
      refine iteF ?_
      obtain ⟨dx, gd, hd⟩ := DpAll.get ay4 (List.getElem?_eq_getElem hai)
      have edx : cs[ai] = dx := by
        rw [List.getElem?_eq_getElem lcs] at gd
        exact Option.some.inj gd
      have bx : Bd nn B m dx := by rw [← edx]; exact bc _ (List.getElem_mem lcs)
      obtain ⟨j', rfl⟩ : ∃ j', j = j' + 1 := ⟨j - 1, by omega⟩
      refine ⟨_, rfl, _, rfl, _, rfl, so, _, _, xs[ai], rfl, rfl, SqA.l e4, at_nat (j := ai) rfl (List.getElem?_eq_getElem hai), _, rfl, ((j' + 1 : Nat) : Int), 1, rfl, rfl, ?_⟩
      refine ⟨b, n, nn, m, j', B, andZ Z so, xs[ai], dx, ?_, by omega, x4.mono (by omega), andZ_of zb, hz4.more e4, hd, bx, n3, n5, by omega, B0, B1, fun H5 v' d' u5 x5 hz5 dd bd' => ?_⟩
      · show [V.ref b, xs[ai], V.int (((j' + 1 : Nat) : Int) - 1)] = _
        rw [show ((j' + 1 : Nat) : Int) - 1 = (j' : Int) by omega]
      have e5 := u5 _ _ sob e4
      have ay5 := DpAll.same (hide_but (Z := andZ Z so) (andZ_of zb) u5) ay4
      refine ⟨_, rfl, _, rfl, so, _, _, ai, rfl, rfl, e5, sixN hai, ?_⟩
      have hy : Same (hide (andZ Z so) H5) (hide (andZ Z so) (upd H5 so (.lst (xs.set ai v')))) := fun x o h => by
        obtain ⟨z, e⟩ := hide_some h
        refine hide_at z ?_
        rw [upd_ne (fun q => by rw [q, andZ_self] at z; cases z)]
        exact e
      refine ⟨so, xs.set ai v', cs.set ai d', rfl, ?_, ?_, ?_, zso, upd_same, DpAll.same hide_less (DpAll.same hy (dpall_set dd ai ay5)), ?_, ?_, ?_⟩
      · exact (u4.trans u5).put nso0
      · exact x5.at (Ne.symm sob)
      · intro x z e
        by_cases y : x = so
        · rw [y, upd_same] at e
          cases e
        · rw [upd_ne y] at e
          exact hz5.less x z e
      · rw [List.length_set]
        omega
      · intro e he
        rcases List.mem_or_eq_of_mem_set he with y | y
        · exact bcn e y
        · rw [y]
          exact bd'
      · exact seqY (hide_same.trans (fun _ _ e => e)) (seqY hy (seqY (hide_but (Z := andZ Z so) (andZ_of zb) u5) hy4))
    · rintro σ H5 ⟨so, xs', cs', rfl, u5, x5, hz5, zso, e5, al5, l5, b5, hp5⟩
      obtain ⟨hq5, tx5, _, _⟩ := seq_ty hp5
      refine ⟨_, rfl, .ref p, .ty "list", _, .type "list", !tu, rfl, .ty _, tx5, kit_ty k1, _, rfl, ?_⟩
      cases tu with
      | false =>
        refine iteT ⟨_, rfl, ?_⟩
        exact q _ (.ref so) (.list cs') u5 x5 hz5 (.lst (SqL.of (hide_at zso e5)) al5) ⟨l5, b5⟩
      | true =>
        refine iteF ?_
        refine ⟨_, rfl, so, _, rfl, .inl ⟨SqL.of e5, fun a na => ?_⟩⟩
        have s6 : Same H5 (upd H5 a (.tup xs')) := same_new na
        exact q _ (.ref a) (.tuple cs') (u5.trans (Same.but s6)) (x5.same s6) (hz5.same s6) (.tup (SqT.of (hide_at (hz5.new na) upd_same)) (DpAll.same (hide_of s6) al5)) ⟨l5, b5⟩
end
end Sh

namespace Sh
open PySem PySem.Spec PyProof.Rows L2
theorem ok_bent {P : Program} {w : World} {K : PySem.W.Frag} {mg : Str → Option Value} {base : Heap} {k : Nat} (D : Df K mg "_law_bent" s__law_bent) (T : Bt mg) (O__law_take : Ok P w K mg base k "_law_take" s__law_take ["_law_box_here", "_law_span"] spTake) (O__law_odd : Ok P w K mg base k "_law_odd" s__law_odd ["_law_box_here", "_law_matter"] (spOdd K)) :
    ∀ jj : Nat, Ok P w K mg base (k + jj) "_law_bent" s__law_bent ["_law_box_here", "_law_matter", "_law_deep"] (spBent K jj)
  | 0 => bent0 D
  | jj + 1 => bent1 D T (O__law_take.mono (Nat.le_add_right _ _)) (O__law_odd.mono (Nat.le_add_right _ _)) (ok_bent D T O__law_take O__law_odd jj)
/-- a thing whose text fits -/
def Thing (d : PyData) : Prop := ∃ (n m : Nat) (B : Int), Bd n B m d ∧ n ≤ 60 ∧ m ≤ 60 ∧ B ≤ 10000000000100 ∧ lenB n m ≤ sizeLine
theorem bdI {n m : Nat} {B i : Int} (a : -B ≤ i) (c : i ≤ B) : Bd n B (m + 1) (.int i) := ⟨a, c⟩
theorem bdInts {n m : Nat} {B : Int} {ns : List Int} (l : ns.length ≤ n) (h : ∀ i ∈ ns, -B ≤ i ∧ i ≤ B) : Bd n B (m + 2) (.tuple (ns.map .int)) := ⟨by rw [List.length_map]; exact l, fun e he => by
  obtain ⟨i, hi, rfl⟩ := List.mem_map.mp he
  exact h i hi⟩
theorem bdIntsL {n m : Nat} {B : Int} {ns : List Int} (l : ns.length ≤ n) (h : ∀ i ∈ ns, -B ≤ i ∧ i ≤ B) : Bd n B (m + 2) (.list (ns.map .int)) := ⟨by rw [List.length_map]; exact l, fun e he => by
  obtain ⟨i, hi, rfl⟩ := List.mem_map.mp he
  exact h i hi⟩
theorem bd_three {n m : Nat} {B : Int} {a b c : PyData} (h3 : 3 ≤ n) (x : Bd n B m a) (y : Bd n B m b) (z : Bd n B m c) : Bd n B (m + 1) (.tuple [a, b, c]) ∧ Bd n B (m + 1) (.list [a, b, c]) := by
  have key : ∀ e ∈ [a, b, c], Bd n B m e := fun e he => by
    have e3 : e = a ∨ e = b ∨ e = c := by simpa using he
    rcases e3 with rfl | rfl | rfl
    · exact x
    · exact y
    · exact z
  exact ⟨⟨h3, key⟩, ⟨h3, key⟩⟩
theorem sea_okS {n : Nat} {h t : Int} {ds : List Int} (so : SeaOk n h t ds) : isSeaD (.tuple [.int h, .int t, .tuple (ds.map .int)]) = true := by
  rw [sea_three]
  show (decide (0 ≤ h) && (decide (0 ≤ t) && (true && (decide (0 < (ds.map PyData.int).length) && (ds.map PyData.int).all isNumD)))) = true
  rw [decide_eq_true so.h0, decide_eq_true so.t0, decide_eq_true (by rw [List.length_map]; exact so.l0), Bool.true_and, Bool.true_and, Bool.true_and, Bool.true_and, List.all_eq_true]
  intro x hx
  obtain ⟨d, hd, rfl⟩ := List.mem_map.mp hx
  exact decide_eq_true (so.d0 d hd).1
theorem stand_okS {c : Nat} {L : List Nat} (hL : Lot c L) : isStD c (.tuple ((L.map fun (i : Nat) => (i : Int)).map .int)) = true := by
  show (((L.map fun (i : Nat) => (i : Int)).map PyData.int).all (isPlD c) && risingB (((L.map fun (i : Nat) => (i : Int)).map PyData.int).map intD)) = true
  rw [Bool.and_eq_true]
  constructor
  · rw [List.all_eq_true]
    intro x hx
    obtain ⟨d, hd, rfl⟩ := List.mem_map.mp hx
    obtain ⟨i, hi, rfl⟩ := List.mem_map.mp hd
    have := hL.lt i hi
    show (decide (0 ≤ (i : Int)) && decide ((i : Int) < (c : Int))) = true
    rw [decide_eq_true (by omega), decide_eq_true (by omega)]
    rfl
  · have e : ((L.map fun (i : Nat) => (i : Int)).map PyData.int).map intD = L.map fun (i : Nat) => (i : Int) := by
      rw [List.map_map]
      have : (intD ∘ PyData.int) = id := by funext i; rfl
      rw [this, List.map_id]
    rw [e]
    refine decide_eq_true (List.pairwise_map.mpr (hL.up.imp fun h => ?_))
    omega
abbrev s__law_right : Stmt := topS 21
theorem sc__law_right : FnScope (["_law_box_here", "_law_pool", "_law_count", "_law_lot_here", "_law_things", "_law_turn", "_law_bent_here", "_law_matter", "_law_kept", "_law_told"] : List Str) (["_law_box_here"] : List Str) (defScope s__law_right) := ⟨rfl, rfl, rfl, by decide +kernel, rfl, by decide +kernel, by decide +kernel⟩
theorem b__law_right (kV doc pm : Value) (an : Option Addr) (cdv ct : Value) (us : List Value) (hl : us.length = (["_law_box_here"] : List Str).length) : bindArgs (PySem.W.fnOf "_law_right" "_law_right" (defArgs s__law_right) (defBody s__law_right) (defScope s__law_right) .none kV doc pm an cdv ct) ⟨us, []⟩ = pure ((["_law_box_here"] : List Str).zip us) :=
  match us, hl with | [_], _ => rfl
def lawZ (b : Addr) : Addr → Bool := fun a => decide (a = b)
section
variable {P : Program} {w : World} {K : PySem.W.Frag} {mg : Str → Option Value} {base : Heap}
set_option maxHeartbeats 8000000 in
theorem ok_right {k : Nat} (D : Df K mg "_law_right" s__law_right) (T : Bt mg) (O__law_sea : Ok P w K mg base k "_law_sea" s__law_sea ["_law_box_here", "_law_most"] spSea) (O__law_take : Ok P w K mg base k "_law_take" s__law_take ["_law_box_here", "_law_span"] spTake) (O__law_of : Ok P w K mg base k "_law_of" s__law_of ["_law_box_here", "_law_some"] (spOf K))
    (O__law_lot : Ok P w K mg base k "_law_lot" s__law_lot ["_law_box_here", "_law_count"] spLot) (O__law_bent : Ok P w K mg base k "_law_bent" s__law_bent ["_law_box_here", "_law_matter", "_law_deep"] (spBent K 4))
    (O__law_same : Ok P w K mg base k "_law_same" s__law_same ["_law_found", "_law_due"] (spSame K 3)) (O__law_sea_due : Ok P w K mg base k "_law_sea_due" s__law_sea_due ["_law_matter"] (spSeaDue K)) (O__law_lot_due : Ok P w K mg base k "_law_lot_due" s__law_lot_due ["_law_count", "_law_matter"] (spLotDue K))
    (O_is_sea : Ok P w K mg base k "is_sea" s_is_sea ["thing"] (spIsSea K)) (O_is_standing : Ok P w K mg base k "is_standing" s_is_standing ["sea", "thing"] (spIsStand K)) :
    OkG P w K mg base (k + 1) "_law_right" s__law_right ["_law_box_here"] spRight := by
  refine D.okG sc__law_right b__law_right (fun vs H Q E h => ?_) (fun f cdv A outer s H vs Q E hr hG h => ?_)
  · obtain ⟨b, rfl, _⟩ := h
    rfl
  · obtain ⟨b, rfl, hb, q⟩ := h
    refine ⟨_, (pss_cons (ps_set (i := 1) sc__law_right.nd rfl (.inl rfl) (pe_fn O__law_sea (hr.mono (by omega)) (pa_cons (pv 0) (pa_cons pe_int pa_nil))))
      (pss_cons (ps_set (i := 2) sc__law_right.nd rfl (.inl rfl) (pe_callB call_len_seq (by rfl) T.len_ PySem.boot_len (pa_cons (pe_ix ix_lt (pv 1) pe_int (fun _ _ => rfl)) pa_nil)))
      (pss_cons (ps_set (i := 3) sc__law_right.nd rfl (.inl rfl) (pe_fn O__law_lot (hr.mono (by omega)) (pa_cons (pv 0) (pa_cons (pv 2) pa_nil))))
      (pss_cons (ps_set (i := 4) sc__law_right.nd rfl (.inl rfl) (pe_lst (pa_cons (pv 1) (pa_cons (pv 3) (pa_cons (pe_callTy call_list_of (by rfl) T.list_ (by decide +kernel) (pa_cons (pv 1) pa_nil)) (pa_cons (pe_callTy call_list_of (by rfl) T.list_ (by decide +kernel) (pa_cons (pv 3) pa_nil)) (pa_cons pe_non (pa_cons (pe_tup pa_nil) (pa_cons (pe_lst pa_nil) (pa_cons pe_int (pa_cons pe_str (pa_cons (pe_tup (pa_cons (pv 2) pa_nil)) (pa_cons (pe_tupRg (by rfl) (by rfl) T.tuple_ (prg_1 (by rfl) T.range_ (pv 2))) pa_nil)))))))))))))
      (pss_cons (ps_set (i := 4) sc__law_right.nd rfl (.inl rfl) (pe_op op_cat (pv 4) (pe_lst (pa_cons (pe_tup (pa_cons pe_int (pa_cons pe_int (pa_cons (pe_op op_repT (pe_tup (pa_cons pe_int pa_nil)) pe_int) pa_nil)))) (pa_cons (pe_tup (pa_cons pe_int (pa_cons pe_int (pa_cons (pe_tup pa_nil) pa_nil)))) (pa_cons (pe_tup (pa_cons pe_int (pa_cons pe_int pa_nil))) (pa_cons (pe_tup (pa_cons pe_int pa_nil)) (pa_cons (pe_tup (pa_cons (pe_op op_sub (pv 2) pe_int) (pa_cons (pe_op op_sub (pv 2) pe_int) pa_nil))) pa_nil))))))))
      (pss_cons (ps_for PassesOwn.never rfl (pi_range1 (by rfl) T.range_ (pa_cons pe_int pa_nil)) (pg_name (i := 5) sc__law_right.nd rfl (.inl rfl))
        (pss_cons (ps_set (i := 6) sc__law_right.nd rfl (.inl rfl) (pe_fn O__law_bent (hr.mono (by omega)) (pa_cons (pv 0) (pa_cons (pe_fn O__law_of (hr.mono (by omega)) (pa_cons (pv 0) (pa_cons (pe_lst (pa_cons (pv 1) (pa_cons (pv 3) pa_nil))) pa_nil))) (pa_cons pe_int pa_nil)))))
          (pss_one (ps_expr (pe_bm PySem.F.plainAttrs_list PySem.F.slot_list_append PySem.F.type_list_append mt_append (pv 4) (pa_cons (pe_ifExp (pt_cmpR op_eq (pe_fn O__law_take (hr.mono (by omega)) (pa_cons (pv 0) (pa_cons pe_int pa_nil))) pe_int (nomark _)) (pe_fn O__law_bent (hr.mono (by omega)) (pa_cons (pv 0) (pa_cons (pv 6) (pa_cons pe_int pa_nil)))) (pv 6)) pa_nil))))))
      (pss_cons (ps_for PassesOwn.never rfl (pi_seq (pv 4)) (pg_name (i := 7) sc__law_right.nd rfl (.inl rfl))
        (pss_cons (ps_set (i := 8) sc__law_right.nd rfl (.inl rfl) (pe_callB (cr_reprD hG (reprU hr)) (by rfl) T.repr_ (by decide +kernel) (pa_cons (pv 7) pa_nil)))
          (pss_cons (ps_set (i := 9) sc__law_right.nd rfl (.inl rfl) (pe_lst (pa_cons (pe_fn O_is_sea (hr.mono (by omega)) (pa_cons (pv 7) pa_nil)) (pa_cons (pe_fn O_is_standing (hr.mono (by omega)) (pa_cons (pv 1) (pa_cons (pv 7) pa_nil))) pa_nil))))
          (pss_one (ps_if (PW.pt (pw_or (pt_not (pt_val (pe_fn O__law_same (hr.mono (by omega)) (pa_cons (pv 9) (pa_cons (pe_lst (pa_cons (pe_fn O__law_sea_due (hr.mono (by omega)) (pa_cons (pv 7) pa_nil)) (pa_cons (pe_fn O__law_lot_due (hr.mono (by omega)) (pa_cons (pv 2) (pa_cons (pv 7) pa_nil))) pa_nil))) pa_nil))))) (pw_or1 (pt_cmpR op_ne (pe_callB (cr_reprD hG (reprU hr)) (by rfl) T.repr_ (by decide +kernel) (pa_cons (pv 7) pa_nil)) (pv 8) (nomark _)))))
            (pss_one (ps_ret pe_bl))
            pss_nil)))))
      (pss_one (ps_ret (pe_and (pe_cmpR op_isBl (pe_fnK0 (ks := ["thing"]) [0] O_is_sea (hr.mono (by omega)) (fun _ _ _ _ _ _ ws hk => match ws, hk with | [_], _ => rfl) (pk_cons (pv 1) pk_nil)) pe_bl (nomark _)) (pe_one (pe_cmpR op_isBl (pe_fnK0 (ks := ["thing", "sea"]) [1, 0] O_is_standing (hr.mono (by omega)) (fun _ _ _ _ _ _ ws hk => match ws, hk with | [_, _], _ => rfl) (pk_cons (pv 3) (pk_cons (pv 1) pk_nil))) pe_bl (nomark _))))))))))))), ?_⟩
    refine ⟨_, rfl, b, 90000, 6, rfl, by decide, by decide, hb.mono (by decide), fun H1 p q' h t ds u1 x1 np nq hp hq so => ?_⟩
    have k0 := so.l0
    have k1 : ds.length ≤ 6 := so.l1
    have pb : p ≠ b := (hb.ne np).symm
    have qb : q' ≠ b := (hb.ne nq).symm
    refine ⟨_, rfl, p, _, 2, .ref q', rfl, rfl, SqA.t hp, rfl, q', _, rfl, .inr (SqT.of hq), ?_⟩
    rw [List.length_map]
    refine ⟨_, rfl, _, rfl, b, 80000, ds.length, rfl, by omega, x1.mono (by decide), fun H2 pl L uu2 x2 npl hpl hL => ?_⟩
    replace hp := uu2 _ _ pb hp
    replace hq := uu2 _ _ qb hq
    replace uu2 := u1.trans uu2
    have plb : pl ≠ b := (x1.ne npl).symm
    clear u1 x1 np nq npl
    have lL := hL.len
    obtain ⟨Zb, eZ⟩ : ∃ Zb : Addr → Bool, Zb = lawZ b := ⟨_, rfl⟩
    have zb : Zb b = true := by rw [eZ]; exact decide_eq_true rfl
    have zne : ∀ {a : Addr}, a ≠ b → Zb a = false := fun n => by rw [eZ]; exact decide_eq_false n
    have hz2 : Hid Zb H2 := fun a z => by
      rw [eZ] at z
      rw [of_decide_eq_true z]
      exact x2.some
    refine ⟨_, rfl, _, rfl, _, rfl, p, _, rfl, SqA.t hp, fun lp nlp => ?_⟩
    have slp : Same H2 (upd H2 lp (.lst [.int h, .int t, .ref q'])) := same_new nlp
    have elp : upd H2 lp (.lst [.int h, .int t, .ref q']) lp = some (.lst [.int h, .int t, .ref q']) := upd_same
    have zlp : Zb lp = false := hz2.new nlp
    generalize upd H2 lp (.lst [.int h, .int t, .ref q']) = O0 at slp elp
    have sA0 := slp
    refine ⟨_, rfl, pl, _, rfl, SqA.t (sA0 _ _ hpl), fun ll nll => ?_⟩
    have sll : Same O0 (upd O0 ll (.lst (ni L))) := same_new nll
    have ell : upd O0 ll (.lst (ni L)) ll = some (.lst (ni L)) := upd_same
    have zll : Zb ll = false := (hz2.same sA0).new nll
    generalize upd O0 ll (.lst (ni L)) = O1 at sll ell
    have sA1 := sA0.trans sll
    refine ⟨Nat.zero_le _, fun t0 nt0 => ?_⟩
    have st0 : Same O1 (upd O1 t0 (.tup [])) := same_new nt0
    have et0 : upd O1 t0 (.tup []) t0 = some (.tup []) := upd_same
    have zt0 : Zb t0 = false := (hz2.same sA1).new nt0
    generalize upd O1 t0 (.tup []) = O2 at st0 et0
    have sA2 := sA1.trans st0
    refine ⟨Nat.zero_le _, fun l0 nl0 => ?_⟩
    have sl0 : Same O2 (upd O2 l0 (.lst [])) := same_new nl0
    have el0 : upd O2 l0 (.lst []) l0 = some (.lst []) := upd_same
    have zl0 : Zb l0 = false := (hz2.same sA2).new nl0
    generalize upd O2 l0 (.lst []) = O3 at sl0 el0
    have sA3 := sA2.trans sl0
    refine ⟨_, rfl, (by show 1 ≤ sizeLine; decide), fun t1 nt1 => ?_⟩
    have st1 : Same O3 (upd O3 t1 (.tup [.int (ds.length : Int)])) := same_new nt1
    have et1 : upd O3 t1 (.tup [.int (ds.length : Int)]) t1 = some (.tup [.int (ds.length : Int)]) := upd_same
    have zt1 : Zb t1 = false := (hz2.same sA3).new nt1
    generalize upd O3 t1 (.tup [.int (ds.length : Int)]) = O4 at st1 et1
    have sA4 := sA3.trans st1
    refine ⟨_, rfl, _, rfl, .of_le (by omega) (by omega) (by omega) (by omega), fun t2 nt2 => ?_⟩
    rw [rgV_ni]
    have st2 : Same O4 (upd O4 t2 (.tup (ni (List.range ds.length)))) := same_new nt2
    have et2 : upd O4 t2 (.tup (ni (List.range ds.length))) t2 = some (.tup (ni (List.range ds.length))) := upd_same
    have zt2 : Zb t2 = false := (hz2.same sA4).new nt2
    generalize upd O4 t2 (.tup (ni (List.range ds.length))) = O5 at st2 et2
    have sA5 := sA4.trans st2
    refine ⟨(by show 11 ≤ sizeLine; decide), fun th0 nth0 => ?_⟩
    have sth0 : Same O5 (upd O5 th0 (.lst [.ref p, .ref pl, .ref lp, .ref ll, .non, .ref t0, .ref l0, .int 3, .str "sea", .ref t1, .ref t2])) := same_new nth0
    have eth0 : upd O5 th0 (.lst [.ref p, .ref pl, .ref lp, .ref ll, .non, .ref t0, .ref l0, .int 3, .str "sea", .ref t1, .ref t2]) th0 = some (.lst [.ref p, .ref pl, .ref lp, .ref ll, .non, .ref t0, .ref l0, .int 3, .str "sea", .ref t1, .ref t2]) := upd_same
    have zth0 : Zb th0 = false := (hz2.same sA5).new nth0
    generalize upd O5 th0 (.lst [.ref p, .ref pl, .ref lp, .ref ll, .non, .ref t0, .ref l0, .int 3, .str "sea", .ref t1, .ref t2]) = O6 at sth0 eth0
    have sA6 := sA5.trans sth0
    refine ⟨_, rfl, (by show 1 ≤ sizeLine; decide), fun u0 nu0 => ?_⟩
    have su0 : Same O6 (upd O6 u0 (.tup [.int 0])) := same_new nu0
    have eu0 : upd O6 u0 (.tup [.int 0]) u0 = some (.tup [.int 0]) := upd_same
    have zu0 : Zb u0 = false := (hz2.same sA6).new nu0
    generalize upd O6 u0 (.tup [.int 0]) = O7 at su0 eu0
    have sA7 := sA6.trans su0
    refine ⟨u0, 30, [.int 0], rfl, rfl, SqT.of eu0, (by simp), by decide, by decide, by decide, fun u1 nu1 => ?_⟩
    rw [show (List.replicate (30 : Int).toNat [V.int 0]).flatten = List.replicate 30 (V.int 0) from by decide +kernel]
    have su1 : Same O7 (upd O7 u1 (.tup (List.replicate 30 (V.int 0)))) := same_new nu1
    have eu1 : upd O7 u1 (.tup (List.replicate 30 (V.int 0))) u1 = some (.tup (List.replicate 30 (V.int 0))) := upd_same
    have zu1 : Zb u1 = false := (hz2.same sA7).new nu1
    generalize upd O7 u1 (.tup (List.replicate 30 (V.int 0))) = O8 at su1 eu1
    have sA8 := sA7.trans su1
    refine ⟨(by show 3 ≤ sizeLine; decide), fun u2 nu2 => ?_⟩
    have su2 : Same O8 (upd O8 u2 (.tup [.int 0, .int 0, .ref u1])) := same_new nu2
    have eu2 : upd O8 u2 (.tup [.int 0, .int 0, .ref u1]) u2 = some (.tup [.int 0, .int 0, .ref u1]) := upd_same
    have zu2 : Zb u2 = false := (hz2.same sA8).new nu2
    generalize upd O8 u2 (.tup [.int 0, .int 0, .ref u1]) = O9 at su2 eu2
    have sA9 := sA8.trans su2
    refine ⟨Nat.zero_le _, fun u3 nu3 => ?_⟩
    have su3 : Same O9 (upd O9 u3 (.tup [])) := same_new nu3
    have eu3 : upd O9 u3 (.tup []) u3 = some (.tup []) := upd_same
    have zu3 : Zb u3 = false := (hz2.same sA9).new nu3
    generalize upd O9 u3 (.tup []) = O10 at su3 eu3
    have sA10 := sA9.trans su3
    refine ⟨(by show 3 ≤ sizeLine; decide), fun u4 nu4 => ?_⟩
    have su4 : Same O10 (upd O10 u4 (.tup [.int 0, .int 2, .ref u3])) := same_new nu4
    have eu4 : upd O10 u4 (.tup [.int 0, .int 2, .ref u3]) u4 = some (.tup [.int 0, .int 2, .ref u3]) := upd_same
    have zu4 : Zb u4 = false := (hz2.same sA10).new nu4
    generalize upd O10 u4 (.tup [.int 0, .int 2, .ref u3]) = O11 at su4 eu4
    have sA11 := sA10.trans su4
    refine ⟨(by show 2 ≤ sizeLine; decide), fun u5 nu5 => ?_⟩
    have su5 : Same O11 (upd O11 u5 (.tup [.int 0, .int 0])) := same_new nu5
    have eu5 : upd O11 u5 (.tup [.int 0, .int 0]) u5 = some (.tup [.int 0, .int 0]) := upd_same
    have zu5 : Zb u5 = false := (hz2.same sA11).new nu5
    generalize upd O11 u5 (.tup [.int 0, .int 0]) = O12 at su5 eu5
    have sA12 := sA11.trans su5
    refine ⟨(by show 1 ≤ sizeLine; decide), fun u6 nu6 => ?_⟩
    have su6 : Same O12 (upd O12 u6 (.tup [.int 0])) := same_new nu6
    have eu6 : upd O12 u6 (.tup [.int 0]) u6 = some (.tup [.int 0]) := upd_same
    have zu6 : Zb u6 = false := (hz2.same sA12).new nu6
    generalize upd O12 u6 (.tup [.int 0]) = O13 at su6 eu6
    have sA13 := sA12.trans su6
    refine ⟨_, rfl, (ds.length : Int), 1, rfl, rfl, _, rfl, (ds.length : Int), 1, rfl, rfl, (by show 2 ≤ sizeLine; decide), fun u7 nu7 => ?_⟩
    dsimp only
    have su7 : Same O13 (upd O13 u7 (.tup [.int ((ds.length : Int) - 1), .int ((ds.length : Int) - 1)])) := same_new nu7
    have eu7 : upd O13 u7 (.tup [.int ((ds.length : Int) - 1), .int ((ds.length : Int) - 1)]) u7 = some (.tup [.int ((ds.length : Int) - 1), .int ((ds.length : Int) - 1)]) := upd_same
    have zu7 : Zb u7 = false := (hz2.same sA13).new nu7
    generalize upd O13 u7 (.tup [.int ((ds.length : Int) - 1), .int ((ds.length : Int) - 1)]) = O14 at su7 eu7
    have sA14 := sA13.trans su7
    refine ⟨(by show 5 ≤ sizeLine; decide), fun th1 nth1 => ?_⟩
    have sth1 : Same O14 (upd O14 th1 (.lst [.ref u2, .ref u4, .ref u5, .ref u6, .ref u7])) := same_new nth1
    have eth1 : upd O14 th1 (.lst [.ref u2, .ref u4, .ref u5, .ref u6, .ref u7]) th1 = some (.lst [.ref u2, .ref u4, .ref u5, .ref u6, .ref u7]) := upd_same
    have zth1 : Zb th1 = false := (hz2.same sA14).new nth1
    generalize upd O14 th1 (.lst [.ref u2, .ref u4, .ref u5, .ref u6, .ref u7]) = O15 at sth1 eth1
    have sA15 := sA14.trans sth1
    replace elp := (((((((((((((((sll).trans st0).trans sl0).trans st1).trans st2).trans sth0).trans su0).trans su1).trans su2).trans su3).trans su4).trans su5).trans su6).trans su7).trans sth1) _ _ elp
    replace ell := ((((((((((((((st0).trans sl0).trans st1).trans st2).trans sth0).trans su0).trans su1).trans su2).trans su3).trans su4).trans su5).trans su6).trans su7).trans sth1) _ _ ell
    replace et0 := (((((((((((((sl0).trans st1).trans st2).trans sth0).trans su0).trans su1).trans su2).trans su3).trans su4).trans su5).trans su6).trans su7).trans sth1) _ _ et0
    replace el0 := ((((((((((((st1).trans st2).trans sth0).trans su0).trans su1).trans su2).trans su3).trans su4).trans su5).trans su6).trans su7).trans sth1) _ _ el0
    replace et1 := (((((((((((st2).trans sth0).trans su0).trans su1).trans su2).trans su3).trans su4).trans su5).trans su6).trans su7).trans sth1) _ _ et1
    replace et2 := ((((((((((sth0).trans su0).trans su1).trans su2).trans su3).trans su4).trans su5).trans su6).trans su7).trans sth1) _ _ et2
    replace eth0 := (((((((((su0).trans su1).trans su2).trans su3).trans su4).trans su5).trans su6).trans su7).trans sth1) _ _ eth0
    replace eu0 := ((((((((su1).trans su2).trans su3).trans su4).trans su5).trans su6).trans su7).trans sth1) _ _ eu0
    replace eu1 := (((((((su2).trans su3).trans su4).trans su5).trans su6).trans su7).trans sth1) _ _ eu1
    replace eu2 := ((((((su3).trans su4).trans su5).trans su6).trans su7).trans sth1) _ _ eu2
    replace eu3 := (((((su4).trans su5).trans su6).trans su7).trans sth1) _ _ eu3
    replace eu4 := ((((su5).trans su6).trans su7).trans sth1) _ _ eu4
    replace eu5 := (((su6).trans su7).trans sth1) _ _ eu5
    replace eu6 := ((su7).trans sth1) _ _ eu6
    replace eu7 := (sth1) _ _ eu7
    refine ⟨th0, th1, _, _, rfl, rfl, eth0, eth1, (by show 16 ≤ sizeLine; decide), fun th nth => ?_⟩
    have sB := sA15.trans (same_new nth (o := .lst ([.ref p, .ref pl, .ref lp, .ref ll, .non, .ref t0, .ref l0, .int 3, .str "sea", .ref t1, .ref t2] ++ [.ref u2, .ref u4, .ref u5, .ref u6, .ref u7])))
    have eB : upd O15 th (.lst ([.ref p, .ref pl, .ref lp, .ref ll, .non, .ref t0, .ref l0, .int 3, .str "sea", .ref t1, .ref t2] ++ [.ref u2, .ref u4, .ref u5, .ref u6, .ref u7])) th = some (.lst ([.ref p, .ref pl, .ref lp, .ref ll, .non, .ref t0, .ref l0, .int 3, .str "sea", .ref t1, .ref t2] ++ [.ref u2, .ref u4, .ref u5, .ref u6, .ref u7])) := upd_same
    have sN : Same O15 (upd O15 th (.lst ([.ref p, .ref pl, .ref lp, .ref ll, .non, .ref t0, .ref l0, .int 3, .str "sea", .ref t1, .ref t2] ++ [.ref u2, .ref u4, .ref u5, .ref u6, .ref u7]))) := same_new nth
    have zth : Zb th = false := (hz2.same sA15).new nth
    have T0 : ∀ {a : Addr} {xs : List V}, Zb a = false → O15 a = some (.tup xs) → SqT K (hide Zb O15) a xs := fun z e => SqT.of (hide_at z e)
    have L0 : ∀ {a : Addr} {xs : List V}, Zb a = false → O15 a = some (.lst xs) → SqL K (hide Zb O15) a xs := fun z e => SqL.of (hide_at z e)
    have hplI : O15 pl = some (.tup ((L.map fun (i : Nat) => (i : Int)).map V.int)) := by rw [← ni_ints]; exact sA15 _ _ hpl
    rw [ni_ints] at ell et2
    have rep : DpAll K (hide Zb O15) (List.replicate 30 (V.int 0)) ((List.replicate 30 (0 : Int)).map .int) := by
      have := DpAll.ints (K := K) (H := hide Zb O15) (List.replicate 30 (0 : Int))
      rw [List.map_replicate] at this
      exact this
    have dP0 : Dp K (hide Zb O15) (.ref p) (.tuple [.int h, .int t, .tuple (ds.map .int)]) := .tup (T0 (zne pb) (sA15 _ _ hp)) (.cons (.int h) (.cons (.int t) (.cons (.tup (T0 (zne qb) (sA15 _ _ hq)) (DpAll.ints ds)) .nil)))
    have dL0 : Dp K (hide Zb O15) (.ref pl) (.tuple ((L.map fun (i : Nat) => (i : Int)).map .int)) := .tup (T0 (zne plb) hplI) (DpAll.ints _)
    have a1 : DpAll K (hide Zb O15) [.ref p, .ref pl, .ref lp, .ref ll, .non, .ref t0, .ref l0, .int 3, .str "sea", .ref t1, .ref t2] [.tuple [.int h, .int t, .tuple (ds.map .int)], .tuple ((L.map fun (i : Nat) => (i : Int)).map .int), .list [.int h, .int t, .tuple (ds.map .int)], .list ((L.map fun (i : Nat) => (i : Int)).map .int), .none, .tuple [], .list [], .int 3, .str "sea", .tuple [.int (ds.length : Int)], .tuple (((List.range ds.length).map fun (i : Nat) => (i : Int)).map .int)] :=
      .cons dP0 (.cons dL0 (.cons (.lst (L0 zlp elp) (.cons (.int h) (.cons (.int t) (.cons (.tup (T0 (zne qb) (sA15 _ _ hq)) (DpAll.ints ds)) .nil)))) (.cons (.lst (L0 zll ell) (DpAll.ints _)) (.cons .non (.cons (.tup (T0 zt0 et0) .nil) (.cons (.lst (L0 zl0 el0) .nil) (.cons (.int 3) (.cons (.str "sea") (.cons (.tup (T0 zt1 et1) (.cons (.int _) .nil)) (.cons (.tup (T0 zt2 et2) (DpAll.ints _)) .nil))))))))))
    have a2 : DpAll K (hide Zb O15) [.ref u2, .ref u4, .ref u5, .ref u6, .ref u7] [.tuple [.int 0, .int 0, .tuple ((List.replicate 30 (0 : Int)).map .int)], .tuple [.int 0, .int 2, .tuple []], .tuple [.int 0, .int 0], .tuple [.int 0], .tuple [.int ((ds.length : Int) - 1), .int ((ds.length : Int) - 1)]] :=
      .cons (.tup (T0 zu2 eu2) (.cons (.int 0) (.cons (.int 0) (.cons (.tup (T0 zu1 eu1) rep) .nil)))) (.cons (.tup (T0 zu4 eu4) (.cons (.int 0) (.cons (.int 2) (.cons (.tup (T0 zu3 eu3) .nil) .nil)))) (.cons (.tup (T0 zu5 eu5) (.cons (.int 0) (.cons (.int 0) .nil))) (.cons (.tup (T0 zu6 eu6) (.cons (.int 0) .nil)) (.cons (.tup (T0 zu7 eu7) (.cons (.int _) (.cons (.int _) .nil))) .nil))))
    have th3 : ∀ {d : PyData}, Bd 40 10000000000000 3 d → Thing d := fun h => ⟨40, 3, _, h, by decide, by decide, by decide, by decide⟩
    have hh0 := so.h0
    have hh1 := so.h1
    have tt0 := so.t0
    have tt1 := so.t1
    have dsB : ∀ i ∈ ds, -(10000000000000 : Int) ≤ i ∧ i ≤ 10000000000000 := fun i hi => by
      have := so.d0 i hi
      omega
    have LB : ∀ i ∈ (L.map fun (i : Nat) => (i : Int)), -(10000000000000 : Int) ≤ i ∧ i ≤ 10000000000000 := fun i hi => by
      obtain ⟨j, hj, rfl⟩ := List.mem_map.mp hi
      have := hL.lt j hj
      omega
    have RB : ∀ i ∈ ((List.range ds.length).map fun (i : Nat) => (i : Int)), -(10000000000000 : Int) ≤ i ∧ i ≤ 10000000000000 := fun i hi => by
      obtain ⟨j, hj, rfl⟩ := List.mem_map.mp hi
      have := List.mem_range.mp hj
      omega
    have LL : (L.map fun (i : Nat) => (i : Int)).length ≤ 6 := by rw [List.length_map]; omega
    have bP : ∀ {n : Nat}, 8 ≤ n → Bd n 10000000000000 3 (.tuple [.int h, .int t, .tuple (ds.map .int)]) ∧ Bd n 10000000000000 3 (.list [.int h, .int t, .tuple (ds.map .int)]) := fun hn => bd_three (by omega) (bdI (m := 1) (by omega) (by omega)) (bdI (m := 1) (by omega) (by omega)) (bdInts (m := 0) (by omega) dsB)
    have all16 : ∀ e ∈ [.tuple [.int h, .int t, .tuple (ds.map .int)], .tuple ((L.map fun (i : Nat) => (i : Int)).map .int), .list [.int h, .int t, .tuple (ds.map .int)], .list ((L.map fun (i : Nat) => (i : Int)).map .int), .none, .tuple [], .list [], .int 3, .str "sea", .tuple [.int (ds.length : Int)], .tuple (((List.range ds.length).map fun (i : Nat) => (i : Int)).map .int)] ++ [.tuple [.int 0, .int 0, .tuple ((List.replicate 30 (0 : Int)).map .int)], .tuple [.int 0, .int 2, .tuple []], .tuple [.int 0, .int 0], .tuple [.int 0], .tuple [.int ((ds.length : Int) - 1), .int ((ds.length : Int) - 1)]], Thing e := by
      intro e he
      refine th3 ?_
      have nil2 : Bd 40 10000000000000 2 (.tuple []) := ⟨by decide, fun e he => by cases he⟩
      rcases List.mem_append.mp he with he | he
      · rcases List.mem_cons.mp he with rfl | he
        · exact (bP (by decide)).1
        rcases List.mem_cons.mp he with rfl | he
        · exact bdInts (m := 1) (by omega) LB
        rcases List.mem_cons.mp he with rfl | he
        · exact (bP (by decide)).2
        rcases List.mem_cons.mp he with rfl | he
        · exact bdIntsL (m := 1) (by omega) LB
        rcases List.mem_cons.mp he with rfl | he
        · trivial
        rcases List.mem_cons.mp he with rfl | he
        · exact ⟨by decide, fun e he => by cases he⟩
        rcases List.mem_cons.mp he with rfl | he
        · exact ⟨by decide, fun e he => by cases he⟩
        rcases List.mem_cons.mp he with rfl | he
        · exact bdI (m := 2) (by decide) (by decide)
        rcases List.mem_cons.mp he with rfl | he
        · exact bd_text "sea" (by decide)
        rcases List.mem_cons.mp he with rfl | he
        · exact bdInts (ns := [(ds.length : Int)]) (m := 1) (by show 1 ≤ 40; decide) fun i hi => by rw [List.mem_singleton.mp hi]; omega
        rw [List.mem_singleton.mp he]
        exact bdInts (m := 1) (by rw [List.length_map, List.length_range]; omega) RB
      · rcases List.mem_cons.mp he with rfl | he
        · exact (bd_three (by decide) (bdI (m := 1) (by decide) (by decide)) (bdI (m := 1) (by decide) (by decide)) (bdInts (m := 0) (by decide) fun i hi => by rw [List.eq_of_mem_replicate hi]; decide)).1
        rcases List.mem_cons.mp he with rfl | he
        · exact (bd_three (by decide) (bdI (m := 1) (by decide) (by decide)) (bdI (m := 1) (by decide) (by decide)) nil2).1
        rcases List.mem_cons.mp he with rfl | he
        · exact bdInts (ns := [0, 0]) (m := 1) (by decide) fun i hi => by
            have : i = 0 := by simpa using hi
            omega
        rcases List.mem_cons.mp he with rfl | he
        · exact bdInts (ns := [0]) (m := 1) (by decide) fun i hi => by
            have : i = 0 := by simpa using hi
            omega
        rw [List.mem_singleton.mp he]
        exact bdInts (ns := [(ds.length : Int) - 1, (ds.length : Int) - 1]) (m := 1) (by show 2 ≤ 40; decide) fun i hi => by
          have : i = (ds.length : Int) - 1 := by simpa using hi
          omega
    have a3 := DpAll.same (hide_of (Z := andZ Zb th) sN) (DpAll.same (hide_more nth) (dpall_app a1 a2))
    have dP := Dp.same (hide_of (Z := andZ Zb th) sN) (Dp.same (hide_more nth) dP0)
    have dL := Dp.same (hide_of (Z := andZ Zb th) sN) (Dp.same (hide_more nth) dL0)
    have hzB : Hid (andZ Zb th) (upd O15 th (.lst ([.ref p, .ref pl, .ref lp, .ref ll, .non, .ref t0, .ref l0, .int 3, .str "sea", .ref t1, .ref t2] ++ [.ref u2, .ref u4, .ref u5, .ref u6, .ref u7]))) := (hz2.same sB).more eB
    have uB := uu2.trans (Same.but (b := b) sB)
    have xB := x2.same sB
    have lw : ([.ref p, .ref pl, .ref lp, .ref ll, .non, .ref t0, .ref l0, .int 3, .str "sea", .ref t1, .ref t2] ++ [.ref u2, .ref u4, .ref u5, .ref u6, .ref u7] : List V).length = 16 := rfl
    have thb : th ≠ b := fun e => by rw [e, zb] at zth; cases zth
    have nth2 : H th = none := But.free uu2 thb (sA15.free nth)
    have sea0 : SeaT K (hide Zb O15) (.ref p) h t ds := ⟨p, q', rfl, T0 (zne pb) (sA15 _ _ hp), T0 (zne qb) (sA15 _ _ hq)⟩
    have lot0 : LotT K (hide Zb O15) (.ref pl) L := ⟨pl, rfl, T0 (zne plb) (sA15 _ _ hpl)⟩
    have seaB := (sea0.same (hide_more nth)).same (hide_of (Z := andZ Zb th) sN)
    have lotB := (lot0.same (hide_more nth)).same (hide_of (Z := andZ Zb th) sN)
    generalize upd O15 th (.lst ([.ref p, .ref pl, .ref lp, .ref ll, .non, .ref t0, .ref l0, .int 3, .str "sea", .ref t1, .ref t2] ++ [.ref u2, .ref u4, .ref u5, .ref u6, .ref u7])) = H3 at sB eB a3 dP dL hzB uB xB seaB lotB
    generalize ([.ref p, .ref pl, .ref lp, .ref ll, .non, .ref t0, .ref l0, .int 3, .str "sea", .ref t1, .ref t2] ++ [.ref u2, .ref u4, .ref u5, .ref u6, .ref u7] : List V) = ws0 at eB a3 lw
    have lP : ∀ {n m : Nat}, 8 ≤ n → 3 ≤ m → Bd n 10000000000000 m (.tuple [.int h, .int t, .tuple (ds.map .int)]) := fun a c => (bP a).1.mono (Nat.le_refl _) (Int.le_refl _) c
    have lL2 : ∀ {n m : Nat}, 8 ≤ n → 3 ≤ m → Bd n 10000000000000 m (.tuple ((L.map fun (i : Nat) => (i : Int)).map .int)) := fun a c => (bdInts (m := 1) (by omega) LB).mono (Nat.le_refl _) (Int.le_refl _) c
    refine ⟨10, rfl, by decide, by decide, for_range (lo := 0) (n := 10) (fun i σ H' => ∃ (y5 y6 : Option V) (ws : List V) (es : List PyData), σ = [some (.ref b), some (.ref p), some (.int (ds.length : Int)), some (.ref pl), some (.ref th), y5, y6, none, none, none] ∧ But b H H' ∧ BoxAt H' b (80000 - 30 * i) ∧ Hid (andZ Zb th) H' ∧ H' th = some (.lst ws) ∧ ws.length ≤ 16 + i ∧ DpAll K (hide (andZ Zb th) H') ws es ∧ (∀ e ∈ es, Thing e) ∧ Dp K (hide (andZ Zb th) H') (.ref p) (.tuple [.int h, .int t, .tuple (ds.map .int)]) ∧ Dp K (hide (andZ Zb th) H') (.ref pl) (.tuple ((L.map fun (i : Nat) => (i : Int)).map .int)) ∧ SeaT K (hide (andZ Zb th) H') (.ref p) h t ds ∧ LotT K (hide (andZ Zb th) H') (.ref pl) L)
      ⟨none, none, ws0, _, rfl, uB, xB, hzB, eB, by omega, a3, all16, dP, dL, seaB, lotB⟩ ?_ ?_⟩
    · rintro i σ Ha hi ⟨y5, y6, ws, es, rfl, ua, xa, hza, ea, la, aa, ta, dPa, dLa, sea, lot⟩
      have hi10 : i < 10 := hi
      have fin : ∀ (Hx : Hp) (vx : V) (dx : PyData) (y5 y6 : Option V), But b H Hx → BoxAt Hx b (80000 - 30 * (i + 1)) → Hid (andZ Zb th) Hx → Hx th = some (.lst ws) → Same (hide (andZ Zb th) Ha) (hide (andZ Zb th) Hx) → Dp K (hide (andZ Zb th) Hx) vx dx → Thing dx →
          ∃ (y5' y6' : Option V) (ws' : List V) (es' : List PyData), [some (V.ref b), some (V.ref p), some (V.int (ds.length : Int)), some (V.ref pl), some (V.ref th), y5, y6, none, none, none] = [some (.ref b), some (.ref p), some (.int (ds.length : Int)), some (.ref pl), some (.ref th), y5', y6', none, none, none] ∧ But b H (upd Hx th (.lst (ws ++ [vx]))) ∧ BoxAt (upd Hx th (.lst (ws ++ [vx]))) b (80000 - 30 * (i + 1)) ∧ Hid (andZ Zb th) (upd Hx th (.lst (ws ++ [vx]))) ∧ (upd Hx th (.lst (ws ++ [vx]))) th = some (.lst ws') ∧ ws'.length ≤ 16 + (i + 1) ∧ DpAll K (hide (andZ Zb th) (upd Hx th (.lst (ws ++ [vx])))) ws' es' ∧ (∀ e ∈ es', Thing e) ∧ Dp K (hide (andZ Zb th) (upd Hx th (.lst (ws ++ [vx])))) (.ref p) (.tuple [.int h, .int t, .tuple (ds.map .int)]) ∧ Dp K (hide (andZ Zb th) (upd Hx th (.lst (ws ++ [vx])))) (.ref pl) (.tuple ((L.map fun (i : Nat) => (i : Int)).map .int)) ∧ SeaT K (hide (andZ Zb th) (upd Hx th (.lst (ws ++ [vx])))) (.ref p) h t ds ∧ LotT K (hide (andZ Zb th) (upd Hx th (.lst (ws ++ [vx])))) (.ref pl) L := fun Hx vx dx y5 y6 u x hz e s dd td => by
        have hy : Same (hide (andZ Zb th) Hx) (hide (andZ Zb th) (upd Hx th (.lst (ws ++ [vx])))) := fun a o h => by
          obtain ⟨z, e⟩ := hide_some h
          refine hide_at z ?_
          rw [upd_ne (fun q => by rw [q, andZ_self] at z; cases z)]
          exact e
        have s2 := s.trans hy
        refine ⟨y5, y6, ws ++ [vx], es ++ [dx], rfl, u.put nth2, x.at (Ne.symm thb), fun a z q => ?_, upd_same, by rw [List.length_append]; show ws.length + 1 ≤ _; omega, dpall_app (DpAll.same s2 aa) (.cons (Dp.same hy dd) .nil), fun e he => ?_, Dp.same s2 dPa, Dp.same s2 dLa, sea.same s2, lot.same s2⟩
        · by_cases y : a = th
          · rw [y, upd_same] at q
            cases q
          · rw [upd_ne y] at q
            exact hz a z q
        · rcases List.mem_append.mp he with y | y
          · exact ta e y
          · rw [List.mem_singleton.mp y]
            exact td
      refine ⟨_, rfl, _, rfl, _, rfl, _, rfl, (by show 2 ≤ sizeLine; decide), fun l2 nl2 => ?_⟩
      have sb : Same Ha (upd Ha l2 (.lst [.ref p, .ref pl])) := same_new nl2
      have eb : upd Ha l2 (.lst [.ref p, .ref pl]) l2 = some (.lst [.ref p, .ref pl]) := upd_same
      generalize upd Ha l2 (.lst [.ref p, .ref pl]) = Hb at sb eb
      have l2b : l2 ≠ b := (xa.ne nl2).symm
      have xb := xa.same sb
      refine ⟨b, l2, 80000 - 30 * i - 1, _, rfl, SqA.l eb, l2b, (by show 0 < 2; decide), (by show 2 < 1000000; decide), xb.mono (by omega), fun v ys hv hy => ?_⟩
      obtain ⟨dv, bdv, dpv⟩ : ∃ d, Bd 8 10000000000000 5 d ∧ Dp K (hide (andZ Zb th) Ha) v d := by
        have e2 : v = .ref p ∨ v = .ref pl := by simpa using hv
        rcases e2 with rfl | rfl
        · exact ⟨_, lP (by decide) (by decide), dPa⟩
        · exact ⟨_, lL2 (by decide) (by decide), dLa⟩
      have zbb : andZ Zb th b = true := andZ_of zb
      have uc : But b Hb (upd Hb b (.lst ys)) := But.ups
      have xc : BoxAt (upd Hb b (.lst ys)) b (80000 - 30 * i - 1) := .put hy
      have hzc := (hza.same sb).but uc xc
      have sc := (hide_of (Z := andZ Zb th) sb).trans (hide_but zbb uc)
      have ec := uc _ _ thb (sb _ _ ea)
      generalize upd Hb b (.lst ys) = Hc at uc xc hzc sc ec
      replace uc := (ua.trans (Same.but (b := b) sb)).trans uc
      refine ⟨b, 80000 - 30 * i - 13, 8, 5, 3, 10000000000000, andZ Zb th, v, dv, rfl, by decide, xc.mono (by omega), zbb, hzc, Dp.same sc dpv, bdv, by decide, by decide, by decide, by decide, by decide, fun Hd v1 d1 ud xd hzd dd1 bd1 => ?_⟩
      have ed := ud _ _ thb ec
      have sd := sc.trans (hide_but zbb ud)
      replace ud := uc.trans ud
      refine ⟨_, rfl, .inl ⟨rfl, _, SqL.of ed⟩, ?_⟩
      refine ⟨_, rfl, b, 80000 - 30 * i - 14, 3, rfl, by decide, by decide, xd.mono (by omega), fun v3 ys3 v30 v31 hy3 => ?_⟩
      have ue : But b Hd (upd Hd b (.lst ys3)) := But.ups
      have xe : BoxAt (upd Hd b (.lst ys3)) b (80000 - 30 * i - 14) := .put hy3
      have hze := hzd.but ue xe
      have ee := ue _ _ thb ed
      have sde := hide_but zbb ue
      have se := sd.trans sde
      generalize upd Hd b (.lst ys3) = He at ue xe hze ee sde se
      replace ue := ud.trans ue
      have dde := Dp.same sde dd1
      have lws : ws.length < sizeLine := Nat.lt_of_lt_of_le (show ws.length < 100 by omega) (by decide)
      refine ⟨rfl, _, rfl, ite2 (fun c => ?_) (fun c => ?_)⟩
      · refine ⟨_, rfl, _, rfl, b, 80000 - 30 * i - 26, 9, 5, 3, 10000000000001, andZ Zb th, v1, d1, rfl, by decide, xe.mono (by omega), zbb, hze, dde, bd1, by decide, by decide, by decide, by decide, by decide, fun Hf v2 d2 uf xf hzf dd2 bd2 => ?_⟩
        have ef := uf _ _ thb ee
        refine ⟨th, ws, v2, rfl, rfl, ef, lws, ?_⟩
        exact fin Hf v2 d2 _ _ (ue.trans uf) (xf.mono (by omega)) hzf ef (se.trans (hide_but zbb uf)) dd2 ⟨10, 5, _, bd2, by decide, by decide, by decide, by decide⟩
      · refine ⟨_, rfl, th, ws, v1, rfl, rfl, ee, lws, ?_⟩
        exact fin He v1 d1 _ _ ue (xe.mono (by omega)) hze ee se dde ⟨9, 5, _, bd1, by decide, by decide, by decide, by decide⟩
    rintro σ H4 ⟨y5, y6, ws, es, rfl, u4, x4, hz4, e4, l4, a4, t4, dP4, dL4, sea4, lot4⟩
    refine ⟨_, rfl, th, ws, H4, rfl, SqA.l e4, Kp.refl _ _, fun J hJ => ?_⟩
    obtain ⟨G, g, W⟩ := hJ.walk
    have lx := DpAll.len a4
    refine for_it W (fun i σ H' => ∃ (y5 y6 y7 y8 y9 : Option V), σ = [some (.ref b), some (.ref p), some (.int (ds.length : Int)), some (.ref pl), some (.ref th), y5, y6, y7, y8, y9] ∧ Same H4 H') ⟨_, _, _, _, _, rfl, Same.refl _⟩ (fun i σ H' _ ⟨_, _, _, _, _, _, z⟩ => g H' (.ofS z)) ?_ ?_
    · rintro i v σ Ha Hb hi ⟨y5, y6, y7, y8, y9, rfl, sm⟩ ⟨rfl, gx⟩
      obtain ⟨d, gd, hd⟩ := DpAll.get a4 gx
      obtain ⟨n, m, B, bd, n6, m6, B6, ln⟩ := t4 d (List.mem_of_getElem? gd)
      have dpv : ∀ {H' : Hp}, Same H4 H' → Dp K H' v d := fun s => Dp.same s (Dp.same hide_same hd)
      have fit := bd.fit B6
      have fsz : d.shown.length ≤ sizeLine := Nat.le_trans fit.len ln
      have fsh : SeqAt.shaped d = true := fit.shaped (by omega)
      have sea : ∀ {H' : Hp}, Same H4 H' → SeaA K H' (.ref p) h t ds := fun s => ((sea4.same hide_same).same s).a
      refine ⟨_, rfl, v, d, rfl, dpv sm, fsh, fit.sh, fsz, ?_⟩
      generalize hT : PyData.shown d = txt
      have lv : Lv m d := bd.lv (by omega)
      refine ⟨_, rfl, m, v, d, rfl, dpv sm, lv, fun Hc sc => ?_⟩
      have s4c := sm.trans sc
      refine ⟨_, rfl, _, rfl, m, .ref p, v, h, t, ds, d, rfl, sea s4c, dpv s4c, lv, fun Hd sd => ?_⟩
      have s4d := s4c.trans sd
      refine ⟨(by show 2 ≤ sizeLine; decide), fun tl ntl => ?_⟩
      have se : Same Hd (upd Hd tl (.lst [.bl (isSeaD d), .bl (isStD ds.length d)])) := same_new ntl
      have ee : upd Hd tl (.lst [.bl (isSeaD d), .bl (isStD ds.length d)]) tl = some (.lst [.bl (isSeaD d), .bl (isStD ds.length d)]) := upd_same
      generalize upd Hd tl (.lst [.bl (isSeaD d), .bl (isStD ds.length d)]) = He at se ee
      have s4e := s4d.trans se
      refine ⟨_, rfl, _, rfl, n, m, B, v, d, rfl, dpv s4e, bd, n6, m6, B6, fun Hf sf => ?_⟩
      have s4f := s4e.trans sf
      refine ⟨_, rfl, _, rfl, n, m, ds.length, B, v, d, rfl, dpv s4f, bd, n6, m6, B6, fun Hg sg => ?_⟩
      have s4g := s4f.trans sg
      refine ⟨(by show 2 ≤ sizeLine; decide), fun dl ndl => ?_⟩
      have si : Same Hg (upd Hg dl (.lst [.bl (isSeaD d), .bl (isStD ds.length d)])) := same_new ndl
      have ei : upd Hg dl (.lst [.bl (isSeaD d), .bl (isStD ds.length d)]) dl = some (.lst [.bl (isSeaD d), .bl (isStD ds.length d)]) := upd_same
      generalize upd Hg dl (.lst [.bl (isSeaD d), .bl (isStD ds.length d)]) = Hi at si ei
      have sei := sf.trans (sg.trans si)
      refine ⟨.ref tl, .ref dl, .list [.bool (isSeaD d), .bool (isStD ds.length d)], rfl, .lst (SqL.of (sei _ _ ee)) (.cons (.bl _) (.cons (.bl _) .nil)), .lst (SqL.of ei) (.cons (.bl _) (.cons (.bl _) .nil)), ⟨by show 2 ≤ 100000; decide, fun e he => ?_⟩, fun Hj sj => ?_⟩
      · have e2 : e = .bool (isSeaD d) ∨ e = .bool (isStD ds.length d) := by simpa using he
        rcases e2 with rfl | rfl <;> trivial
      have s4j := s4g.trans (si.trans sj)
      refine ⟨true, rfl, iteF ?_⟩
      refine ⟨_, rfl, v, d, rfl, dpv s4j, fsh, fit.sh, fsz, ?_⟩
      rw [hT]
      refine ⟨_, rfl, rfl, _, rfl, iteNS rfl ?_⟩
      exact ⟨_, _, _, _, _, rfl, s4j⟩
    rintro σ H5 ⟨_, _, _, _, _, rfl, s5⟩
    have dP5 := Dp.same s5 (Dp.same hide_same dP4)
    refine ⟨_, rfl, ⟨rfl, rfl⟩, 3, .ref p, _, rfl, dP5, (lP (n := 8) (by decide) (Nat.le_refl 3)).lv (by decide), fun H6 s6 => ?_⟩
    rw [sea_okS so]
    have s46 := s5.trans s6
    refine ⟨true, true, rfl, rfl, _, rfl, ?_⟩
    refine ⟨_, rfl, _, rfl, ⟨rfl, rfl⟩, 3, .ref p, .ref pl, h, t, ds, _, rfl, ((sea4.same hide_same).same s46).a, Dp.same s46 (Dp.same hide_same dL4), (lL2 (n := 8) (by decide) (Nat.le_refl 3)).lv (by decide), fun H7 s7 => ?_⟩
    rw [stand_okS hL]
    exact ⟨true, true, rfl, rfl, q _ (u4.trans (Same.but (s46.trans s7)))⟩
end
end Sh

namespace Sh
open PySem PySem.Spec PyProof.Rows L2
/-! ### the law itself -/
def spLaw (K : PySem.W.Frag) : Sp := fun vs H Q _ => ∃ (a : Addr) (ns : List Int), vs = [.ref a] ∧ SqL K H a (ns.map V.int) ∧ ns.length ≤ 63 ∧ ∀ H', Q (.bl true) H'
abbrev s_law : Stmt := topS 22
theorem sc_law : FnScope (["_law_script", "_law_k"] : List Str) (["_law_script"] : List Str) (defScope s_law) := ⟨rfl, rfl, rfl, by decide +kernel, rfl, by decide +kernel, by decide +kernel⟩
theorem b_law (kV doc pm : Value) (an : Option Addr) (cdv ct : Value) (us : List Value) (hl : us.length = (["_law_script"] : List Str).length) : bindArgs (PySem.W.fnOf "law" "law" (defArgs s_law) (defBody s_law) (defScope s_law) .none kV doc pm an cdv ct) ⟨us, []⟩ = pure ((["_law_script"] : List Str).zip us) :=
  match us, hl with | [_], _ => rfl
section
variable {P : Program} {w : World} {K : PySem.W.Frag} {mg : Str → Option Value} {base : Heap}
theorem ok_law {k : Nat} (D : Df K mg "law" s_law) (T : Bt mg) (O__law_box : Ok P w K mg base k "_law_box" s__law_box ["_law_script", "_law_k"] (spBox K)) (O__law_right : OkG P w K mg base k "_law_right" s__law_right ["_law_box_here"] spRight) :
    OkG P w K mg base (k + 1) "law" s_law ["_law_script"] (spLaw K) := by
  refine D.okG sc_law b_law (fun vs H Q E h => ?_) (fun f cdv A outer s H vs Q E hr hG h => ?_)
  · obtain ⟨a, ns, rfl, _⟩ := h
    rfl
  · obtain ⟨a, ns, rfl, hS, hl, q⟩ := h
    refine ⟨_, (pss_one (ps_ret (pe_callB (cr_all rfl) (by rfl) T.all_ (by decide +kernel) (pa_cons (pe_lc (own := [("_law_k", 1)]) (g := (gName 1)) (tt := tYes) (by rfl) sc_law.nd (pi_range1 (by rfl) T.range_ (pa_cons (pe_op op_add pe_int (pe_callB (call_min2 rfl) (by rfl) T.min_ (by decide +kernel) (pa_cons pe_int (pa_cons (pe_callB call_len_seq (by rfl) T.len_ PySem.boot_len (pa_cons (pv 0) pa_nil)) pa_nil)))) pa_nil)) (blkOk_by (own := [("_law_k", 1)]) (N := (["_law_script", "_law_k"] : List Str)) (sc := defScope s_law) (by decide +kernel)) (fun _ _ _ _ _ => (pg_name (i := 1) sc_law.nd rfl (.inl rfl))) (fun _ _ _ _ _ => pts_nil) (fun _ _ _ _ _ => (pe_fnG O__law_right (hr.mono (by omega)) hG (pa_cons (pe_fn O__law_box (hr.mono (by omega)) (pa_cons (pv 0) (pa_cons (pv 1) pa_nil))) pa_nil)))) pa_nil)))), ?_⟩
    refine ⟨_, rfl, a, _, rfl, .inl hS, _, _, rfl, 1, _, rfl, rfl, _, rfl, ?_, ?_, fun C nC => ?_⟩
    · split <;> omega
    · rw [List.length_map]
      split <;> omega
    rw [List.length_map]
    generalize en : (1 + if (ns.length : Int) < 3 then (ns.length : Int) else 3).toNat = n
    have hn : n ≤ 4 := by
      rw [← en]
      split <;> omega
    refine lc_range (fun i H' => Same H H' ∧ H' C = some (.lst ((List.replicate i true).map V.bl))) ⟨same_new nC, upd_same⟩ ?_ ?_
    · rintro i H1 hi ⟨sm, hC⟩
      refine ⟨rfl, tyes (iteT ?_)⟩
      refine ⟨_, rfl, _, rfl, a, ns, i, ?_, by omega, sm.seq hS, fun b xs nb bx => ?_⟩
      · show [V.ref a, V.int (0 + (i : Int))] = _
        rw [Int.zero_add]
      refine ⟨b, rfl, (BoxAt.put bx).mono (by decide), fun H2 u2 => ?_⟩
      have nCb : C ≠ b := ne_of_none hC nb
      refine ⟨_, u2 _ _ nCb (by rw [upd_ne nCb]; exact hC), ?_, fun p o ho => ?_, ?_⟩
      · rw [List.length_map, List.length_replicate]
        exact small1000 (by omega)
      · have npb : p ≠ b := ne_of_none (sm _ _ ho) nb
        rw [upd_ne (ne_of_none ho nC)]
        exact u2 _ _ npb (by rw [upd_ne npb]; exact sm _ _ ho)
      · rw [upd_same, List.replicate_succ', List.map_append]
        rfl
    · rintro H1 ⟨sm, hC⟩
      refine ⟨C, _, rfl, SqL.of hC, ?_⟩
      have e : (List.replicate n true).all id = true := by simp
      rw [e]
      exact q _
theorem law_end {k : Nat} {fa : Addr} {sp : Sp} (D : Df K mg "law" s_law) (hfa : mg "law" = some (.ref fa)) (O : ∀ base, OkG P w K mg base k "law" s_law ["_law_script"] sp) :
    ∃ fd : FuncData, (∀ (s : Shared) (v : Value), BindsTo s fd ⟨[v], []⟩ [("_law_script", v)]) ∧ ∀ base : Heap, K.In base → base.Ns mainGlobals mg → FnG P w K mg base k fa fd ["_law_script"] sp := by
  obtain ⟨f, fd, F, g⟩ := D.ex
  obtain rfl : fa = f := by
    have e := hfa.symm.trans g
    cases e
    rfl
  refine ⟨fd, fun s v => ?_, fun base _ _ => ?_⟩
  · obtain ⟨oc, od, kV, doc, pm, an, cdv, ct, osl, rfl, lk, hcd⟩ := F.ex
    exact .of_eq (b_law kV doc pm an cdv ct [v] rfl)
  · obtain ⟨f', fd', F', g', _, G⟩ := (O base).ex
    obtain rfl : fa = f' := by
      have e := g.symm.trans g'
      cases e
      rfl
    obtain ⟨_, _, _, _, _, _, _, _, _, _, lk, _⟩ := F.ex
    obtain ⟨_, _, _, _, _, _, _, _, _, _, lk', _⟩ := F'.ex
    have e := lk.symm.trans lk'
    cases e
    exact G
theorem df_mk {x : Str} {st : Stmt} {h : Heap} {f : Addr} {oc : Value} {od an : Option Addr} {sl : Array (Option Value)} {kV dc pm cd ct : Value} (X : K.In h) (G : h.Ns mainGlobals mg)
    (a : PySem.W.nsIn K mainGlobals x = some (some (.ref f))) (l : K.lookup f = some ⟨oc, od, .func (PySem.W.fnOf x x (defArgs st) (defBody st) (defScope st) .none kV dc pm an cd ct), sl⟩)
    (c : PySem.W.codeIn K cd x = true) (k : PySem.W.keepIn K (.ref f) = true) : Df K mg x st := ⟨f, _, fun_mk l c k, PySem.W.mg_of X G a⟩
theorem with_df {R : Prop} {x : Str} {st : Stmt} {h : Heap} {f : Addr} {oc : Value} {od an : Option Addr} {sl : Array (Option Value)} {kV dc pm cd ct : Value} (X : K.In h) (G : h.Ns mainGlobals mg)
    (a : PySem.W.nsIn K mainGlobals x = some (some (.ref f))) (l : K.lookup f = some ⟨oc, od, .func (PySem.W.fnOf x x (defArgs st) (defBody st) (defScope st) .none kV dc pm an cd ct), sl⟩)
    (c : PySem.W.codeIn K cd x = true) (k : PySem.W.keepIn K (.ref f) = true) (r : Df K mg x st → R) : R := r (df_mk X G a l c k)
end
end Sh

open PySem PySem.W PyProof.Rows
set_option maxHeartbeats 0 in
theorem PySem.Challenge.cw_shoalmates_k01_seas_and_standings_holds : PySem.Challenge.rw_shoalmates_k01_seas_and_standings.Holds := by
  w_on; o_law; k_head; (case hw => w_witness2)
  k_fill
  refine Sh.walk_ofG (l := PySem.Challenge.rw_shoalmates_k01_seas_and_standings) (n := 63) (k := 9) (x := "_law_script") (sp := fun w => Sh.spLaw _) rfl (by decide) rfl ⟨rfl, by decide, by decide⟩ (fun w h Y => PySem.W.kIn_of Y) ?F (fun _ _ a ns hl _ hS => ⟨a, ns, rfl, hS, hl, fun _ => rfl⟩)
  case F =>
    intro w mg fa h KX G hmg
    have T : Sh.Bt mg := by
      constructor <;> (refine PySem.W.mg_none_of KX G ?_; k_is)

    refine' Sh.with_df (x := "is_number") (st := Sh.s_is_number) KX G ?a ?l ?c ?k fun D_is_number => ?_
    (case a => k_is); (case l => k_is); (case c => k_is); (case k => k_is)
    refine' Sh.with_df (x := "is_tuple_of") (st := Sh.s_is_tuple_of) KX G ?a ?l ?c ?k fun D_is_tuple_of => ?_
    (case a => k_is); (case l => k_is); (case c => k_is); (case k => k_is)
    refine' Sh.with_df (x := "are_rising") (st := Sh.s_are_rising) KX G ?a ?l ?c ?k fun D_are_rising => ?_
    (case a => k_is); (case l => k_is); (case c => k_is); (case k => k_is)
    refine' Sh.with_df (x := "is_sea") (st := Sh.s_is_sea) KX G ?a ?l ?c ?k fun D_is_sea => ?_
    (case a => k_is); (case l => k_is); (case c => k_is); (case k => k_is)
    refine' Sh.with_df (x := "is_place") (st := Sh.s_is_place) KX G ?a ?l ?c ?k fun D_is_place => ?_
    (case a => k_is); (case l => k_is); (case c => k_is); (case k => k_is)
    refine' Sh.with_df (x := "is_standing") (st := Sh.s_is_standing) KX G ?a ?l ?c ?k fun D_is_standing => ?_
    (case a => k_is); (case l => k_is); (case c => k_is); (case k => k_is)
    refine' Sh.with_df (x := "_law_cell_at") (st := Sh.s__law_cell_at) KX G ?a ?l ?c ?k fun D__law_cell_at => ?_
    (case a => k_is); (case l => k_is); (case c => k_is); (case k => k_is)
    refine' Sh.with_df (x := "_law_box") (st := Sh.s__law_box) KX G ?a ?l ?c ?k fun D__law_box => ?_
    (case a => k_is); (case l => k_is); (case c => k_is); (case k => k_is)
    refine' Sh.with_df (x := "_law_take") (st := Sh.s__law_take) KX G ?a ?l ?c ?k fun D__law_take => ?_
    (case a => k_is); (case l => k_is); (case c => k_is); (case k => k_is)
    refine' Sh.with_df (x := "_law_of") (st := Sh.s__law_of) KX G ?a ?l ?c ?k fun D__law_of => ?_
    (case a => k_is); (case l => k_is); (case c => k_is); (case k => k_is)
    refine' Sh.with_df (x := "_law_same") (st := Sh.s__law_same) KX G ?a ?l ?c ?k fun D__law_same => ?_
    (case a => k_is); (case l => k_is); (case c => k_is); (case k => k_is)
    refine' Sh.with_df (x := "_law_sea") (st := Sh.s__law_sea) KX G ?a ?l ?c ?k fun D__law_sea => ?_
    (case a => k_is); (case l => k_is); (case c => k_is); (case k => k_is)
    refine' Sh.with_df (x := "_law_lot") (st := Sh.s__law_lot) KX G ?a ?l ?c ?k fun D__law_lot => ?_
    (case a => k_is); (case l => k_is); (case c => k_is); (case k => k_is)
    refine' Sh.with_df (x := "_law_is_count") (st := Sh.s__law_is_count) KX G ?a ?l ?c ?k fun D__law_is_count => ?_
    (case a => k_is); (case l => k_is); (case c => k_is); (case k => k_is)
    refine' Sh.with_df (x := "_law_sea_due") (st := Sh.s__law_sea_due) KX G ?a ?l ?c ?k fun D__law_sea_due => ?_
    (case a => k_is); (case l => k_is); (case c => k_is); (case k => k_is)
    refine' Sh.with_df (x := "_law_lot_due") (st := Sh.s__law_lot_due) KX G ?a ?l ?c ?k fun D__law_lot_due => ?_
    (case a => k_is); (case l => k_is); (case c => k_is); (case k => k_is)
    refine' Sh.with_df (x := "_law_odd") (st := Sh.s__law_odd) KX G ?a ?l ?c ?k fun D__law_odd => ?_
    (case a => k_is); (case l => k_is); (case c => k_is); (case k => k_is)
    refine' Sh.with_df (x := "_law_bent") (st := Sh.s__law_bent) KX G ?a ?l ?c ?k fun D__law_bent => ?_
    (case a => k_is); (case l => k_is); (case c => k_is); (case k => k_is)
    refine' Sh.with_df (x := "_law_right") (st := Sh.s__law_right) KX G ?a ?l ?c ?k fun D__law_right => ?_
    (case a => k_is); (case l => k_is); (case c => k_is); (case k => k_is)
    refine' Sh.with_df (x := "law") (st := Sh.s_law) KX G ?a ?l ?c ?k fun D_law => ?_
    (case a => k_is); (case l => k_is); (case c => k_is); (case k => k_is)
    exact Sh.law_end D_law hmg fun base =>
      let O__law_take := Sh.ok_take (base := base) (k := 0) D__law_take T
      let O__law_cell_at := Sh.ok_cell_at (base := base) (k := 0) D__law_cell_at T
      let O__law_box := Sh.ok_box (k := 1) D__law_box T O__law_cell_at
      let O__law_of := Sh.ok_of (k := 1) D__law_of T O__law_take
      let O__law_sea := Sh.ok_sea (k := 2) D__law_sea T (O__law_take.mono (by decide)) O__law_of
      let O__law_lot := Sh.ok_lot (k := 2) D__law_lot T (O__law_take.mono (by decide)) O__law_of
      let Oin := Sh.ok_is_number (base := base) (k := 0) D_is_number T
      let Oit := Sh.ok_is_tuple (base := base) (k := 0) D_is_tuple_of T
      let Ori := Sh.ok_rising (base := base) (k := 1) D_are_rising T
      let Oip := Sh.ok_is_place (k := 1) D_is_place T Oin
      let Ois := Sh.ok_is_sea (k := 1) D_is_sea T Oin Oit
      let Ost := Sh.ok_is_stand (k := 2) D_is_standing T Oip Ori
      let Oic := Sh.ok_is_count (base := base) (k := 0) D__law_is_count T
      let Osd := Sh.ok_sea_due (k := 1) D__law_sea_due T Oic
      let Old := Sh.ok_lot_due (k := 1) D__law_lot_due T Oic
      let Ood := Sh.ok_odd (k := 2) D__law_odd T O__law_of
      let Obe := Sh.ok_bent (k := 3) D__law_bent T (O__law_take.mono (by decide)) Ood 4
      Sh.ok_law (k := 8) D_law T (O__law_box.mono (by decide)) (Sh.ok_right (k := 7) D__law_right T (O__law_sea.mono (by decide)) (O__law_take.mono (by decide)) (O__law_of.mono (by decide)) (O__law_lot.mono (by decide)) Obe ((Sh.ok_same D__law_same T 3).mono (by decide)) (Osd.mono (by decide)) (Old.mono (by decide)) (Ois.mono (by decide)) (Ost.mono (by decide)))
