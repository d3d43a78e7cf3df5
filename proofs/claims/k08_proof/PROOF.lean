import PyProof.Rows.All
import Wide.All
import OpenK.AllK
import Wide.FinOn
import KE.GoesEnum
import HandS.ForMost
import HandS.Walk
import HandS.Zip
import HandS.IsInst
import HandS.NoneIn
import HandS.SortInts
import HandS.Evl
import HandS.Conv
import HandS.Style
import HandS.Star
import HandS.More
import HandS.Strs
import HandS.SetFor
import HandS.Wide
import HandS.Set
import HandS.Strs
import PyProof.FactsAll.set_2
import PyProof.ReprRoads
import PyProof.ReprLen
import HandS.TupAny
import HandS.Deep
import PyProof.TwoTypes
import PyProof.TwoTypesSub
import PyProof.AutoIntG7
import PyProof.FactsMod
import PyProof.CallStr
import PyProof.CallFns
import PySem.Challenge.RW_shoalmates_k08_bars_shown_or_not
set_option Elab.async false
set_option linter.all false
set_option maxRecDepth 100000
set_option maxHeartbeats 1000000
/-! Own layer over the hand layer: sequences (a list or a tuple), enumerate of a tuple, defs by one fact each, what is told kept under a growing heap. -/
namespace Sh
open PySem PySem.Spec PyProof.Rows L2

/-! ### heaps -/
theorem same_new {H : Hp} {p : Addr} {o : HO} (h : H p = none) : Same H (upd H p o) := fun b x e => by
  rw [upd_ne (ne_of_none e h)]
  exact e
theorem Same.tup {K : PySem.W.Frag} {H H' : Hp} {a : Addr} {xs : List V} (e : Same H H') (h : SqT K H a xs) : SqT K H' a xs := by
  rcases h with (h | ⟨o, h⟩) | h
  · exact .inl (.inl (e _ _ h))
  · exact .inl (.inr ⟨o, e _ _ h⟩)
  · exact .inr h
/-- a list or a tuple of xs is to be read at a -/
def SqA (K : PySem.W.Frag) (H : Hp) (a : Addr) (xs : List V) : Prop := SqL K H a xs ∨ SqT K H a xs
theorem Same.sqA {K : PySem.W.Frag} {H H' : Hp} {a : Addr} {xs : List V} (e : Same H H') (h : SqA K H a xs) : SqA K H' a xs := h.elim (fun q => .inl (e.seq q)) fun q => .inr (Same.tup e q)
theorem SqA.l {K : PySem.W.Frag} {H : Hp} {a : Addr} {xs : List V} (h : H a = some (.lst xs)) : SqA K H a xs := .inl (SqL.of h)
theorem SqA.t {K : PySem.W.Frag} {H : Hp} {a : Addr} {xs : List V} (h : H a = some (.tup xs)) : SqA K H a xs := .inr (SqT.of h)
/-- nothing but b has changed of what was tracked -/
def But (b : Addr) (H H' : Hp) : Prop := ∀ a o, a ≠ b → H a = some o → H' a = some o
theorem But.refl (b : Addr) (H : Hp) : But b H H := fun _ _ _ e => e
theorem But.trans {b : Addr} {H H1 H2 : Hp} (x : But b H H1) (y : But b H1 H2) : But b H H2 := fun a o n e => y a o n (x a o n e)
theorem Same.but {b : Addr} {H H' : Hp} (e : Same H H') : But b H H' := fun a o _ h => e a o h
theorem But.ups {b : Addr} {H : Hp} {o : HO} : But b H (upd H b o) := fun a x n e => by rw [upd_ne n]; exact e
theorem But.same {b : Addr} {G H H' : Hp} (x : But b H H') (g : Same G H) (n : G b = none) : Same G H' := fun a o e => x a o (ne_of_none e n) (g a o e)

section
variable {K : PySem.W.Frag} {H H' : Hp}
mutual
theorem Dp.same (e : Same H H') : ∀ {v : V} {d : PyData}, Dp K H v d → Dp K H' v d
  | _, _, .non => .non
  | _, _, .bl b => .bl b
  | _, _, .int i => .int i
  | _, _, .str x => .str x
  | _, _, .lst h a => .lst (e.seq h) (DpAll.same e a)
  | _, _, .tup h a => .tup (Same.tup e h) (DpAll.same e a)
theorem DpAll.same (e : Same H H') : ∀ {vs : List V} {ds : List PyData}, DpAll K H vs ds → DpAll K H' vs ds
  | _, _, .nil => .nil
  | _, _, .cons h a => .cons (Dp.same e h) (DpAll.same e a)
end
theorem DpAll.ints : ∀ ns : List Int, DpAll K H (ns.map V.int) (ns.map PyData.int)
  | [] => .nil
  | n :: ns => .cons (.int n) (DpAll.ints ns)
theorem DpAll.len : ∀ {vs : List V} {ds : List PyData}, DpAll K H vs ds → vs.length = ds.length
  | _, _, .nil => rfl
  | _, _, .cons _ a => congrArg Nat.succ (DpAll.len a)
theorem DpAll.get : ∀ {vs : List V} {ds : List PyData} {i : Nat} {v : V}, DpAll K H vs ds → vs[i]? = some v → ∃ d, ds[i]? = some d ∧ Dp K H v d
  | _, _, _, _, .nil, h => by simp at h
  | _, _, 0, _, .cons x _, h => by
    cases Option.some.inj h
    exact ⟨_, rfl, x⟩
  | _, _, i + 1, _, .cons _ a, h => DpAll.get (i := i) a h
end

/-! ### rules for a list or a tuple -/
section
variable {X : Cx}
def rIxA (K : PySem.W.Frag) : R2 := fun x y H Q => ∃ p xs i v, x = .ref p ∧ y = .int i ∧ SqA K H p xs ∧ atI xs i = some v ∧ Q v H
theorem ix_lt : IxR X (rIxA X.K) := fun value slice pins s σ H x y v u Q I rx ry h hs => by
  obtain ⟨p, xs, i, z, e1, e2, hq | hq, he, q⟩ := h
  · exact ix_list value slice pins s σ H x y v u Q I rx ry ⟨p, xs, i, z, e1, e2, hq, he, q⟩ hs
  · exact ix_tup value slice pins s σ H x y v u Q I rx ry ⟨p, xs, i, z, e1, e2, hq, he, q⟩ hs
/-- a written power, its worth written -/
theorem op_powC (v : Int) : OpR X (binaryOp .Pow) (rI (fun i j => CPow i j ∧ i ^ j.toNat = v) fun _ _ => .int v) := fun pins s σ H x y u w Q I rx ry h => by
  obtain ⟨i, j, e1, e2, ⟨hc, hv⟩, q⟩ := h
  exact op_pow pins s σ H x y u w Q I rx ry ⟨i, j, e1, e2, hc, show Q (.int (i ^ j.toNat)) H by rw [hv]; exact q⟩
/-- a < b < c < d -/
def tChain3 (r r' r'' : R2) (ta tb tc td : TE) : TE := fun σ H Q => ta σ H fun x H1 => tb σ H1 fun y H2 => r x y H2 fun z H3 => ∃ k, z = .bl k ∧
  (if k = true then tc σ H3 fun y' H4 => r' y y' H4 fun z' H5 => ∃ k', z' = .bl k' ∧ (if k' = true then td σ H5 fun y'' H6 => r'' y' y'' H6 Q else Q (.bl false) H5) else Q (.bl false) H3)
theorem pe_chain3 {a b c d : Expr} {ta tb tc td : TE} {pos : Pos} {op op' op'' : CmpOp} {r r' r'' : R2} (ho : OpR X (compareOp op) r) (ho' : OpR X (compareOp op') r') (ho'' : OpR X (compareOp op'') r'') (ha : PE X a ta) (hb : PE X b tb) (hc : PE X c tc) (hd : PE X d td)
    (hm : lastMarks [op, op', op''] [b, c, d] = false := by with_unfolding_all rfl) : PE X (.Compare a [op, op', op''] [b, c, d] pos) (tChain3 r r' r'' ta tb tc td) := by
  refine ⟨fun pins s σ H Q I h => ?_⟩
  refine Compare_chain (thn (ha.run pins s σ H _ I h) fun v s1 ⟨x, H1, I1, r1, q1⟩ => chain_link (thn (hb.run pins s1 σ H1 _ I1 q1) fun u s2 ⟨y, H2, I2, r2, q2⟩ =>
    thn (ho pins s2 σ H2 x y v u _ I2 r1 r2 q2) fun e s3 ⟨z, H3, I3, r3, k, ez, q3⟩ => ?_)) hm
  subst ez
  cases r3
  refine wpAny_truthy_bool ?_
  cases k with
  | false => exact ite_ff ⟨.bl false, H3, I3, rfl, q3⟩
  | true =>
    refine ite_tt (chain_link (thn (hc.run pins s3 σ H3 _ I3 q3) fun u' s4 ⟨y', H4, I4, r4, q4⟩ => thn (ho' pins s4 σ H4 y y' u u' _ I4 r2 r4 q4) fun e s5 ⟨z', H5, I5, r5, k', ez', q5⟩ => ?_))
    subst ez'
    cases r5
    refine wpAny_truthy_bool ?_
    cases k' with
    | false => exact ite_ff ⟨.bl false, H5, I5, rfl, q5⟩
    | true => exact ite_tt (chain_last (thn (hd.run pins s5 σ H5 _ I5 q5) fun w' s6 ⟨y'', H6, I6, r6, q6⟩ => ho'' pins s6 σ H6 y' y'' u' w' Q I6 r4 r6 q6))
theorem pt_chain3 {a b c d : Expr} {ta tb tc td : TE} {pos : Pos} {op op' op'' : CmpOp} {r r' r'' : R2} (ho : OpR X (compareOp op) r) (ho' : OpR X (compareOp op') r') (ho'' : OpR X (compareOp op'') r'') (ha : PE X a ta) (hb : PE X b tb) (hc : PE X c tc) (hd : PE X d td)
    (hm : lastMarks [op, op', op''] [b, c, d] = false := by with_unfolding_all rfl) : PT X (.Compare a [op, op', op''] [b, c, d] pos) (tTest (tChain3 r r' r'' ta tb tc td)) := by
  refine ⟨fun pins s σ H Q I h => ?_⟩
  refine isTrue_chain (thn (ha.run pins s σ H _ I h) fun v s1 ⟨x, H1, I1, r1, q1⟩ => test_link (thn (hb.run pins s1 σ H1 _ I1 q1) fun u s2 ⟨y, H2, I2, r2, q2⟩ =>
    thn (ho pins s2 σ H2 x y v u _ I2 r1 r2 q2) fun e s3 ⟨z, H3, I3, r3, k, ez, q3⟩ => ?_)) hm
  subst ez
  cases r3
  refine wpAny_truthy_bool ?_
  cases k with
  | false =>
    obtain ⟨k', e', q'⟩ := q3
    cases e'
    exact ite_ff ⟨H3, I3, q'⟩
  | true =>
    refine ite_tt (test_link (thn (hc.run pins s3 σ H3 _ I3 q3) fun u' s4 ⟨y', H4, I4, r4, q4⟩ => thn (ho' pins s4 σ H4 y y' u u' _ I4 r2 r4 q4) fun e s5 ⟨z', H5, I5, r5, k', ez', q5⟩ => ?_))
    subst ez'
    cases r5
    refine wpAny_truthy_bool ?_
    cases k' with
    | false =>
      obtain ⟨k', e', q'⟩ := q5
      cases e'
      exact ite_ff ⟨H5, I5, q'⟩
    | true =>
      refine ite_tt (test_last (thn (hd.run pins s5 σ H5 _ I5 q5) fun w' s6 ⟨y'', H6, I6, r6, q6⟩ => thn (ho'' pins s6 σ H6 y' y'' u' w' _ I6 r4 r6 q6) fun e s7 ⟨z2, H7, I7, r7, k2, e2, q7⟩ => ?_))
      subst e2
      cases r7
      exact wpAny_truthy_bool ⟨H7, I7, q7⟩
/-- the same, the written part by its own name (within a comprehension) -/
theorem ix_ltK (K : PySem.W.Frag) (hK : X.K = K := by rfl) : IxR X (rIxA K) := hK ▸ ix_lt
theorem call_lenK (K : PySem.W.Frag) (hK : X.K = K := by rfl) : CallR X (.builtin "len") (fun xs H Q => ∃ p ys, xs = [.ref p] ∧ (SqL K H p ys ∨ SqT K H p ys) ∧ Q (.int ys.length) H) := hK ▸ call_len_seq
theorem op_inK (K : PySem.W.Frag) (hK : X.K = K := by rfl) : OpR X (compareOp .In) (rIn K false) := hK ▸ op_in_seq
theorem op_notInK (K : PySem.W.Frag) (hK : X.K = K := by rfl) : OpR X (compareOp .NotIn) (rIn K true) := hK ▸ op_notIn_seq
def gSeq (K : PySem.W.Frag) (n : Nat) (t : TGs) : TG := fun v σ H Q => ∃ a xs, v = .ref a ∧ SqA K H a xs ∧ xs.length = n ∧ t xs σ H Q
theorem pg_seq {es : List Expr} {k : Nat} {t : TGs} {n : Nat} {pos : Pos} (hc : X.calm = true) (h : PGs X es t)
    (hn : (assignEach es X.env).length = n := by rfl) (hst : (assignEach es X.env).findIdx? (·.1) = none := by rfl) : PG X (.Tuple es k pos) (gSeq X.K n t) := by
  refine ⟨fun pins s σ H v u Q I r hw => ?_⟩
  obtain ⟨a, xs, e1, hq | hq, hl, hw⟩ := hw
  · exact (pg_unl hc h hn hst).run pins s σ H v u Q I r ⟨a, xs, e1, hq, hl, hw⟩
  · exact (pg_tup hc h hn hst).run pins s σ H v u Q I r ⟨a, xs, e1, hq, hl, hw⟩
/-- what stands at a stands -/
def Kp (a : Addr) (H H' : Hp) : Prop := ∀ o, H a = some o → H' a = some o
theorem Kp.ofS {a : Addr} {H H' : Hp} (e : Same H H') : Kp a H H' := fun o h => e a o h
theorem Kp.ofB {a b : Addr} {H H' : Hp} (e : But b H H') (n : a ≠ b) : Kp a H H' := fun o h => e a o n h
theorem Kp.refl (a : Addr) (H : Hp) : Kp a H H := fun _ h => h
theorem Kp.sl {K : PySem.W.Frag} {a : Addr} {xs : List V} {H H' : Hp} (k : Kp a H H') (h : SqL K H a xs) : SqL K H' a xs := by
  rcases h with (h | ⟨o, h⟩) | h
  · exact .inl (.inl (k _ h))
  · exact .inl (.inr ⟨o, k _ h⟩)
  · exact .inr h
theorem Kp.st {K : PySem.W.Frag} {a : Addr} {xs : List V} {H H' : Hp} (k : Kp a H H') (h : SqT K H a xs) : SqT K H' a xs := by
  rcases h with (h | ⟨o, h⟩) | h
  · exact .inl (.inl (k _ h))
  · exact .inl (.inr ⟨o, k _ h⟩)
  · exact .inr h
theorem Kp.sa {K : PySem.W.Frag} {a : Addr} {xs : List V} {H H' : Hp} (k : Kp a H H') (h : SqA K H a xs) : SqA K H' a xs := h.elim (fun q => .inl (k.sl q)) fun q => .inr (k.st q)
/-- the walk over what stood at a in H0 -/
def ItA (K : PySem.W.Frag) (H0 : Hp) (a : Addr) (xs : List V) (J : It) : Prop := (J = Itl K a ∧ SqL K H0 a xs) ∨ (J = Itt K a ∧ SqT K H0 a xs)
def iSeq (K : PySem.W.Frag) (tl : TE) : TI := fun σ H R => tl σ H fun x H1 => ∃ (a : Addr) (xs : List V) (H0 : Hp), x = .ref a ∧ SqA K H0 a xs ∧ Kp a H0 H1 ∧ ∀ J, ItA K H0 a xs J → R J H1
theorem pi_seq {tg l : Expr} {tl : TE} (hl : PE X l tl) : PI X tg l (iSeq X.K tl) := by
  refine ⟨fun pins s σ H R I h => ?_⟩
  refine thn (hl.run pins s σ H _ I h) fun v s1 ⟨x, H1, I1, r1, q1⟩ => ?_
  obtain ⟨a, xs, H0, e, hq | hq, hk, q⟩ := q1
  · replace q := q _ (.inl ⟨rfl, hq⟩)
    replace hq := hk.sl hq
    subst e
    cases r1
    obtain ⟨its, rv, p, hz⟩ := I1.list hq
    refine wpAny_pyIter_list p.isList ?_
    refine ⟨s1.heap.objs.size, [s1.heap.objs.size], _, _, H1, rfl, I1.kept (t' := s1.toks) fun b o e => Heap.get?_push_of_some _ e, turn_list a _, ⟨_, Heap.get?_push_size _ rfl, rfl, rfl⟩, fun b hb => ?_, q⟩
    have e : b = s1.heap.objs.size := by simpa using hb
    subst e
    exact I1.fpOk (Nat.le_refl _) (I1.hok.fresh (Nat.le_refl _))
  · replace q := q _ (.inr ⟨rfl, hq⟩)
    replace hq := hk.st hq
    subst e
    cases r1
    obtain ⟨its, rv, p, hz⟩ := I1.tuple hq
    refine wpAny_pyIter_tuple (show s1.heap.IsTuple a its.toArray from p) ?_
    refine ⟨s1.heap.objs.size, [s1.heap.objs.size], _, _, H1, rfl, I1.kept (t' := s1.toks) fun b o e => Heap.get?_push_of_some _ e, turn_tuple a _, ⟨_, Heap.get?_push_size _ rfl, rfl, rfl⟩, fun b hb => ?_, q⟩
    have e : b = s1.heap.objs.size := by simpa using hb
    subst e
    exact I1.fpOk (Nat.le_refl _) (I1.hok.fresh (Nat.le_refl _))
end

theorem ItA.walk {K : PySem.W.Frag} {H0 : Hp} {a : Addr} {xs : List V} {J : It} (h : ItA K H0 a xs J) : ∃ G : Hp → Prop, (∀ H', Kp a H0 H' → G H') ∧ Walk J xs.length G (YAt xs) := by
  rcases h with ⟨rfl, q⟩ | ⟨rfl, q⟩
  · exact ⟨_, fun _ k => k.sl q, walk_list⟩
  · exact ⟨_, fun _ k => k.st q, walk_tup⟩

/-! ### enumerate of a tuple -/
set_option maxHeartbeats 1000000 in
theorem meets_enum1 {v : Value} {o : Obj} {H : Heap → Prop} (B : Begins v o H) :
    Meets (Builtin.«enumerate.__new__» ⟨[.type "enumerate", v], []⟩) (fun _ R s => H s.heap ∧
      R (.ok (.ret (.ref (s.heap.push o).objs.size))) { s with heap := (s.heap.push o).push { cls := .type "enumerate", data := .fields #[.none, .bool false, .ref s.heap.objs.size, rawInt 0, .none, .none] } }) :=
  .of_wp fun prog w A R s h => by
    obtain ⟨hp, g, d, tk, os⟩ := s; obtain ⟨h1, h⟩ := h
    have hsub := sub_enumerate
    have q1 : ∀ {A' : Around} {E : Value → Shared → Prop} {Q : Value → Shared → Prop}, Q (.ref hp.objs.size) ⟨hp.push o, g, d, tk, os⟩ → wpAny (model prog w) A' (pyIter v) Q E ⟨hp, g, d, tk, os⟩ :=
      fun q => B.iter prog w _ _ ⟨hp, g, d, tk, os⟩ _ h1 q
    wp_walk using q1
    refine wpAny_stack_any fun st => wpAny_pure ?_
    split
    · rename_i c _ _ _ _ _
      cases (c == Value.type "enumerate")
      · wp_walk using q1
        exact ⟨_, rfl, h⟩
      · wp_walk using q1
        exact ⟨_, rfl, h⟩
    · wp_walk using q1
      exact ⟨_, rfl, h⟩
section
variable {prog : Program} {w : World} {A : Around} {E : Value → Shared → Prop} {s : Shared}
theorem enum1_begins {v : Value} {o : Obj} {H : Heap → Prop} {Q : Value → Shared → Prop} (B : Begins v o H) (h1 : H s.heap)
    (h : ∀ h', IsEnum h' (s.heap.objs.size + 1) s.heap.objs.size 0 .none → h'.get? s.heap.objs.size = some o → h'.objs.size = s.heap.objs.size + 2 →
      (∀ b o, s.heap.get? b = some o → h'.get? b = some o) → Q (.ref (s.heap.objs.size + 1)) { s with heap := h' }) :
    wpAny (model prog w) A (call (.type "enumerate") [v]) Q E s := by
  refine callType_new F.called_enumerate (by decide) (F.typeCall_enumerate_1 _) (F.newCall_enumerate_1 _) (fun obj => F.args_object_init_2 obj _) F.entry_enumerate_new
    (meets_enum1 B) ⟨h1, ?_⟩
  have hz : (s.heap.push o).objs.size = s.heap.objs.size + 1 := Heap.size_push ..
  show _ ∧ _
  rw [hz]
  have he : IsEnum ((s.heap.push o).push { cls := .type "enumerate", data := .fields #[.none, .bool false, .ref s.heap.objs.size, rawInt 0, .none, .none] }) (s.heap.objs.size + 1) s.heap.objs.size 0 .none := by
    have := Heap.get?_push_size (s.heap.push o) (o := { cls := .type "enumerate", data := .fields #[.none, .bool false, .ref s.heap.objs.size, rawInt 0, .none, .none] }) rfl
    rw [hz] at this; exact this
  refine ⟨⟨_, he, rfl⟩, h _ he (Heap.get?_push_of_some _ (Heap.get?_push_size _ B.free)) (by rw [Heap.size_push, hz]) fun b o x => Heap.get?_push_of_some _ (Heap.get?_push_of_some _ x)⟩
end
/-- the tuple at a as it stands at each turn, each item in a new pair -/
def IteT (K : PySem.W.Frag) (a : Addr) : It :=
  ⟨fun i H => ∃ (xs : List V) (x : V), SqT K H a xs ∧ xs[i]? = some x, fun i H v H' => ∃ T x, v = .ref T ∧ H T = none ∧ H' = upd H T (.tup [.int (i : Nat), x]) ∧ ∀ xs, SqT K H a xs → xs[i]? = some x, fun i H => ∃ xs : List V, SqT K H a xs ∧ xs.length ≤ i⟩
end Sh

namespace Sh
open PySem PySem.Spec PyProof.Rows L2
section
variable {prog : Program} {w : World} {A : Around} {E : Value → Shared → Prop} {s : Shared}
theorem enum_endT {e it t : Addr} {n : Nat} {i : Int} {old : Value} {items : Array Value} {Q : Option Value → Shared → Prop} (hh : A.handled = none)
    (he : IsEnum s.heap e it i old) (hit : s.heap.IsTupleIter it t n) (ht : s.heap.IsTuple t items) (hx : items[n]? = none)
    (hQ : ∀ h', Heap.ExtBut it s.heap h' → Q none { s with heap := h' }) : wpAny (model prog w) A (pyNext (.ref e)) Q E s := by
  have hT : s.TypeIs (.ref e) "enumerate" := ⟨_, he, rfl⟩
  unfold pyNext
  refine wpAny_bind (wpAny_attempt (wpAny_callSpecial?_slot (name := Str.ofString "__next__") hT F.slot_enumerate_next
    (wpAny_call_entry F.slot_enumerate_next hT F.entry_enumerate_next ?_ (F.args_enumerate_next_1 _))))
  show wpAny _ _ (field (.ref e) 2 >>= _) _ _ _
  refine wpAny_bind (wpAny_field he rfl (x := .ref it) rfl ?_)
  refine wpAny_bind (wpAny_nextOf_tuple_end (show _ = none from hh) hit ht hx fun h' x he' hx' => ?_)
  obtain ⟨o, ho, hc⟩ := hx'
  refine wpAny_bind (wpAny_isInstance (T := "StopIteration") (b := true) ⟨o, ho, hc⟩ isSubtype_stop ?_)
  exact wpAny_pure (hQ _ he')
end
theorem turn_enumT {P : Program} {w : World} {K : PySem.W.Frag} {elts : List Expr} {kk : Nat} {tpos : Pos} (a e it : Addr) :
    Turn P w K (.Tuple elts kk tpos) (IteT K a) [e, it] e (fun i h => (∃ old, IsEnum h e it ((i : Nat) : Int) old) ∧ h.IsTupleIter it a i ∧ e ≠ it ∧ a ≠ it ∧ e ≠ a) where
  mem := by simp
  obj := fun i h st b hb => by
    obtain ⟨⟨old, he⟩, ⟨o, ho, hc, hd⟩, _⟩ := st
    have e' : b = e ∨ b = it := by simpa using hb
    rcases e' with z | z
    · rw [z]; exact ⟨_, he, fun v q => nomatch q⟩
    · rw [z]; exact ⟨o, ho, fun v q => by rw [hd] at q; cases q⟩
  keep := fun i h h' st k => let ⟨⟨old, he⟩, hi, hne⟩ := st; ⟨⟨old, k e (by simp) _ he⟩, hi.at fun o q => k it (by simp) o q, hne⟩
  item := by
    intro X hP hw hK hc i pins s σ H E I hf st hg
    subst hP hw hK
    obtain ⟨⟨old, he⟩, hit, hne, hai, hea⟩ := st
    obtain ⟨xs, x, hq, hx⟩ := hg
    obtain ⟨its, rv, p, hz⟩ := I.tuple hq
    obtain ⟨u, hu, ru⟩ := rv.get hx
    have hel : e < s.heap.objs.size := Heap.lt_size he
    have hil : it < s.heap.objs.size := by obtain ⟨_, q, _⟩ := hit; exact Heap.lt_size q
    have D := Draws.tuple (prog := X.prog) (w := X.w) (A := X.A.in1) (show X.A.in1.handled = none from I.ok.hd hc) it a hai its.toArray
    have hlt : i < its.toArray.size := by
      have q := (List.getElem?_eq_some_iff.mp hu).1
      simpa using q
    refine wpAny_pyNext_enum_itemC D he ⟨hit, p⟩ hlt hne (by simp [hne, hea]) fun u' h' tk hP ho hst' hT hsz hk => ?_
    have eu : u' = u := by
      have q : its.toArray[i]? = some u' := hP
      have q2 : its.toArray[i]? = some u := by simpa using hu
      exact Option.some.inj (q.symm.trans q2)
    subst eu
    obtain ⟨hit', _⟩ := hst'
    refine ⟨_, rfl, wpAny_letOwnedTupleGo_enum (s := { s with heap := h', toks := tk + 1 }) ho fun h'' he' sb => ?_⟩
    have hT2 : h''.get? s.heap.objs.size = some { cls := .type "tuple", data := .seq #[.int i tk, u'] } := (sb.2 _ (Nat.ne_of_gt hel)).trans hT
    have new : ObjOk X.prog X.w (upd H s.heap.objs.size (.tup [.int (i : Nat), x])) h'' s.heap.objs.size (.tup [.int (i : Nat), x]) :=
      ⟨by show 2 ≤ sizeLine; decide, [.int i tk, u'], .cons ⟨_, rfl⟩ (.cons ru .nil), ⟨_, hT2, rfl, _, rfl⟩⟩
    have I1 : Inv X pins σ (upd H s.heap.objs.size (.tup [.int (i : Nat), x])) { s with heap := h'', toks := tk + 1 } :=
      I.turnedNew (ch := [e, it]) (fun b ob hb q => (sb.2 b (fun z => hb (by simp [z]))).trans (hk b ob (fun z => hb (by simp [z])) (fun z => hb (by simp [z])) q)) hf (Nat.le_refl _) new
    refine ⟨.ref s.heap.objs.size, _, I1, rfl, ⟨_, x, rfl, I.hok.fresh (Nat.le_refl _), rfl, fun ys hy => by rw [I.tuple_inj hy hq]; exact hx⟩, ⟨⟨u', ?_⟩, hit'.at fun o q => (sb.2 it (Ne.symm hne)).trans q, hne, hai, hea⟩, fun b hb => ?_⟩
    · have e1 : ((i + 1 : Nat) : Int) = (i : Int) + 1 := by omega
      rw [e1]; exact he'
    · have hb' : b < s.heap.objs.size := by
        have e' : b = e ∨ b = it := by simpa using hb
        rcases e' with z | z
        · rw [z]; exact hel
        · rw [z]; exact hil
      rw [upd_ne (Nat.ne_of_lt hb')]
      exact (hf b hb).1
  done := by
    intro X hP hw hK hc i pins s σ H E I hf st hg
    subst hP hw hK
    obtain ⟨⟨old, he⟩, hit, hne, hai, hea⟩ := st
    obtain ⟨xs, hq, hx⟩ := hg
    obtain ⟨its, rv, p, hz⟩ := I.tuple hq
    obtain ⟨f0, f1, f2, f3, f4, f5⟩ := hf it (by simp)
    have hl := rv.length
    exact enum_endT (I.ok.hd hc) he hit p (by simp; omega) fun h' eb => ⟨rfl, I.turned (t' := s.toks) (fun b o hb q => eb b o hb q) f0 f1 f3 f4 f5⟩
  self := fun A i s Q E st h => let ⟨⟨_, he⟩, _⟩ := st; wpAny_pyIter_enum he h
def ItE (K : PySem.W.Frag) (H0 : Hp) (a : Addr) (xs : List V) (J : It) : Prop := (J = Ite K a ∧ SqL K H0 a xs) ∨ (J = IteT K a ∧ SqT K H0 a xs)
def iEnumA (K : PySem.W.Frag) (ta : TA) : TI := fun σ H R => ta σ H fun vs H1 => ∃ (a : Addr) (xs : List V) (H0 : Hp), vs = [.ref a] ∧ SqA K H0 a xs ∧ Kp a H0 H1 ∧ ∀ J, ItE K H0 a xs J → R J H1
theorem pi_enumA {X : Cx} {e : Expr} {ta : TA} {p pos tpos : Pos} {elts : List Expr} {kk : Nat} (hg : Gl X "enumerate") (hm : X.mg "enumerate" = none) (ha : PA X [e] ta) (hs : starEach [e] X.env = [(false, eval e X.env)] := by rfl) :
    PI X (.Tuple elts kk tpos) (.Call (.Name "enumerate" p) [e] [] pos) (iEnumA X.K ta) := by
  refine ⟨fun pins s σ H R I h => ?_⟩
  refine Call_ (ld_blt I hg hm boot_enumerate (PyProof.Rows.callWith_type1 (thn (ha.run pos pins s σ H _ I h) fun us s1 ⟨vs, H1, I1, r1, q1⟩ => ?_) hs rfl))
  obtain ⟨a, xs, H0, ex, hs0, hk, q1⟩ := q1
  subst ex
  cases r1 with
  | cons r rr =>
    cases rr
    cases r
    have fr : ∀ b ∈ [s1.heap.objs.size + 1, s1.heap.objs.size], FpOk X pins H1 b := fun b hb => by
      have e' : b = s1.heap.objs.size + 1 ∨ b = s1.heap.objs.size := by simpa using hb
      have hle : s1.heap.objs.size ≤ b := by
        rcases e' with z | z
        · rw [z]; exact Nat.le_add_right _ _
        · rw [z]; exact Nat.le_refl _
      exact I1.fpOk hle (I1.hok.fresh hle)
    rcases hs0 with hq | hq
    · have q := q1 _ (.inl ⟨rfl, hq⟩)
      replace hq := hk.sl hq
      obtain ⟨its, rv, p', hz⟩ := I1.list hq
      refine call_enumerate_list p'.isList fun h' he hit hsz hk => wpAny_pyIter_enum he ?_
      have I2 : Inv X pins σ H1 { s1 with heap := h' } := I1.kept (t' := s1.toks) hk
      exact ⟨s1.heap.objs.size + 1, [s1.heap.objs.size + 1, s1.heap.objs.size], _, _, H1, rfl, I2, turn_enum a (s1.heap.objs.size + 1) s1.heap.objs.size, ⟨⟨.none, he⟩, hit, Nat.succ_ne_self _⟩, fr, q⟩
    · have q := q1 _ (.inr ⟨rfl, hq⟩)
      replace hq := hk.st hq
      obtain ⟨its, rv, p', hz⟩ := I1.tuple hq
      have al : a < s1.heap.objs.size := by obtain ⟨_, q, _⟩ := id p'; exact Heap.lt_size q
      refine enum1_begins (begins_tuple a its.toArray) p' fun h' he hit hsz hk => wpAny_pyIter_enum he ?_
      have I2 : Inv X pins σ H1 { s1 with heap := h' } := I1.kept (t' := s1.toks) hk
      exact ⟨s1.heap.objs.size + 1, [s1.heap.objs.size + 1, s1.heap.objs.size], _, _, H1, rfl, I2, turn_enumT a (s1.heap.objs.size + 1) s1.heap.objs.size, ⟨⟨.none, he⟩, ⟨_, hit, rfl, rfl⟩, Nat.succ_ne_self _, Nat.ne_of_lt al, Nat.ne_of_gt (Nat.lt_succ_of_lt al)⟩, fr, q⟩
theorem walk_enumT {K : PySem.W.Frag} {a : Addr} {xs : List V} : Walk (IteT K a) xs.length (fun H => SqT K H a xs) (YPair (fun i => some (.int (i : Nat))) (fun i => xs[i]?)) := by
  refine ⟨fun i _ hi q => ⟨xs, xs[i], q, by simp [hi]⟩, fun _ q => ⟨xs, q, Nat.le_refl _⟩, fun i H v H' _ q y => ?_⟩
  obtain ⟨T, x, h1, h2, h3, h4⟩ := y
  exact ⟨T, .int (i : Nat), x, h1, h2, h3, rfl, h4 xs q⟩
theorem ItE.walk {K : PySem.W.Frag} {H0 : Hp} {a : Addr} {xs : List V} {J : It} (h : ItE K H0 a xs J) : ∃ G : Hp → Prop, (∀ H', Kp a H0 H' → G H') ∧ Walk J xs.length G (YPair (fun i => some (.int (i : Nat))) (fun i => xs[i]?)) := by
  rcases h with ⟨rfl, q⟩ | ⟨rfl, q⟩
  · exact ⟨_, fun _ k => k.sl q, walk_enum⟩
  · exact ⟨_, fun _ k => k.st q, walk_enumT⟩
theorem walk_zipT {K : PySem.W.Frag} {a b : Addr} {xs ys : List V} {n : Nat} (hn : n = min xs.length ys.length) : Walk (RZ.ItzT K a b) n (fun H => SqT K H a xs ∧ SqT K H b ys) (YPair (fun i => xs[i]?) (fun i => ys[i]?)) := by
  subst hn
  refine ⟨fun i _ hi q => ?_, fun _ q => ⟨xs, ys, q.1, q.2, by omega⟩, fun i H v H' _ q y => ?_⟩
  · have h1 : i < xs.length := by omega
    have h2 : i < ys.length := by omega
    exact ⟨xs, ys, xs[i], ys[i], q.1, q.2, by simp [h1], by simp [h2]⟩
  · obtain ⟨T, x, z, h1, h2, h3, h4, h5⟩ := y
    exact ⟨T, x, z, h1, h2, h3, h4 xs q.1, h5 ys q.2⟩
end Sh

namespace Sh
open PySem PySem.Spec PyProof.Rows L2
/-- a def of the top: where it stands, and the global name -/
structure Df (K : PySem.W.Frag) (mg : Str → Option Value) (x : Str) (st : Stmt) : Prop where
  ex : ∃ (f : Addr) (fd : FuncData), Fun K x x st f fd ∧ mg x = some (.ref f)
/-- it keeps its promise -/
structure Ok (P : Program) (w : World) (K : PySem.W.Frag) (mg : Str → Option Value) (base : Heap) (k : Nat) (x : Str) (st : Stmt) (ps : List Str) (sp : Sp) : Prop where
  ex : ∃ (f : Addr) (fd : FuncData), Fun K x x st f fd ∧ mg x = some (.ref f) ∧ Binds K fd ps [] ∧ FnOk P w K mg base CX0 k f fd ps sp
section
variable {P : Program} {w : World} {K : PySem.W.Frag} {mg : Str → Option Value} {base : Heap}
theorem Df.ok {x : Str} {st : Stmt} {N ps : List Str} {k : Nat} {sp : Sp} (D : Df K mg x st) (S : FnScope N ps (defScope st))
    (hb : ∀ (kV doc pm : Value) (an : Option Addr) (cdv ct : Value) (us : List Value), us.length = ps.length → bindArgs (PySem.W.fnOf x x (defArgs st) (defBody st) (defScope st) .none kV doc pm an cdv ct) ⟨us, []⟩ = pure (ps.zip us))
    (len : ∀ vs H Q E, sp vs H Q E → vs.length = ps.length)
    (hbody : ∀ (f : Addr) (cdv : Value) (A : Around) (outer : List Env) (s : Shared) (H : Hp) (vs : List V) (Q : VK) (E : XK), Room k (A.deeper (envOfC x (defScope st) s.heap.objs.size f cdv)) → sp vs H Q E →
      ∃ t, PSs (cxOf CX0 P w K mg base N x (defScope st) f cdv A outer s H E).nox (defBody st) t ∧ t { nx := fun _ H' => Q .non H', rt := Q } (start N vs) H) : Ok P w K mg base (k + 1) x st ps sp := by
  obtain ⟨f, fd, F, g⟩ := D.ex
  exact ⟨f, fd, F, g, F.binds hb, F.ok S len (fun cdv A outer s H vs Q E hr h => hbody f cdv A outer s H vs Q E hr h)⟩
theorem Ok.mono {x : Str} {st : Stmt} {ps : List Str} {j k : Nat} {sp : Sp} (O : Ok P w K mg base j x st ps sp) (h : j ≤ k) : Ok P w K mg base k x st ps sp := by
  obtain ⟨f, fd, F, g, b, G⟩ := O.ex
  exact ⟨f, fd, F, g, b, G.mono h⟩
theorem Ok.imp {x : Str} {st : Stmt} {ps : List Str} {k : Nat} {sp sp' : Sp} (O : Ok P w K mg base k x st ps sp) (h : ∀ vs H Q E, sp' vs H Q E → sp vs H Q E) : Ok P w K mg base k x st ps sp' := by
  obtain ⟨f, fd, F, g, b, G⟩ := O.ex
  exact ⟨f, fd, F, g, b, G.imp h⟩
end
/-- the values at the places js -/
def pk {α : Type} (js : List Nat) (l : List α) : List α := js.filterMap fun j => l[j]?
theorem vals_get : ∀ {vs : List V} {us : List Value} (j : Nat), Vals vs us → (vs[j]? = none ∧ us[j]? = none) ∨ ∃ v u, vs[j]? = some v ∧ us[j]? = some u ∧ RelV v u
  | _, _, _, .nil => .inl ⟨by simp, by simp⟩
  | _, _, 0, .cons r _ => .inr ⟨_, _, rfl, rfl, r⟩
  | _, _, j + 1, .cons _ t => by simpa using vals_get j t
theorem vals_app : ∀ {vs zs : List V} {us ws : List Value}, Vals vs us → Vals zs ws → Vals (vs ++ zs) (us ++ ws)
  | _, _, _, _, .nil, h => h
  | _, _, _, _, .cons r t, h => .cons r (vals_app t h)
theorem vals_pk {vs : List V} {us : List Value} (h : Vals vs us) : ∀ js : List Nat, Vals (pk js vs) (pk js us)
  | [] => .nil
  | j :: js => by
    unfold pk
    rcases vals_get j h with ⟨a, b⟩ | ⟨v, u, a, b, r⟩
    · rw [List.filterMap_cons_none a, List.filterMap_cons_none b]
      exact vals_pk h js
    · rw [List.filterMap_cons_some a, List.filterMap_cons_some b]
      exact .cons r (vals_pk h js)
section
variable {X : Cx} {k : Nat} {x : Str} {st : Stmt} {ps : List Str} {sp : Sp} {e : Expr} {es : List Expr} {t tk : TA} {p pos : Pos} {kws : List Keyword} {ks : List Str}
/-- f(e, ..) -/
theorem pe_fn (O : Ok X.prog X.w X.K X.mg X.base k x st ps sp) (hr : Room k X.A) (ha : PA X (e :: es) t) (hg : Gl X x := by rfl)
    (hdb : (x == ("__debug__" : Str)) = false := by decide) (he : starEach (e :: es) X.env = (false, eval e X.env) :: starEach es X.env := by rfl) (hpl : (backTo pos (starEach es X.env)).any (·.1) = false := by rfl) :
    PE X (.Call (.Name x p) (e :: es) [] pos) (tCall sp [] E0 t) := by
  obtain ⟨f, fd, F, g, b, G⟩ := O.ex
  exact pe_call G hr hg g F.kp b .nil pass0 ha hdb he hpl
/-- f(e, .., k = v, ..): the parameters are the places js of all that is handed in -/
def tCallJ (js : List Nat) (n : Nat) (sp : Sp) (t tk : TA) : TE := fun σ H Q => t σ H fun vs H1 => tk σ H1 fun zs H2 => (vs.length + zs.length = n ∧ zs.length = n - vs.length) ∧ sp (pk js (vs ++ zs)) H2 Q E0
theorem run_fnJ {pins : List (Addr × Obj)} {σ : L2.St} {H : Hp} {s : Shared} {Q : VK} {us ws : List Value} {vs zs : List V} {js : List Nat} {f : Addr} {fd : FuncData} (F : Fun X.K x x st f fd) (G : FnOk X.prog X.w X.K X.mg X.base CX0 k f fd ps sp) (hr : Room k X.A)
    (hb : ∀ (kV doc pm : Value) (an : Option Addr) (cdv ct : Value), bindArgs (PySem.W.fnOf x x (defArgs st) (defBody st) (defScope st) .none kV doc pm an cdv ct) ⟨us, ks.zip ws⟩ = pure (ps.zip (pk js (us ++ ws))))
    (I : Inv X pins σ H s) (r : Vals vs us) (rz : Vals zs ws) (h : sp (pk js (vs ++ zs)) H Q E0) : wpAny (model X.prog X.w) X.A (call (.ref f) us (ks.zip ws)) (EP X pins σ Q) X.xe s := by
  obtain ⟨oc, od, kV, doc, pm, an, cdv, ct, osl, rfl, lk, hcd⟩ := F.ex
  refine wpAny_call (codeAny_mono (G.run X.A X.stack s H ⟨us, ks.zip ws⟩ (pk js (us ++ ws)) (pk js (vs ++ zs)) Q E0 hr I.env0 (.of_eq (hb kV doc pm an cdv ct)) (vals_pk (vals_app r rz) js) h) fun r s' hq => ?_)
  cases r with
  | error e => exact pass0 pins σ H s e s' I hq
  | ok fl =>
    cases fl with
    | ret u => exact I.after hq
    | next => exact False.elim hq
    | brk => exact False.elim hq
    | cont => exact False.elim hq
/-- f(k = v, ..) -/
theorem pe_fnK0 (js : List Nat) (O : Ok X.prog X.w X.K X.mg X.base k x st ps sp) (hr : Room k X.A)
    (hb : ∀ (kV doc pm : Value) (an : Option Addr) (cdv ct : Value) (ws : List Value), ws.length = ks.length → bindArgs (PySem.W.fnOf x x (defArgs st) (defBody st) (defScope st) .none kV doc pm an cdv ct) ⟨[], ks.zip ws⟩ = pure (ps.zip (pk js ws)))
    (hkw : PK X kws tk) (hg : Gl X x := by rfl) (hall : (backToKw pos (keywordEach kws X.env)).all (·.1.isSome) = true := by rfl) (hks : (backToKw pos (keywordEach kws X.env)).filterMap (·.1) = ks := by rfl) (hdb : (x == ("__debug__" : Str)) = false := by decide)
    (hpl : ((backTo pos (starEach [] X.env)).any (·.1) || (backToKw pos (keywordEach kws X.env)).any (·.1.isNone)) = false := by rfl) :
    PE X (.Call (.Name x p) [] kws pos) (tCallJ js ks.length sp tNil tk) := by
  obtain ⟨f, fd, F, g, b, G⟩ := O.ex
  refine ⟨fun pins s σ H Q I h => ?_⟩
  refine wpAny_Call_Name_kw (ld_glob I hg g ?_ hdb)
  refine PySem.W.callWith_KW0 (h₀ := X.base) I.ok.mod.kin F.kp hall ?_ hpl
  refine thn (hkw.run pos pins s σ H _ I h) fun ws s2 ⟨zs, H2, I2, rz, l2, q2⟩ => ⟨I2.kIn, ?_⟩
  rw [hks]
  exact run_fnJ (us := []) (vs := []) (js := js) F G hr (fun kV doc pm an cdv ct => hb kV doc pm an cdv ct ws (rz.length.symm.trans l2.2)) I2 .nil rz q2
/-- f(e, .., k = v, ..), n positional ones -/
theorem pe_fnK (js : List Nat) (n : Nat) (O : Ok X.prog X.w X.K X.mg X.base k x st ps sp) (hr : Room k X.A)
    (hb : ∀ (kV doc pm : Value) (an : Option Addr) (cdv ct : Value) (us ws : List Value), us.length = n → ws.length = ks.length → bindArgs (PySem.W.fnOf x x (defArgs st) (defBody st) (defScope st) .none kV doc pm an cdv ct) ⟨us, ks.zip ws⟩ = pure (ps.zip (pk js (us ++ ws))))
    (ha : PA X (e :: es) t) (hkw : PK X kws tk) (hg : Gl X x := by rfl) (hall : (backToKw pos (keywordEach kws X.env)).all (·.1.isSome) = true := by rfl) (hks : (backToKw pos (keywordEach kws X.env)).filterMap (·.1) = ks := by rfl)
    (hdb : (x == ("__debug__" : Str)) = false := by decide) (he : starEach (e :: es) X.env = (false, eval e X.env) :: starEach es X.env := by rfl)
    (hpl : ((backTo pos (starEach (e :: es) X.env)).any (·.1) || (backToKw pos (keywordEach kws X.env)).any (·.1.isNone)) = false := by rfl) :
    PE X (.Call (.Name x p) (e :: es) kws pos) (fun σ H Q => t σ H fun vs H1 => tk σ H1 fun zs H2 => (vs.length = n ∧ zs.length = ks.length) ∧ sp (pk js (vs ++ zs)) H2 Q E0) := by
  obtain ⟨f, fd, F, g, b, G⟩ := O.ex
  refine ⟨fun pins s σ H Q I h => ?_⟩
  refine wpAny_Call_Name_kw (ld_glob I hg g ?_ hdb)
  refine PySem.W.callWith_KW (h₀ := X.base) I.ok.mod.kin F.kp hall (thn (ha.run pos pins s σ H _ I h) fun us s1 ⟨vs, H1, I1, r, q⟩ => ?_) hpl he
  refine thn (hkw.run pos pins s1 σ H1 _ I1 q) fun ws s2 ⟨zs, H2, I2, rz, ⟨l1, l2⟩, q2⟩ => ⟨I2.kIn, ?_⟩
  rw [hks]
  exact run_fnJ (js := js) F G hr (fun kV doc pm an cdv ct => hb kV doc pm an cdv ct us ws (r.length.symm.trans l1) (rz.length.symm.trans l2)) I2 r rz q2
end
theorem tyes {σ : L2.St} {H : Hp} {Q : Bool → Hp → Prop} (h : Q true H) : tYes σ H Q := h
/-! ### xs[a:b:c] -/
def pickV (xs : List V) (lo hi st : Option Int) : List V := pk (sliceRange (sliceBounds lo hi st xs.length).1 (sliceBounds lo hi st xs.length).2.1 (sliceBounds lo hi st xs.length).2.2) xs
theorem pick_vals {xs : List V} {us : List Value} (r : Vals xs us) (lo hi st : Option Int) : Vals (pickV xs lo hi st) (slicePick us.toArray lo hi st).toList := by
  have e := vals_pk r (sliceRange (sliceBounds lo hi st xs.length).1 (sliceBounds lo hi st xs.length).2.1 (sliceBounds lo hi st xs.length).2.2)
  have e2 : (slicePick us.toArray lo hi st).toList = pk (sliceRange (sliceBounds lo hi st xs.length).1 (sliceBounds lo hi st xs.length).2.1 (sliceBounds lo hi st xs.length).2.2) us := by
    unfold slicePick pk
    rw [List.size_toArray, ← r.length]
    simp
  rw [e2]
  exact e
section
variable {X : Cx}
def tStep (K : PySem.W.Frag) (te : TE) (tl th ts : TO) : TE := fun σ H Q => te σ H fun x H1 => tl σ H1 fun l H2 => th σ H2 fun u H3 => ts σ H3 fun o H4 => ∃ a xs, x = .ref a ∧ SqL K H4 a xs ∧ o ≠ some 0 ∧ (pickV xs l u o).length ≤ sizeLine ∧ ∀ p, H4 p = none → Q (.ref p) (upd H4 p (.lst (pickV xs l u o)))
theorem pe_step {e st : Expr} {lo hi : Option Expr} {te : TE} {tl th ts : TO} {p3 pos : Pos} (he : PE X e te) (hlo : PO X lo tl) (hhi : PO X hi th) (hst : PO X (some st) ts) : PE X (.Subscript e (.Slice lo hi (some st) p3) pos) (tStep X.K te tl th ts) := by
  refine ⟨fun pins s σ H Q I h => ?_⟩
  refine Subscript_ (thn (he.run pins s σ H _ I h) fun v s1 ⟨x, H1, I1, r1, q1⟩ => ?_)
  refine wpAny_Slice (thn (hlo.run pins s1 σ H1 _ I1 q1) fun vl s2 ⟨l, H2, I2, pl, q2⟩ => ?_)
  refine thn (hhi.run pins s2 σ H2 _ I2 q2) fun vu s3 ⟨u, H3, I3, pu, q3⟩ => ?_
  refine thn (hst.run pins s3 σ H3 _ I3 q3) fun vs s4 ⟨o, H4, I4, ps, q4⟩ => ?_
  obtain ⟨a, xs, ex, hx, h0, hz2, q⟩ := q4
  subst ex
  cases r1
  have I5 : Inv X pins σ H4 { s4 with heap := s4.heap.push { cls := .type "slice", data := .fields #[vl, vu, vs] } } := I4.kept (t' := s4.toks) fun b ob q => Heap.get?_push_of_some _ q
  obtain ⟨its, r, ht, hz⟩ := I5.list hx
  have hlen := r.length
  show wpAny (model X.prog X.w) X.A (subscriptTail e (.Slice lo hi (some st) p3) (.ref a) (.ref s4.heap.objs.size)) (EP X pins σ Q) X.xe { s4 with heap := s4.heap.push { cls := .type "slice", data := .fields #[vl, vu, vs] } }
  refine tail_any (ops := [.ref a, .ref s4.heap.objs.size]) ht.isList.typeIs (PySem.slot_list_getitem.lookup) ?_ (by with_unfolding_all rfl)
  refine wpAny_getItem_list_slice ht.isList (Heap.IsSliceOf.new _ vl vu vs) pl pu ps h0 ?_ (by rw [List.size_toArray]; omega)
  refine ⟨.ref _, _, I5.laid (t' := s4.toks) (o := .lst (pickV xs l u o)) (fun b ob q => Heap.get?_push_of_some _ q) (Nat.le_refl _) ?_, rfl, q _ (I5.hok.fresh (Nat.le_refl _))⟩
  exact ⟨hz2, (slicePick its.toArray l u o).toList, 0, pick_vals r l u o, Heap.get?_push_size _ rfl⟩
end
/-! ### set(t) of a tuple of ints, as a thing that stands -/
def rSetT (K : PySem.W.Frag) (w : World) : List V → Hp → VK → Prop := fun xs H Q => ∃ (q : Addr) (ns : List Int), xs = [.ref q] ∧ SqT K H q (ns.map V.int) ∧ ns.length ≤ 1000 ∧ ∀ (a : Addr) (c : Nat), H a = none → c ≤ ns.length → Q (.ref a) (upd H a (SetO w a (fun j => decide (j ∈ ns)) c))
theorem cr_setT {X : Cx} (hc : X.calm = true) : CallR X (.type "set") (rSetT X.K X.w) := by
  intro pins s σ H xs us Q I r h
  obtain ⟨q, ns, rfl, hq, hl, k⟩ := h
  rw [Vals.ref1 r]
  obtain ⟨its, rv, pt, hz⟩ := I.tuple hq
  have hi : IntsAre its.toArray.toList ns := ints_of_vals rv
  refine call_set_tupI ns (I.ok.hd hc) (show s.heap.IsTuple q its.toArray from pt) hi (by unfold scanBound; omega) fun h' tk c R1 hcn kk => ?_
  exact ⟨.ref _, upd H s.heap.objs.size (SetO X.w s.heap.objs.size _ c), I.laid (t' := tk) kk (Nat.le_refl _) (setO_new R1), rfl, k _ _ (I.hok.fresh (Nat.le_refl _)) hcn⟩
theorem cr_setTw {X : Cx} (w : World) (hc : X.calm = true) (hw : X.w = w := by rfl) : CallR X (.type "set") (rSetT X.K w) := hw ▸ cr_setT hc
theorem cr_sortedSetw {X : Cx} (w : World) (hc : X.calm = true) (hw : X.w = w := by rfl) : CallR X (.builtin "sorted") (rSortedSet w) := hw ▸ cr_sortedSet hc
/-- names of Python's own that the top leaves alone -/
structure Bt (mg : Str → Option Value) : Prop where
  len_ : mg "len" = none
  range_ : mg "range" = none
  abs_ : mg "abs" = none
  int_ : mg "int" = none
  min_ : mg "min" = none
  max_ : mg "max" = none
  list_ : mg "list" = none
  tuple_ : mg "tuple" = none
  all_ : mg "all" = none
  any_ : mg "any" = none
  sorted_ : mg "sorted" = none
  sum_ : mg "sum" = none
  repr_ : mg "repr" = none
  zip_ : mg "zip" = none
  enumerate_ : mg "enumerate" = none
  isinstance_ : mg "isinstance" = none
  reversed_ : mg "reversed" = none
  str_ : mg "str" = none
  bool_ : mg "bool" = none
  set_ : mg "set" = none
end Sh

/-! |, - and ^ of two sets of small ints: the tables laid anew, merged, walked -/
/-! a set's table laid anew: each small int finds its slot -/
namespace Sh
open PySem PySem.Spec PyProof.Rows L2
def hops (m : Nat) : Nat → Nat → List Nat
  | 0, _ => []
  | n + 1, i => i :: hops m n ((i * 5 + 1) % (m + 1))
def bitsOf (l : List Nat) : Nat := l.foldl (fun b j => b ||| (1 <<< j)) 0
theorem bits_go (j : Nat) : ∀ (l : List Nat) (b : Nat), (l.foldl (fun b j => b ||| (1 <<< j)) b).testBit j = true → b.testBit j = true ∨ j ∈ l
  | [], b, h => .inl h
  | x :: l, b, h => by
    rcases bits_go j l _ h with z | z
    · rw [Nat.testBit_or, Bool.or_eq_true] at z
      rcases z with z | z
      · exact .inl z
      · rw [Nat.testBit_shiftLeft, Bool.and_eq_true, decide_eq_true_eq] at z
        obtain ⟨z1, z2⟩ := z
        by_cases c : j = x
        · exact .inr (c ▸ List.mem_cons_self)
        · obtain ⟨k, e⟩ : ∃ k, j - x = k + 1 := ⟨j - x - 1, by omega⟩
          rw [e] at z2
          have : Nat.testBit 1 (k + 1) = false := by rw [Nat.testBit_succ]; simp
          rw [this] at z2
          cases z2
    · exact .inr (List.mem_cons_of_mem _ z)
def allHops (m : Nat) : Bool := (List.range (m + 1)).all fun i => bitsOf (hops m (m + 1) i) == 2 ^ (m + 1) - 1
theorem hops_all : ∀ m ∈ [7, 15, 31, 63, 127], allHops m = true := by decide +kernel
theorem hops_mono {m : Nat} : ∀ (n k i j : Nat), n ≤ k → j ∈ hops m n i → j ∈ hops m k i
  | 0, _, _, _, _, h => by cases h
  | n + 1, 0, _, _, l, _ => by omega
  | n + 1, k + 1, i, j, l, h => by
    rcases List.mem_cons.mp h with e | h
    · rw [e]; exact List.mem_cons_self
    · exact List.mem_cons_of_mem _ (hops_mono n k _ j (by omega) h)
theorem hops_find {m i j : Nat} (hm : m ∈ [7, 15, 31, 63, 127]) (hi : i ≤ m) (hj : j ≤ m) : j ∈ hops m (SetTable.turns m) i := by
  have a := hops_all m hm
  unfold allHops at a
  have b := beq_iff_eq.mp (List.all_eq_true.mp a i (List.mem_range.mpr (by omega)))
  have c : (bitsOf (hops m (m + 1) i)).testBit j = true := by
    rw [b, Nat.testBit_two_pow_sub_one]
    exact decide_eq_true (by omega)
  rcases bits_go j _ 0 c with z | z
  · rw [Nat.zero_testBit] at z
    cases z
  · exact hops_mono (m + 1) _ i j (by unfold SetTable.turns; omega) z
theorem run_ge (m i : Nat) : i ≤ SetTable.runEnd m i := by
  unfold SetTable.runEnd
  split <;> omega
theorem free_some {m : Nat} {ow : Array (Option Nat)} : ∀ (f i p : Nat), p < 32 → (∃ j ∈ hops m f i, (ow.getD j (some 0)).isNone = true) → ∃ j, SetTable.layClean.free m ow f i p = some j ∧ (ow.getD j (some 0)).isNone = true
  | 0, _, _, _, ⟨_, h, _⟩ => by cases h
  | f + 1, i, p, hp, ⟨j, hj, ej⟩ => by
    unfold SetTable.layClean.free
    cases e : (List.range (SetTable.runEnd m i + 1 - i)).find? fun k => (ow.getD (i + k) (some 0)).isNone with
    | some k => exact ⟨i + k, rfl, List.find?_some (p := fun k => (ow.getD (i + k) (some 0)).isNone) e⟩
    | none =>
      have h0 := List.find?_eq_none.mp e 0 (List.mem_range.mpr (by have := run_ge m i; omega))
      have j1 : j ∈ hops m f ((i * 5 + 1) % (m + 1)) := by
        rcases List.mem_cons.mp hj with z | z
        · rw [z] at ej
          exact absurd ej h0
        · exact z
      have p0 : p / 32 = 0 := Nat.div_eq_of_lt hp
      show ∃ j, SetTable.layClean.free m ow f ((i * 5 + 1 + p / 32) % (m + 1)) (p / 32) = some j ∧ _
      rw [p0, Nat.add_zero]
      exact free_some f _ 0 (by decide) ⟨j, j1, ej⟩
theorem fm_set {α : Type} : ∀ (l : List (Option α)) (j : Nat) (x : α), l[j]? = some none → ((l.set j (some x)).filterMap id).Perm (x :: l.filterMap id)
  | [], _, _, h => by cases h
  | o :: l, 0, x, h => by
    obtain rfl : o = none := Option.some.inj h
    exact List.Perm.refl _
  | o :: l, j + 1, x, h => by
    have ih := fm_set l j x h
    cases o with
    | none => exact ih
    | some y => exact (List.Perm.cons y ih).trans (List.Perm.swap x y _)
theorem fm_len {α : Type} : ∀ (l : List (Option α)), (∀ o ∈ l, o ≠ none) → (l.filterMap id).length = l.length
  | [], _ => rfl
  | none :: l, h => absurd rfl (h none List.mem_cons_self)
  | some x :: l, h => by
    show (l.filterMap id).length + 1 = l.length + 1
    rw [fm_len l fun o ho => h o (List.mem_cons_of_mem _ ho)]
def small (h : Int) : Prop := 0 ≤ h ∧ h < 32
theorem bits_small {h : Int} (s : small h) : SetTable.bits h < 32 := by
  unfold SetTable.bits
  obtain ⟨a, b⟩ := s
  have : h % (2 ^ 64 : Int) = h := Int.emod_eq_of_lt a (by omega)
  omega
theorem lay_go {m : Nat} (hm : m ∈ [7, 15, 31, 63, 127]) : ∀ (hs : List Int) (ow : Array (Option Nat)) (k : Nat), (∀ h ∈ hs, small h) → ow.size = m + 1 → (ow.toList.filterMap id).Perm (List.range k) → k + hs.length ≤ m + 1 →
    ∃ ow' : Array (Option Nat), List.foldl (fun (acc : Option (Array (Option Nat) × Nat)) (h : Int) => do
      let (owner, k) ← acc
      let j ← SetTable.layClean.free m owner (SetTable.turns m) (SetTable.bits h % (m + 1)) (SetTable.bits h)
      pure (owner.setIfInBounds j (some k), k + 1)) (some (ow, k)) hs = some (ow', k + hs.length) ∧ ow'.size = m + 1 ∧ (ow'.toList.filterMap id).Perm (List.range (k + hs.length))
  | [], ow, k, _, sz, pm, _ => ⟨ow, rfl, sz, pm⟩
  | h :: hs, ow, k, sm, sz, pm, l => by
    rw [List.length_cons] at l
    have ex : ∃ j, j ≤ m ∧ (ow.getD j (some 0)).isNone = true := by
      refine Classical.byContradiction fun no => ?_
      have all : ∀ o ∈ ow.toList, o ≠ none := fun o ho z => by
        obtain ⟨j, hj, e⟩ := List.mem_iff_getElem.mp ho
        rw [Array.length_toList] at hj
        refine no ⟨j, by omega, ?_⟩
        rw [Array.getD_eq_getD_getElem?, Array.getElem?_eq_getElem hj]
        rw [Array.getElem_toList] at e
        rw [e, z]
        rfl
      have e1 := fm_len _ all
      rw [pm.length_eq, List.length_range, Array.length_toList] at e1
      omega
    obtain ⟨j0, j1, j2⟩ := ex
    obtain ⟨j, ef, ej⟩ := free_some (m := m) (ow := ow) (SetTable.turns m) (SetTable.bits h % (m + 1)) (SetTable.bits h) (bits_small (sm h List.mem_cons_self)) ⟨j0, hops_find hm (by have := Nat.mod_lt (SetTable.bits h) (show 0 < m + 1 by omega); omega) j1, j2⟩
    have gj : ow.toList[j]? = some none := by
      rw [Array.getElem?_toList]
      rw [Array.getD_eq_getD_getElem?] at ej
      cases e : ow[j]? with
      | none => rw [e] at ej; cases ej
      | some o =>
        rw [e] at ej
        cases o with
        | none => rfl
        | some _ => cases ej
    have pm2 : ((ow.setIfInBounds j (some k)).toList.filterMap id).Perm (List.range (k + 1)) := by
      rw [Array.toList_setIfInBounds]
      refine (fm_set _ _ _ gj).trans ((List.Perm.cons _ pm).trans ?_)
      rw [List.range_succ]
      exact (List.perm_append_singleton _ _).symm
    obtain ⟨ow', r1, r2, r3⟩ := lay_go hm hs (ow.setIfInBounds j (some k)) (k + 1) (fun x hx => sm x (List.mem_cons_of_mem _ hx)) (by rw [Array.size_setIfInBounds]; exact sz) pm2 (by omega)
    refine ⟨ow', ?_, r2, ?_⟩
    · rw [List.foldl_cons, show (k + (h :: hs).length) = k + 1 + hs.length by rw [List.length_cons]; omega, ← r1]
      congr 1
      show (do let j ← SetTable.layClean.free m ow (SetTable.turns m) (SetTable.bits h % (m + 1)) (SetTable.bits h); pure (ow.setIfInBounds j (some k), k + 1)) = _
      rw [ef]
      rfl
    · rw [show (k + (h :: hs).length) = k + 1 + hs.length by rw [List.length_cons]; omega]
      exact r3
theorem fm_pair {α : Type} (f : Nat → Option α) : ∀ l : List Nat, ((l.filterMap fun j => (f j).map (j, ·)).map (·.2)) = l.filterMap f
  | [] => rfl
  | j :: l => by
    cases e : f j with
    | none => rw [List.filterMap_cons_none (by simp [e]), List.filterMap_cons_none e]; exact fm_pair f l
    | some x => rw [List.filterMap_cons_some (b := (j, x)) (by simp [e]), List.filterMap_cons_some e, List.map_cons, fm_pair f l]
/-- a table is laid: its order is of all -/
theorem laid_some {m fg mv : Nat} {led pl : Bool} {hs : Array Int} (hm : m ∈ [7, 15, 31, 63, 127]) (sm : ∀ h ∈ hs.toList, small h) (l : hs.size ≤ m) :
    ∃ (t : SetTable) (o : Array Nat), SetTable.laid m fg mv led pl hs = some (t, o) ∧ o.toList.Perm (List.range hs.size) ∧ t.fits hs.size = true ∧ Ris t.place.toList ∧ t.led = led ∧ t.mask = m ∧ t.dummies = #[] := by
  have l' : 0 + hs.toList.length ≤ m + 1 := by rw [Array.length_toList]; omega
  obtain ⟨ow, e1, e2, e3⟩ := lay_go hm hs.toList (Array.replicate (m + 1) none) 0 sm (by simp) (by simp) l'
  have ec : SetTable.layClean m hs = some ow := by
    unfold SetTable.layClean
    rw [← Array.foldl_toList]
    exact congrArg (Option.map (·.1)) e1
  unfold SetTable.laid
  rw [ec]
  rw [Nat.zero_add, Array.length_toList] at e3
  have ep : ((List.range (m + 1)).filterMap fun j => ow.getD j none) = ow.toList.filterMap id := by
    have : ow.toList = (List.range (m + 1)).map fun j => ow.getD j none := by
      refine List.ext_getElem? fun i => ?_
      rw [List.getElem?_map, Array.getElem?_toList]
      by_cases c : i < m + 1
      · rw [List.getElem?_range c, Array.getElem?_eq_getElem (by omega)]
        show _ = some (ow.getD i none)
        rw [Array.getD_eq_getD_getElem?, Array.getElem?_eq_getElem (by omega)]
        rfl
      · rw [List.getElem?_eq_none (by rw [List.length_range]; omega), Array.getElem?_eq_none (by omega)]
        rfl
    rw [this, List.filterMap_map]
    rfl
  have pm : (((List.range (m + 1)).filterMap fun j => (ow.getD j none).map (j, ·)).map (·.2)).Perm (List.range hs.size) := by
    rw [fm_pair, ep]
    exact e3
  refine ⟨_, _, rfl, pm, ?_, (ris_live (fun j => ow.getD j none) (List.range (m + 1)) (by unfold Ris; exact List.pairwise_lt_range)).1, rfl, rfl, rfl⟩
  have le := pm.length_eq
  rw [List.length_map, List.length_range] at le
  unfold SetTable.fits SetTable.fill
  dsimp only
  rw [List.size_toArray, List.length_map, le]
  simp
  omega
/-! sets put together -/
end Sh
namespace Sh
open PySem PySem.Spec PyProof.Rows L2
theorem hash_small {k : Int} (h : 0 ≤ k ∧ k < 32) : hashInt k = k := by
  obtain ⟨n, rfl⟩ : ∃ n : Fin 32, k = (n.val : Int) := ⟨⟨k.toNat, by omega⟩, by show k = ((k.toNat : Nat) : Int); omega⟩
  exact (by decide +kernel : ∀ n : Fin 32, hashInt (n.val : Int) = (n.val : Int)) n
abbrev M5 : List Nat := [7, 15, 31, 63, 127]
theorem above_ok : ∀ w : Fin 97, SetTable.sizeAbove w.val - 1 ∈ M5 ∧ w.val ≤ SetTable.sizeAbove w.val - 1 ∧ SetTable.sizeAbove w.val ≤ 128 := by decide +kernel
structure Tb (w : World) (h : Heap) (a : Addr) (es : Array (Int × Value)) (ep : Nat) (t : SetTable) : Prop where
  ob : ∃ o, h.get? a = some o ∧ o.ExactSet ∧ o.data = .set es ep t
  good : ∀ e ∈ es.toList, GoodE e
  sm : ∀ e ∈ es.toList, 0 ≤ keyOf e ∧ keyOf e < 32
  nd : (es.toList.map keyOf).Nodup
  few : es.size ≤ 48
  fits : t.fits es.size = true
  ris : Ris t.place.toList
  led : w.params.followText "set-order" = true ∨ t.led = true
theorem Tb.sb {w : World} {h : Heap} {a : Addr} {es : Array (Int × Value)} {ep : Nat} {t : SetTable} (T : Tb w h a es ep t) : es.size < scanBound := by
  have := T.few
  unfold scanBound
  omega
theorem Tb.at {w : World} {h h' : Heap} {a : Addr} {es : Array (Int × Value)} {ep : Nat} {t : SetTable} (T : Tb w h a es ep t) (k : ∀ o, h.get? a = some o → h'.get? a = some o) : Tb w h' a es ep t := by
  obtain ⟨⟨o, ho, r⟩, a1, a2, a3, a4, a5, a6, a7⟩ := T
  exact ⟨⟨o, k o ho, r⟩, a1, a2, a3, a4, a5, a6, a7⟩
theorem Tb.setR {w : World} {h : Heap} {a : Addr} {es : Array (Int × Value)} {ep : Nat} {t : SetTable} (T : Tb w h a es ep t) {S : Int → Bool} (m : ∀ k, S k = true ↔ k ∈ es.toList.map keyOf) : SetR w h a S es.size := by
  have sb := T.sb
  obtain ⟨⟨o, ho, hx, hd⟩, a1, a2, a3, a4, a5, a6, a7⟩ := T
  exact ⟨o, es, ep, t, ho, hx, hd, a1, a3, m, sb, a5, rfl, a6, a7⟩
theorem tb_of {w : World} {h : Heap} {a : Addr} {S : Int → Bool} {n : Nat} (R : SetR w h a S n) (l : n ≤ 48) (sm : ∀ k, S k = true → 0 ≤ k ∧ k < 32) : ∃ es ep t, Tb w h a es ep t ∧ (∀ k, S k = true ↔ k ∈ es.toList.map keyOf) ∧ es.size = n := by
  obtain ⟨o, es, ep, t, ho, hx, hd, g, nd, hm, hb, hf, hn, hr, hl⟩ := R
  exact ⟨es, ep, t, ⟨⟨o, ho, hx, hd⟩, g, fun e he => sm _ ((hm _).mpr (List.mem_map_of_mem he)), nd, by omega, hf, hr, hl⟩, hm, hn⟩
theorem Tb.hash {w : World} {h : Heap} {a : Addr} {es : Array (Int × Value)} {ep : Nat} {t : SetTable} (T : Tb w h a es ep t) : ∀ x ∈ (es.map (·.1)).toList, small x := fun x hx => by
  rw [Array.toList_map] at hx
  obtain ⟨e, he, rfl⟩ := List.mem_map.mp hx
  obtain ⟨k, tk, e1, e2⟩ := T.good e he
  have s := T.sm e he
  have ek : keyOf e = k := by unfold keyOf; rw [e1]
  rw [ek] at s
  rw [e2, hash_small s]
  exact s
theorem order_perm {es : Array (Int × Value)} {o : Array Nat} (p : o.toList.Perm (List.range es.size)) : (o.filterMap (es[·]?)).toList.Perm es.toList := by
  rw [Array.toList_filterMap]
  refine (p.filterMap _).trans ?_
  have : (List.range es.size).filterMap (fun i => es[i]?) = es.toList := by
    rw [← Array.length_toList]
    have key : ∀ (l : List (Int × Value)) (f : Nat → Option (Int × Value)), (∀ i, i < l.length → f i = l[i]?) → (List.range l.length).filterMap f = l := by
      intro l
      induction l with
      | nil => intro f _; rfl
      | cons x l ih =>
        intro f hf
        rw [List.length_cons, List.range_succ_eq_map, List.filterMap_cons_some (hf 0 (by simp)), List.filterMap_map]
        congr 1
        exact ih _ fun i hi => by
          show f (i + 1) = _
          rw [hf (i + 1) (by simp; omega)]
          simp
    exact key es.toList _ fun i hi => by rw [Array.getElem?_toList]
  rw [this]
theorem Tb.perm {w : World} {h h' : Heap} {a b : Addr} {es es' : Array (Int × Value)} {ep ep' : Nat} {t t' : SetTable} (T : Tb w h a es ep t) (ob : ∃ o, h'.get? b = some o ∧ o.ExactSet ∧ o.data = .set es' ep' t') (p : es'.toList.Perm es.toList) (f : t'.fits es'.size = true) (r : Ris t'.place.toList) (l : w.params.followText "set-order" = true ∨ t'.led = true) : Tb w h' b es' ep' t' :=
  ⟨ob, fun e he => T.good e (p.mem_iff.mp he), fun e he => T.sm e (p.mem_iff.mp he), (p.map keyOf).nodup_iff.mpr T.nd, by rw [← Array.length_toList, p.length_eq, Array.length_toList]; exact T.few, f, r, l⟩
theorem relay_eq (a : Addr) (n : Nat) : setRelay a n = (do
    let (xs, _, tb) ← setState a
    if SetTable.sizeAbove n > sizeLine then unsupported "set:memory"
    let (xs, tb) ← (do
      let some (tb, od) := tb.relaid (xs.map (·.1)) n | unsupported "internal:set-table-without-room"
      let ys := od.filterMap (xs[·]?)
      if ys.size != xs.size then unsupported "internal:set-table-lost-an-element"
      pure (ys, tb) : Sem (Array (Int × Value) × SetTable))
    storeSet a xs tb) := by rfl
section
variable {P : Program} {w : World} {A : Around} {E : Value → Shared → Prop} {s : Shared} {a : Addr} {es : Array (Int × Value)} {ep : Nat} {t : SetTable}
theorem relay_tb (T : Tb w s.heap a es ep t) {n : Nat} (l1 : es.size ≤ n) (l2 : n ≤ 96) {Q : Unit → Shared → Prop}
    (q : ∀ h' es' t', Heap.SameBut a s.heap h' → Tb w h' a es' (ep + 1) t' → es'.toList.Perm es.toList → t'.mask ∈ M5 → n ≤ t'.mask → t'.fill = es.size → Q () { s with heap := h' }) : wpAny (model P w) A (setRelay a n) Q E s := by
  obtain ⟨o, ho, hx, hd⟩ := T.ob
  obtain ⟨m1, m2, m3⟩ : SetTable.sizeAbove n - 1 ∈ M5 ∧ n ≤ SetTable.sizeAbove n - 1 ∧ SetTable.sizeAbove n ≤ 128 := above_ok ⟨n, by omega⟩
  obtain ⟨t', od, e, pm, ft, rs, ld, mk, dm⟩ := laid_some (fg := t.finger) (mv := t.movedTo (SetTable.sizeAbove n - 1)) (led := t.led) (pl := t.plain) m1 T.hash (by rw [Array.size_map]; omega)
  rw [Array.size_map] at pm ft
  have p2 := order_perm pm
  have s2 : (od.filterMap (es[·]?)).size = es.size := by rw [← Array.length_toList, p2.length_eq, Array.length_toList]
  rw [relay_eq]
  refine wpAny_bind (wpAny_setState_of ho hd T.fits ?_)
  dsimp only
  refine wp_if_neg (by rw [sizeLine_eq]; omega) ?_
  try refine wpAny_bind (wpAny_pure ?_)
  have er : t.relaid (es.map (·.1)) n = some (t', od) := e
  rw [er]
  dsimp only
  refine wpAny_bind ?_
  refine wp_if_neg (by rw [s2]; simp) ?_
  try refine wpAny_bind (wpAny_pure ?_)
  refine wpAny_pure ?_
  dsimp only
  refine wpAny_storeSet_of ho hd ?_ (by rw [s2, sizeLine_eq]; have := T.few; omega)
  refine q _ _ _ (Heap.SameBut.update ..) (T.perm ⟨_, store_at ho hd, ⟨hx.1, hx.2.1, hx.2.2⟩, rfl⟩ p2 (by rw [s2]; exact ft) rs (T.led.imp id fun z => by rw [ld]; exact z)) p2 (by rw [mk]; exact m1) (by rw [mk]; exact m2) ?_
  unfold SetTable.fits SetTable.fill at ft
  unfold SetTable.fill
  rw [Bool.and_eq_true, beq_iff_eq] at ft
  rw [dm, ft.1]
  rfl
/-- room for so many more -/
theorem room_tb (T : Tb w s.heap a es ep t) {n : Nat} (l1 : es.size + n ≤ 48) (hm : t.mask ∈ M5) {Q : Unit → Shared → Prop}
    (q : ∀ h' es' ep' t', Heap.SameBut a s.heap h' → Tb w h' a es' ep' t' → es'.toList.Perm es.toList → t'.mask ∈ M5 → n ≤ t'.mask → (t.fill = 0 → t'.fill = 0) → Q () { s with heap := h' }) : wpAny (model P w) A (setRoomFor a n) Q E s := by
  obtain ⟨o, ho, hx, hd⟩ := T.ob
  unfold setRoomFor
  refine wpAny_bind (wpAny_setState_of ho hd T.fits ?_)
  dsimp only
  have ps : t.place.size = es.size ∧ t.fill ≤ t.mask := by
    have f := T.fits
    unfold SetTable.fits at f
    rw [Bool.and_eq_true, beq_iff_eq, decide_eq_true_eq] at f
    exact f
  unfold SetTable.roomFor
  by_cases c : (t.fill + n) * 5 ≥ t.mask * 3
  · rw [if_pos c]
    dsimp only
    rw [ps.1]
    refine relay_tb T (by omega) (by omega) fun h' es' t' sb T' p m l f => q h' es' _ t' sb T' p m (by omega) fun z => by rw [f]; unfold SetTable.fill at z; omega
  · rw [if_neg c]
    refine wpAny_pure (q s.heap es ep t (Heap.SameBut.refl _ _) T (List.Perm.refl _) hm ?_ id)
    have : t.mask ≤ 127 := by
      simp only [M5, List.mem_cons, List.not_mem_nil, or_false] at hm
      omega
    omega
theorem quiet_tb (l : List Addr) (h : ∀ b ∈ l, ∃ es ep t, Tb w s.heap b es ep t) {Q : Bool → Shared → Prop} (q : Q true s) : wpAny (model P w) A (setsQuiet l) Q E s := by
  unfold setsQuiet
  refine wpAny_bind ?_
  refine wpAny_forIn_list _ (fun rest r s' => r.1 = none ∧ s' = s ∧ ∀ b ∈ rest, ∃ es ep t, Tb w s.heap b es ep t) _ ?_ ?_ _ _ ⟨rfl, rfl, h⟩
  · rintro b rest ⟨r1, r2⟩ s' ⟨hr, rfl, hall⟩
    obtain ⟨es, ep, t, T⟩ := hall b List.mem_cons_self
    obtain ⟨o, ho, hx, hd⟩ := T.ob
    refine wpAny_bind (wpAny_setEntries_of ho hd T.fits ?_)
    refine wpAny_bind ?_
    rw [← Array.forIn_toList]
    refine wpAny_forIn_list _ (fun rest r s2 => r.1 = none ∧ s2 = s' ∧ ∀ e ∈ rest, GoodE e) _ ?_ ?_ _ _ ⟨rfl, rfl, T.good⟩
    · rintro e rest2 ⟨r3, r4⟩ s2 ⟨hr2, rfl, hg⟩
      obtain ⟨k, tk, e1, e2⟩ := hg e List.mem_cons_self
      obtain ⟨e3, e4⟩ := e
      simp only at e1
      subst e1
      exact wpAny_pure ⟨rfl, rfl, fun x hx => hg x (List.mem_cons_of_mem _ hx)⟩
    · rintro ⟨r3, r4⟩ s2 ⟨hr2, rfl, _⟩
      simp only at hr2
      subst hr2
      exact wpAny_pure ⟨rfl, rfl, fun x hx => hall x (List.mem_cons_of_mem _ hx)⟩
  · rintro ⟨r1, r2⟩ s' ⟨hr, rfl, _⟩
    simp only at hr
    subst hr
    exact wpAny_pure q
theorem plain_tb {o0 : Addr} {eo : Array (Int × Value)} {eq : Nat} {to : SetTable} (U : Tb w s.heap o0 eo eq to) {Q : Array (Int × Value) → Shared → Prop} (q : ∀ out, out.toList.Perm eo.toList → Q out s) (c : w.params.followText "set-order" = true ∨ to.plain = true ∨ eo.size ≤ 1) : wpAny (model P w) A (setWalk o0) Q E s := by
  obtain ⟨u, hu, ux, ud⟩ := U.ob
  unfold setWalk
  refine wpAny_bind (wpAny_setState_of hu ud U.fits ?_)
  dsimp only
  refine wpAny_bind (wpAny_byText ?_)
  by_cases bt : w.params.followText "set-order" = true
  · refine wp_if_pos bt ?_
    refine wpAny_bind (wpAny_askSetting (wpAny_pure (q _ (pick_perm _ _))))
  · refine wp_if_neg bt ?_
    have ld : to.led = true := U.led.resolve_left bt
    refine wp_if_neg (c := (!to.plain && decide (eo.size > 1)) = true) (fun z => ?_) ?_
    · rw [Bool.and_eq_true, decide_eq_true_eq] at z
      rcases c with c | c | c
      · exact bt c
      · rw [c] at z
        exact absurd z.1 (by decide)
      · omega
    · refine wpAny_bind ?_
      show wpAny _ _ (if (!to.led && decide (eo.size > 1)) = true then unsupported "set:maker-not-led" else pure ()) _ _ _
      refine wp_if_neg (fun z => ?_) (wpAny_pure (wpAny_pure (q _ (List.Perm.refl _))))
      rw [ld] at z
      exact absurd z (by simp)
/-- asked for a walk that nobody sees -/
theorem walk_tb {o0 : Addr} {eo : Array (Int × Value)} {eq : Nat} {to : SetTable} (bs : List Addr) (hbs : ∀ b ∈ bs, ∃ es ep t, Tb w s.heap b es ep t) (T : Tb w s.heap a es ep t) (U : Tb w s.heap o0 eo eq to) {Q : Array (Int × Value) → Shared → Prop}
    (q : ∀ h' out ep' t', Heap.SameBut a s.heap h' → Tb w h' a es ep' t' → t'.mask = t.mask → t'.fill = t.fill → out.toList.Perm eo.toList → Q out { s with heap := h' }) : wpAny (model P w) A (setWalkUnseen o0 bs (some a)) Q E s := by
  obtain ⟨o, ho, hx, hd⟩ := T.ob
  obtain ⟨u, hu, ux, ud⟩ := U.ob
  have plain := fun {Q} q c => plain_tb (Q := Q) (P := P) (A := A) (E := E) U q c
  have done : ∀ out, out.toList.Perm eo.toList → Q out s := fun out p => q s.heap out ep t (Heap.SameBut.refl _ _) T rfl rfl p
  unfold setWalkUnseen
  refine wpAny_bind (wpAny_setState_of hu ud U.fits ?_)
  dsimp only
  refine wpAny_bind (wpAny_byText ?_)
  by_cases c : (w.params.followText "set-order" || to.led && to.plain || decide (eo.size ≤ 1)) = true
  · refine wp_if_pos c ?_
    refine plain done ?_
    rw [Bool.or_eq_true, Bool.or_eq_true, Bool.and_eq_true, decide_eq_true_eq] at c
    rcases c with (c | c) | c
    · exact .inl c
    · exact .inr (.inl c.2)
    · exact .inr (.inr c)
  · refine wp_if_neg c ?_
    refine wpAny_bind (quiet_tb (o0 :: bs) (fun b hb => ?_) ?_)
    · rcases List.mem_cons.mp hb with rfl | hb
      · exact ⟨_, _, _, U⟩
      · exact hbs b hb
    refine wp_if_neg (by decide) ?_
    refine wpAny_bind (wpAny_rule ?_)
    refine wpAny_bind (wpAny_setState_of ho hd T.fits ?_)
    dsimp only
    by_cases c2 : (t.led && !to.led || t.plain && !to.plain) = true
    · refine wp_if_pos c2 ?_
      refine wpAny_bind (wpAny_storeSet_of ho hd ?_ (by rw [sizeLine_eq]; have := T.few; omega))
      refine wpAny_pure (q _ eo _ _ (Heap.SameBut.update ..) (T.perm ⟨_, store_at ho hd, ⟨hx.1, hx.2.1, hx.2.2⟩, rfl⟩ (List.Perm.refl _) T.fits T.ris ?_) rfl rfl (List.Perm.refl _))
      rcases T.led with z | z
      · exact .inl z
      · rcases U.led with y | y
        · exact .inl y
        · right
          show (t.led && to.led) = true
          rw [z, y]
          rfl
    · refine wp_if_neg c2 ?_
      exact wpAny_pure (done _ (List.Perm.refl _))
theorem walk_none {o0 : Addr} {eo : Array (Int × Value)} {eq : Nat} {to : SetTable} (bs : List Addr) (hbs : ∀ b ∈ bs, ∃ es ep t, Tb w s.heap b es ep t) (U : Tb w s.heap o0 eo eq to) {Q : Array (Int × Value) → Shared → Prop}
    (q : ∀ out, out.toList.Perm eo.toList → Q out s) : wpAny (model P w) A (setWalkUnseen o0 bs none) Q E s := by
  obtain ⟨u, hu, ux, ud⟩ := U.ob
  unfold setWalkUnseen
  refine wpAny_bind (wpAny_setState_of hu ud U.fits ?_)
  dsimp only
  refine wpAny_bind (wpAny_byText ?_)
  by_cases c : (w.params.followText "set-order" || to.led && to.plain || decide (eo.size ≤ 1)) = true
  · refine wp_if_pos c ?_
    rw [Bool.or_eq_true, Bool.or_eq_true, Bool.and_eq_true, decide_eq_true_eq] at c
    refine plain_tb U q ?_
    rcases c with (c | c) | c
    · exact .inl c
    · exact .inr (.inl c.2)
    · exact .inr (.inr c)
  · refine wp_if_neg c ?_
    refine wpAny_bind (quiet_tb (o0 :: bs) (fun b hb => ?_) ?_)
    · rcases List.mem_cons.mp hb with rfl | hb
      · exact ⟨_, _, _, U⟩
      · exact hbs b hb
    refine wp_if_neg (by decide) ?_
    refine wpAny_bind (wpAny_rule ?_)
    exact wpAny_pure (q _ (List.Perm.refl _))
/-- one by one -/
theorem merge_tb {o0 : Addr} {eo : Array (Int × Value)} {eq : Nat} {to : SetTable} (each : Sem Unit) (T : Tb w s.heap a es ep t) (U : Tb w s.heap o0 eo eq to) (ne : o0 ≠ a) (hm : t.mask ∈ M5) (l : es.size + eo.size ≤ 48)
    (he : ∀ (s' : Shared) (Q' : Unit → Shared → Prop), s'.heap.get? o0 = s.heap.get? o0 → Q' () s' → wpAny (model P w) A each Q' E s') {Q : Unit → Shared → Prop}
    (q : ∀ h' es' ep' t', Heap.SameBut a s.heap h' → Tb w h' a es' ep' t' → (∀ k, k ∈ es'.toList.map keyOf ↔ k ∈ es.toList.map keyOf ∨ k ∈ eo.toList.map keyOf) → es'.size ≤ es.size + eo.size → (t.fill = 0 → t'.mask ∈ M5) → Q () { s with heap := h' }) : wpAny (model P w) A (setMerge a o0 each) Q E s := by
  obtain ⟨o, ho, hx, hd⟩ := T.ob
  obtain ⟨u, hu, ux, ud⟩ := U.ob
  unfold setMerge
  refine wp_if_neg (by simpa using Ne.symm ne) ?_
  try refine wpAny_bind (wpAny_pure ?_)
  refine wpAny_bind (wpAny_setState_of hu ud U.fits ?_)
  dsimp only
  by_cases c0 : eo.isEmpty = true
  · refine wp_if_pos c0 ?_
    have e0 : eo.toList = [] := by
      have := Array.isEmpty_iff.mp c0
      rw [this]
    exact wpAny_pure (q s.heap es ep t (Heap.SameBut.refl _ _) T (fun k => by rw [e0]; simp) (by omega) fun _ => hm)
  refine wp_if_neg c0 ?_
  try refine wpAny_bind (wpAny_pure ?_)
  refine wpAny_bind (room_tb T l hm fun h1 es1 ep1 t1 sb1 T1 p1 m1 l1 f1 => ?_)
  obtain ⟨o1, ho1, hx1, hd1⟩ := T1.ob
  have U1 : Tb w h1 o0 eo eq to := U.at fun x hx => (sb1.2 _ ne).trans hx
  obtain ⟨u1, hu1, ux1, ud1⟩ := U1.ob
  refine wpAny_bind (wpAny_setState_of ho1 hd1 T1.fits ?_)
  dsimp only
  have hz : eo.size ≤ sizeLine := by rw [sizeLine_eq]; omega
  have ld1 : w.params.followText "set-order" = true ∨ (t1.led && to.led) = true := by
    rcases T1.led with z | z
    · exact .inl z
    · rcases U.led with y | y
      · exact .inl y
      · right
        rw [z, y]
        rfl
  unfold SetTable.road
  by_cases c1 : t1.fill = 0
  · have e1 : es1.toList = [] := by
      have f := T1.fits
      unfold SetTable.fits SetTable.fill at f
      unfold SetTable.fill at c1
      rw [Bool.and_eq_true, beq_iff_eq] at f
      exact List.eq_nil_of_length_eq_zero (by rw [Array.length_toList]; omega)
    have e0 : es.toList = [] := List.eq_nil_of_length_eq_zero (by rw [← p1.length_eq, e1]; rfl)
    have keys : ∀ {xs : Array (Int × Value)}, xs.toList.Perm eo.toList → ∀ k, k ∈ xs.toList.map keyOf ↔ k ∈ es.toList.map keyOf ∨ k ∈ eo.toList.map keyOf := fun p k => by
      rw [e0, (p.map keyOf).mem_iff]
      simp
    rw [if_neg (by rw [c1]; decide)]
    by_cases c2 : (t1.mask == to.mask && to.dummies.isEmpty) = true
    · rw [if_pos c2]
      dsimp only
      rw [Bool.and_eq_true, beq_iff_eq] at c2
      refine wpAny_storeSet_of ho1 hd1 ?_ hz
      refine q _ eo (ep1 + 1) { to with finger := t1.finger, led := t1.led && to.led, moves := t1.moves, plain := t1.plain && to.plain } (sb1.trans (Heap.SameBut.update ..)) (U1.perm ⟨_, store_at ho1 hd1, ⟨hx1.1, hx1.2.1, hx1.2.2⟩, rfl⟩ (List.Perm.refl _) U.fits U.ris ld1) (keys (List.Perm.refl _)) (by omega) fun _ => ?_
      show to.mask ∈ M5
      rw [← c2.1]
      exact m1
    · rw [if_neg c2]
      dsimp only
      obtain ⟨t', od, e, pm, ft, rs, ld, mk, dm⟩ := laid_some (fg := t1.finger) (mv := t1.moves) (led := t1.led && to.led) (pl := t1.plain && to.plain) m1 U.hash (by rw [Array.size_map]; exact l1)
      rw [Array.size_map] at pm ft
      have p2 := order_perm pm
      have s2 : (od.filterMap (eo[·]?)).size = eo.size := by rw [← Array.length_toList, p2.length_eq, Array.length_toList]
      refine wpAny_bind ?_
      rw [e]
      show wpAny _ _ (if ((od.filterMap (eo[·]?)).size != eo.size) = true then _ else _) _ _ _
      refine wp_if_neg (by rw [s2]; simp) ?_
      refine wpAny_pure ?_
      dsimp only
      refine wpAny_storeSet_of ho1 hd1 ?_ (by rw [s2]; exact hz)
      refine q _ _ (ep1 + 1) t' (sb1.trans (Heap.SameBut.update ..)) (U1.perm ⟨_, store_at ho1 hd1, ⟨hx1.1, hx1.2.1, hx1.2.2⟩, rfl⟩ p2 (by rw [s2]; exact ft) rs (by rw [ld]; exact ld1)) (keys p2) (by rw [s2]; omega) fun _ => ?_
      rw [mk]
      exact m1
  · rw [if_pos (by simpa using c1)]
    dsimp only
    refine wpAny_bind (walk_tb [a] (fun b hb => ⟨_, _, _, List.mem_singleton.mp hb ▸ T1⟩) T1 U1 fun h2 out ep2 t2 sb2 T2 m2 f2 p2 => ?_)
    have U2 : Tb w h2 o0 eo eq to := U1.at fun x hx => (sb2.2 _ ne).trans hx
    have g2 : ∀ e ∈ out.toList, GoodE e := fun e he => U.good e (p2.mem_iff.mp he)
    have hu2 : h2.get? o0 = s.heap.get? o0 := (sb2.2 _ ne).trans (sb1.2 _ ne)
    have n1 : es1.size = es.size := by rw [← Array.length_toList, p1.length_eq, Array.length_toList]
    have n2 : out.toList.length = eo.size := by rw [p2.length_eq, Array.length_toList]
    have R2 := T2.setR (S := fun k => decide (k ∈ es1.toList.map keyOf)) (fun k => decide_eq_true_iff)
    refine wpAny_bind ?_
    rw [← Array.forIn_toList]
    refine wpAny_forIn_list _ (fun rest _ s' => ∃ (h' : Heap) (S' : Int → Bool) (n : Nat), s' = { s with heap := h' } ∧ Heap.SameBut a h2 h' ∧ SetR w h' a S' n ∧ n + rest.length ≤ es.size + eo.size ∧ (∀ e ∈ rest, GoodE e) ∧ ∀ k, (S' k = true ∨ k ∈ rest.map keyOf) ↔ (k ∈ es.toList.map keyOf ∨ k ∈ eo.toList.map keyOf)) _ ?_ ?_ _ _ ⟨h2, _, _, rfl, Heap.SameBut.refl _ _, R2, by omega, g2, fun k => by rw [decide_eq_true_iff, (p1.map keyOf).mem_iff, (p2.map keyOf).mem_iff]⟩
    · rintro e rest b s' ⟨h', S', n, rfl, sb', R', nl, gr, mk⟩
      obtain ⟨k, tk, e1, e2⟩ := gr e List.mem_cons_self
      rw [List.length_cons] at nl
      obtain ⟨eh, ev⟩ := e
      simp only at e1 e2
      subst e1 e2
      refine wpAny_bind (wpAny_holding (setR_add_hashed (P := P) R' (by unfold scanBound; omega) fun h'' sb'' R'' => ?_))
      have hu3 : h''.get? o0 = s.heap.get? o0 := (sb''.2 _ ne).trans ((sb'.2 _ ne).trans hu2)
      refine wpAny_bind (he _ _ hu3 ?_)
      refine wpAny_bind (wpAny_setState_of (hu3.trans hu) ud U.fits ?_)
      dsimp only
      refine wp_if_neg (by simp) (wpAny_pure ?_)
      refine ⟨h'', _, _, rfl, sb'.trans sb'', R'', ?_, fun x hx => gr x (List.mem_cons_of_mem _ hx), fun j => ?_⟩
      · split <;> omega
      · rw [← mk j, List.map_cons, List.mem_cons, Bool.or_eq_true, decide_eq_true_eq]
        show _ ↔ (_ ∨ (j = k ∨ _))
        rw [or_assoc]
    · rintro b s' ⟨h', S', n, rfl, sb', R', nl, _, mk⟩
      have mk' : ∀ k, S' k = true ↔ (k ∈ es.toList.map keyOf ∨ k ∈ eo.toList.map keyOf) := fun k => by rw [← mk k]; simp
      obtain ⟨es3, ep3, t3, T3, k3, z3⟩ := tb_of R' (by omega) fun k hk => by
        rcases (mk' k).mp hk with z | z
        · obtain ⟨e, he1, rfl⟩ := List.mem_map.mp z
          exact T.sm e he1
        · obtain ⟨e, he1, rfl⟩ := List.mem_map.mp z
          exact U.sm e he1
      exact wpAny_pure (q h' es3 ep3 t3 (sb1.trans (sb2.trans sb')) T3 (fun k => (k3 k).symm.trans (mk' k)) (by omega) fun z => absurd (f1 z) c1)
end
end Sh
/-! |, - and ^ of two sets of small ints -/
namespace Sh
open PySem PySem.Spec PyProof.Rows L2
theorem ent_or : entryFor table "set.__or__" = some Builtin.«frozenset.__or__» := entryFor_alias (id' := "frozenset.__or__") (by kernel_rfl) rfl (by decide +kernel) (by kernel_rfl)
theorem ent_sub : entryFor table "set.__sub__" = some Builtin.«frozenset.__sub__» := entryFor_alias (id' := "frozenset.__sub__") (by kernel_rfl) rfl (by decide +kernel) (by kernel_rfl)
theorem ent_xor : entryFor table "set.__xor__" = some Builtin.«frozenset.__xor__» := entryFor_alias (id' := "frozenset.__xor__") (by kernel_rfl) rfl (by decide +kernel) (by kernel_rfl)
section
variable {P : Program} {w : World} {A : Around} {E : Value → Shared → Prop} {s : Shared} {a : Addr} {es : Array (Int × Value)} {ep : Nat} {t : SetTable}
theorem Tb.ty (T : Tb w s.heap a es ep t) : s.TypeIs (.ref a) "set" := let ⟨o, ho, hx, _⟩ := T.ob; ⟨o, ho, hx.1⟩
theorem any_tb (T : Tb w s.heap a es ep t) {Q : Bool → Shared → Prop} (q : Q true s) : wpAny (model P w) A (Builtin.Frozenset.isAnySet (.ref a)) Q E s := by
  unfold Builtin.Frozenset.isAnySet
  refine wpAny_bind (wpAny_isInstance (b := true) T.ty sub_set_self ?_)
  exact wpAny_pure q
theorem base_tb (T : Tb w s.heap a es ep t) {Q : Value → Shared → Prop} (q : Q (.type "set") s) : wpAny (model P w) A (Builtin.Frozenset.baseOf a) Q E s := by
  unfold Builtin.Frozenset.baseOf
  refine wpAny_bind (wpAny_isInstance (b := true) T.ty sub_set_self ?_)
  exact wpAny_pure q
/-- a new one, bare -/
theorem new_tb {Q : Value → Shared → Prop}
    (q : ∀ h', h'.objs.size = s.heap.objs.size + 1 → (∀ b o, s.heap.get? b = some o → h'.get? b = some o) → Tb w h' s.heap.objs.size #[] 0 (.fresh 0 0 (!w.params.followText "set-order")) → Q (.ref s.heap.objs.size) { s with heap := h' }) :
    wpAny (model P w) A (newSet (.type "set")) Q E s := by
  unfold newSet setsByText
  refine wpAny_bind (wpAny_bind (wpAny_askSetting (wpAny_pure ?_)))
  dsimp only
  simp only [newObj]
  refine wpAny_bind (wpAny_alloc (wpAny_pure ?_))
  refine q _ (size_push' _ _) (fun b o e => Heap.get?_push_of_some _ e) ⟨⟨_, Heap.get?_push_size _ rfl, ⟨rfl, rfl, rfl⟩, rfl⟩, fun e he => by simp at he, fun e he => by simp at he, by simp, by decide, by rfl, List.Pairwise.nil, ?_⟩
  show _ ∨ (!w.params.followText "set-order") = true
  cases w.params.followText "set-order"
  · exact .inr rfl
  · exact .inl rfl
/-- a copy -/
theorem copy_tb (T : Tb w s.heap a es ep t) {Q : Value → Shared → Prop}
    (q : ∀ h' es' ep' t', h'.objs.size = s.heap.objs.size + 1 → (∀ b o, s.heap.get? b = some o → h'.get? b = some o) → Tb w h' s.heap.objs.size es' ep' t' → (∀ k, k ∈ es'.toList.map keyOf ↔ k ∈ es.toList.map keyOf) → es'.size ≤ es.size → t'.mask ∈ M5 → Q (.ref s.heap.objs.size) { s with heap := h' }) :
    wpAny (model P w) A (Builtin.Frozenset.copyOf a) Q E s := by
  unfold Builtin.Frozenset.copyOf
  refine wpAny_bind (base_tb T ?_)
  refine wpAny_bind (new_tb fun h1 z1 k1 T1 => ?_)
  obtain ⟨o, ho, _⟩ := T.ob
  have ne : a ≠ s.heap.objs.size := Nat.ne_of_lt (Heap.lt_size ho)
  refine wpAny_bind (wpAny_pure ?_)
  refine wpAny_bind (merge_tb (pure ()) T1 (T.at (k1 a)) ne (by simp [SetTable.fresh]) (by have := T.few; simpa using this) (fun s' Q' _ q => wpAny_pure q) fun h2 es2 ep2 t2 sb2 T2 m2 l2 f2 => ?_)
  refine wpAny_pure (q h2 es2 ep2 t2 (by rw [sb2.1]; exact z1) (fun b o e => (sb2.2 b (Nat.ne_of_lt (Heap.lt_size e))).trans (k1 b o e)) T2 (fun k => by rw [m2]; simp) (by simpa using l2) (f2 rfl))
/-- what one more set is merged into -/
theorem upd_tb {id : String} {o0 : Addr} {eo : Array (Int × Value)} {eq : Nat} {to : SetTable} (T : Tb w s.heap a es ep t) (U : Tb w s.heap o0 eo eq to) (ne : o0 ≠ a) (hm : t.mask ∈ M5) (l : es.size + eo.size ≤ 48) {Q : Unit → Shared → Prop}
    (q : ∀ h' es' ep' t', Heap.SameBut a s.heap h' → Tb w h' a es' ep' t' → (∀ k, k ∈ es'.toList.map keyOf ↔ k ∈ es.toList.map keyOf ∨ k ∈ eo.toList.map keyOf) → es'.size ≤ es.size + eo.size → (t.fill = 0 → t'.mask ∈ M5) → Q () { s with heap := h' }) :
    wpAny (model P w) A (Builtin.Frozenset.updateFrom id a (.ref o0)) Q E s := by
  unfold Builtin.Frozenset.updateFrom
  refine wpAny_bind (any_tb U ?_)
  refine wp_if_pos rfl ?_
  refine wpAny_bind (wpAny_pure ?_)
  unfold Builtin.Frozenset.merge
  obtain ⟨u, hu, ux, ud⟩ := U.ob
  refine wpAny_bind (wpAny_setEpoch_of hu ud U.fits ?_)
  refine merge_tb _ T U ne hm l (fun s' Q' e q' => ?_) q
  unfold Builtin.Frozenset.unchanged
  refine wpAny_bind (wpAny_setEpoch_of (e.trans hu) ud U.fits ?_)
  exact wp_if_neg (by simp) (wpAny_pure q')
theorem add_tb {n : Nat} {S : Int → Bool} {k : Int} {tk : Tok} (R : SetR w s.heap a S n) (room : n + 1 < scanBound) {Q : Bool → Shared → Prop}
    (hQ : ∀ h', Heap.SameBut a s.heap h' → SetR w h' a (fun j => S j || decide (j = k)) (if S k = true then n else n + 1) → Q (!S k) { s with heap := h' }) : wpAny (model P w) A (setAddHashed a (.int k tk) (hashInt k)) Q E s := setR_add_hashed (P := P) R room hQ
theorem find_idx (T : Tb w s.heap a es ep t) (k : Int) (tk : Tok) {Q : Option Nat → Shared → Prop} (q : Q (es.toList.findIdx? fun e => (intKind P w).is k e.2) s) : wpAny (model P w) A (setFind a (.int k tk) (hashInt k)) Q E s := by
  obtain ⟨o, ho, hx, hd⟩ := T.ob
  have hkey : (intKind P w).is k (.int k tk) = true := intKind_is P w k tk
  have hel : ElemsOf (intKind P w) es.toList := good_elems T.good
  unfold setFind setFindIn
  refine wpAny_bind (wpAny_setState_of ho hd T.fits ?_)
  dsimp only
  rw [byScan_of (show (Value.int k tk).scannable = true from rfl) T.sb hel]
  simp only [↓reduceIte]
  refine wpAny_bind (wpAny_rule ?_)
  refine wpAny_bind (wpAny_setScan_of (knd := intKind P w) hkey ho hd T.fits hel ?_)
  cases hr : List.findIdx? (fun e => (intKind P w).is k e.2) es.toList with
  | none =>
    rw [hr] at q
    exact wpAny_pure q
  | some j =>
    rw [hr] at q
    dsimp only
    exact wpAny_pure (by simpa using q)
theorem is_iff {e : Int × Value} (g : GoodE e) (k : Int) : (intKind P w).is k e.2 = true ↔ keyOf e = k := good_is g k
theorem erase_list {α : Type} (xs : Array α) (p : Nat) : (SetTable.eraseAt xs p).toList = xs.toList.eraseIdx p := by
  unfold SetTable.eraseAt
  rw [Array.toList_append, List.eraseIdx_eq_take_drop_succ]
  rw [Array.toList_extract, Array.toList_extract, List.extract_eq_take_drop, List.extract_eq_take_drop, List.drop_zero, Nat.sub_zero, List.take_of_length_le (l := xs.toList.drop (p + 1)) (by rw [List.length_drop, Array.length_toList]; exact Nat.le_refl _)]
theorem insert_size {α : Type} (xs : Array α) (p : Nat) (x : α) : (SetTable.insertAt xs p x).size = xs.size + 1 := by
  unfold SetTable.insertAt
  simp
  omega
/-- one taken out -/
theorem out_tb (T : Tb w s.heap a es ep t) (k : Int) (tk : Tok) {Q : Bool → Shared → Prop}
    (q : ∀ h' es' ep' t', Heap.SameBut a s.heap h' → Tb w h' a es' ep' t' → (∀ j, j ∈ es'.toList.map keyOf ↔ j ∈ es.toList.map keyOf ∧ j ≠ k) → es'.size ≤ es.size → Q (decide (k ∈ es.toList.map keyOf)) { s with heap := h' }) : wpAny (model P w) A (setDiscardHashed a (.int k tk) (hashInt k)) Q E s := by
  obtain ⟨o, ho, hx, hd⟩ := T.ob
  unfold setDiscardHashed
  refine wpAny_bind (find_idx T k tk ?_)
  cases hr : List.findIdx? (fun e => (intKind P w).is k e.2) es.toList with
  | none =>
    have no : k ∉ es.toList.map keyOf := fun z => by
      obtain ⟨e, he, rfl⟩ := List.mem_map.mp z
      have c := List.findIdx?_eq_none_iff.mp hr e he
      rw [(is_iff (T.good e he) _).mpr rfl] at c
      cases c
    have := q s.heap es ep t (Heap.SameBut.refl _ _) T (fun j => ⟨fun z => ⟨z, fun y => no (y ▸ z)⟩, fun z => z.1⟩) (Nat.le_refl _)
    rw [decide_eq_false no] at this
    exact wpAny_pure this
  | some i =>
    obtain ⟨hi, pi, _⟩ := List.findIdx?_eq_some_iff_getElem.mp hr
    have kk := (is_iff (T.good _ (List.getElem_mem hi)) k).mp pi
    have yes : k ∈ es.toList.map keyOf := List.mem_map.mpr ⟨_, List.getElem_mem hi, kk⟩
    dsimp only
    refine wpAny_bind (wpAny_setState_of ho hd T.fits ?_)
    dsimp only
    have le := erase_list es i
    have sz : (SetTable.eraseAt es i).size + 1 = es.size := by
      have := congrArg List.length le
      rw [Array.length_toList, List.length_eraseIdx, if_pos hi] at this
      rw [Array.length_toList] at this hi
      omega
    refine wpAny_bind (wpAny_storeSet_of ho hd ?_ (by rw [sizeLine_eq]; have := T.few; omega))
    refine wpAny_bind (wpAny_point ?_)
    have f := T.fits
    unfold SetTable.fits SetTable.fill at f
    rw [Bool.and_eq_true, beq_iff_eq, decide_eq_true_eq] at f
    have hp : i < t.place.size := by rw [Array.length_toList] at hi; omega
    have dp : t.drop i = { t with place := SetTable.eraseAt t.place i, dummies := SetTable.insertAt t.dummies (SetTable.below t.dummies t.place[i]) t.place[i] } := by
      unfold SetTable.drop
      rw [Array.getElem?_eq_getElem hp]
    have sp : (SetTable.eraseAt t.place i).size + 1 = t.place.size := by
      have := congrArg List.length (erase_list t.place i)
      rw [Array.length_toList, List.length_eraseIdx, if_pos (by rw [Array.length_toList]; exact hp), Array.length_toList] at this
      omega
    have mem : ∀ j, j ∈ (SetTable.eraseAt es i).toList.map keyOf ↔ j ∈ es.toList.map keyOf ∧ j ≠ k := fun j => by
      rw [le]
      have p := (erase_perm es.toList i _ (List.getElem?_eq_getElem hi)).map keyOf
      have nd := p.nodup_iff.mpr T.nd
      rw [List.map_cons, kk] at p nd
      rw [← p.mem_iff, List.mem_cons]
      have nm := (List.nodup_cons.mp nd).1
      exact ⟨fun z => ⟨.inr z, fun y => nm (y ▸ z)⟩, fun z => z.1.resolve_left z.2⟩
    have fin := q _ (SetTable.eraseAt es i) (ep + 1) (t.drop i) (Heap.SameBut.update _ a (Obj.putSet (SetTable.eraseAt es i) (t.drop i))) ⟨⟨_, store_at ho hd, ⟨hx.1, hx.2.1, hx.2.2⟩, rfl⟩, fun e he => T.good e (List.mem_of_mem_eraseIdx (le ▸ he)), fun e he => T.sm e (List.mem_of_mem_eraseIdx (le ▸ he)), by rw [le]; exact T.nd.sublist ((List.eraseIdx_sublist _ _).map _), by have := T.few; omega, ?_, ?_, ?_⟩ mem (by omega)
    · rw [decide_eq_true yes] at fin
      exact wpAny_pure fin
    · rw [dp]
      unfold SetTable.fits SetTable.fill
      dsimp only
      rw [insert_size, Bool.and_eq_true, beq_iff_eq, decide_eq_true_eq]
      omega
    · rw [dp]
      show Ris (SetTable.eraseAt t.place i).toList
      rw [erase_list]
      exact T.ris.sublist (List.eraseIdx_sublist _ _)
    · rw [dp]
      exact T.led
end
end Sh
namespace Sh
open PySem PySem.Spec PyProof.Rows L2
section
variable {P : Program} {w : World} {A : Around} {E : Value → Shared → Prop} {s : Shared} {a : Addr} {es : Array (Int × Value)} {ep : Nat} {t : SetTable}
/-- a new set: what stood stands -/
def NewS (w : World) (s : Shared) (S : Int → Bool) (n : Nat) (h' : Heap) : Prop := (∀ b o, s.heap.get? b = some o → h'.get? b = some o) ∧ SetR w h' s.heap.objs.size S n
theorem union_tb {b : Addr} {eb : Array (Int × Value)} {eq : Nat} {tb : SetTable} (T : Tb w s.heap a es ep t) (U : Tb w s.heap b eb eq tb) (ne : a ≠ b) (l : es.size + eb.size ≤ 48) {Q : Value → Shared → Prop}
    (q : ∀ h' n, n ≤ 48 → NewS w s (fun k => decide (k ∈ es.toList.map keyOf) || decide (k ∈ eb.toList.map keyOf)) n h' → Q (.ref s.heap.objs.size) { s with heap := h' }) :
    wpAny (model P w) A (call (.builtin "set.__or__") [.ref a, .ref b]) Q E s := by
  refine wpAny_call_entry F.slot_set_or T.ty ent_or ?_ (F.args_set_or_2 _ _)
  unfold Builtin.«frozenset.__or__»
  refine wpAny_bind (wpAny_pure ?_)
  dsimp only
  refine wpAny_bind ?_
  refine wpAny_bind (any_tb T ?_)
  refine any_tb U ?_
  refine wp_if_neg (by decide) ?_
  refine wpAny_bind (wpAny_pure ?_)
  refine wpAny_bind ?_
  refine wpAny_bind (copy_tb T fun h1 es1 ep1 t1 z1 k1 T1 m1 l1 mm1 => ?_)
  obtain ⟨o, ho, _⟩ := U.ob
  have nb : b ≠ s.heap.objs.size := Nat.ne_of_lt (Heap.lt_size ho)
  refine wp_if_pos (by simpa using Ne.symm ne) ?_
  refine wpAny_bind (wpAny_pure ?_)
  refine wpAny_bind (wpAny_holding ?_)
  refine upd_tb T1 (U.at (k1 b)) nb mm1 (by omega) fun h2 es2 ep2 t2 sb2 T2 m2 l2 _ => ?_
  refine wpAny_pure (wpAny_pure ⟨_, rfl, q h2 es2.size (by omega) ⟨fun c o e => (sb2.2 c (Nat.ne_of_lt (Heap.lt_size e))).trans (k1 c o e), T2.setR fun k => ?_⟩⟩)
  rw [Bool.or_eq_true, decide_eq_true_eq, decide_eq_true_eq, m2, m1]
/-- flipped, one by one -/
theorem xor_tb {b : Addr} {eb : Array (Int × Value)} {eq : Nat} {tb : SetTable} (T : Tb w s.heap a es ep t) (U : Tb w s.heap b eb eq tb) (ne : a ≠ b) (l : es.size + eb.size ≤ 48) {Q : Value → Shared → Prop}
    (q : ∀ h' n, n ≤ 48 → NewS w s (fun k => decide (k ∈ es.toList.map keyOf) != decide (k ∈ eb.toList.map keyOf)) n h' → Q (.ref s.heap.objs.size) { s with heap := h' }) :
    wpAny (model P w) A (call (.builtin "set.__xor__") [.ref a, .ref b]) Q E s := by
  refine wpAny_call_entry F.slot_set_xor T.ty ent_xor ?_ (F.args_set_xor_2 _ _)
  unfold Builtin.«frozenset.__xor__»
  refine wpAny_bind (wpAny_pure ?_)
  dsimp only
  refine wpAny_bind ?_
  refine wpAny_bind (any_tb T ?_)
  refine any_tb U ?_
  refine wp_if_neg (by decide) ?_
  refine wpAny_bind (wpAny_pure ?_)
  refine wpAny_bind ?_
  refine wpAny_bind (base_tb T ?_)
  refine wpAny_bind ?_
  unfold Builtin.Frozenset.newFrom
  obtain ⟨o, ho, _⟩ := U.ob
  have nb : b ≠ s.heap.objs.size := Nat.ne_of_lt (Heap.lt_size ho)
  obtain ⟨oa, hoa, _⟩ := T.ob
  have na : a ≠ s.heap.objs.size := Nat.ne_of_lt (Heap.lt_size hoa)
  refine wpAny_bind (new_tb fun h0 z0 k0 T0 => ?_)
  refine wpAny_bind (wpAny_pure ?_)
  refine wpAny_bind (wpAny_holding ?_)
  refine upd_tb T0 (U.at (k0 b)) nb (by simp [SetTable.fresh]) (by have := U.few; simpa using this) fun h1 es1 ep1 t1 sb1 T1 m1 l1 _ => ?_
  have l1 : es1.size ≤ eb.size := by simpa using l1
  have k1 : ∀ c o, s.heap.get? c = some o → h1.get? c = some o := fun c o e => (sb1.2 c (Nat.ne_of_lt (Heap.lt_size e))).trans (k0 c o e)
  refine wpAny_pure ?_
  refine wpAny_bind (wpAny_pure ?_)
  refine wpAny_bind (wpAny_holding ?_)
  unfold Builtin.Frozenset.symmetricDifferenceUpdate
  refine wp_if_neg (by simpa using na) ?_
  have T' := T.at (k1 a)
  refine wpAny_bind (wpAny_typeOf T'.ty ?_)
  refine wp_if_neg (by decide) ?_
  refine wpAny_bind (any_tb T' ?_)
  refine wp_if_pos rfl ?_
  refine wpAny_bind (wpAny_pure ?_)
  show wpAny _ _ (Builtin.Frozenset.addrOf (.ref a) >>= _) _ _ _
  refine wpAny_bind (wpAny_pure ?_)
  obtain ⟨oa', hoa', xa', da'⟩ := T'.ob
  refine wpAny_bind (wpAny_setEpoch_of hoa' da' T'.fits ?_)
  refine wpAny_holding ?_
  refine wpAny_bind (walk_tb [s.heap.objs.size] (fun c hc => ⟨_, _, _, List.mem_singleton.mp hc ▸ T1⟩) T1 T' fun h2 out ep2 t2 sb2 T2 _ _ p2 => ?_)
  have nd2 : (out.toList.map keyOf).Nodup := (p2.map keyOf).nodup_iff.mpr T.nd
  refine wpAny_bind ?_
  rw [← Array.forIn_toList]
  refine wpAny_forIn_list _ (fun rest _ s' => ∃ (h' : Heap) (es' : Array (Int × Value)) (ep' : Nat) (t' : SetTable), s' = { s with heap := h' } ∧ Heap.SameBut s.heap.objs.size h1 h' ∧ Tb w h' s.heap.objs.size es' ep' t' ∧ es'.size + rest.length ≤ 48 ∧ (∀ e ∈ rest, e ∈ es.toList) ∧ (rest.map keyOf).Nodup ∧
      ∀ j, j ∈ es'.toList.map keyOf ↔ (if j ∈ es.toList.map keyOf ∧ j ∉ rest.map keyOf then j ∉ eb.toList.map keyOf else j ∈ eb.toList.map keyOf)) _ ?_ ?_ _ _ ⟨h2, es1, ep2, t2, rfl, sb2, T2, ?_, fun e he => p2.mem_iff.mp he, nd2, fun j => ?_⟩
  · rintro e rest b' s' ⟨h', es', ep', t', rfl, sb', T3, nl, gr, nr, mk⟩
    have ge := gr e List.mem_cons_self
    obtain ⟨k, tk, e1, e2⟩ := T.good e ge
    have ks := T.sm e ge
    have ek : keyOf e = k := by unfold keyOf; rw [e1]
    have kin : k ∈ es.toList.map keyOf := ek ▸ List.mem_map_of_mem ge
    rw [List.length_cons] at nl
    rw [List.map_cons, List.nodup_cons, ek] at nr
    rw [ek] at ks
    rw [List.map_cons, ek] at mk
    obtain ⟨eh, ev⟩ := e
    simp only at e1 e2
    subst e1 e2
    have kb : k ∈ es'.toList.map keyOf ↔ k ∈ eb.toList.map keyOf := by
      rw [mk k, if_neg (fun z => z.2 List.mem_cons_self)]
    have next : ∀ h'', Heap.SameBut s.heap.objs.size h1 h'' → ∀ (es'' : Array (Int × Value)) ep'' t'', Tb w h'' s.heap.objs.size es'' ep'' t'' → es''.size ≤ es'.size + 1 → (∀ j, j ∈ es''.toList.map keyOf ↔ (j = k ∧ k ∉ eb.toList.map keyOf) ∨ (j ≠ k ∧ j ∈ es'.toList.map keyOf)) →
        ∃ (h' : Heap) (es' : Array (Int × Value)) (ep' : Nat) (t' : SetTable), ({ s with heap := h'' } : Shared) = { s with heap := h' } ∧ Heap.SameBut s.heap.objs.size h1 h' ∧ Tb w h' s.heap.objs.size es' ep' t' ∧ es'.size + rest.length ≤ 48 ∧ (∀ e ∈ rest, e ∈ es.toList) ∧ (rest.map keyOf).Nodup ∧
      ∀ j, j ∈ es'.toList.map keyOf ↔ (if j ∈ es.toList.map keyOf ∧ j ∉ rest.map keyOf then j ∉ eb.toList.map keyOf else j ∈ eb.toList.map keyOf) := fun h'' sb'' es'' ep'' t'' T4 l4 m4 => by
      refine ⟨h'', es'', ep'', t'', rfl, sb'', T4, by omega, fun x hx => gr x (List.mem_cons_of_mem _ hx), nr.2, fun j => ?_⟩
      rw [m4 j]
      by_cases c : j = k
      · subst c
        rw [if_pos ⟨kin, nr.1⟩]
        exact ⟨fun z => z.elim (fun y => y.2) fun y => absurd rfl y.1, fun z => .inl ⟨rfl, z⟩⟩
      · rw [mk j]
        have : (j ∈ es.toList.map keyOf ∧ j ∉ k :: rest.map keyOf) ↔ (j ∈ es.toList.map keyOf ∧ j ∉ rest.map keyOf) := by
          rw [List.mem_cons, not_or]
          exact ⟨fun z => ⟨z.1, z.2.2⟩, fun z => ⟨z.1, c, z.2⟩⟩
        simp only [this]
        exact ⟨fun z => z.elim (fun y => absurd y.1 c) fun y => y.2, fun z => .inr ⟨c, z⟩⟩
    have tail : ∀ h'', Heap.SameBut s.heap.objs.size h1 h'' → ∀ {Q' : ForInStep PUnit → Shared → Prop}, Q' (.yield ⟨⟩) { s with heap := h'' } → wpAny (model P w) A.in1 (do Builtin.Frozenset.unchanged (toString "frozenset." ++ toString "__xor__") a ep; pure (ForInStep.yield PUnit.unit)) Q' E { s with heap := h'' } := fun h'' sb'' Q' q' => by
      unfold Builtin.Frozenset.unchanged
      refine wpAny_bind (wpAny_bind (wpAny_setEpoch_of ((sb''.2 a na).trans hoa') da' T'.fits ?_))
      exact wp_if_neg (by simp) (wpAny_pure (wpAny_pure q'))
    refine wpAny_bind (wpAny_holding ?_)
    refine wpAny_bind (out_tb T3 k tk fun h3 es3 ep3 t3 sb3 T4 m4 l4 => ?_)
    by_cases c : k ∈ es'.toList.map keyOf
    · rw [decide_eq_true c]
      refine wp_if_neg (by decide) (wpAny_pure ?_)
      refine tail h3 (sb'.trans sb3) ?_
      refine next h3 (sb'.trans sb3) es3 ep3 t3 T4 (by omega) fun j => ?_
      rw [m4 j]
      exact ⟨fun z => .inr ⟨z.2, z.1⟩, fun z => z.elim (fun y => absurd (kb.mp c) y.2) fun y => ⟨y.2, y.1⟩⟩
    · rw [decide_eq_false c]
      refine wp_if_pos rfl ?_
      have R4 := T4.setR (S := fun j => decide (j ∈ es3.toList.map keyOf)) (fun j => decide_eq_true_iff)
      refine wpAny_bind (add_tb (k := k) (tk := tk) R4 (by unfold scanBound; omega) fun h4 sb4 R5 => wpAny_pure ?_)
      have sb5 := (sb'.trans sb3).trans sb4
      refine tail h4 sb5 ?_
      have nk : ¬ decide (k ∈ es3.toList.map keyOf) = true := by
        rw [decide_eq_true_eq, m4 k]
        exact fun z => z.2 rfl
      rw [if_neg nk] at R5
      obtain ⟨es5, ep5, t5, T5, k5, z5⟩ := tb_of R5 (by omega) fun j hj => by
        rw [Bool.or_eq_true, decide_eq_true_eq, decide_eq_true_eq] at hj
        rcases hj with hj | rfl
        · obtain ⟨x, hx, rfl⟩ := List.mem_map.mp hj
          exact T4.sm x hx
        · exact ks
      refine next h4 sb5 es5 ep5 t5 T5 (by omega) fun j => ?_
      rw [← k5 j, Bool.or_eq_true, decide_eq_true_eq, decide_eq_true_eq, m4 j]
      constructor
      · rintro (z | rfl)
        · exact .inr ⟨z.2, z.1⟩
        · exact .inl ⟨rfl, fun z => c (kb.mpr z)⟩
      · rintro (⟨rfl, _⟩ | z)
        · exact .inr rfl
        · exact .inl ⟨z.2, z.1⟩
  · rintro b' s' ⟨h', es', ep', t', rfl, sb', T3, nl, _, _, mk⟩
    refine wpAny_pure (wpAny_pure (wpAny_pure ⟨_, rfl, q h' es'.size (by omega) ⟨fun c o e => (sb'.2 c (Nat.ne_of_lt (Heap.lt_size e))).trans (k1 c o e), T3.setR fun k => ?_⟩⟩))
    rw [mk k]
    by_cases c1 : k ∈ es.toList.map keyOf <;> by_cases c2 : k ∈ eb.toList.map keyOf <;> simp [c1, c2]
  · rw [p2.length_eq, Array.length_toList]
    omega
  · rw [m1 j, if_neg (fun z => z.2 ((p2.map keyOf).mem_iff.mpr z.1))]
    simp
end
end Sh
namespace Sh
open PySem PySem.Spec PyProof.Rows L2
section
variable {P : Program} {w : World} {A : Around} {E : Value → Shared → Prop} {s : Shared} {a : Addr} {es : Array (Int × Value)} {ep : Nat} {t : SetTable}
theorem size_tb (T : Tb w s.heap a es ep t) {Q : Nat → Shared → Prop} (q : Q es.size s) : wpAny (model P w) A (Builtin.Frozenset.sizeOf a) Q E s := by
  obtain ⟨o, ho, hx, hd⟩ := T.ob
  unfold Builtin.Frozenset.sizeOf
  exact wpAny_bind (wpAny_setEntries_of ho hd T.fits (wpAny_pure q))
/-- taken out, one by one -/
theorem less_tb {id : String} {b : Addr} {eb : Array (Int × Value)} {eq : Nat} {tb : SetTable} (T : Tb w s.heap a es ep t) (U : Tb w s.heap b eb eq tb) (ne : b ≠ a) (l : es.size ≤ 24) (l2 : eb.size / 8 ≤ es.size) {Q : Unit → Shared → Prop}
    (q : ∀ h' es' ep' t', Heap.SameBut a s.heap h' → Tb w h' a es' ep' t' → (∀ k, k ∈ es'.toList.map keyOf ↔ k ∈ es.toList.map keyOf ∧ k ∉ eb.toList.map keyOf) → es'.size ≤ es.size → Q () { s with heap := h' }) : wpAny (model P w) A (Builtin.Frozenset.differenceUpdate id a (.ref b)) Q E s := by
  obtain ⟨u, hu, ux, ud⟩ := U.ob
  unfold Builtin.Frozenset.differenceUpdate
  refine wp_if_neg (by simpa using ne) ?_
  refine wpAny_bind (any_tb U ?_)
  refine wp_if_pos rfl ?_
  refine wpAny_bind (wpAny_pure ?_)
  refine wpAny_bind (size_tb U ?_)
  refine wpAny_bind (size_tb T ?_)
  refine wp_if_neg (by omega) ?_
  refine wpAny_bind (wpAny_setEpoch_of hu ud U.fits ?_)
  refine wpAny_bind (wpAny_holding ?_)
  refine wpAny_bind (walk_none [a] (fun c hc => ⟨_, _, _, List.mem_singleton.mp hc ▸ T⟩) U fun out p2 => ?_)
  refine wpAny_bind ?_
  rw [← Array.forIn_toList]
  refine wpAny_forIn_list _ (fun rest _ s' => ∃ (h' : Heap) (es' : Array (Int × Value)) (ep' : Nat) (t' : SetTable), s' = { s with heap := h' } ∧ Heap.SameBut a s.heap h' ∧ Tb w h' a es' ep' t' ∧ es'.size ≤ es.size ∧ (∀ e ∈ rest, e ∈ eb.toList) ∧
      ∀ j, (j ∈ es'.toList.map keyOf ∧ j ∉ rest.map keyOf) ↔ (j ∈ es.toList.map keyOf ∧ j ∉ eb.toList.map keyOf)) _ ?_ ?_ _ _ ⟨s.heap, es, ep, t, rfl, Heap.SameBut.refl _ _, T, Nat.le_refl _, fun e he => p2.mem_iff.mp he, fun j => by rw [(p2.map keyOf).mem_iff]⟩
  · rintro e rest b' s' ⟨h', es', ep', t', rfl, sb', T3, nl, gr, mk⟩
    have ge := gr e List.mem_cons_self
    obtain ⟨k, tk, e1, e2⟩ := U.good e ge
    have ek : keyOf e = k := by unfold keyOf; rw [e1]
    rw [List.map_cons, ek] at mk
    obtain ⟨eh, ev⟩ := e
    simp only at e1 e2
    subst e1 e2
    refine wpAny_bind (wpAny_holding (out_tb T3 k tk fun h3 es3 ep3 t3 sb3 T4 m4 l4 => ?_))
    have sb5 := sb'.trans sb3
    unfold Builtin.Frozenset.unchanged
    refine wpAny_bind (wpAny_bind (wpAny_setEpoch_of ((sb5.2 b ne).trans hu) ud U.fits ?_))
    refine wp_if_neg (by simp) (wpAny_pure (wpAny_pure ?_))
    refine ⟨h3, es3, ep3, t3, rfl, sb5, T4, by omega, fun x hx => gr x (List.mem_cons_of_mem _ hx), fun j => ?_⟩
    rw [← mk j, m4 j, List.mem_cons, not_or]
    exact ⟨fun z => ⟨z.1.1, z.1.2, z.2⟩, fun z => ⟨⟨z.1, z.2.1⟩, z.2.2⟩⟩
  · rintro b' s' ⟨h', es', ep', t', rfl, sb', T3, nl, _, mk⟩
    refine wpAny_pure ?_
    have mk' : ∀ j, j ∈ es'.toList.map keyOf ↔ (j ∈ es.toList.map keyOf ∧ j ∉ eb.toList.map keyOf) := fun j => by rw [← mk j]; simp
    unfold setTidy
    obtain ⟨o3, ho3, hx3, hd3⟩ := T3.ob
    refine wpAny_bind (wpAny_setState_of ho3 hd3 T3.fits ?_)
    dsimp only
    by_cases c : t'.tooManyDummies = true
    · refine wp_if_pos c ?_
      have eg : SetTable.grown es'.size = es'.size * 4 := by
        unfold SetTable.grown
        rw [if_neg (by omega)]
      rw [eg]
      refine relay_tb T3 (by omega) (by omega) fun h4 es4 t4 sb4 T4 p4 _ _ _ => ?_
      refine q h4 es4 _ t4 (sb'.trans sb4) T4 (fun k => by rw [(p4.map keyOf).mem_iff, mk']) ?_
      rw [← Array.length_toList, p4.length_eq, Array.length_toList]
      exact nl
    · refine wp_if_neg c (wpAny_pure (q h' es' ep' t' sb' T3 mk' nl))
theorem sub_tb {b : Addr} {eb : Array (Int × Value)} {eq : Nat} {tb : SetTable} (T : Tb w s.heap a es ep t) (U : Tb w s.heap b eb eq tb) (ne : a ≠ b) (l : es.size ≤ 24) {Q : Value → Shared → Prop}
    (q : ∀ h' n, n ≤ 48 → NewS w s (fun k => decide (k ∈ es.toList.map keyOf) && !decide (k ∈ eb.toList.map keyOf)) n h' → Q (.ref s.heap.objs.size) { s with heap := h' }) :
    wpAny (model P w) A (call (.builtin "set.__sub__") [.ref a, .ref b]) Q E s := by
  refine wpAny_call_entry F.slot_set_sub T.ty ent_sub ?_ (F.args_set_sub_2 _ _)
  unfold Builtin.«frozenset.__sub__»
  refine wpAny_bind (wpAny_pure ?_)
  dsimp only
  refine wpAny_bind ?_
  refine wpAny_bind (any_tb T ?_)
  refine any_tb U ?_
  refine wp_if_neg (by decide) ?_
  refine wpAny_bind (wpAny_pure ?_)
  refine wpAny_bind ?_
  obtain ⟨o, ho, hox, hod⟩ := U.ob
  have nb : b ≠ s.heap.objs.size := Nat.ne_of_lt (Heap.lt_size ho)
  obtain ⟨oa, hoa, xa, da⟩ := T.ob
  have na : a ≠ s.heap.objs.size := Nat.ne_of_lt (Heap.lt_size hoa)
  unfold Builtin.Frozenset.difference
  refine wpAny_bind (any_tb U ?_)
  refine wp_if_neg (by decide) ?_
  refine wpAny_bind (wpAny_pure ?_)
  refine wp_if_neg (by simp) ?_
  refine wp_if_pos rfl ?_
  refine wpAny_bind (size_tb U ?_)
  refine wpAny_bind (size_tb T ?_)
  by_cases big : es.size / 4 > eb.size
  · refine wp_if_pos big ?_
    refine wpAny_bind (wpAny_rule ?_)
    refine wpAny_bind (copy_tb T fun h1 es1 ep1 t1 z1 k1 T1 m1 l1 mm1 => ?_)
    refine wpAny_bind (wpAny_pure ?_)
    refine wpAny_bind (wpAny_holding ?_)
    have sz : es1.size = es.size := by
      have := ((List.perm_ext_iff_of_nodup T1.nd T.nd).mpr m1).length_eq
      rw [List.length_map, List.length_map, Array.length_toList, Array.length_toList] at this
      exact this
    refine less_tb T1 (U.at (k1 b)) nb (by omega) (by omega) fun h2 es2 ep2 t2 sb2 T2 m2 l2 => ?_
    refine wpAny_pure (wpAny_pure ⟨_, rfl, q h2 es2.size (by omega) ⟨fun c o e => (sb2.2 c (Nat.ne_of_lt (Heap.lt_size e))).trans (k1 c o e), T2.setR fun k => ?_⟩⟩)
    rw [Bool.and_eq_true, Bool.not_eq_true', decide_eq_true_eq, decide_eq_false_iff_not, m2, m1]
  · refine wp_if_neg big ?_
    refine wpAny_bind (base_tb T ?_)
    refine wpAny_bind (new_tb fun h0 z0 k0 T0 => ?_)
    refine wpAny_bind (wpAny_pure ?_)
    have T' := T.at (k0 a)
    have U' := U.at (k0 b)
    refine wpAny_bind (wpAny_setEpoch_of (k0 a _ hoa) da T'.fits ?_)
    refine wpAny_bind (wpAny_holding ?_)
    refine wpAny_bind ?_
    refine wp_if_pos rfl ?_
    refine walk_tb [b, s.heap.objs.size] (fun c hc => ?_) T0 T' fun h2 out ep2 t2 sb2 T2 _ _ p2 => ?_
    · rcases List.mem_cons.mp hc with rfl | hc
      · exact ⟨_, _, _, U'⟩
      · exact ⟨_, _, _, List.mem_singleton.mp hc ▸ T0⟩
    have nd2 : (out.toList.map keyOf).Nodup := (p2.map keyOf).nodup_iff.mpr T.nd
    have R2 := T2.setR (S := fun _ => false) (fun k => by simp)
    refine wpAny_bind ?_
    rw [← Array.forIn_toList]
    refine wpAny_forIn_list _ (fun rest _ s' => ∃ (h' : Heap) (S' : Int → Bool) (n : Nat), s' = { s with heap := h' } ∧ Heap.SameBut s.heap.objs.size h0 h' ∧ SetR w h' s.heap.objs.size S' n ∧ n + rest.length ≤ 24 ∧ (∀ e ∈ rest, e ∈ es.toList) ∧
      ∀ j, (S' j = true ∨ (j ∈ rest.map keyOf ∧ j ∉ eb.toList.map keyOf)) ↔ (j ∈ es.toList.map keyOf ∧ j ∉ eb.toList.map keyOf)) _ ?_ ?_ _ _ ⟨h2, _, _, rfl, sb2, R2, ?_, fun e he => p2.mem_iff.mp he, fun j => by rw [(p2.map keyOf).mem_iff]; simp⟩
    · rintro e rest b' s' ⟨h', S', n, rfl, sb', R', nl, gr, mk⟩
      have ge := gr e List.mem_cons_self
      obtain ⟨k, tk, e1, e2⟩ := T.good e ge
      have ek : keyOf e = k := by unfold keyOf; rw [e1]
      rw [List.length_cons] at nl
      rw [List.map_cons, ek] at mk
      obtain ⟨eh, ev⟩ := e
      simp only at e1 e2
      subst e1 e2
      have tail : ∀ h'', Heap.SameBut s.heap.objs.size h0 h'' → ∀ {Q' : ForInStep PUnit → Shared → Prop}, Q' (.yield ⟨⟩) { s with heap := h'' } → wpAny (model P w) A.in1 (do Builtin.Frozenset.unchanged (toString "frozenset." ++ toString "__sub__") a ep; pure (ForInStep.yield PUnit.unit)) Q' E { s with heap := h'' } := fun h'' sb'' Q' q' => by
        unfold Builtin.Frozenset.unchanged
        refine wpAny_bind (wpAny_bind (wpAny_setEpoch_of ((sb''.2 a na).trans (k0 a _ hoa)) da T'.fits ?_))
        exact wp_if_neg (by simp) (wpAny_pure (wpAny_pure q'))
      have Ub : Tb w h' b eb eq tb := U'.at fun x hx => (sb'.2 b nb).trans hx
      have hR := (Ub.setR (S := fun j => decide (j ∈ eb.toList.map keyOf)) (fun j => decide_eq_true_iff)).setOf (P := P)
      refine wpAny_bind (wpAny_holding ?_)
      refine wp_if_pos rfl ?_
      refine wpAny_bind (wpAny_setFind_of (knd := intKind P w) (k := k) (intKind_is P w k tk) rfl hR fun r hr => ?_)
      refine wpAny_bind (wpAny_pure ?_)
      rw [hr]
      by_cases c : k ∈ eb.toList.map keyOf
      · rw [decide_eq_true c]
        refine wp_if_neg (by decide) (wpAny_pure ?_)
        refine tail h' sb' ⟨h', S', n, rfl, sb', R', by omega, fun x hx => gr x (List.mem_cons_of_mem _ hx), fun j => ?_⟩
        rw [← mk j, List.mem_cons]
        constructor
        · rintro (z | z)
          · exact .inl z
          · exact .inr ⟨.inr z.1, z.2⟩
        · rintro (z | ⟨rfl | z, y⟩)
          · exact .inl z
          · exact absurd c y
          · exact .inr ⟨z, y⟩
      · rw [decide_eq_false c]
        refine wp_if_pos rfl ?_
        refine wpAny_bind (add_tb (k := k) (tk := tk) R' (by unfold scanBound; omega) fun h4 sb4 R5 => wpAny_pure ?_)
        refine tail h4 (sb'.trans sb4) ⟨h4, _, _, rfl, sb'.trans sb4, R5, by split <;> omega, fun x hx => gr x (List.mem_cons_of_mem _ hx), fun j => ?_⟩
        rw [← mk j, List.mem_cons, Bool.or_eq_true, decide_eq_true_eq]
        constructor
        · rintro ((z | rfl) | z)
          · exact .inl z
          · exact .inr ⟨.inl rfl, c⟩
          · exact .inr ⟨.inr z.1, z.2⟩
        · rintro (z | ⟨rfl | z, y⟩)
          · exact .inl (.inl z)
          · exact .inl (.inr rfl)
          · exact .inr ⟨z, y⟩
    · rintro b' s' ⟨h', S', n, rfl, sb', R', nl, _, mk⟩
      refine wpAny_pure (wpAny_pure (wpAny_pure ⟨_, rfl, q h' n (by omega) ⟨fun c o e => (sb'.2 c (Nat.ne_of_lt (Heap.lt_size e))).trans (k0 c o e), R'.congr fun k => ?_⟩⟩))
      rw [Bool.eq_iff_iff, Bool.and_eq_true, Bool.not_eq_true', decide_eq_true_eq, decide_eq_false_iff_not, ← mk k]
      simp
    · rw [p2.length_eq, Array.length_toList]
      simpa using l
end
end Sh
namespace Sh
open PySem PySem.Spec PyProof.Rows L2
/-- |, -, ^ of two sets of small ints, by members -/
def rSetOp (w : World) (f : Bool → Bool → Bool) : R2 := fun x y H Q => ∃ (a b : Addr) (S1 S2 : Int → Bool) (n1 n2 : Nat), x = .ref a ∧ y = .ref b ∧ a ≠ b ∧ H a = some (SetO w a S1 n1) ∧ H b = some (SetO w b S2 n2) ∧ n1 ≤ 24 ∧ n2 ≤ 24 ∧
  (∀ k, S1 k = true → 0 ≤ k ∧ k < 32) ∧ (∀ k, S2 k = true → 0 ≤ k ∧ k < 32) ∧ ∀ (p : Addr) (n : Nat), H p = none → n ≤ 48 → Q (.ref p) (upd H p (SetO w p (fun k => f (S1 k) (S2 k)) n))
section
variable {X : Cx}
theorem set_rule {op : Operator} {id : String} {f : Bool → Bool → Bool} (fills : fillsNumberSlot (.type "set") op.info.2 = pure true) (slot : Slot "set" (dunder op.info.2) id)
    (run : ∀ {A : Around} {E : Value → Shared → Prop} {s : Shared} {a b : Addr} {es eb : Array (Int × Value)} {ep eq : Nat} {t tb : SetTable}, Tb X.w s.heap a es ep t → Tb X.w s.heap b eb eq tb → a ≠ b → es.size ≤ 24 → eb.size ≤ 24 → ∀ {Q : Value → Shared → Prop},
      (∀ h' n, n ≤ 48 → NewS X.w s (fun k => f (decide (k ∈ es.toList.map keyOf)) (decide (k ∈ eb.toList.map keyOf))) n h' → Q (.ref s.heap.objs.size) { s with heap := h' }) → wpAny (model X.prog X.w) A (call (.builtin id) [.ref a, .ref b]) Q E s) : OpR X (binaryOp op) (rSetOp X.w f) := by
  intro pins s σ H x y v u Q I rx ry h
  obtain ⟨a, b, S1, S2, n1, n2, rfl, rfl, ne, ha, hb, l1, l2, m1, m2, q⟩ := h
  cases rx
  cases ry
  obtain ⟨es, ep, t, T, k1, z1⟩ := tb_of (setO_get I ha) (by omega) m1
  obtain ⟨eb, eq, tb, U, k2, z2⟩ := tb_of (setO_get I hb) (by omega) m2
  refine wpAny_binaryOp_same T.ty U.ty fills slot (run T U ne (by omega) (by omega) fun h' n ln ⟨kk, R⟩ => ⟨by simp, ?_⟩)
  have e1 : ∀ k, decide (k ∈ es.toList.map keyOf) = S1 k := fun k => by rw [Bool.eq_iff_iff, decide_eq_true_eq, k1]
  have e2 : ∀ k, decide (k ∈ eb.toList.map keyOf) = S2 k := fun k => by rw [Bool.eq_iff_iff, decide_eq_true_eq, k2]
  have R' : SetR X.w h' s.heap.objs.size (fun k => f (S1 k) (S2 k)) n := R.congr fun k => by
    show f (S1 k) (S2 k) = f _ _
    rw [e1, e2]
  exact ⟨.ref _, upd H s.heap.objs.size (SetO X.w s.heap.objs.size _ n), I.laid (t' := s.toks) kk (Nat.le_refl _) (setO_new R'), rfl, q _ n (I.hok.fresh (Nat.le_refl _)) ln⟩
theorem op_orS (w : World) (hw : X.w = w := by rfl) : OpR X (binaryOp .BitOr) (rSetOp w fun a b => a || b) := by
  subst hw
  exact set_rule (id := "set.__or__") F.fills_set_or F.slot_set_or @fun _ _ _ _ _ _ _ _ _ _ _ T U ne l1 l2 _ q => union_tb T U ne (by omega) q
theorem op_subS (w : World) (hw : X.w = w := by rfl) : OpR X (binaryOp .Sub) (rSetOp w fun a b => a && !b) := by
  subst hw
  exact set_rule (id := "set.__sub__") F.fills_set_sub F.slot_set_sub @fun _ _ _ _ _ _ _ _ _ _ _ T U ne l1 l2 _ q => sub_tb T U ne l1 q
theorem op_xorS (w : World) (hw : X.w = w := by rfl) : OpR X (binaryOp .BitXor) (rSetOp w fun a b => a != b) := by
  subst hw
  exact set_rule (id := "set.__xor__") F.fills_set_xor F.slot_set_xor @fun _ _ _ _ _ _ _ _ _ _ _ T U ne l1 l2 _ q => xor_tb T U ne (by omega) q
end
end Sh

/-! calls where no text of a list is under way: then repr(..) is known -/
namespace Sh
open PySem PySem.Spec PyProof.Rows L2
/-- a def's promise, kept where no repr is under way -/
structure FnG (P : Program) (w : World) (K : PySem.W.Frag) (mg : Str → Option Value) (bs : Heap) (k : Nat) (f : Addr) (fd : FuncData) (ps : List Str) (sp : Sp) : Prop where
  many : ∀ vs H Q E, sp vs H Q E → vs.length = ps.length
  go : ∀ (B : Around) (fr : List Env) (s : Shared) (H : Hp) (gs : Args) (us : List Value) (vs : List V) (Q : VK) (E : XK), Room k B → B.guards = some [] → Env0 P w K mg bs B fr s H → BindsTo s fd gs (ps.zip us) → Vals vs us → sp vs H Q E → codeAny (model P w) B (.call (.ref f) gs) (CR CX0 fr P w H s Q E) s
structure OkG (P : Program) (w : World) (K : PySem.W.Frag) (mg : Str → Option Value) (bs : Heap) (k : Nat) (x : Str) (st : Stmt) (ps : List Str) (sp : Sp) : Prop where
  ex : ∃ (f : Addr) (fd : FuncData), Fun K x x st f fd ∧ mg x = some (.ref f) ∧ Binds K fd ps [] ∧ FnG P w K mg bs k f fd ps sp
section
variable {P : Program} {w : World} {K : PySem.W.Frag} {mg : Str → Option Value} {bs : Heap}
theorem FnG.mono {j k : Nat} {f : Addr} {fd : FuncData} {ps : List Str} {sp : Sp} (G : FnG P w K mg bs j f fd ps sp) (h : j ≤ k) : FnG P w K mg bs k f fd ps sp := ⟨G.many, fun B fr s H gs us vs Q E hr => G.go B fr s H gs us vs Q E (hr.mono h)⟩
theorem OkG.mono {x : Str} {st : Stmt} {ps : List Str} {j k : Nat} {sp : Sp} (O : OkG P w K mg bs j x st ps sp) (h : j ≤ k) : OkG P w K mg bs k x st ps sp := by
  obtain ⟨f, fd, F, g, b, G⟩ := O.ex
  exact ⟨f, fd, F, g, b, G.mono h⟩
theorem Df.okG {x : Str} {st : Stmt} {N ps : List Str} {k : Nat} {sp : Sp} (D : Df K mg x st) (S : FnScope N ps (defScope st))
    (hb : ∀ (kV dc pm : Value) (an : Option Addr) (cdv ct : Value) (us : List Value), us.length = ps.length → bindArgs (PySem.W.fnOf x x (defArgs st) (defBody st) (defScope st) .none kV dc pm an cdv ct) ⟨us, []⟩ = pure (ps.zip us))
    (many : ∀ vs H Q E, sp vs H Q E → vs.length = ps.length)
    (bd : ∀ (f : Addr) (cdv : Value) (B : Around) (fr : List Env) (s : Shared) (H : Hp) (vs : List V) (Q : VK) (E : XK), Room k (B.deeper (envOfC x (defScope st) s.heap.objs.size f cdv)) → (B.deeper (envOfC x (defScope st) s.heap.objs.size f cdv)).guards = some [] → sp vs H Q E →
      ∃ t, PSs (cxOf CX0 P w K mg bs N x (defScope st) f cdv B fr s H E).nox (defBody st) t ∧ t { nx := fun _ J => Q .non J, rt := Q } (start N vs) H) : OkG P w K mg bs (k + 1) x st ps sp := by
  obtain ⟨f, fd, F, g⟩ := D.ex
  have F0 := F
  obtain ⟨oc, od, kV, dc, pm, an, cdv, ct, osl, rfl, lk, hcd⟩ := F.ex
  refine ⟨f, _, F0, g, F0.binds hb, many, fun B fr s H gs us vs Q E rm gd e0 bnd r wish => ?_⟩
  have nm := many _ _ _ _ wish
  have kin : K.In s.heap := e0.mod.kin.keeps fun a o e => (e0.bs a o e).1
  have nol : s.heap.NoLimit := e0.mod.nolimit.keeps fun a o e => (e0.bs a o e).1
  have kinds : ∀ y ∈ ps.zip us, (defScope st).names.lookup y.1 = some .local ∨ ((defScope st).names.lookup y.1 = some .cell ∧ ((cellsFrom (s.heap.objs.size + 1) (defScope st).names []).lookup y.1).isSome = true) := by
    rintro ⟨n, v⟩ hy
    cases S.par n (List.of_mem_zip hy).1 with
    | inl q => exact .inl q
    | inr q => exact .inr ⟨q, PySem.W.cellsFrom_some _ _ _ (.inl q)⟩
  refine codeAny_call_function rm.depth (kin _ _ lk) rfl S.co S.gen rfl (PySem.W.codeRec_of kin hcd) (bnd _ _ _ _ ?_)
  refine wpAny_newFunctionEnv_cells S.kind kinds fun env ee s1 z => ?_
  subst ee
  refine ⟨nol.keeps z.toInCall.keep, codeAny_func ?_⟩
  obtain ⟨t, ht, hq⟩ := bd f cdv B fr s H vs Q E (rm.deeper _) gd wish
  have ht' := ht.nox
  have I : Inv (cxOf CX0 P w K mg bs N x (defScope st) f cdv B fr s H E) [] (start N vs) H s1 := inv_start S rm.hd e0 nm r z
  refine wpAny_mono (ht'.run [] s1 (start N vs) H _ I hq) (fun fl s2 hs => ?_) fun e s2 hs => hs
  cases fl with
  | ret u =>
    obtain ⟨v, σ2, H2, J, rv, q⟩ := hs
    exact ⟨v, H2, J.os, J.bare, J.base, J.hok, rv, q⟩
  | next =>
    obtain ⟨σ2, H2, J, q⟩ := hs
    exact ⟨V.non, H2, J.os, J.bare, J.base, J.hok, rfl, q⟩
  | brk =>
    obtain ⟨_, _, _, q⟩ := hs
    exact q.elim
  | cont =>
    obtain ⟨_, _, _, q⟩ := hs
    exact q.elim
end
section
variable {X : Cx} {k : Nat} {x : Str} {st : Stmt} {ps : List Str} {sp : Sp} {e : Expr} {es : List Expr} {t : TA} {p pos : Pos}
/-- f(e, ..) -/
theorem pe_fnG (O : OkG X.prog X.w X.K X.mg X.base k x st ps sp) (hr : Room k X.A) (gd : X.A.guards = some []) (ha : PA X (e :: es) t) (hg : Gl X x := by rfl)
    (hdb : (x == ("__debug__" : Str)) = false := by decide) (he : starEach (e :: es) X.env = (false, eval e X.env) :: starEach es X.env := by rfl) (hpl : (backTo pos (starEach es X.env)).any (·.1) = false := by rfl) :
    PE X (.Call (.Name x p) (e :: es) [] pos) (tCall sp [] E0 t) := by
  obtain ⟨f, fd, F, g, b, G⟩ := O.ex
  refine ⟨fun pins s σ H Q I h => ?_⟩
  refine wpAny_Call_Name_kw (ld_glob I hg g ?_ hdb)
  refine PySem.W.callWith_K (h₀ := X.base) I.ok.mod.kin F.kp (thn (ha.run pos pins s σ H _ I h) fun us s1 ⟨vs, H1, I1, r, q⟩ => ⟨I1.kIn, ?_⟩) he hpl
  have q' : sp vs H1 Q E0 := by
    have z : sp (vs ++ []) H1 Q E0 := q
    rw [List.append_nil] at z
    exact z
  have nm : us.length = ps.length := by
    rw [← r.length]
    exact G.many _ _ _ _ q'
  have bd : BindsTo s1 fd ⟨us, []⟩ (ps.zip us) := by
    have z := b s1 us I1.kIn (by rw [List.append_nil]; exact nm)
    rw [List.append_nil] at z
    exact z
  refine wpAny_call (codeAny_mono (G.go X.A X.stack s1 H1 ⟨us, []⟩ us vs Q E0 hr gd I1.env0 bd r q') fun y s2 hq => ?_)
  cases y with
  | error e => exact pass0 pins σ H1 s1 e s2 I1 hq
  | ok fl =>
    cases fl with
    | ret u => exact I1.after hq
    | next => exact hq.elim
    | brk => exact hq.elim
    | cont => exact hq.elim
theorem reprU {A : Around} (r : Room k A) : A.units + 66 < cLine := by
  have := r.un
  omega
/-- repr(x) of a list or a tuple of data -/
def rRepr (K : PySem.W.Frag) : List V → Hp → VK → Prop := fun xs H Q => ∃ (a : Addr) (d : PyData), xs = [.ref a] ∧ Dp K H (.ref a) d ∧ SeqAt.shaped d = true ∧ d.showable = true ∧ d.shown.length ≤ sizeLine ∧ Q (.str d.shown) H
theorem cr_repr (gd : X.A.guards = some []) (hu : X.A.units + 66 < cLine) : CallR X (.builtin "repr") (rRepr X.K) := by
  intro pins s σ H xs us Q I r h
  obtain ⟨a, d, rfl, hd, sd, sh, sz, q⟩ := h
  rw [Vals.ref1 r]
  obtain ⟨as, r1⟩ := Dp.reads I d (.ref a) (.ref a) hd rfl
  have lay := SeqAt.canLay_of_shaped sd
  have dp : d.depth ≤ 64 := by
    have z := sd
    unfold SeqAt.shaped at z
    rw [Bool.and_eq_true] at z
    exact of_decide_eq_true z.2
  exact repr_of_reads' r1 sh (PyData.noDict_hsm (PyData.hasDict_of_canLay _ lay)) gd (by omega) (fun _ _ e => e) (fun h' u tk hk => ⟨.str d.shown, H, I.kept hk, ⟨u, rfl⟩, q⟩) sz
end
/-! ### the law's call, where nothing is under way -/
section
theorem script_call {P : Program} {w : World} {K : PySem.W.Frag} {mg mb : Str → Option Value} {k : Nat} {fa a : Addr} {fd : FuncData} {x : Str} {sp : Sp} {s1 : Shared} {vs : List Value} {ns : List Int}
    (kin : K.In s1.heap) (hns : s1.heap.Ns mainGlobals mg) (hbn : s1.heap.Ns builtinsNs mb) (hbb : ∀ y : Str, y ≠ "__name__" → mb y = bootBuiltins y) (nol : s1.heap.NoLimit) (hgn : s1.gens = #[])
    (hla : s1.heap.get? a = some { cls := .type "list", data := .seq vs.toArray }) (hit : IntsAre vs ns) (hsz : ns.length ≤ sizeLine) (rm : Room k callerA)
    (F : ∀ bs : Heap, K.In bs → bs.Ns mainGlobals mg → FnG P w K mg bs k fa fd [x] sp) (bnd : ∀ (s : Shared) (u : Value), BindsTo s fd ⟨[u], []⟩ [(x, u)])
    (wish : ∀ H : Hp, Only H → SqL K H a (ns.map V.int) → sp [.ref a] H (fun v _ => v = .bl true) fun _ _ _ => False) :
    codeAny (model P w) callerA (.call (.ref fa) ⟨[.ref a], []⟩) (fun y s2 => y = .ok (.ret (.bool true)) ∧ OldK s1.heap s2.heap ∧ s2.os = s1.os ∧ AllBare s2.gens) s1 := by
  have rv := vals_ints hit
  have many := hit.length
  have step : ∀ H : Hp, Only H → SqL K H a (ns.map V.int) → HOk P w H s1.heap → (∀ b, H b ≠ none → b = a) → (H a ≠ none → K.lookup a = none) →
      codeAny (model P w) callerA (.call (.ref fa) ⟨[.ref a], []⟩) (fun y s2 => y = .ok (.ret (.bool true)) ∧ OldK s1.heap s2.heap ∧ s2.os = s1.os ∧ AllBare s2.gens) s1 := by
    intro H only sq hok sole apart
    have hid : ∀ {b : Addr} {o : Obj}, s1.heap.get? b = some o → H b = none → (hidT s1.heap H).get? b = some o := fun e n => hidT_get e n
    have isa : ∀ {b : Addr} {u : HO}, H b = some u → b = a := fun {b u} q => sole b (by rw [q]; exact fun z => nomatch z)
    have bare : ∀ {b : Addr} {o : Obj} {es : Array DictEntry} {ep : Nat}, s1.heap.get? b = some o → o.data = .dict es ep → H b = none := by
      intro b o es ep e d
      cases q : H b with
      | none => rfl
      | some u =>
        obtain rfl := isa q
        rw [hla] at e
        cases e
        cases (show Data.seq vs.toArray _ = Data.dict es ep from d)
    have spaces : ∀ {b : Addr} {m : Str → Option Value}, s1.heap.Ns b m → (hidT s1.heap H).Ns b m := by
      rintro b m ⟨o, es, ep, e, d, r⟩
      exact ⟨o, es, ep, hid e (bare e d), d, r⟩
    have kin0 : K.In (hidT s1.heap H) := by
      intro b o e
      refine hid (kin b o e) ?_
      cases q : H b with
      | none => rfl
      | some u =>
        obtain rfl := isa q
        rw [apart (by rw [q]; exact fun z => nomatch z)] at e
        cases e
    have md : Mod K mg (hidT s1.heap H) := by
      obtain ⟨mc, n1, n2⟩ := nol
      exact ⟨kin0, spaces hns, ⟨mb, spaces hbn, hbb⟩, ⟨mc, spaces n1, n2⟩⟩
    have at0 : Env0 P w K mg (hidT s1.heap H) callerA [] s1 H := by
      refine ⟨rfl, md, fun b o e => of_hidT e, Nat.le_of_eq (hidT_size _ _), trivial, fun b hb => ?_, hok, .of_eq hgn⟩
      exact absurd (show b ∈ ([] : List Addr) from hb) List.not_mem_nil
    refine codeAny_mono ((F _ kin0 (spaces hns)).go callerA [] s1 H ⟨[.ref a], []⟩ [.ref a] [.ref a] _ _ rm rfl at0 (bnd s1 (.ref a)) (.cons rfl .nil) (wish H only sq)) fun y s2 h => ?_
    cases y with
    | error e => exact False.elim (show False from h)
    | ok fl =>
      cases fl with
      | next => exact h.elim
      | brk => exact h.elim
      | cont => exact h.elim
      | ret u =>
        obtain ⟨v, H2, os, br, un, hok2, r2, q⟩ := h
        obtain rfl : v = .bl true := q
        obtain rfl : u = Value.bool true := r2
        refine ⟨rfl, OldK.of_keep fun b o e => ?_, os, br⟩
        cases q : H b with
        | none => exact un.keep b o e q (fun z => absurd (show b ∈ ([] : List Addr) from z) List.not_mem_nil) (by simp)
        | some u =>
          cases only b with
          | inl z =>
            rw [q] at z
            cases z
          | inr z =>
            obtain ⟨ob, xs, z⟩ := z
            have z2 := un.frzs b ob _ z
            obtain ⟨e1, _⟩ := hok b _ z
            obtain ⟨e2, _⟩ := hok2 b _ z2
            rw [e] at e1
            cases e1
            exact e2
  cases hk : K.lookup a with
  | some o =>
    have e := kin a o hk
    rw [hla] at e
    cases e
    refine step (fun _ => none) (fun _ => .inl rfl) (.inr ⟨_, vs.toArray, _, hk, rfl, rfl, rfl, by rw [List.size_toArray, many]; exact hsz, by simpa using rv⟩) ?_ (fun b z => absurd rfl z) fun z => absurd rfl z
    intro b u z
    cases (show (none : Option HO) = some u from z)
  | none =>
    refine step (fun b => if b = a then some (.frz { cls := .type "list", data := .seq vs.toArray } (.lst (ns.map V.int))) else none) ?_ (.inl (.inr ⟨{ cls := .type "list", data := .seq vs.toArray }, if_pos rfl⟩)) ?_ ?_ fun _ => hk
    · intro b
      by_cases c : b = a
      · exact .inr ⟨_, _, if_pos c⟩
      · exact .inl (if_neg c)
    · intro b u z
      by_cases c : b = a
      · cases (if_pos c).symm.trans z
        subst c
        exact ⟨hla, by rw [List.length_map]; exact hsz, vs, _, rv, hla⟩
      · cases (if_neg c).symm.trans z
    · intro b z
      by_cases c : b = a
      · exact c
      · exact absurd (if_neg c) z
theorem walk_ofG {l : PySem.W.OpenLaw} {n k : Nat} {q : Program} {loose : List Str} {XP : (Str → Option Value) → Heap → Prop} {YP : World → Heap → Prop} {d : DefRec} {K : Params → PySem.W.Frag} {sp : World → Sp} {x : Str}
    (hn : l.most = some n) (hz : n ≤ sizeLine) (hdf : d.params.defaults = []) (rm : Room k callerA) (hY : ∀ (w : World) (h : Heap), YP w h → (K w.params).In h)
    (F : ∀ (w : World) (mg : Str → Option Value) (fa : Addr) (h : Heap), (K w.params).In h → h.Ns mainGlobals mg → mg d.name = some (.ref fa) → ∃ fd : FuncData, (∀ (s : Shared) (u : Value), BindsTo s fd ⟨[u], []⟩ [(x, u)]) ∧ ∀ bs : Heap, (K w.params).In bs → bs.Ns mainGlobals mg → FnG l.prog w (K w.params) mg bs k fa fd [x] (sp w))
    (wish : ∀ (w : World) (H : Hp) (a : Addr) (ns : List Int), ns.length ≤ n → Only H → SqL (K w.params) H a (ns.map V.int) → sp w [.ref a] H (fun v _ => v = .bl true) fun _ _ _ => False) :
    PySem.W.WalkO q loose XP YP l.row.toRowW d [] (fun f vs => PySem.call f vs) := by
  refine Att.attach_call hn hdf fun w s0 s1 mg mb fa o pm cd dc a vs ns G Y ho hd hcd hmg hobj hints hlen hg => ?_
  obtain ⟨fd, bnd, hF⟩ := F w mg fa _ (hY w _ Y) G.T.g hmg
  exact script_call (hY w _ Y) G.T.g G.T.b G.T.builtins G.T.nolimit hg hobj hints (Nat.le_trans hlen hz) rm hF bnd fun H hO hS => wish w H a ns hlen hO hS
end
end Sh

/-! x in t, x not in t: t a tuple, its items data of any depth -/
namespace L2
open PySem PySem.Spec PyProof.Rows
section
variable {X : Cx}
def rInDT (K : PySem.W.Frag) : R2 := fun x y H Q => ∃ d ds, Dp K H x d ∧ Dp K H y (.tuple ds) ∧ SeqAt.shaped d = true ∧ SeqAt.shaped (.tuple ds) = true ∧ Q (.bl (ds.any fun z => PyData.eqv z d)) H
def rNotInDT (K : PySem.W.Frag) : R2 := fun x y H Q => ∃ d ds, Dp K H x d ∧ Dp K H y (.tuple ds) ∧ SeqAt.shaped d = true ∧ SeqAt.shaped (.tuple ds) = true ∧ Q (.bl (!ds.any fun z => PyData.eqv z d)) H
theorem op_inDT (hu : X.A.units + 65 < cLine) : OpR X (compareOp .In) (rInDT X.K) := by
  intro pins s σ H x y v u Q I rx ry h
  obtain ⟨d, ds, hd, he, sd, se, q⟩ := h
  obtain ⟨as, r1⟩ := Dp.reads I d x v hd rx
  obtain ⟨bs, r2⟩ := Dp.reads I (.tuple ds) y u he ry
  exact SeqAt.in_tuple_reads r2 r1 (SeqAt.canLay_of_shaped se) (SeqAt.canLay_of_shaped sd) (room_in_shaped sd hu) ⟨.bl _, H, I, rfl, q⟩
theorem op_notInDT (hu : X.A.units + 65 < cLine) : OpR X (compareOp .NotIn) (rNotInDT X.K) := by
  intro pins s σ H x y v u Q I rx ry h
  obtain ⟨d, ds, hd, he, sd, se, q⟩ := h
  obtain ⟨as, r1⟩ := Dp.reads I d x v hd rx
  obtain ⟨bs, r2⟩ := Dp.reads I (.tuple ds) y u he ry
  exact SeqAt.notIn_tuple_reads r2 r1 (SeqAt.canLay_of_shaped se) (SeqAt.canLay_of_shaped sd) (room_in_shaped sd hu) ⟨.bl _, H, I, rfl, q⟩
end
end L2

/-! truths as numbers: x + i, i - x, str(x) where x is an int or a truth -/
namespace Sh
open PySem PySem.Spec PyProof.Rows L2
def numV : V → Option Int
  | .int i => some i
  | .bl k => some (if k = true then 1 else 0)
  | _ => none
def strV : V → Option Str
  | .int i => if i.natAbs.log2 < 1920 then some (toString i) else none
  | .bl k => some (if k then "True" else "False")
  | _ => none
theorem add_bi_gives (b : Bool) (a : Int) (t : Tok) : Gives (Builtin.«int.__add__» ⟨[.bool b, .int a t], []⟩) (.int ((if b = true then (1 : Int) else 0) + a)) :=
  .of_wp fun M A E s Q h => by obtain ⟨hp, g, d, tk, os⟩ := s; wp_walk; exact ⟨_, rfl, h⟩
section
variable {prog : Program} {w : World} {A : Around} {E : Value → Shared → Prop} {s : Shared} {a : Int} {t : Tok} {b : Bool}
theorem same_sub : reflectedDiffers (.type "int") (.type "bool") "sub" = pure false := by
  unfold reflectedDiffers
  show (typeLookup (.type "bool") (dunderR "sub") >>= fun rb => typeLookup (.type "int") (dunderR "sub") >>= fun ra => pure (rb.isSome && rb != ra)) = pure false
  rw [typeLookup_type, typeLookup_type, builtinLookup_eq_fast]; kernel_rfl
theorem sub_int_bool {Q : Value → Shared → Prop} (h : Q (.int (a - if b = true then (1 : Int) else 0) s.toks) { s with toks := s.toks + 1 }) : wpAny (model prog w) A (binaryOp .Sub (.int a t) (.bool b)) Q E s :=
  binaryOp_sub_gives (op := .Sub) (T := "int") (U := "bool") (by decide) (typeIs_int s a t) rfl F.fills_int_sub F.fills_bool_sub isSubtype_bool_int same_sub F.slot_int_sub F.entry_int_sub (F.args_int_sub_2 _ _)
    (AutoIntG7.int___sub___int_bool_0 a t b) trivial h
theorem add_bool_int {Q : Value → Shared → Prop} (h : Q (.int ((if b = true then (1 : Int) else 0) + a) s.toks) { s with toks := s.toks + 1 }) : wpAny (model prog w) A (binaryOp .Add (.bool b) (.int a t)) Q E s :=
  binaryOp_left_gives (op := .Add) (T := "bool") (U := "int") (by decide) rfl (fun s' => typeIs_int s' a t) F.fills_bool_add F.fills_int_add isSubtype_int_bool F.slot_bool_add F.slot_int_radd F.entry_int_add (F.args_int_add_2 _ _)
    (add_bi_gives b a t) trivial h
end
section
variable {X : Cx}
theorem op_addX : OpR X (binaryOp .Add) (fun x y H Q => ∃ i j, numV x = some i ∧ y = .int j ∧ Q (.int (i + j)) H) := by
  intro pins s σ H x y v u Q I rx ry h
  obtain ⟨i, j, hx, rfl, q⟩ := h
  cases x with
  | int a =>
    cases hx
    exact op_add pins s σ H _ _ v u Q I rx ry ⟨i, j, rfl, rfl, q⟩
  | bl k =>
    cases hx
    cases rx
    obtain ⟨t, rfl⟩ := ry
    exact add_bool_int ⟨.int _, H, I.tok _, ⟨_, rfl⟩, q⟩
  | _ => cases hx
theorem op_subX : OpR X (binaryOp .Sub) (fun x y H Q => ∃ i j, x = .int i ∧ numV y = some j ∧ Q (.int (i - j)) H) := by
  intro pins s σ H x y v u Q I rx ry h
  obtain ⟨i, j, rfl, hy, q⟩ := h
  cases y with
  | int a =>
    cases hy
    exact op_sub pins s σ H _ _ v u Q I rx ry ⟨i, j, rfl, rfl, q⟩
  | bl k =>
    cases hy
    cases ry
    obtain ⟨t, rfl⟩ := rx
    exact sub_int_bool ⟨.int _, H, I.tok _, ⟨_, rfl⟩, q⟩
  | _ => cases hy
theorem call_strX : CallR X (.type "str") (fun xs H Q => ∃ x z, xs = [x] ∧ strV x = some z ∧ Q (.str z) H) := by
  intro pins s σ H xs us Q I r h
  obtain ⟨x, z, rfl, hx, q⟩ := h
  cases x with
  | int i =>
    by_cases c : i.natAbs.log2 < 1920
    · have e : strV (.int i) = some (toString i) := if_pos c
      rw [e] at hx
      cases hx
      exact call_str_int pins s σ H _ us Q I r ⟨i, rfl, c, q⟩
    · have e : strV (.int i) = none := if_neg c
      rw [e] at hx
      cases hx
  | bl k =>
    cases hx
    obtain ⟨u, rfl, r1⟩ := vals1 r
    cases r1
    exact PySem.P.str_of_bool ⟨.str _, H, I.tok _, ⟨_, rfl⟩, q⟩
  | _ => cases hx
end
end Sh

/-! t[::-1] of a tuple -/
namespace L2
open PySem PySem.Spec PyProof.Rows HT
section
variable {prog : Program} {w : World} {A : Around} {E : Value → Shared → Prop} {s : Shared}
theorem sliceApplied_rev {sl : Addr} {vl vu vs : Value} {n : Nat} {Q : Int × Int × Nat → Shared → Prop} (hs : s.heap.IsSliceOf sl vl vu vs) (pl : IsPart vl none) (pu : IsPart vu none) (ps : IsPart vs (some (-1)))
    (h : Q ((n : Int) - 1, -1, n) s) : wpAny (model prog w) A (Builtin.Slice.sliceApplied (.ref sl) (pure (n : Int))) Q E s := by
  obtain ⟨os, hos, hcs, hds⟩ := id hs
  unfold Builtin.Slice.sliceApplied Builtin.Slice.sliceFields
  refine wpAny_bind (wpAny_bind (wpAny_field hos hds (x := vl) rfl (wpAny_bind (wpAny_field hos hds (x := vu) rfl (wpAny_bind (wpAny_field hos hds (x := vs) rfl (wpAny_pure ?_)))))))
  refine wpAny_bind (slicePart_ ps ?_)
  show wpAny _ _ (if ((-1 : Int) == 0) = true then _ else _) _ _ s
  rw [if_neg (by decide)]
  refine wpAny_bind (slicePart_ pl (wpAny_bind (slicePart_ pu (wpAny_bind (wpAny_pure ?_)))))
  show wpAny _ _ (match Builtin.Slice.sliceAdjust none none (-1) (n : Int) with | (lo, hi) => pure (lo, (-1 : Int), Builtin.Slice.slicePlaces lo hi (-1))) _ _ s
  have e1 : Builtin.Slice.sliceAdjust none none (-1) (n : Int) = ((n : Int) - 1, -1) := by
    unfold Builtin.Slice.sliceAdjust
    simp
  have e2 : Builtin.Slice.slicePlaces ((n : Int) - 1) (-1) (-1) = n := by
    unfold Builtin.Slice.slicePlaces
    rw [if_neg (by decide)]
    split
    · rw [show -(-1 : Int) = 1 by decide, Int.ediv_one]
      omega
    · omega
  rw [e1]
  show wpAny _ _ (pure ((n : Int) - 1, (-1 : Int), Builtin.Slice.slicePlaces ((n : Int) - 1) (-1) (-1))) _ _ s
  rw [e2]
  exact wpAny_pure h
theorem pick_rev (xs : Array Value) : ((List.range xs.size).filterMap fun (m : Nat) => xs[((xs.size : Int) - 1 + (m : Int) * (-1)).toNat]?).toArray = xs.toList.reverse.toArray := by
  congr 1
  have key : ∀ n, n ≤ xs.size → (List.range n).filterMap (fun (m : Nat) => xs[((xs.size : Int) - 1 + (m : Int) * (-1)).toNat]?) = (xs.toList.reverse).take n := by
    intro n
    induction n with
    | zero => intro _; rfl
    | succ n ih =>
      intro hn
      have h1 : ((xs.size : Int) - 1 + (n : Int) * (-1)).toNat = xs.size - 1 - n := by omega
      rw [List.range_succ, List.filterMap_append, ih (by omega), List.take_add_one, List.getElem?_reverse (by rw [Array.length_toList]; omega), Array.length_toList]
      congr 1
      rw [Array.getElem?_toList]
      simp only [List.filterMap_cons, List.filterMap_nil, h1]
      cases xs[xs.size - 1 - n]? <;> rfl
  rw [key _ (Nat.le_refl _), List.take_of_length_le (by rw [List.length_reverse, Array.length_toList]; exact Nat.le_refl _)]
theorem getItem_tuple_rev {t sl : Addr} {items : Array Value} {vl vu vs : Value} {Q : Value → Shared → Prop} (ht : IsTup s.heap t items) (hs : s.heap.IsSliceOf sl vl vu vs) (pl : IsPart vl none) (pu : IsPart vu none) (ps : IsPart vs (some (-1)))
    (h : Q (.ref s.heap.objs.size) { s with heap := s.heap.push { cls := .type "tuple", data := .seq items.toList.reverse.toArray } })
    (hsz : items.size ≤ sizeLine) : wpAny (model prog w) A (getItem (.ref t) (.ref sl)) Q E s := by
  have htake : sizeOk (.seq items.toList.reverse.toArray) := by
    show items.toList.reverse.toArray.size ≤ sizeLine
    rw [List.size_toArray, List.length_reverse, Array.length_toList]
    exact hsz
  obtain ⟨os, hos, hcs, hds⟩ := id hs
  have hTs : s.TypeIs (.ref sl) "slice" := ⟨os, hos, hcs⟩
  unfold getItem
  try with_reducible refine wpAny_holding ?_
  first | refine wpAny_bind (wpAny_pure ?_) | skip
  refine wpAny_bind (wpAny_sequenceKey ht.typeIs (by decide) ?_)
  refine wpAny_bind (wpAny_callSpecial?_slot (name := Str.ofString "__getitem__") ht.typeIs PyProof.Rows.slot_tuple_getitem
    (wpAny_call_entry PyProof.Rows.slot_tuple_getitem ht.typeIs entry_tuple_getitem ?_ (args_tuple_getitem _ _)))
  show wpAny _ _ (Builtin.Tuple.tupleItemsOf (.ref t) >>= _) _ _ s
  refine wpAny_bind (tupleItemsOf_ ht ?_)
  refine wpAny_bind (wpAny_typeOf hTs ?_)
  rw [if_pos (by decide)]
  refine wpAny_bind (sliceApplied_rev hs pl pu ps ?_)
  have hno : ¬ ((((items.size : Int) - 1) == 0 && (-1 : Int) == 1 && items.size == items.size) = true) := by
    intro q
    rw [Bool.and_eq_true, Bool.and_eq_true] at q
    have q1 : (-1 : Int) = 1 := eq_of_beq q.1.2
    omega
  show wpAny _ _ (if (((items.size : Int) - 1) == 0 && (-1 : Int) == 1 && items.size == items.size) = true then _ else _) _ _ s
  rw [if_neg hno, pick_rev]
  first
    | exact wpAny_bind (m := Builtin.Tuple.tupleExact _) (wpAny_newObj_type (wpAny_pure ⟨_, rfl, wpAny_pure h⟩) htake)
    | exact wpAny_bind (m := Builtin.Tuple.tupleExact _) (wpAny_newObj_type (wpAny_bind (wpAny_pure (wpAny_pure ⟨_, rfl, wpAny_pure h⟩))) htake)
    | exact wpAny_bind (wpAny_bind (m := Builtin.Tuple.tupleExact _) (wpAny_newObj_type (wpAny_pure (wpAny_pure ⟨_, rfl, wpAny_pure h⟩)) htake))
    | exact wpAny_bind (wpAny_bind (m := Builtin.Tuple.tupleExact _) (wpAny_newObj_type (wpAny_pure ⟨_, rfl, wpAny_pure h⟩) htake))
end
section
variable {X : Cx}
def tRevT (K : PySem.W.Frag) (te : TE) : TE := fun σ H Q => te σ H fun x H1 => ∃ a xs, x = .ref a ∧ SqT K H1 a xs ∧ ∀ p, H1 p = none → Q (.ref p) (upd H1 p (.tup xs.reverse))
theorem pe_revT {e : Expr} {te : TE} {k : Nat} {p1 p2 p3 pos : Pos} (he : PE X e te) : PE X (.Subscript e (.Slice none none (some (.UnaryOp .USub (.Constant (.int 1) k p1) p2)) p3) pos) (tRevT X.K te) := by
  refine ⟨fun pins s σ H Q I h => ?_⟩
  refine Subscript_ (thn (he.run pins s σ H _ I h) fun v s1 ⟨x, H1, I1, r1, q1⟩ => ?_)
  obtain ⟨a, xs, ex, hx, q⟩ := q1
  subst ex
  cases r1
  have hst : PO X (some (.UnaryOp .USub (.Constant (.int 1) k p1) p2)) (tPart (tUn (rU fun i => .int (-i)) (tC (.int 1)))) := po_some (pe_un un_neg pe_int)
  refine wpAny_Slice (thn (po_none.run pins s1 σ H1 (fun o H2 => o = none ∧ H2 = H1) I1 ⟨rfl, rfl⟩) fun vl s2 ⟨l, H2, I2, pl, el, e2⟩ => ?_)
  subst el e2
  refine thn (po_none.run pins s2 σ H2 (fun o H3 => o = none ∧ H3 = H2) I2 ⟨rfl, rfl⟩) fun vu s3 ⟨u, H3, I3, pu, eu, e3⟩ => ?_
  subst eu e3
  refine thn (hst.run pins s3 σ H3 (fun o H4 => o = some (-1) ∧ H4 = H3) I3 ⟨1, rfl, -1, rfl, rfl, rfl⟩) fun vs s4 ⟨o, H4, I4, ps, eo, e4⟩ => ?_
  subst eo e4
  have I5 : Inv X pins σ H4 { s4 with heap := s4.heap.push { cls := .type "slice", data := .fields #[vl, vu, vs] } } := I4.kept (t' := s4.toks) fun b ob q => Heap.get?_push_of_some _ q
  obtain ⟨its, r, ht, hz⟩ := I5.tuple hx
  have hlen : its.toArray.size = xs.length := by rw [List.size_toArray]; exact r.length.symm
  show wpAny (model X.prog X.w) X.A (subscriptTail e (.Slice none none (some (.UnaryOp .USub (.Constant (.int 1) k p1) p2)) p3) (.ref a) (.ref s4.heap.objs.size)) (EP X pins σ Q) X.xe { s4 with heap := s4.heap.push { cls := .type "slice", data := .fields #[vl, vu, vs] } }
  refine tail_any (ops := [.ref a, .ref s4.heap.objs.size]) ht.typeIs (PyProof.Rows.slot_tuple_getitem.lookup) ?_ (by with_unfolding_all rfl)
  refine getItem_tuple_rev ht (Heap.IsSliceOf.new _ vl vu vs) pl pu ps ?_ (by rw [hlen]; exact hz)
  refine ⟨.ref _, _, I5.laid (t' := s4.toks) (o := .tup xs.reverse) (fun b ob q => Heap.get?_push_of_some _ q) (Nat.le_refl _) ?_, rfl, q _ (I5.hok.fresh (Nat.le_refl _))⟩
  exact ⟨by rw [List.length_reverse]; exact hz, _, r.reverse, IsTup.new _ _⟩
end
end L2

/-! repr(x) of any data -/
namespace Sh
open PySem PySem.Spec PyProof.Rows L2
section
variable {X : Cx}
def rReprD (K : PySem.W.Frag) : List V → Hp → VK → Prop := fun xs H Q => ∃ (v : V) (d : PyData), xs = [v] ∧ Dp K H v d ∧ SeqAt.shaped d = true ∧ d.showable = true ∧ d.shown.length ≤ sizeLine ∧ Q (.str d.shown) H
theorem cr_reprD (gd : X.A.guards = some []) (hu : X.A.units + 66 < cLine) : CallR X (.builtin "repr") (rReprD X.K) := by
  intro pins s σ H xs us Q I r h
  obtain ⟨v, d, rfl, hd, sd, sh, sz, q⟩ := h
  cases hd with
  | non =>
    obtain ⟨u, rfl, r1⟩ := vals1 r
    cases r1
    exact PySem.P.repr_of_none ⟨.str _, H, I.tok _, ⟨_, rfl⟩, q⟩
  | bl b =>
    obtain ⟨u, rfl, r1⟩ := vals1 r
    cases r1
    exact PySem.P.repr_of_bool ⟨.str _, H, I.tok _, ⟨_, rfl⟩, q⟩
  | int i =>
    obtain ⟨u, rfl, t, rfl⟩ := vals1 r
    exact PySem.P.repr_of_int (of_decide_eq_true sh) ⟨.str _, H, I.tok _, ⟨_, rfl⟩, q⟩
  | str x =>
    obtain ⟨u, rfl, t, rfl⟩ := vals1 r
    exact PySem.P.repr_of_str ⟨.str _, H, I.tok _, ⟨_, rfl⟩, q⟩ sz
  | lst h a => exact cr_repr gd hu pins s σ H _ us Q I r ⟨_, _, rfl, .lst h a, sd, sh, sz, q⟩
  | tup h a => exact cr_repr gd hu pins s σ H _ us Q I r ⟨_, _, rfl, .tup h a, sd, sh, sz, q⟩
end
end Sh

namespace Sh
open PySem PySem.Spec PyProof.Rows L2
/-! ### the text by places -/
def topS (i : Nat) : Stmt := PySem.Challenge.pw_shoalmates_k08_bars_shown_or_not.main.body.getD i (.Pass ⟨0, 0, 0, 0⟩)
end Sh

namespace Sh
open PySem PySem.Spec PyProof.Rows L2
/-! ### what is drawn from -/
def BoxOk (xs : List V) (n : Nat) : Prop := ∃ b0 b1 b2 : Int, xs = [.int b0, .int b1, .int b2] ∧ 0 ≤ b0 ∧ 0 ≤ b1 ∧ b1 < 4611686018427387904 ∧ 0 ≤ b2 ∧ b2 + (n : Int) ≤ 1099511627776
def BoxAt (H : Hp) (b : Addr) (n : Nat) : Prop := ∃ xs, H b = some (.lst xs) ∧ BoxOk xs n
theorem BoxOk.mono {xs : List V} {n m : Nat} (h : BoxOk xs n) (l : m ≤ n) : BoxOk xs m := by
  obtain ⟨b0, b1, b2, e, h0, h1, h2, h3, h4⟩ := h
  exact ⟨b0, b1, b2, e, h0, h1, h2, h3, by omega⟩
theorem BoxAt.mono {H : Hp} {b : Addr} {n m : Nat} (h : BoxAt H b n) (l : m ≤ n) : BoxAt H b m := let ⟨xs, e, k⟩ := h; ⟨xs, e, k.mono l⟩
theorem BoxAt.same {H H' : Hp} {b : Addr} {n : Nat} (h : BoxAt H b n) (s : Same H H') : BoxAt H' b n := let ⟨xs, e, k⟩ := h; ⟨xs, s _ _ e, k⟩
theorem BoxAt.some {H : Hp} {b : Addr} {n : Nat} (h : BoxAt H b n) : H b ≠ none := fun z => by
  obtain ⟨xs, e, _⟩ := h
  rw [e] at z
  cases z
/-- a new place is not the box -/
theorem BoxAt.ne {H : Hp} {b p : Addr} {n : Nat} (h : BoxAt H b n) (z : H p = none) : b ≠ p := let ⟨_, e, _⟩ := h; ne_of_none e z
def spTake : Sp := fun vs H Q _ => ∃ (b : Addr) (n : Nat) (span : Int), vs = [.ref b, .int span] ∧ 0 < span ∧ span < 1152921504606846976 ∧ BoxAt H b (n + 1) ∧ ∀ (v : Int) (xs : List V), 0 ≤ v → v < span → BoxOk xs n → Q (.int v) (upd H b (.lst xs))
abbrev s__law_take : Stmt := topS 43
theorem sc__law_take : FnScope (["_law_box_here", "_law_span", "_law_found", "_law_once", "_law_twice"] : List Str) (["_law_box_here", "_law_span"] : List Str) (defScope s__law_take) := ⟨rfl, rfl, rfl, by decide +kernel, rfl, by decide +kernel, by decide +kernel⟩
theorem b__law_take (kV doc pm : Value) (an : Option Addr) (cdv ct : Value) (us : List Value) (hl : us.length = (["_law_box_here", "_law_span"] : List Str).length) : bindArgs (PySem.W.fnOf "_law_take" "_law_take" (defArgs s__law_take) (defBody s__law_take) (defScope s__law_take) .none kV doc pm an cdv ct) ⟨us, []⟩ = pure ((["_law_box_here", "_law_span"] : List Str).zip us) :=
  match us, hl with | [_, _], _ => rfl
section
variable {P : Program} {w : World} {K : PySem.W.Frag} {mg : Str → Option Value} {base : Heap}
theorem ok_take {k : Nat} (D : Df K mg "_law_take" s__law_take) (T : Bt mg) : Ok P w K mg base (k + 1) "_law_take" s__law_take ["_law_box_here", "_law_span"] spTake := by
  refine D.ok sc__law_take b__law_take (fun vs H Q E h => ?_) (fun f cdv A outer s H vs Q E hr h => ?_)
  · obtain ⟨b, n, span, rfl, _⟩ := h
    rfl
  · obtain ⟨b, n, span, rfl, s0, s1, ⟨xs, hb, b0, b1, b2, rfl, h0, h1, h1', h2, h3⟩, q⟩ := h
    refine ⟨_, (pss_cons (ps_if (pt_cmpR op_gt (pe_ix ix_lt (pv 0) pe_int (fun _ _ => rfl)) pe_int (nomark _))
        (pss_cons (ps_set (i := 2) sc__law_take.nd rfl (.inl rfl) (pe_op op_mod (pe_ix ix_lt (pv 0) pe_int (fun _ _ => rfl)) (pv 1)))
          (pss_cons (ps_asg (pe_op op_fdivW (pe_ix ix_lt (pv 0) pe_int (fun _ _ => rfl)) (pv 1)) (pg_sub (pv 0) pe_int set_list))
          (pss_one (ps_ret (pv 2)))))
        pss_nil)
      (pss_cons (ps_asg (pe_op op_add (pe_ix ix_lt (pv 0) pe_int (fun _ _ => rfl)) pe_int) (pg_sub (pv 0) pe_int set_list))
      (pss_cons (ps_set (i := 3) sc__law_take.nd rfl (.inl rfl) (pe_op op_mod (pe_op op_mul (pe_op op_add (pe_ix ix_lt (pv 0) pe_int (fun _ _ => rfl)) (pe_op op_mul pe_int (pe_ix ix_lt (pv 0) pe_int (fun _ _ => rfl)))) (pe_op op_add pe_int (pe_ix ix_lt (pv 0) pe_int (fun _ _ => rfl)))) pe_int))
      (pss_cons (ps_set (i := 4) sc__law_take.nd rfl (.inl rfl) (pe_op op_mod (pe_op op_mul (pe_op op_add (pe_op op_add (pv 3) (pe_ix ix_lt (pv 0) pe_int (fun _ _ => rfl))) (pe_op op_fdiv (pe_ix ix_lt (pv 0) pe_int (fun _ _ => rfl)) pe_int)) (pe_op op_add (pe_op op_mod (pv 3) pe_int) pe_int)) pe_int))
      (pss_one (ps_ret (pe_op op_mod (pe_op op_fdiv (pe_op op_mod (pe_op op_add (pe_op op_mul (pv 4) pe_int) (pv 3)) pe_int) pe_int) (pv 1)))))))), ?_⟩
    have hq : SqA K H b [.int b0, .int b1, .int b2] := SqA.l hb
    refine ⟨_, rfl, b, _, 0, .int b0, rfl, rfl, hq, rfl, b0, 0, rfl, rfl, _, rfl, ite2 (fun c => ?_) (fun c => ?_)⟩
    · have c0 : 0 < b0 := of_decide_eq_true c
      refine ⟨_, rfl, b, _, 0, .int b0, rfl, rfl, hq, rfl, _, rfl, b0, span, rfl, rfl, s0, ?_⟩
      refine ⟨_, rfl, b, _, 0, .int b0, rfl, rfl, hq, rfl, _, rfl, b0, span, rfl, rfl, wide_div (b := 60) s0 (show span.natAbs < 1152921504606846976 by omega) (by decide) (by decide), ?_⟩
      refine ⟨_, rfl, b, _, 0, 0, rfl, rfl, hb, rfl, ?_⟩
      refine ⟨_, rfl, ?_⟩
      exact q _ _ (Int.emod_nonneg _ (by omega)) (Int.emod_lt_of_pos _ s0) ⟨b0 / span, b1, b2, rfl, Int.ediv_nonneg h0 (by omega), h1, h1', h2, by omega⟩
    · refine ⟨_, rfl, b, _, 2, .int b2, rfl, rfl, hq, rfl, b2, 1, rfl, rfl, ?_⟩
      refine ⟨_, rfl, b, _, 2, 2, rfl, rfl, hb, rfl, ?_⟩
      have hq2 : SqA K (upd H b (.lst [.int b0, .int b1, .int (b2 + 1)])) b [.int b0, .int b1, .int (b2 + 1)] := SqA.l upd_same
      have m1 : 0 ≤ (b1 + 48271 * (b2 + 1)) * (39373 + (b2 + 1)) % 2147483647 := Int.emod_nonneg _ (by decide)
      have m2 : (b1 + 48271 * (b2 + 1)) * (39373 + (b2 + 1)) % 2147483647 < 2147483647 := Int.emod_lt_of_pos _ (by decide)
      refine ⟨_, rfl, b, _, 1, .int b1, rfl, rfl, hq2, rfl, _, rfl, b, _, 2, .int (b2 + 1), rfl, rfl, hq2, rfl, 48271, b2 + 1, rfl, rfl, .inl ⟨by decide, by decide⟩, b1, _, rfl, rfl, ?_⟩
      refine ⟨_, rfl, b, _, 2, .int (b2 + 1), rfl, rfl, hq2, rfl, 39373, b2 + 1, rfl, rfl, _, _, rfl, rfl, .inr ⟨by omega, by omega⟩, _, 2147483647, rfl, rfl, (show (0 : Int) < 2147483647 by decide), ?_⟩
      dsimp only
      generalize (b1 + 48271 * (b2 + 1)) * (39373 + (b2 + 1)) % 2147483647 = once at m1 m2
      have o1 : 0 ≤ once % 40009 := Int.emod_nonneg _ (by decide)
      have o2 : once % 40009 < 40009 := Int.emod_lt_of_pos _ (by decide)
      refine ⟨_, rfl, _, rfl, b, _, 2, .int (b2 + 1), rfl, rfl, hq2, rfl, once, b2 + 1, rfl, rfl, _, rfl, b, _, 1, .int b1, rfl, rfl, hq2, rfl, b1, 1000003, rfl, rfl, ⟨by decide, by decide⟩, _, _, rfl, rfl, ?_⟩
      refine ⟨_, rfl, once, 40009, rfl, rfl, (show (0 : Int) < 40009 by decide), _, 7, rfl, rfl, _, _, rfl, rfl, .inr ⟨by omega, by omega⟩, _, 2147483629, rfl, rfl, (show (0 : Int) < 2147483629 by decide), ?_⟩
      dsimp only
      have t1 : 0 ≤ (once + (b2 + 1) + b1 / 1000003) * (once % 40009 + 7) % 2147483629 := Int.emod_nonneg _ (by decide)
      have t2 : (once + (b2 + 1) + b1 / 1000003) * (once % 40009 + 7) % 2147483629 < 2147483629 := Int.emod_lt_of_pos _ (by decide)
      generalize (once + (b2 + 1) + b1 / 1000003) * (once % 40009 + 7) % 2147483629 = twice at t1 t2
      refine ⟨_, rfl, twice, 48271, rfl, rfl, .inl ⟨by omega, by omega⟩, _, rfl, _, once, rfl, rfl, _, 2147483587, rfl, rfl, (show (0 : Int) < 2147483587 by decide), _, 64, rfl, rfl, ⟨by decide, by decide⟩, _, rfl, _, span, rfl, rfl, s0, ?_⟩
      exact q _ _ (Int.emod_nonneg _ (by omega)) (Int.emod_lt_of_pos _ s0) ⟨b0, b1, b2 + 1, rfl, h0, h1, h1', by omega, by omega⟩
end
end Sh

namespace Sh
open PySem PySem.Spec PyProof.Rows L2
theorem SqA.at {K : PySem.W.Frag} {H : Hp} {b l : Addr} {o : HO} {xs : List V} (n : l ≠ b) (h : SqA K H l xs) : SqA K (upd H b o) l xs := by
  rcases h with ((h | ⟨z, h⟩) | h) | ((h | ⟨z, h⟩) | h)
  · exact .inl (.inl (.inl (by rw [upd_ne n]; exact h)))
  · exact .inl (.inl (.inr ⟨z, by rw [upd_ne n]; exact h⟩))
  · exact .inl (.inr h)
  · exact .inr (.inl (.inl (by rw [upd_ne n]; exact h)))
  · exact .inr (.inl (.inr ⟨z, by rw [upd_ne n]; exact h⟩))
  · exact .inr (.inr h)
theorem at_nat {xs : List V} {i : Int} {j : Nat} {v : V} (e : i = (j : Int)) (h : xs[j]? = some v) : atI xs i = some v := L2.at_of e h
theorem b01 (c : Bool) : (0 : Int) ≤ if c = true then 1 else 0 := by cases c <;> decide
theorem b01' (c : Bool) : (-(2 ^ 64) : Int) < (if c = true then 1 else 0) ∧ (if c = true then 1 else 0) < (2 ^ 64 : Int) := by cases c <;> decide
/-- a cell of the script: some int -/
def spCellAt (K : PySem.W.Frag) : Sp := fun vs H Q _ => ∃ (l : Addr) (ns : List Int) (j : Nat), vs = [.ref l, .int (j : Int)] ∧ SqL K H l (ns.map V.int) ∧ ∀ z : Int, Q (.int z) H
abbrev s__law_cell_at : Stmt := topS 41
theorem sc__law_cell_at : FnScope (["_law_script", "_law_k"] : List Str) (["_law_script", "_law_k"] : List Str) (defScope s__law_cell_at) := ⟨rfl, rfl, rfl, by decide +kernel, rfl, by decide +kernel, by decide +kernel⟩
theorem b__law_cell_at (kV doc pm : Value) (an : Option Addr) (cdv ct : Value) (us : List Value) (hl : us.length = (["_law_script", "_law_k"] : List Str).length) : bindArgs (PySem.W.fnOf "_law_cell_at" "_law_cell_at" (defArgs s__law_cell_at) (defBody s__law_cell_at) (defScope s__law_cell_at) .none kV doc pm an cdv ct) ⟨us, []⟩ = pure ((["_law_script", "_law_k"] : List Str).zip us) :=
  match us, hl with | [_, _], _ => rfl
def spBox (K : PySem.W.Frag) : Sp := fun vs H Q _ => ∃ (l : Addr) (ns : List Int) (j : Nat), vs = [.ref l, .int (j : Int)] ∧ j ≤ 100 ∧ SqL K H l (ns.map V.int) ∧ ∀ (p : Addr) (xs : List V), H p = none → BoxOk xs 549755813888 → Q (.ref p) (upd H p (.lst xs))
abbrev s__law_box : Stmt := topS 42
theorem sc__law_box : FnScope (["_law_script", "_law_k", "_law_core"] : List Str) (["_law_script", "_law_k"] : List Str) (defScope s__law_box) := ⟨rfl, rfl, rfl, by decide +kernel, rfl, by decide +kernel, by decide +kernel⟩
theorem b__law_box (kV doc pm : Value) (an : Option Addr) (cdv ct : Value) (us : List Value) (hl : us.length = (["_law_script", "_law_k"] : List Str).length) : bindArgs (PySem.W.fnOf "_law_box" "_law_box" (defArgs s__law_box) (defBody s__law_box) (defScope s__law_box) .none kV doc pm an cdv ct) ⟨us, []⟩ = pure ((["_law_script", "_law_k"] : List Str).zip us) :=
  match us, hl with | [_, _], _ => rfl
section
variable {P : Program} {w : World} {K : PySem.W.Frag} {mg : Str → Option Value} {base : Heap}
theorem ok_cell_at {k : Nat} (D : Df K mg "_law_cell_at" s__law_cell_at) (T : Bt mg) : Ok P w K mg base (k + 1) "_law_cell_at" s__law_cell_at ["_law_script", "_law_k"] (spCellAt K) := by
  refine D.ok sc__law_cell_at b__law_cell_at (fun vs H Q E h => ?_) (fun f cdv A outer s H vs Q E hr h => ?_)
  · obtain ⟨l, ns, j, rfl, _⟩ := h
    rfl
  · obtain ⟨l, ns, j, rfl, hs, q⟩ := h
    refine ⟨_, (pss_cons (ps_if (pt_cmpR op_lt (pv 1) (pe_callB call_len_seq (by rfl) T.len_ PySem.boot_len (pa_cons (pv 0) pa_nil)) (nomark _))
        (pss_one (ps_ret (pe_ix ix_lt (pv 0) (pv 1) (fun _ _ => rfl))))
        pss_nil)
      (pss_one (ps_ret pe_int))), ?_⟩
    refine ⟨_, rfl, _, rfl, l, _, rfl, .inl hs, _, _, rfl, rfl, _, rfl, ite2 (fun c => ?_) (fun c => ?_)⟩
    · have c0 : (j : Int) < ((ns.map V.int).length : Int) := of_decide_eq_true c
      rw [List.length_map] at c0
      have c1 : j < ns.length := by omega
      refine ⟨_, rfl, _, rfl, l, _, _, .int ns[j], rfl, rfl, .inl hs, at_nat rfl (by simp [c1]), q _⟩
    · exact q 0
theorem ok_box {k : Nat} (D : Df K mg "_law_box" s__law_box) (T : Bt mg) (O__law_cell_at : Ok P w K mg base k "_law_cell_at" s__law_cell_at ["_law_script", "_law_k"] (spCellAt K)) : Ok P w K mg base (k + 1) "_law_box" s__law_box ["_law_script", "_law_k"] (spBox K) := by
  refine D.ok sc__law_box b__law_box (fun vs H Q E h => ?_) (fun f cdv A outer s H vs Q E hr h => ?_)
  · obtain ⟨l, ns, j, rfl, _⟩ := h
    rfl
  · obtain ⟨l, ns, j, rfl, hj, hs, q⟩ := h
    refine ⟨_, (pss_cons (ps_set (i := 2) sc__law_box.nd rfl (.inl rfl) (pe_fn O__law_cell_at (hr.mono (by omega)) (pa_cons (pv 0) (pa_cons (pv 1) pa_nil))))
      (pss_one (ps_ret (pe_lst (pa_cons (pe_op op_mul (pe_callB call_abs (by rfl) T.abs_ (by decide +kernel) (pa_cons (pv 2) pa_nil)) (pe_callTy call_int1 (by rfl) T.int_ (by decide +kernel) (pa_cons (pe_cmpR op_ge (pe_callB call_abs (by rfl) T.abs_ (by decide +kernel) (pa_cons (pv 2) pa_nil)) (pe_op (op_powC 1000000000000000000) pe_int pe_int) (nomark _)) pa_nil))) (pa_cons (pe_op op_add (pe_op op_add (pe_op op_mod (pv 2) pe_int) (pe_op op_mul pe_int (pv 1))) pe_int) (pa_cons pe_int pa_nil))))))), ?_⟩
    refine ⟨_, rfl, _, rfl, l, ns, j, rfl, hs, fun z => ?_⟩
    have z1 : 0 ≤ z % 2305843009213693951 := Int.emod_nonneg _ (by decide)
    have z2 : z % 2305843009213693951 < 2305843009213693951 := Int.emod_lt_of_pos _ (by decide)
    have za : 0 ≤ (if z < 0 then -z else z) := by split <;> omega
    refine ⟨_, rfl, z, rfl, _, rfl, z, rfl, 10, 18, rfl, rfl, ⟨⟨by decide, by decide, by decide⟩, by decide⟩, _, _, rfl, rfl, .inr ⟨_, rfl, ?_⟩⟩
    refine ⟨_, _, rfl, rfl, .inr (b01' _), ?_⟩
    refine ⟨_, rfl, z, _, rfl, rfl, (show (0 : Int) < 2305843009213693951 by decide), _, rfl, 39373, (j : Int), rfl, rfl, .inl ⟨by decide, by decide⟩, _, _, rfl, rfl, _, 17, rfl, rfl, ?_⟩
    refine ⟨(by show 3 ≤ sizeLine; decide), fun p np => ?_⟩
    refine q p _ np ⟨_, _, 0, rfl, ?_, by omega, by omega, by omega, by omega⟩
    exact Int.mul_nonneg za (b01 _)
end
/-! ### one of some -/
def spOf (K : PySem.W.Frag) : Sp := fun vs H Q _ => ∃ (b l : Addr) (n : Nat) (xs : List V), vs = [.ref b, .ref l] ∧ SqA K H l xs ∧ l ≠ b ∧ 0 < xs.length ∧ xs.length < 1000000 ∧ BoxAt H b (n + 1) ∧ ∀ (v : V) (ys : List V), v ∈ xs → BoxOk ys n → Q v (upd H b (.lst ys))
abbrev s__law_of : Stmt := topS 44
theorem sc__law_of : FnScope (["_law_box_here", "_law_some"] : List Str) (["_law_box_here", "_law_some"] : List Str) (defScope s__law_of) := ⟨rfl, rfl, rfl, by decide +kernel, rfl, by decide +kernel, by decide +kernel⟩
theorem b__law_of (kV doc pm : Value) (an : Option Addr) (cdv ct : Value) (us : List Value) (hl : us.length = (["_law_box_here", "_law_some"] : List Str).length) : bindArgs (PySem.W.fnOf "_law_of" "_law_of" (defArgs s__law_of) (defBody s__law_of) (defScope s__law_of) .none kV doc pm an cdv ct) ⟨us, []⟩ = pure ((["_law_box_here", "_law_some"] : List Str).zip us) :=
  match us, hl with | [_, _], _ => rfl
section
variable {P : Program} {w : World} {K : PySem.W.Frag} {mg : Str → Option Value} {base : Heap}
theorem ok_of {k : Nat} (D : Df K mg "_law_of" s__law_of) (T : Bt mg) (O__law_take : Ok P w K mg base k "_law_take" s__law_take ["_law_box_here", "_law_span"] spTake) : Ok P w K mg base (k + 1) "_law_of" s__law_of ["_law_box_here", "_law_some"] (spOf K) := by
  refine D.ok sc__law_of b__law_of (fun vs H Q E h => ?_) (fun f cdv A outer s H vs Q E hr h => ?_)
  · obtain ⟨b, l, n, xs, rfl, _⟩ := h
    rfl
  · obtain ⟨b, l, n, xs, rfl, hl, hne, l0, l1, hb, q⟩ := h
    refine ⟨_, (pss_one (ps_ret (pe_ix ix_lt (pv 1) (pe_fn O__law_take (hr.mono (by omega)) (pa_cons (pv 0) (pa_cons (pe_callB call_len_seq (by rfl) T.len_ PySem.boot_len (pa_cons (pv 1) pa_nil)) pa_nil))) (fun _ _ => rfl)))), ?_⟩
    refine ⟨_, rfl, _, rfl, _, rfl, l, xs, rfl, hl, b, n, _, rfl, by omega, by omega, hb, fun v ys v0 v1 hy => ?_⟩
    have hi : v.toNat < xs.length := by omega
    refine ⟨l, xs, v, xs[v.toNat], rfl, rfl, SqA.at hne hl, at_nat (j := v.toNat) (by omega) (by simp [hi]), ?_⟩
    exact q _ _ (List.getElem_mem hi) hy
end
end Sh

namespace Sh
open PySem PySem.Spec PyProof.Rows L2
/-! ### what is told is what is due -/
def tyS : PyData → String
  | .none => "NoneType" | .bool _ => "bool" | .int _ => "int" | .str _ => "str" | .list _ => "list" | .tuple _ => "tuple" | .dict _ => "dict"
/-- at most so deep, no longer than a hundred thousand -/
def Lv : Nat → PyData → Prop
  | 0, _ => False
  | _ + 1, .none => True
  | _ + 1, .bool _ => True
  | _ + 1, .int _ => True
  | _ + 1, .str _ => True
  | n + 1, .list ds => ds.length ≤ 100000 ∧ ∀ e ∈ ds, Lv n e
  | n + 1, .tuple ds => ds.length ≤ 100000 ∧ ∀ e ∈ ds, Lv n e
  | _ + 1, .dict _ => False
theorem lv_ints {n : Nat} (ns : List Int) (h : ns.length ≤ 100000) : Lv (n + 2) (.list (ns.map .int)) := ⟨by rw [List.length_map]; exact h, fun e he => by
  obtain ⟨i, _, rfl⟩ := List.mem_map.mp he
  exact trivial⟩
theorem lv_intsT {n : Nat} (ns : List Int) (h : ns.length ≤ 100000) : Lv (n + 2) (.tuple (ns.map .int)) := ⟨by rw [List.length_map]; exact h, fun e he => by
  obtain ⟨i, _, rfl⟩ := List.mem_map.mp he
  exact trivial⟩
section
variable {K : PySem.W.Frag} {H : Hp}
theorem ty_list {a : Addr} {xs : List V} (h : SqL K H a xs) : TyX K H (.ref a) (.type "list") := by
  rcases h with (h | ⟨o, h⟩) | ⟨o, its, n, h, c, _⟩
  · exact .base (.lst h)
  · exact .base (.frz h)
  · exact .kList h c
theorem ty_tup {a : Addr} {xs : List V} (h : SqT K H a xs) : TyX K H (.ref a) (.type "tuple") := by
  rcases h with (h | ⟨o, h⟩) | ⟨o, its, n, h, c, _⟩
  · exact .base (.tup h)
  · exact .fTuple h
  · exact .kTuple h c
theorem ty_of {v : V} {d : PyData} (h : Dp K H v d) : TyX K H v (.type (tyS d)) := by
  cases h with
  | non => exact .base .non
  | bl b => exact .base (.bl b)
  | int i => exact .base (.int i)
  | str x => exact .base (.str x)
  | lst h _ => exact ty_list h
  | tup h _ => exact ty_tup h
theorem kit2 {t a b : String} {r1 r2 r : Bool} (h1 : kitB t a = some r1) (h2 : kitB t b = some r2) (hr : (r1 || r2) = r) : PySem.W.kitAny K (.type t) [.type a, .type b] = some r := by
  refine kitAny_cons (b := r1) (kit_ty h1) (fun e => ?_) (fun e => ?_)
  · refine kitAny_cons (b := r2) (kit_ty h2) (fun e2 => ?_) (fun e2 => ?_)
    · rw [← hr, e, e2]
      exact kitAny_nil
    · rw [← hr, e, e2]
      all_goals rfl
  · rw [← hr, e]
    all_goals rfl
end
def spSame (K : PySem.W.Frag) (n : Nat) : Sp := fun vs H Q _ => ∃ (x y : V) (d : PyData), vs = [x, y] ∧ Dp K H x d ∧ Dp K H y d ∧ Lv n d ∧ ∀ H', Same H H' → Q (.bl true) H'
abbrev s__law_same : Stmt := topS 45
theorem sc__law_same : FnScope (["_law_found", "_law_due_here", "_law_a", "_law_b"] : List Str) (["_law_found", "_law_due_here"] : List Str) (defScope s__law_same) := ⟨rfl, rfl, rfl, by decide +kernel, rfl, by decide +kernel, by decide +kernel⟩
theorem b__law_same (kV doc pm : Value) (an : Option Addr) (cdv ct : Value) (us : List Value) (hl : us.length = (["_law_found", "_law_due_here"] : List Str).length) : bindArgs (PySem.W.fnOf "_law_same" "_law_same" (defArgs s__law_same) (defBody s__law_same) (defScope s__law_same) .none kV doc pm an cdv ct) ⟨us, []⟩ = pure ((["_law_found", "_law_due_here"] : List Str).zip us) :=
  match us, hl with | [_, _], _ => rfl
section
variable {P : Program} {w : World} {K : PySem.W.Frag} {mg : Str → Option Value} {base : Heap}
theorem same0 (D : Df K mg "_law_same" s__law_same) : Ok P w K mg base 0 "_law_same" s__law_same ["_law_found", "_law_due_here"] (spSame K 0) := by
  obtain ⟨f, fd, F, g⟩ := D.ex
  refine ⟨f, fd, F, g, F.binds b__law_same, ⟨fun vs H Q E h => ?_, fun A outer s H args us vs Q E hr he hb hv h => ?_⟩⟩
  · obtain ⟨x, y, d, _, _, _, lv, _⟩ := h
    cases d <;> exact lv.elim
  · obtain ⟨x, y, d, _, _, _, lv, _⟩ := h
    cases d <;> exact lv.elim
set_option maxHeartbeats 4000000 in
theorem same1 {m : Nat} (D : Df K mg "_law_same" s__law_same) (T : Bt mg) (O__law_same : Ok P w K mg base m "_law_same" s__law_same ["_law_found", "_law_due_here"] (spSame K m)) : Ok P w K mg base (m + 1) "_law_same" s__law_same ["_law_found", "_law_due_here"] (spSame K (m + 1)) := by
  refine D.ok sc__law_same b__law_same (fun vs H Q E h => ?_) (fun f cdv A outer s H vs Q E hr h => ?_)
  · obtain ⟨x, y, d, rfl, _⟩ := h
    rfl
  · obtain ⟨x, y, d, rfl, hx, hy, lv, q⟩ := h
    refine ⟨_, (pss_cons (ps_if (pt_val (pe_callB call_isiT (by rfl) T.isinstance_ (by decide +kernel) (pa_cons (pv 1) (pa_cons (pe_tup (pa_cons (pe_bltn (v := .ty "list") (by rfl) T.list_ (by decide +kernel) rfl) (pa_cons (pe_bltn (v := .ty "tuple") (by rfl) T.tuple_ (by decide +kernel) rfl) pa_nil))) pa_nil))))
        (pss_cons (ps_if (PW.pt (pw_or (pt_cmpR op_ne (pe_callB call_isi (by rfl) T.isinstance_ (by decide +kernel) (pa_cons (pv 0) (pa_cons (pe_bltn (v := .ty "list") (by rfl) T.list_ (by decide +kernel) rfl) pa_nil))) (pe_callB call_isi (by rfl) T.isinstance_ (by decide +kernel) (pa_cons (pv 1) (pa_cons (pe_bltn (v := .ty "list") (by rfl) T.list_ (by decide +kernel) rfl) pa_nil))) (nomark _)) (pw_or1 (pt_cmpR op_ne (pe_callB call_isi (by rfl) T.isinstance_ (by decide +kernel) (pa_cons (pv 0) (pa_cons (pe_bltn (v := .ty "tuple") (by rfl) T.tuple_ (by decide +kernel) rfl) pa_nil))) (pe_callB call_isi (by rfl) T.isinstance_ (by decide +kernel) (pa_cons (pv 1) (pa_cons (pe_bltn (v := .ty "tuple") (by rfl) T.tuple_ (by decide +kernel) rfl) pa_nil))) (nomark _)))))
            (pss_one (ps_ret pe_bl))
            pss_nil)
          (pss_one (ps_ret (pe_and (pe_cmpR op_eq (pe_callB call_len_seq (by rfl) T.len_ PySem.boot_len (pa_cons (pv 0) pa_nil)) (pe_callB call_len_seq (by rfl) T.len_ PySem.boot_len (pa_cons (pv 1) pa_nil)) (nomark _)) (pe_one (pe_callB (cr_all rfl) (by rfl) T.all_ (by decide +kernel) (pa_cons (pe_lc (own := [("_law_a", 2), ("_law_b", 3)]) (g := (gSeq K 2 (gCons (gName 2) (gCons (gName 3) gNil)))) (tt := tYes) (by rfl) sc__law_same.nd (RZ.pi_zipA (by rfl) T.zip_ (pa_cons (pv 0) (pa_cons (pv 1) pa_nil))) (blkOk_by (own := [("_law_a", 2), ("_law_b", 3)]) (N := (["_law_found", "_law_due_here", "_law_a", "_law_b"] : List Str)) (sc := defScope s__law_same) (by decide +kernel)) (fun _ _ _ _ _ => (pg_seq rfl (pgs_cons (pg_name (i := 2) sc__law_same.nd rfl (.inl rfl)) (pgs_cons (pg_name (i := 3) sc__law_same.nd rfl (.inl rfl)) pgs_nil)))) (fun _ _ _ _ _ => pts_nil) (fun _ _ _ _ _ => (pe_fn O__law_same (hr.mono (by omega)) (pa_cons (pv 2) (pa_cons (pv 3) pa_nil))))) pa_nil)))))))
        pss_nil)
      (pss_cons (ps_if (PW.pt (pw_or (pt_cmpR op_isN (pv 1) pe_non (nomark _)) (pw_or1 (pt_val (pe_callB call_isiT (by rfl) T.isinstance_ (by decide +kernel) (pa_cons (pv 1) (pa_cons (pe_tup (pa_cons (pe_bltn (v := .ty "bool") (by rfl) T.bool_ (by decide +kernel) rfl) (pa_cons (pe_bltn (v := .ty "str") (by rfl) T.str_ (by decide +kernel) rfl) pa_nil))) pa_nil)))))))
        (pss_one (ps_ret (pe_and (pe_cmpR op_eq (pv 0) (pv 1) (nomark _)) (pe_and (pe_cmpR op_eq (pe_callB call_isi (by rfl) T.isinstance_ (by decide +kernel) (pa_cons (pv 0) (pa_cons (pe_bltn (v := .ty "bool") (by rfl) T.bool_ (by decide +kernel) rfl) pa_nil))) (pe_callB call_isi (by rfl) T.isinstance_ (by decide +kernel) (pa_cons (pv 1) (pa_cons (pe_bltn (v := .ty "bool") (by rfl) T.bool_ (by decide +kernel) rfl) pa_nil))) (nomark _)) (pe_one (pe_cmpR op_eq (pe_cmpR op_isN (pv 0) pe_non (nomark _)) (pe_cmpR op_isN (pv 1) pe_non (nomark _)) (nomark _)))))))
        pss_nil)
      (pss_one (ps_ret (pe_and (pe_callB call_isi (by rfl) T.isinstance_ (by decide +kernel) (pa_cons (pv 0) (pa_cons (pe_bltn (v := .ty "int") (by rfl) T.int_ (by decide +kernel) rfl) pa_nil))) (pe_and (pe_not (pe_callB call_isi (by rfl) T.isinstance_ (by decide +kernel) (pa_cons (pv 0) (pa_cons (pe_bltn (v := .ty "bool") (by rfl) T.bool_ (by decide +kernel) rfl) pa_nil)))) (pe_one (pe_cmpR op_eq (pv 0) (pv 1) (nomark _))))))))), ?_⟩
    refine ⟨_, rfl, (by show 2 ≤ sizeLine; decide), fun tp ntp => ?_⟩
    have s1 : Same H (upd H tp (.tup [.ty "list", .ty "tuple"])) := same_new ntp
    generalize eH1 : upd H tp (.tup [.ty "list", .ty "tuple"]) = H1 at s1
    have htp : H1 tp = some (.tup [.ty "list", .ty "tuple"]) := by rw [← eH1, upd_same]
    clear eH1 ntp
    cases d with
    | dict kvs => exact lv.elim
    | list ds =>
      obtain ⟨a, xs, hsx, hax⟩ : ∃ a xs, SqL K H1 a xs ∧ DpAll K H1 xs ds ∧ x = .ref a := by cases hx with | lst h a => exact ⟨_, _, s1.seq h, DpAll.same s1 a, rfl⟩
      obtain ⟨b, ys, hsy, hay⟩ : ∃ a xs, SqL K H1 a xs ∧ DpAll K H1 xs ds ∧ y = .ref a := by cases hy with | lst h a => exact ⟨_, _, s1.seq h, DpAll.same s1 a, rfl⟩
      obtain ⟨hax, rfl⟩ := hax
      obtain ⟨hay, rfl⟩ := hay
      have lx : xs.length = ds.length := DpAll.len hax
      have ly : ys.length = ds.length := DpAll.len hay
      refine ⟨.ref b, tp, [.ty "list", .ty "tuple"], .type "list", [.type "list", .type "tuple"], true, rfl, htp, .cons (.ty _) (.cons (.ty _) .nil), ty_list hsy, kit2 (r1 := true) (r2 := false) (by decide +kernel) (by decide +kernel) rfl, _, rfl, iteT ?_⟩
      refine ⟨_, rfl, .ref a, .ty "list", .type "list", .type "list", true, rfl, .ty _, ty_list hsx, kit_ty (by decide +kernel), _, rfl, .ref b, .ty "list", .type "list", .type "list", true, rfl, .ty _, ty_list hsy, kit_ty (by decide +kernel), rfl, _, rfl, iteNS rfl ?_⟩
      refine ⟨_, rfl, .ref a, .ty "tuple", .type "list", .type "tuple", false, rfl, .ty _, ty_list hsx, kit_ty (by decide +kernel), _, rfl, .ref b, .ty "tuple", .type "list", .type "tuple", false, rfl, .ty _, ty_list hsy, kit_ty (by decide +kernel), rfl, _, rfl, iteNS rfl ?_⟩
      refine ⟨_, rfl, a, xs, rfl, .inl hsx, _, rfl, b, ys, rfl, .inl hsy, rfl, _, rfl, ?_⟩
      rw [if_pos (decide_eq_true (by rw [lx, ly]))]
      refine ⟨_, rfl, _, rfl, a, b, xs, ys, rfl, .inl ⟨hsx, hsy, fun C nC => ?_⟩⟩
      refine lc_it (walk_zip (n := ds.length) (by rw [lx, ly]; exact (Nat.min_self _).symm)) (fun i H' => Same H1 H' ∧ H' C = some (.lst ((List.replicate i true).map V.bl))) ⟨same_new nC, upd_same⟩ (fun i H' _ p => ⟨p.1.seq hsx, p.1.seq hsy⟩) ?_ ?_
      · rintro i z H2 H3 hi ⟨sm, hC⟩ ⟨t, u, v, rfl, nt, rfl, gu, gv⟩
        have sm2 : Same H1 (upd H2 t (.tup [u, v])) := sm.trans (same_new nt)
        obtain ⟨e, ge, he⟩ := DpAll.get (DpAll.same sm2 hax) gu
        obtain ⟨e', ge', he'⟩ := DpAll.get (DpAll.same sm2 hay) gv
        obtain rfl : e = e' := Option.some.inj (ge.symm.trans ge')
        refine ⟨t, [u, v], rfl, SqA.t upd_same, rfl, u, [v], rfl, v, [], rfl, rfl, rfl, tyes (iteT ?_)⟩
        refine ⟨_, rfl, _, rfl, u, v, e, rfl, he, he', lv.2 e (List.mem_of_getElem? ge), fun H4 s4 => ?_⟩
        refine ⟨_, s4 _ _ (by rw [upd_ne (ne_of_none hC nt)]; exact hC), ?_, fun p o ho => ?_, ?_⟩
        · have h1 := lv.1
          rw [List.length_map, List.length_replicate]
          exact Nat.lt_of_lt_of_le hi (Nat.le_trans h1 (by decide))
        · have np : p ≠ C := ne_of_none ho nC
          rw [upd_ne np]
          exact s4 _ _ (sm2 _ _ ho)
        · rw [upd_same, List.replicate_succ', List.map_append]
          rfl
      · rintro H2 ⟨sm, hC⟩
        refine ⟨C, _, rfl, SqL.of hC, ?_⟩
        have e : (List.replicate ds.length true).all id = true := by simp
        rw [e]
        exact q _ (s1.trans sm)
    | tuple ds =>
      obtain ⟨a, xs, hsx, hax⟩ : ∃ a xs, SqT K H1 a xs ∧ DpAll K H1 xs ds ∧ x = .ref a := by cases hx with | tup h a => exact ⟨_, _, Same.tup s1 h, DpAll.same s1 a, rfl⟩
      obtain ⟨b, ys, hsy, hay⟩ : ∃ a xs, SqT K H1 a xs ∧ DpAll K H1 xs ds ∧ y = .ref a := by cases hy with | tup h a => exact ⟨_, _, Same.tup s1 h, DpAll.same s1 a, rfl⟩
      obtain ⟨hax, rfl⟩ := hax
      obtain ⟨hay, rfl⟩ := hay
      have lx : xs.length = ds.length := DpAll.len hax
      have ly : ys.length = ds.length := DpAll.len hay
      refine ⟨.ref b, tp, [.ty "list", .ty "tuple"], .type "tuple", [.type "list", .type "tuple"], true, rfl, htp, .cons (.ty _) (.cons (.ty _) .nil), ty_tup hsy, kit2 (r1 := false) (r2 := true) (by decide +kernel) (by decide +kernel) rfl, _, rfl, iteT ?_⟩
      refine ⟨_, rfl, .ref a, .ty "list", .type "tuple", .type "list", false, rfl, .ty _, ty_tup hsx, kit_ty (by decide +kernel), _, rfl, .ref b, .ty "list", .type "tuple", .type "list", false, rfl, .ty _, ty_tup hsy, kit_ty (by decide +kernel), rfl, _, rfl, iteNS rfl ?_⟩
      refine ⟨_, rfl, .ref a, .ty "tuple", .type "tuple", .type "tuple", true, rfl, .ty _, ty_tup hsx, kit_ty (by decide +kernel), _, rfl, .ref b, .ty "tuple", .type "tuple", .type "tuple", true, rfl, .ty _, ty_tup hsy, kit_ty (by decide +kernel), rfl, _, rfl, iteNS rfl ?_⟩
      refine ⟨_, rfl, a, xs, rfl, .inr hsx, _, rfl, b, ys, rfl, .inr hsy, rfl, _, rfl, ?_⟩
      rw [if_pos (decide_eq_true (by rw [lx, ly]))]
      refine ⟨_, rfl, _, rfl, a, b, xs, ys, rfl, .inr ⟨hsx, hsy, fun C nC => ?_⟩⟩
      refine lc_it (walk_zipT (n := ds.length) (by rw [lx, ly]; exact (Nat.min_self _).symm)) (fun i H' => Same H1 H' ∧ H' C = some (.lst ((List.replicate i true).map V.bl))) ⟨same_new nC, upd_same⟩ (fun i H' _ p => ⟨Same.tup p.1 hsx, Same.tup p.1 hsy⟩) ?_ ?_
      · rintro i z H2 H3 hi ⟨sm, hC⟩ ⟨t, u, v, rfl, nt, rfl, gu, gv⟩
        have sm2 : Same H1 (upd H2 t (.tup [u, v])) := sm.trans (same_new nt)
        obtain ⟨e, ge, he⟩ := DpAll.get (DpAll.same sm2 hax) gu
        obtain ⟨e', ge', he'⟩ := DpAll.get (DpAll.same sm2 hay) gv
        obtain rfl : e = e' := Option.some.inj (ge.symm.trans ge')
        refine ⟨t, [u, v], rfl, SqA.t upd_same, rfl, u, [v], rfl, v, [], rfl, rfl, rfl, tyes (iteT ?_)⟩
        refine ⟨_, rfl, _, rfl, u, v, e, rfl, he, he', lv.2 e (List.mem_of_getElem? ge), fun H4 s4 => ?_⟩
        refine ⟨_, s4 _ _ (by rw [upd_ne (ne_of_none hC nt)]; exact hC), ?_, fun p o ho => ?_, ?_⟩
        · have h1 := lv.1
          rw [List.length_map, List.length_replicate]
          exact Nat.lt_of_lt_of_le hi (Nat.le_trans h1 (by decide))
        · have np : p ≠ C := ne_of_none ho nC
          rw [upd_ne np]
          exact s4 _ _ (sm2 _ _ ho)
        · rw [upd_same, List.replicate_succ', List.map_append]
          rfl
      · rintro H2 ⟨sm, hC⟩
        refine ⟨C, _, rfl, SqL.of hC, ?_⟩
        have e : (List.replicate ds.length true).all id = true := by simp
        rw [e]
        exact q _ (s1.trans sm)
    | int i =>
      cases hx; cases hy
      refine ⟨.int i, tp, [.ty "list", .ty "tuple"], .type "int", [.type "list", .type "tuple"], false, rfl, htp, .cons (.ty _) (.cons (.ty _) .nil), .base (.int i), kit2 (r1 := false) (r2 := false) (by decide +kernel) (by decide +kernel) rfl, _, rfl, iteF ?_⟩
      refine ⟨_, rfl, rfl, _, rfl, iteF ?_⟩
      refine ⟨_, rfl, (by show 2 ≤ sizeLine; decide), fun tq ntq => ?_⟩
      refine ⟨.int i, tq, [.ty "bool", .ty "str"], .type "int", [.type "bool", .type "str"], false, rfl, upd_same, .cons (.ty _) (.cons (.ty _) .nil), .base (.int i), kit2 (r1 := false) (r2 := false) (by decide +kernel) (by decide +kernel) rfl, _, rfl, iteF ?_⟩
      refine ⟨_, rfl, .int i, .ty "int", .type "int", .type "int", true, rfl, .ty _, .base (.int i), kit_ty (by decide +kernel), _, rfl, iteT ?_⟩
      refine ⟨_, rfl, .int i, .ty "bool", .type "int", .type "bool", false, rfl, .ty _, .base (.int i), kit_ty (by decide +kernel), _, rfl, _, rfl, iteT ?_⟩
      refine ⟨_, rfl, _, rfl, rfl, ?_⟩
      rw [decide_eq_true rfl]
      exact q _ (s1.trans (same_new ntq))
    | none =>
      cases hx; cases hy
      refine ⟨.non, tp, [.ty "list", .ty "tuple"], .type "NoneType", [.type "list", .type "tuple"], false, rfl, htp, .cons (.ty _) (.cons (.ty _) .nil), .base .non, kit2 (r1 := false) (r2 := false) (by decide +kernel) (by decide +kernel) rfl, _, rfl, iteF ?_⟩
      refine ⟨_, rfl, rfl, _, rfl, iteT (iteT ?_)⟩
      refine ⟨_, rfl, _, rfl, rfl, _, rfl, iteT ?_⟩
      refine ⟨_, rfl, .non, .ty "bool", .type "NoneType", .type "bool", false, rfl, .ty _, .base .non, kit_ty (by decide +kernel), _, rfl, .non, .ty "bool", .type "NoneType", .type "bool", false, rfl, .ty _, .base .non, kit_ty (by decide +kernel), rfl, _, rfl, iteT ?_⟩
      refine ⟨_, rfl, rfl, _, rfl, rfl, rfl, ?_⟩
      exact q _ s1
    | bool c =>
      cases hx; cases hy
      refine ⟨.bl c, tp, [.ty "list", .ty "tuple"], .type "bool", [.type "list", .type "tuple"], false, rfl, htp, .cons (.ty _) (.cons (.ty _) .nil), .base (.bl c), kit2 (r1 := false) (r2 := false) (by decide +kernel) (by decide +kernel) rfl, _, rfl, iteF ?_⟩
      refine ⟨_, rfl, rfl, _, rfl, iteF ?_⟩
      refine ⟨_, rfl, (by show 2 ≤ sizeLine; decide), fun tq ntq => ?_⟩
      refine ⟨.bl c, tq, [.ty "bool", .ty "str"], .type "bool", [.type "bool", .type "str"], true, rfl, upd_same, .cons (.ty _) (.cons (.ty _) .nil), .base (.bl c), kit2 (r1 := true) (r2 := false) (by decide +kernel) (by decide +kernel) rfl, _, rfl, iteT ?_⟩
      refine ⟨_, rfl, _, rfl, rfl, _, rfl, ?_⟩
      rw [if_pos (decide_eq_true rfl)]
      refine ⟨_, rfl, .bl c, .ty "bool", .type "bool", .type "bool", true, rfl, .ty _, .base (.bl c), kit_ty (by decide +kernel), _, rfl, .bl c, .ty "bool", .type "bool", .type "bool", true, rfl, .ty _, .base (.bl c), kit_ty (by decide +kernel), rfl, _, rfl, iteT ?_⟩
      refine ⟨_, rfl, rfl, _, rfl, rfl, rfl, ?_⟩
      exact q _ (s1.trans (same_new ntq))
    | str c =>
      cases hx; cases hy
      refine ⟨.str c, tp, [.ty "list", .ty "tuple"], .type "str", [.type "list", .type "tuple"], false, rfl, htp, .cons (.ty _) (.cons (.ty _) .nil), .base (.str c), kit2 (r1 := false) (r2 := false) (by decide +kernel) (by decide +kernel) rfl, _, rfl, iteF ?_⟩
      refine ⟨_, rfl, rfl, _, rfl, iteF ?_⟩
      refine ⟨_, rfl, (by show 2 ≤ sizeLine; decide), fun tq ntq => ?_⟩
      refine ⟨.str c, tq, [.ty "bool", .ty "str"], .type "str", [.type "bool", .type "str"], true, rfl, upd_same, .cons (.ty _) (.cons (.ty _) .nil), .base (.str c), kit2 (r1 := false) (r2 := true) (by decide +kernel) (by decide +kernel) rfl, _, rfl, iteT ?_⟩
      refine ⟨_, rfl, _, rfl, rfl, _, rfl, ?_⟩
      rw [if_pos (decide_eq_true rfl)]
      refine ⟨_, rfl, .str c, .ty "bool", .type "str", .type "bool", false, rfl, .ty _, .base (.str c), kit_ty (by decide +kernel), _, rfl, .str c, .ty "bool", .type "str", .type "bool", false, rfl, .ty _, .base (.str c), kit_ty (by decide +kernel), rfl, _, rfl, iteT ?_⟩
      refine ⟨_, rfl, rfl, _, rfl, rfl, rfl, ?_⟩
      exact q _ (s1.trans (same_new ntq))
theorem ok_same (D : Df K mg "_law_same" s__law_same) (T : Bt mg) : ∀ m : Nat, Ok P w K mg base m "_law_same" s__law_same ["_law_found", "_law_due_here"] (spSame K m)
  | 0 => same0 D
  | m + 1 => same1 D T (ok_same D T m)
end
end Sh

namespace Sh
open PySem PySem.Spec PyProof.Rows L2
/-! ### a drawn sea -/
theorem But.put {b p : Addr} {H H' : Hp} {o : HO} (h : But b H H') (n : H p = none) : But b H (upd H' p o) := fun a x na e => by
  rw [upd_ne (ne_of_none e n)]
  exact h a x na e
theorem But.box {b : Addr} {H H' : Hp} {o : HO} (h : But b H H') : But b H (upd H' b o) := fun a x na e => by
  rw [upd_ne na]
  exact h a x na e
theorem BoxAt.put {H : Hp} {b : Addr} {n : Nat} {xs : List V} (h : BoxOk xs n) : BoxAt (upd H b (.lst xs)) b n := ⟨xs, upd_same, h⟩
theorem BoxAt.at {H : Hp} {b p : Addr} {n : Nat} {o : HO} (h : BoxAt H b n) (ne : b ≠ p) : BoxAt (upd H p o) b n := let ⟨xs, e, k⟩ := h; ⟨xs, by rw [upd_ne ne]; exact e, k⟩
structure SeaOk (most : Nat) (h t : Int) (ds : List Int) : Prop where
  h0 : 0 ≤ h
  h1 : h ≤ 1000000000000
  t0 : 0 ≤ t
  t1 : t ≤ 1000000000000
  l0 : 0 < ds.length
  l1 : ds.length ≤ most
  d0 : ∀ d ∈ ds, 0 ≤ d ∧ d ≤ 1000000000000
def spSea : Sp := fun vs H Q _ => ∃ (b : Addr) (n most : Nat), vs = [.ref b, .int (most : Int)] ∧ 0 < most ∧ most ≤ 60 ∧ BoxAt H b (n + 200) ∧
  ∀ (H' : Hp) (p q : Addr) (h t : Int) (ds : List Int), But b H H' → BoxAt H' b n → H p = none → H q = none → H' p = some (.tup [.int h, .int t, .ref q]) → H' q = some (.tup (ds.map V.int)) → SeaOk most h t ds → Q (.ref p) H'
abbrev s__law_sea : Stmt := topS 46
theorem sc__law_sea : FnScope (["_law_box_here", "_law_most", "_law_count", "_law_far", "_law_wide", "_law_depths", "_law_draughts", "_law_side", "_law_whom"] : List Str) (["_law_box_here", "_law_most"] : List Str) (defScope s__law_sea) := ⟨rfl, rfl, rfl, by decide +kernel, rfl, by decide +kernel, by decide +kernel⟩
theorem b__law_sea (kV doc pm : Value) (an : Option Addr) (cdv ct : Value) (us : List Value) (hl : us.length = (["_law_box_here", "_law_most"] : List Str).length) : bindArgs (PySem.W.fnOf "_law_sea" "_law_sea" (defArgs s__law_sea) (defBody s__law_sea) (defScope s__law_sea) .none kV doc pm an cdv ct) ⟨us, []⟩ = pure ((["_law_box_here", "_law_most"] : List Str).zip us) :=
  match us, hl with | [_, _], _ => rfl
section
variable {P : Program} {w : World} {K : PySem.W.Frag} {mg : Str → Option Value} {base : Heap}
/-- a new object, a draw: what stands, stands -/
theorem al {b p : Addr} {H Hc : Hp} {n : Nat} {o : HO} (u : But b H Hc) (x : BoxAt Hc b n) (np : Hc p = none) : But b H (upd Hc p o) ∧ BoxAt (upd Hc p o) b n ∧ upd Hc p o p = some o ∧ p ≠ b :=
  ⟨fun a z na e => by rw [upd_ne (ne_of_none (u a z na e) np)]; exact u a z na e, x.at (x.ne np), upd_same, (x.ne np).symm⟩
theorem tk {b : Addr} {H Hc : Hp} {n : Nat} {ys : List V} (u : But b H Hc) (y : BoxOk ys n) : But b H (upd Hc b (.lst ys)) ∧ BoxAt (upd Hc b (.lst ys)) b n := ⟨u.box, .put y⟩
theorem But.free {b p : Addr} {H H' : Hp} (u : But b H H') (n : p ≠ b) (h : H' p = none) : H p = none := by
  cases e : H p with
  | none => rfl
  | some o =>
    rw [u p o n e] at h
    cases h
theorem two_of {ns : List Int} (h : ns.length = 2) : ∃ a b, ns = [a, b] := by
  match ns, h with
  | [a, b], _ => exact ⟨a, b, rfl⟩
theorem ints_mem {v : V} {ns : List Int} (h : v ∈ ns.map V.int) : ∃ i ∈ ns, v = .int i := by
  obtain ⟨i, hi, e⟩ := List.mem_map.mp h
  exact ⟨i, hi, e.symm⟩
theorem ne_box {H : Hp} {b p : Addr} {n : Nat} (h : BoxAt H b n) (z : H p = none) : p ≠ b := (h.ne z).symm
set_option maxHeartbeats 4000000 in
theorem ok_sea {k : Nat} (D : Df K mg "_law_sea" s__law_sea) (T : Bt mg) (O__law_take : Ok P w K mg base k "_law_take" s__law_take ["_law_box_here", "_law_span"] spTake) (O__law_of : Ok P w K mg base k "_law_of" s__law_of ["_law_box_here", "_law_some"] (spOf K)) :
    Ok P w K mg base (k + 1) "_law_sea" s__law_sea ["_law_box_here", "_law_most"] spSea := by
  refine D.ok sc__law_sea b__law_sea (fun vs H Q E h => ?_) (fun f cdv A outer s H vs Q E hr h => ?_)
  · obtain ⟨b, n, most, rfl, _⟩ := h
    rfl
  · obtain ⟨b, n, most, rfl, m0, m1, hb, q⟩ := h
    refine ⟨_, (pss_cons (ps_asg (pe_tup (pa_cons (pe_op op_add pe_int (pe_fn O__law_take (hr.mono (by omega)) (pa_cons (pv 0) (pa_cons (pv 1) pa_nil)))) (pa_cons (pe_fn O__law_of (hr.mono (by omega)) (pa_cons (pv 0) (pa_cons (pe_lst (pa_cons pe_int (pa_cons pe_int (pa_cons pe_int (pa_cons (pe_op op_sub (pe_op op_sub (pe_op (op_powC 1000000000000) pe_int pe_int) pe_int) (pe_fn O__law_take (hr.mono (by omega)) (pa_cons (pv 0) (pa_cons (pe_op (op_powC 1000000) pe_int pe_int) pa_nil)))) pa_nil))))) pa_nil))) pa_nil))) (pg_seq rfl (pgs_cons (pg_name (i := 2) sc__law_sea.nd rfl (.inr rfl)) (pgs_cons (pg_name (i := 3) sc__law_sea.nd rfl (.inr rfl)) pgs_nil))))
      (pss_cons (ps_set (i := 4) sc__law_sea.nd rfl (.inr rfl) (pe_fn O__law_of (hr.mono (by omega)) (pa_cons (pv 0) (pa_cons (pe_lst (pa_cons pe_int (pa_cons (pe_op op_add (pv 2) pe_int) (pa_cons (pe_op op_add (pe_op op_mul pe_int (pv 2)) pe_int) pa_nil)))) pa_nil))))
      (pss_cons (ps_setLc (i := 5) (own := [("_law_side", 7)]) (g := (gName 7)) (tt := tYes) (by rfl) sc__law_sea.nd rfl rfl (sw_true rfl rfl rfl (by decide +kernel)) (pi_range1 (by rfl) T.range_ (pa_cons pe_int pa_nil)) (blkOk_by (own := [("_law_side", 7)]) (N := (["_law_box_here", "_law_most", "_law_count", "_law_far", "_law_wide", "_law_depths", "_law_draughts", "_law_side", "_law_whom"] : List Str)) (sc := defScope s__law_sea) (by decide +kernel)) (fun _ _ _ _ _ => (pg_name (i := 7) sc__law_sea.nd rfl (.inl rfl))) (fun _ _ _ _ _ => pts_nil) (fun _ _ _ _ _ => (pe_op op_add (pv 3) (pe_op op_mul (pe_fn O__law_take (hr.mono (by omega)) (pa_cons (pv 0) (pa_cons (pe_op op_add (pv 2) pe_int) pa_nil))) (pe_fn O__law_take (hr.mono (by omega)) (pa_cons (pv 0) (pa_cons pe_int pa_nil)))))))
      (pss_cons (ps_set (i := 6) sc__law_sea.nd rfl (.inr rfl) (pe_lc (own := [("_law_whom", 8)]) (g := (gName 8)) (tt := tYes) (by rfl) sc__law_sea.nd (pi_range1 (by rfl) T.range_ (pa_cons (pv 2) pa_nil)) (blkOk_by (own := [("_law_whom", 8)]) (N := (["_law_box_here", "_law_most", "_law_count", "_law_far", "_law_wide", "_law_depths", "_law_draughts", "_law_side", "_law_whom"] : List Str)) (sc := defScope s__law_sea) (by decide +kernel)) (fun _ _ _ _ _ => (pg_name (i := 8) sc__law_sea.nd rfl (.inl rfl))) (fun _ _ _ _ _ => pts_nil) (fun _ _ _ _ _ => (pe_op op_add (pv 3) (pe_fn O__law_take (hr.mono (by omega)) (pa_cons (pv 0) (pa_cons (pv 4) pa_nil)))))))
      (pss_cons (ps_if (pt_cmpR op_eq (pe_fn O__law_take (hr.mono (by omega)) (pa_cons (pv 0) (pa_cons pe_int pa_nil))) pe_int (nomark _))
        (pss_one (ps_set (i := 6) sc__law_sea.nd rfl (.inr rfl) (pe_lc (own := [("_law_whom", 8)]) (g := (gName 8)) (tt := tYes) (by rfl) sc__law_sea.nd (pi_range1 (by rfl) T.range_ (pa_cons (pv 2) pa_nil)) (blkOk_by (own := [("_law_whom", 8)]) (N := (["_law_box_here", "_law_most", "_law_count", "_law_far", "_law_wide", "_law_depths", "_law_draughts", "_law_side", "_law_whom"] : List Str)) (sc := defScope s__law_sea) (by decide +kernel)) (fun _ _ _ _ _ => (pg_name (i := 8) sc__law_sea.nd rfl (.inl rfl))) (fun _ _ _ _ _ => pts_nil) (fun _ _ _ _ _ => (pe_ifExp (pt_cmpR op_eq (pe_fn O__law_take (hr.mono (by omega)) (pa_cons (pv 0) (pa_cons pe_int pa_nil))) pe_int (nomark _)) (pe_ix (ix_ltK K) (pv 6) (pv 8) (fun _ _ => rfl)) (pe_ix (ix_ltK K) (pv 6) pe_int (fun _ _ => rfl)))))))
        pss_nil)
      (pss_one (ps_ret (pe_tup (pa_cons (pe_ix ix_lt (pv 5) pe_int (fun _ _ => rfl)) (pa_cons (pe_ix ix_lt (pv 5) pe_int (fun _ _ => rfl)) (pa_cons (pe_callTy call_tuple_of (by rfl) T.tuple_ (by decide +kernel) (pa_cons (pv 6) pa_nil)) pa_nil))))))))))), ?_⟩
    -- 1 + take(box, most)
    refine ⟨_, rfl, _, rfl, b, n + 199, _, rfl, by omega, by omega, hb, fun c ys1 c0 c1 y1 => ?_⟩
    refine ⟨1, c, rfl, rfl, ?_⟩
    have u1 : But b H (upd H b (.lst ys1)) := But.ups
    have x1 : BoxAt (upd H b (.lst ys1)) b (n + 199) := .put y1
    generalize upd H b (.lst ys1) = H1 at u1 x1
    -- of(box, [0, 0, 0, 10 ** 12 - 200 - take(box, 10 ** 6)])
    refine ⟨_, rfl, 10, 12, rfl, rfl, ⟨⟨by decide, by decide, by decide⟩, by decide⟩, _, 200, rfl, rfl, _, rfl, 10, 6, rfl, rfl, ⟨⟨by decide, by decide, by decide⟩, by decide⟩, ?_⟩
    refine ⟨b, n + 198, 1000000, rfl, by decide, by decide, x1, fun r ys2 r0 r1 y2 => ?_⟩
    have u2 : But b H (upd H1 b (.lst ys2)) := u1.box
    have x2 : BoxAt (upd H1 b (.lst ys2)) b (n + 198) := .put y2
    generalize upd H1 b (.lst ys2) = H2 at u2 x2
    refine ⟨_, _, rfl, rfl, (by show 4 ≤ sizeLine; decide), fun l nl => ?_⟩
    have u3 : But b H (upd H2 l (.lst [.int 0, .int 0, .int 0, .int (1000000000000 - 200 - r)])) := fun a o na e => by
      rw [upd_ne (ne_of_none (u2 a o na e) nl)]
      exact u2 a o na e
    refine ⟨b, l, n + 197, _, rfl, SqA.l upd_same, ne_box x2 nl, (by show 0 < 4; decide), (by show 4 < 1000000; decide), x2.at (x2.ne nl), fun v ys3 hv y3 => ?_⟩
    obtain ⟨far, f0, f1, rfl⟩ : ∃ far : Int, 0 ≤ far ∧ far ≤ 1000000000000 - 200 ∧ v = .int far := by
      have e4 : v = .int 0 ∨ v = .int (1000000000000 - 200 - r) := by
        have e5 : v = .int 0 ∨ v = .int 0 ∨ v = .int 0 ∨ v = .int (1000000000000 - 200 - r) := by simpa using hv
        rcases e5 with e | e | e | e
        · exact .inl e
        · exact .inl e
        · exact .inl e
        · exact .inr e
      rcases e4 with e | e
      · exact ⟨0, by decide, by decide, e⟩
      · exact ⟨_, by omega, by omega, e⟩
    replace u3 : But b H (upd (upd H2 l (.lst [.int 0, .int 0, .int 0, .int (1000000000000 - 200 - r)])) b (.lst ys3)) := u3.box
    have x3 : BoxAt (upd (upd H2 l (.lst [.int 0, .int 0, .int 0, .int (1000000000000 - 200 - r)])) b (.lst ys3)) b (n + 197) := .put y3
    try dsimp only
    generalize upd (upd H2 l (.lst [.int 0, .int 0, .int 0, .int (1000000000000 - 200 - r)])) b (.lst ys3) = H3 at u3 x3
    refine ⟨(by show 2 ≤ sizeLine; decide), fun tp ntp => ?_⟩
    refine ⟨tp, _, rfl, SqA.t upd_same, rfl, _, _, rfl, _, _, rfl, rfl, ?_⟩
    obtain ⟨u4, x4, _, _⟩ := al (o := .tup [.int (1 + c), .int far]) u3 x3 ntp
    try dsimp only
    generalize upd H3 tp (.tup [.int (1 + c), .int far]) = H4 at u4 x4
    obtain ⟨cn, ec⟩ : ∃ cn : Nat, 1 + c = ((cn : Nat) : Int) := ⟨(1 + c).toNat, by omega⟩
    have cn0 : 0 < cn := by omega
    have cn1 : cn ≤ most := by omega
    rw [ec]
    -- wide
    refine ⟨_, rfl, _, rfl, _, 2, rfl, rfl, _, rfl, 2, _, rfl, rfl, .inl ⟨by decide, by decide⟩, _, 2, rfl, rfl, (by show 3 ≤ sizeLine; decide), fun l2 nl2 => ?_⟩
    obtain ⟨u5, x5, e5, n5⟩ := al (o := .lst [.int 2, .int ((cn : Int) + 2), .int (2 * (cn : Int) + 2)]) u4 x4 nl2
    refine ⟨b, l2, n + 196, _, rfl, SqA.l upd_same, n5, (by show 0 < 3; decide), (by show 3 < 1000000; decide), x5.mono (by omega), fun v ys6 hv y6 => ?_⟩
    obtain ⟨wide, w0, w1, rfl⟩ : ∃ wide : Int, 2 ≤ wide ∧ wide ≤ 122 ∧ v = .int wide := by
      have e5 : v = .int 2 ∨ v = .int ((cn : Int) + 2) ∨ v = .int (2 * (cn : Int) + 2) := by simpa using hv
      rcases e5 with e | e | e
      · exact ⟨2, by decide, by decide, e⟩
      · exact ⟨_, by omega, by omega, e⟩
      · exact ⟨_, by omega, by omega, e⟩
    obtain ⟨u6, x6⟩ := tk u5 y6
    try dsimp only
    generalize upd (upd H4 l2 (.lst [.int 2, .int ((cn : Int) + 2), .int (2 * (cn : Int) + 2)])) b (.lst ys6) = H6 at u6 x6
    -- depths
    refine ⟨2, rfl, by decide, by decide, fun C nC => ?_⟩
    refine lc_range (fun i Hc => ∃ ns : List Int, But b H6 Hc ∧ BoxAt Hc b (n + 196 - 2 * i) ∧ Hc C = some (.lst (ns.map V.int)) ∧ ns.length = i ∧ ∀ d ∈ ns, 0 ≤ d ∧ d ≤ 1000000000000) ?_ ?_ ?_
    · exact ⟨[], (al (But.refl b H6) x6 nC).1, (al (But.refl b H6) x6 nC).2.1, upd_same, rfl, fun d hd => by simp at hd⟩
    · rintro i Hc hi ⟨ns, uc, xc, hC, hl, hn⟩
      have nCb : C ≠ b := (x6.ne nC).symm
      have i2 : i < 2 := hi
      refine ⟨rfl, tyes (iteT ?_)⟩
      refine ⟨_, rfl, _, rfl, _, rfl, _, 2, rfl, rfl, ?_⟩
      refine ⟨b, n + 196 - 2 * i - 1, _, rfl, by omega, by omega, xc.mono (by omega), fun v ys v0 v1 y => ?_⟩
      obtain ⟨ud, xd⟩ := tk uc y
      have hD : upd Hc b (.lst ys) C = some (.lst (ns.map V.int)) := by rw [upd_ne nCb]; exact hC
      generalize upd Hc b (.lst ys) = Hd at ud xd hD
      refine ⟨_, rfl, ?_⟩
      refine ⟨b, n + 196 - 2 * i - 2, 2, rfl, by decide, by decide, xd.mono (by omega), fun v' ys' v0' v1' y' => ?_⟩
      obtain ⟨ue, xe⟩ := tk ud y'
      have hE : upd Hd b (.lst ys') C = some (.lst (ns.map V.int)) := by rw [upd_ne nCb]; exact hD
      generalize upd Hd b (.lst ys') = He at ue xe hE
      refine ⟨v, v', rfl, rfl, .inl ⟨by omega, by omega⟩, far, v * v', rfl, rfl, ns.map V.int, hE, ?_, ns ++ [far + v * v'], ?_, ?_, ?_, ?_, ?_⟩
      · rw [List.length_map, hl]
        exact Nat.lt_trans i2 (by decide)
      · exact fun a o na e => by rw [upd_ne (ne_of_none e nC)]; exact ue a o na e
      · exact (xe.at (x6.ne nC)).mono (by omega)
      · rw [upd_same, List.map_append]
        rfl
      · simp [hl]
      · intro d hd
        rcases List.mem_append.mp hd with z | z
        · exact hn d z
        · have e : d = far + v * v' := by simpa using z
          have e01 : v' = 0 ∨ v' = 1 := by omega
          rcases e01 with z | z <;> (rw [e, z]; omega)
    · rintro H7 ⟨ds2, u7', x7, h7, l7, b7⟩
      have u7 : But b H H7 := u6.trans u7'
      clear u7'
      replace x7 : BoxAt H7 b (n + 192) := x7.mono (by omega)
      have nCb : C ≠ b := (x6.ne nC).symm
      -- draughts
      refine ⟨_, rfl, _, rfl, by omega, by omega, fun C2 nC2 => ?_⟩
      rw [show ((cn : Int)).toNat = cn by omega]
      refine lc_range (fun i Hc => ∃ ns : List Int, But b H7 Hc ∧ BoxAt Hc b (n + 192 - i) ∧ Hc C2 = some (.lst (ns.map V.int)) ∧ ns.length = i ∧ ∀ d ∈ ns, 0 ≤ d ∧ d ≤ 1000000000000) ?_ ?_ ?_
      · exact ⟨[], (al (But.refl b H7) x7 nC2).1, (al (But.refl b H7) x7 nC2).2.1, upd_same, rfl, fun d hd => by simp at hd⟩
      · rintro i Hc hi ⟨ns, uc, xc, hC, hl, hn⟩
        have nCb2 : C2 ≠ b := (x7.ne nC2).symm
        refine ⟨rfl, tyes (iteT ?_)⟩
        refine ⟨_, rfl, _, rfl, _, rfl, ?_⟩
        refine ⟨b, n + 192 - i - 1, wide, rfl, by omega, by omega, xc.mono (by omega), fun v ys v0 v1 y => ?_⟩
        obtain ⟨ud, xd⟩ := tk uc y
        have hD : upd Hc b (.lst ys) C2 = some (.lst (ns.map V.int)) := by rw [upd_ne nCb2]; exact hC
        generalize upd Hc b (.lst ys) = Hd at ud xd hD
        refine ⟨far, v, rfl, rfl, ns.map V.int, hD, ?_, ns ++ [far + v], ?_, ?_, ?_, ?_, ?_⟩
        · rw [List.length_map, hl]
          exact Nat.lt_of_lt_of_le hi (Nat.le_trans (show cn ≤ 60 by omega) (by decide))
        · exact fun a o na e => by rw [upd_ne (ne_of_none e nC2)]; exact ud a o na e
        · exact (xd.at (x7.ne nC2)).mono (by omega)
        · rw [upd_same, List.map_append]
          rfl
        · simp [hl]
        · intro d hd
          rcases List.mem_append.mp hd with z | z
          · exact hn d z
          · have e : d = far + v := by simpa using z
            omega
      · rintro H8 ⟨ds, u8', x8, h8, l8, b8⟩
        have h7' : H8 C = some (.lst (ds2.map V.int)) := u8' _ _ nCb h7
        have u8 : But b H H8 := u7.trans u8'
        have nC2b : C2 ≠ b := (x7.ne nC2).symm
        have nCC : C ≠ C2 := ne_of_none h7 nC2
        replace x8 : BoxAt H8 b (n + 132) := x8.mono (by omega)
        clear u8'
        -- take(box, 4) == 0
        refine ⟨_, rfl, b, n + 131, 4, rfl, by decide, by decide, x8.mono (by omega), fun v ys v0 v1 y => ?_⟩
        obtain ⟨u9, x9⟩ := tk u8 y
        have h9 : upd H8 b (.lst ys) C = some (.lst (ds2.map V.int)) := by rw [upd_ne nCb]; exact h7'
        have g9 : upd H8 b (.lst ys) C2 = some (.lst (ds.map V.int)) := by rw [upd_ne nC2b]; exact h8
        generalize upd H8 b (.lst ys) = H9 at u9 x9 h9 g9
        obtain ⟨d0, d1, rfl⟩ := two_of l7
        refine ⟨rfl, _, rfl, ite2 (fun c => ?_) (fun c => ?_)⟩
        · refine ⟨_, rfl, _, rfl, by omega, by omega, fun C3 nC3 => ?_⟩
          rw [show ((cn : Int)).toNat = cn by omega]
          have nC3b : C3 ≠ b := (x9.ne nC3).symm
          refine lc_range (fun i Hc => ∃ ns : List Int, But b H9 Hc ∧ BoxAt Hc b (n + 131 - i) ∧ Hc C3 = some (.lst (ns.map V.int)) ∧ ns.length = i ∧ ∀ d ∈ ns, 0 ≤ d ∧ d ≤ 1000000000000) ?_ ?_ ?_
          · exact ⟨[], (al (But.refl b H9) x9 nC3).1, (al (But.refl b H9) x9 nC3).2.1, upd_same, rfl, fun d hd => by simp at hd⟩
          · rintro i Hc hi ⟨ns, uc, xc, hC, hl, hn⟩
            refine ⟨rfl, tyes (iteT ?_)⟩
            refine ⟨_, rfl, b, n + 131 - i - 1, 2, rfl, by decide, by decide, xc.mono (by omega), fun v ys v0 v1 y => ?_⟩
            obtain ⟨ud, xd⟩ := tk uc y
            have hD : upd Hc b (.lst ys) C3 = some (.lst (ns.map V.int)) := by rw [upd_ne nC3b]; exact hC
            generalize upd Hc b (.lst ys) = Hd at ud xd hD
            have gd : Hd C2 = some (.lst (ds.map V.int)) := ud _ _ nC2b g9
            have fin : ∀ z ∈ ds, ∃ acc : List V, Hd C3 = some (.lst acc) ∧ acc.length < sizeLine ∧ ∃ ns : List Int, But b H9 (upd Hd C3 (.lst (acc ++ [.int z]))) ∧ BoxAt (upd Hd C3 (.lst (acc ++ [.int z]))) b (n + 131 - (i + 1)) ∧
                upd Hd C3 (.lst (acc ++ [.int z])) C3 = some (.lst (ns.map V.int)) ∧ ns.length = i + 1 ∧ ∀ d ∈ ns, 0 ≤ d ∧ d ≤ 1000000000000 := fun z hz => by
              refine ⟨ns.map V.int, hD, ?_, ns ++ [z], ?_, ?_, ?_, ?_, ?_⟩
              · rw [List.length_map, hl]
                exact Nat.lt_of_lt_of_le hi (Nat.le_trans (show cn ≤ 60 by omega) (by decide))
              · exact fun a o na e => by rw [upd_ne (ne_of_none e nC3)]; exact ud a o na e
              · exact (xd.at (x9.ne nC3)).mono (by omega)
              · rw [upd_same, List.map_append]
                rfl
              · simp [hl]
              · intro d hd
                rcases List.mem_append.mp hd with z2 | z2
                · exact hn d z2
                · have e : d = z := by simpa using z2
                  rw [e]
                  exact b8 z hz
            refine ⟨rfl, _, rfl, ite2 (fun c => ?_) (fun c => ?_)⟩
            · have hi' : i < ds.length := by omega
              exact ⟨_, rfl, _, rfl, C2, _, _, .int ds[i], rfl, rfl, SqA.l gd, at_nat (j := i) (by omega) (by simp [hi']), fin _ (List.getElem_mem hi')⟩
            · have hi' : 0 < ds.length := by omega
              exact ⟨_, rfl, C2, _, _, .int ds[0], rfl, rfl, SqA.l gd, at_nat (j := 0) rfl (by simp [hi']), fin _ (List.getElem_mem hi')⟩
          · rintro H10 ⟨ds', u10', x10, h10, l10, b10⟩
            have u10 : But b H H10 := u9.trans u10'
            refine ⟨_, rfl, C, _, 0, .int d0, rfl, rfl, SqA.l (u10' _ _ nCb h9), rfl, _, rfl, C, _, 1, .int d1, rfl, rfl, SqA.l (u10' _ _ nCb h9), rfl, _, rfl, C3, _, rfl, .inl ⟨SqL.of h10, fun q' nq => ?_⟩⟩
            refine ⟨(by show 3 ≤ sizeLine; decide), fun p np => ?_⟩
            obtain ⟨uq, xq, eq, nqb⟩ := al (o := .tup (ds'.map V.int)) u10 x10 nq
            obtain ⟨up, xp, ep, npb⟩ := al (o := .tup [.int d0, .int d1, .ref q']) uq xq np
            refine q _ p q' d0 d1 ds' up (xp.mono (by omega)) (uq.free npb np) (u10.free nqb nq) ep ?_ ⟨(b7 d0 (by simp)).1, (b7 d0 (by simp)).2, (b7 d1 (by simp)).1, (b7 d1 (by simp)).2, by omega, by omega, b10⟩
            rw [upd_ne (ne_of_none eq np)]
            exact eq
        · refine ⟨_, rfl, C, _, 0, .int d0, rfl, rfl, SqA.l h9, rfl, _, rfl, C, _, 1, .int d1, rfl, rfl, SqA.l h9, rfl, _, rfl, C2, _, rfl, .inl ⟨SqL.of g9, fun q' nq => ?_⟩⟩
          refine ⟨(by show 3 ≤ sizeLine; decide), fun p np => ?_⟩
          obtain ⟨uq, xq, eq, nqb⟩ := al (o := .tup (ds.map V.int)) u9 x9 nq
          obtain ⟨up, xp, ep, npb⟩ := al (o := .tup [.int d0, .int d1, .ref q']) uq xq np
          refine q _ p q' d0 d1 ds up (xp.mono (by omega)) (uq.free npb np) (u9.free nqb nq) ep ?_ ⟨(b7 d0 (by simp)).1, (b7 d0 (by simp)).2, (b7 d1 (by simp)).1, (b7 d1 (by simp)).2, by omega, by omega, b8⟩
          rw [upd_ne (ne_of_none eq np)]
          exact eq
end
end Sh

namespace Sh
open PySem PySem.Spec PyProof.Rows L2
/-! ### what many laws ask -/
/-- a sea (list or tuple) is handed in -/
def SeaA (K : PySem.W.Frag) (H : Hp) (v : V) (h t : Int) (ds : List Int) : Prop := ∃ p q, v = .ref p ∧ SqA K H p [.int h, .int t, .ref q] ∧ SqA K H q (ds.map V.int)
theorem SeaA.same {K : PySem.W.Frag} {H H' : Hp} {v : V} {h t : Int} {ds : List Int} (s : SeaA K H v h t ds) (e : Same H H') : SeaA K H' v h t ds := let ⟨p, q, a, b, c⟩ := s; ⟨p, q, a, Same.sqA e b, Same.sqA e c⟩
theorem lay_ints : ∀ ns : List Int, PyData.canLayAll0 (ns.map .int) = true ∧ PyData.depthAll (ns.map .int) = 0
  | [] => ⟨rfl, rfl⟩
  | n :: ns => by
    obtain ⟨a, b⟩ := lay_ints ns
    constructor
    · show (PyData.canLay0 (.int n) && PyData.canLayAll0 (ns.map .int)) = true
      rw [a]
      rfl
    · show max (PyData.depth (.int n)) (PyData.depthAll (ns.map .int)) = 0
      rw [b]
      rfl
theorem shaped_ints (ns : List Int) : SeqAt.shaped (.list (ns.map .int)) = true := by
  obtain ⟨a, b⟩ := lay_ints ns
  unfold SeqAt.shaped
  rw [show PyData.canLay0 (.list (ns.map .int)) = PyData.canLayAll0 (ns.map .int) from rfl, show PyData.depth (.list (ns.map .int)) = PyData.depthAll (ns.map .int) + 1 from rfl, a, b]
  rfl
theorem flat_ints (ns : List Int) : (ns.map V.int).all flatV = true := by
  rw [List.all_map]
  exact List.all_eq_true.mpr fun _ _ => rfl
theorem same_over {H H1 : Hp} {p : Addr} {o : HO} (s : Same H H1) (n : H p = none) : Same H (upd H1 p o) := fun a x e => by
  rw [upd_ne (ne_of_none e n)]
  exact s _ _ e
end Sh

namespace Sh
open PySem PySem.Spec PyProof.Rows L2
/-! ### standings as lists of ships -/
def ni (L : List Nat) : List V := L.map fun (i : Nat) => V.int (i : Int)
theorem ni_len (L : List Nat) : (ni L).length = L.length := by unfold ni; simp
theorem ni_get {L : List Nat} {i : Nat} (h : i < L.length) : (ni L)[i]? = some (.int ((L[i] : Nat) : Int)) := by unfold ni; simp [h]
theorem ni_app (L M : List Nat) : ni (L ++ M) = ni L ++ ni M := by unfold ni; simp
theorem ni_ints (L : List Nat) : ni L = (L.map fun (i : Nat) => (i : Int)).map V.int := by unfold ni; simp
theorem ni_flat (L : List Nat) : (ni L).all flatV = true := by unfold ni; rw [List.all_map]; exact List.all_eq_true.mpr fun _ _ => rfl
/-- a rising lot of ships below c -/
structure Lot (c : Nat) (L : List Nat) : Prop where
  up : L.Pairwise (· < ·)
  lt : ∀ i ∈ L, i < c
theorem up_len : ∀ {L : List Nat} {lo c : Nat}, L.Pairwise (· < ·) → (∀ i ∈ L, lo ≤ i ∧ i < c) → L.length ≤ c - lo
  | [], _, _, _, _ => Nat.zero_le _
  | a :: r, lo, c, h, hb => by
    obtain ⟨h1, h2⟩ := List.pairwise_cons.mp h
    have ha := hb a List.mem_cons_self
    have := up_len (lo := a + 1) (c := c) h2 fun i hi => ⟨h1 i hi, (hb i (List.mem_cons_of_mem _ hi)).2⟩
    rw [List.length_cons]
    omega
theorem Lot.len {c : Nat} {L : List Nat} (h : Lot c L) : L.length ≤ c := up_len (lo := 0) h.up fun i hi => ⟨Nat.zero_le _, h.lt i hi⟩
theorem Lot.nil (c : Nat) : Lot c [] := ⟨.nil, fun _ h => by cases h⟩
theorem Lot.all (c : Nat) : Lot c (List.range c) := ⟨List.pairwise_lt_range, fun _ h => List.mem_range.mp h⟩
theorem Lot.filter {c : Nat} {L : List Nat} (h : Lot c L) (p : Nat → Bool) : Lot c (L.filter p) := ⟨h.up.filter p, fun i hi => h.lt i (List.mem_filter.mp hi).1⟩
theorem rgV_ni (n : Nat) : rgV 0 (n : Int) = ni (List.range n) := by
  unfold rgV ni
  rw [show ((n : Int) - 0).toNat = n by omega]
  refine List.map_congr_left fun i _ => ?_
  rw [Int.zero_add]
theorem dp_ni {K : PySem.W.Frag} {H : Hp} {a : Addr} {L : List Nat} (h : H a = some (.lst (ni L))) : Dp K H (.ref a) (.list ((L.map fun (i : Nat) => (i : Int)).map .int)) := by
  rw [ni_ints] at h
  exact .lst (SqL.of h) (DpAll.ints _)
end Sh

namespace Sh
open PySem PySem.Spec PyProof.Rows L2
/-! ### a drawn lot -/
def spLot : Sp := fun vs H Q _ => ∃ (b : Addr) (n c : Nat), vs = [.ref b, .int (c : Int)] ∧ c ≤ 60 ∧ BoxAt H b (n + 100) ∧
  ∀ (H' : Hp) (p : Addr) (L : List Nat), But b H H' → BoxAt H' b n → H p = none → H' p = some (.tup (ni L)) → Lot c L → Q (.ref p) H'
abbrev s__law_lot : Stmt := topS 47
theorem sc__law_lot : FnScope (["_law_box_here", "_law_count", "_law_odds", "_law_whom"] : List Str) (["_law_box_here", "_law_count"] : List Str) (defScope s__law_lot) := ⟨rfl, rfl, rfl, by decide +kernel, rfl, by decide +kernel, by decide +kernel⟩
theorem b__law_lot (kV doc pm : Value) (an : Option Addr) (cdv ct : Value) (us : List Value) (hl : us.length = (["_law_box_here", "_law_count"] : List Str).length) : bindArgs (PySem.W.fnOf "_law_lot" "_law_lot" (defArgs s__law_lot) (defBody s__law_lot) (defScope s__law_lot) .none kV doc pm an cdv ct) ⟨us, []⟩ = pure ((["_law_box_here", "_law_count"] : List Str).zip us) :=
  match us, hl with | [_, _], _ => rfl
section
variable {P : Program} {w : World} {K : PySem.W.Frag} {mg : Str → Option Value} {base : Heap}
theorem ok_lot {k : Nat} (D : Df K mg "_law_lot" s__law_lot) (T : Bt mg) (O__law_take : Ok P w K mg base k "_law_take" s__law_take ["_law_box_here", "_law_span"] spTake) (O__law_of : Ok P w K mg base k "_law_of" s__law_of ["_law_box_here", "_law_some"] (spOf K)) :
    Ok P w K mg base (k + 1) "_law_lot" s__law_lot ["_law_box_here", "_law_count"] spLot := by
  refine D.ok sc__law_lot b__law_lot (fun vs H Q E h => ?_) (fun f cdv A outer s H vs Q E hr h => ?_)
  · obtain ⟨b, n, c, rfl, _⟩ := h
    rfl
  · obtain ⟨b, n, c, rfl, c60, hb, q⟩ := h
    refine ⟨_, (pss_cons (ps_set (i := 2) sc__law_lot.nd rfl (.inr rfl) (pe_fn O__law_of (hr.mono (by omega)) (pa_cons (pv 0) (pa_cons (pe_lst (pa_cons pe_int (pa_cons pe_int (pa_cons pe_int (pa_cons pe_int (pa_cons pe_int pa_nil)))))) pa_nil))))
      (pss_cons (ps_if (pt_cmpR op_eq (pe_fn O__law_take (hr.mono (by omega)) (pa_cons (pv 0) (pa_cons pe_int pa_nil))) pe_int (nomark _))
        (pss_one (ps_ret (pe_ifExp (pt_cmpR op_eq (pe_fn O__law_take (hr.mono (by omega)) (pa_cons (pv 0) (pa_cons pe_int pa_nil))) pe_int (nomark _)) (pe_tupRg (by rfl) (by rfl) T.tuple_ (prg_1 (by rfl) T.range_ (pv 1))) (pe_tup pa_nil))))
        pss_nil)
      (pss_one (ps_ret (pe_callTy call_tuple_of (by rfl) T.tuple_ (by decide +kernel) (pa_cons (pe_lc (own := [("_law_whom", 3)]) (g := (gName 3)) (by rfl) sc__law_lot.nd (pi_range1 (by rfl) T.range_ (pa_cons (pv 1) pa_nil)) (blkOk_by (own := [("_law_whom", 3)]) (N := (["_law_box_here", "_law_count", "_law_odds", "_law_whom"] : List Str)) (sc := defScope s__law_lot) (by decide +kernel)) (fun _ _ _ _ _ => (pg_name (i := 3) sc__law_lot.nd rfl (.inl rfl))) (fun _ _ _ _ _ => (pts_one (pt_cmpR op_eq (pe_fn O__law_take (hr.mono (by omega)) (pa_cons (pv 0) (pa_cons (pv 2) pa_nil))) pe_int (nomark _)))) (fun _ _ _ _ _ => (pv 3))) pa_nil)))))), ?_⟩
    -- odds
    refine ⟨_, rfl, (by show 5 ≤ sizeLine; decide), fun l nl => ?_⟩
    obtain ⟨u1, x1, e1, n1⟩ := al (o := .lst [.int 1, .int 2, .int 2, .int 3, .int 4]) (But.refl b H) hb nl
    refine ⟨b, l, n + 99, _, rfl, SqA.l upd_same, n1, (by show 0 < 5; decide), (by show 5 < 1000000; decide), x1.mono (by omega), fun v ys hv y => ?_⟩
    obtain ⟨o, o0, o1, rfl⟩ : ∃ o : Int, 1 ≤ o ∧ o ≤ 4 ∧ v = .int o := by
      have e5 : v = .int 1 ∨ v = .int 2 ∨ v = .int 3 ∨ v = .int 4 := by simpa using hv
      rcases e5 with e | e | e | e
      · exact ⟨1, by decide, by decide, e⟩
      · exact ⟨2, by decide, by decide, e⟩
      · exact ⟨3, by decide, by decide, e⟩
      · exact ⟨4, by decide, by decide, e⟩
    obtain ⟨u2, x2⟩ := tk u1 y
    generalize upd (upd H l (.lst [.int 1, .int 2, .int 2, .int 3, .int 4])) b (.lst ys) = H2 at u2 x2
    -- take(box, 8) == 0
    refine ⟨_, rfl, b, n + 98, 8, rfl, by decide, by decide, x2.mono (by omega), fun v ys v0 v1 y => ?_⟩
    obtain ⟨u3, x3⟩ := tk u2 y
    generalize upd H2 b (.lst ys) = H3 at u3 x3
    refine ⟨rfl, _, rfl, ite2 (fun _ => ?_) (fun _ => ?_)⟩
    · refine ⟨_, rfl, b, n + 97, 2, rfl, by decide, by decide, x3.mono (by omega), fun v ys v0 v1 y => ?_⟩
      obtain ⟨u4, x4⟩ := tk u3 y
      generalize upd H3 b (.lst ys) = H4 at u4 x4
      refine ⟨rfl, _, rfl, ite2 (fun _ => ?_) (fun _ => ?_)⟩
      · refine ⟨_, rfl, _, rfl, .of_le (by omega) (by omega) (by omega) (by omega), fun p np => ?_⟩
        rw [rgV_ni]
        obtain ⟨u5, x5, e5, n5⟩ := al (o := .tup (ni (List.range c))) u4 x4 np
        exact q _ p _ u5 (x5.mono (by omega)) (u4.free n5 np) e5 (Lot.all c)
      · refine ⟨Nat.zero_le _, fun p np => ?_⟩
        obtain ⟨u5, x5, e5, n5⟩ := al (o := .tup []) u4 x4 np
        exact q _ p [] u5 (x5.mono (by omega)) (u4.free n5 np) e5 (Lot.nil c)
    · refine ⟨_, rfl, _, rfl, by omega, by omega, fun C nC => ?_⟩
      rw [show ((c : Int)).toNat = c by omega]
      have nCb : C ≠ b := (x3.ne nC).symm
      refine lc_range (fun i Hc => ∃ L : List Nat, But b H3 Hc ∧ BoxAt Hc b (n + 98 - i) ∧ Hc C = some (.lst (ni L)) ∧ Lot i L) ?_ ?_ ?_
      · exact ⟨[], (al (But.refl b H3) x3 nC).1, (al (But.refl b H3) x3 nC).2.1, upd_same, Lot.nil 0⟩
      · rintro i Hc hi ⟨L, uc, xc, hC, hL⟩
        refine ⟨rfl, ?_⟩
        refine ⟨_, rfl, _, rfl, b, n + 98 - i - 1, o, rfl, by omega, by omega, xc.mono (by omega), fun v ys v0 v1 y => ?_⟩
        obtain ⟨ud, xd⟩ := tk uc y
        have hD : upd Hc b (.lst ys) C = some (.lst (ni L)) := by rw [upd_ne nCb]; exact hC
        generalize upd Hc b (.lst ys) = Hd at ud xd hD
        refine ⟨rfl, _, rfl, ite2 (fun _ => ?_) (fun _ => ?_)⟩
        · refine ⟨_, rfl, _, hD, ?_, L ++ [i], ?_, ?_, ?_, ?_⟩
          · rw [ni_len]
            exact small1000 (by have := hL.len; omega)
          · exact fun a z na e => by rw [upd_ne (ne_of_none e nC)]; exact ud a z na e
          · exact (xd.at (x3.ne nC)).mono (by omega)
          · rw [upd_same, ni_app]
            exact congrArg (fun z => some (HO.lst (ni L ++ [V.int z]))) (Int.zero_add (i : Int))
          · refine ⟨List.pairwise_append.mpr ⟨hL.up, List.pairwise_singleton _ _, fun a ha z hz => ?_⟩, fun a ha => ?_⟩
            · rw [List.mem_singleton.mp hz]
              exact hL.lt a ha
            · rcases List.mem_append.mp ha with z | z
              · have := hL.lt a z
                omega
              · rw [List.mem_singleton.mp z]
                omega
        · exact ⟨L, ud, xd.mono (by omega), hD, hL.up, fun a ha => Nat.lt_succ_of_lt (hL.lt a ha)⟩
      · rintro H4 ⟨L, u4', x4, h4, hL⟩
        have u4 := u3.trans u4'
        refine ⟨C, _, rfl, .inl ⟨SqL.of h4, fun p np => ?_⟩⟩
        obtain ⟨u5, x5, e5, n5⟩ := al (o := .tup (ni L)) u4 x4 np
        exact q _ p L u5 (x5.mono (by omega)) (u4.free n5 np) e5 hL
end
end Sh

namespace Sh
open PySem PySem.Spec PyProof.Rows L2
/-! ### who may go -/
/-- how many others lie here -/
def near (L : List Nat) (i : Nat) : Nat := (L.filter fun j => !decide (j = i)).length
def mayB (h t : Int) (ds : List Int) (L : List Nat) (i : Nat) : Bool := decide (ds.getD i 0 ≤ h + (near L i : Int)) && decide (ds.getD i 0 ≤ t + (ds.length : Int) - 1 - (near L i : Int))
def lets (h t : Int) (ds : List Int) (L : List Nat) (n : Nat) : List Nat := (List.range n).filter (mayB h t ds L)
theorem filter_succ (p : Nat → Bool) (n : Nat) : (List.range (n + 1)).filter p = (List.range n).filter p ++ (if p n = true then [n] else []) := by
  rw [List.range_succ, List.filter_append]
  congr 1
  by_cases h : p n = true
  · rw [if_pos h, List.filter_cons_of_pos h]
    rfl
  · rw [if_neg h, List.filter_cons_of_neg h]
    rfl
theorem filter_len (p : Nat → Bool) (n : Nat) : ((List.range n).filter p).length ≤ n := Nat.le_trans (List.length_filter_le _ _) (by simp)
theorem take_succ_get {α : Type} {L : List α} {i : Nat} (h : i < L.length) : L.take (i + 1) = L.take i ++ [L[i]] := by rw [List.take_add_one, List.getElem?_eq_getElem h]; rfl
/-- a standing is handed in -/
def LotA (K : PySem.W.Frag) (H : Hp) (v : V) (L : List Nat) : Prop := ∃ p, v = .ref p ∧ SqA K H p (ni L)
theorem LotA.same {K : PySem.W.Frag} {H H' : Hp} {v : V} {L : List Nat} (s : LotA K H v L) (e : Same H H') : LotA K H' v L := let ⟨p, a, b⟩ := s; ⟨p, a, Same.sqA e b⟩
end Sh

namespace Sh
open PySem PySem.Spec PyProof.Rows L2
/-! ### who is afloat -/
theorem Lot.mem_eq {c : Nat} {L : List Nat} (h : Lot c L) : L = (List.range c).filter fun j => decide (j ∈ L) := by
  have h2 : Lot c ((List.range c).filter fun j => decide (j ∈ L)) := (Lot.all c).filter _
  refine List.Perm.eq_of_pairwise (le := (· < ·)) (fun a b _ _ h1 h2 => absurd (Nat.lt_trans h1 h2) (Nat.lt_irrefl _)) h.up h2.up ?_
  refine (List.perm_ext_iff_of_nodup (h.up.imp Nat.ne_of_lt) (h2.up.imp Nat.ne_of_lt)).mpr fun a => ?_
  rw [List.mem_filter, List.mem_range, decide_eq_true_eq]
  exact ⟨fun q => ⟨h.lt a q, q⟩, fun q => q.2⟩
theorem filter_filter_len (p q : Nat → Bool) : ∀ l : List Nat, (l.filter p).length = (l.filter fun j => p j && q j).length + (l.filter fun j => p j && !q j).length
  | [] => rfl
  | a :: l => by
    have ih := filter_filter_len p q l
    cases hp : p a <;> cases hq : q a <;> simp [List.filter_cons, hp, hq, ih] <;> omega
/-- how many mates: here, or there -/
def mates (c : Nat) (L : List Nat) (i : Nat) : List Nat := (List.range c).filter fun j => !decide (j = i) && (decide (j ∈ L) == decide (i ∈ L))
theorem near_in {c : Nat} {L : List Nat} (h : Lot c L) (i : Nat) : near L i = ((List.range c).filter fun j => decide (j ∈ L) && !decide (j = i)).length := by
  unfold near
  conv => lhs; rw [h.mem_eq]
  rw [List.filter_filter]
  congr 1
  refine List.filter_congr fun a _ => ?_
  cases decide (a ∈ L) <;> cases decide (a = i) <;> rfl
theorem mates_here {c : Nat} {L : List Nat} (h : Lot c L) {i : Nat} (hi : i ∈ L) : (mates c L i).length = near L i := by
  rw [near_in h, mates]
  congr 1
  refine List.filter_congr fun a _ => ?_
  rw [decide_eq_true hi]
  cases decide (a ∈ L) <;> cases decide (a = i) <;> rfl
theorem one_of {c i : Nat} (hi : i < c) : ((List.range c).filter fun j => decide (j = i)).length = 1 := by
  have e : ((List.range c).filter fun j => decide (j = i)) = [i] := by
    refine List.Perm.eq_of_pairwise (le := (· < ·)) (fun a b _ _ h1 h2 => absurd (Nat.lt_trans h1 h2) (Nat.lt_irrefl _)) (List.pairwise_lt_range.filter _) (List.pairwise_singleton _ _) ?_
    refine (List.perm_ext_iff_of_nodup ((List.pairwise_lt_range.filter _).imp Nat.ne_of_lt) (by simp)).mpr fun a => ?_
    rw [List.mem_filter, List.mem_range, decide_eq_true_eq, List.mem_singleton]
    exact ⟨fun q => q.2, fun q => ⟨q ▸ hi, q⟩⟩
  rw [e]
  rfl
theorem mates_there {c : Nat} {L : List Nat} (h : Lot c L) {i : Nat} (hc : i < c) (hi : i ∉ L) : ((mates c L i).length : Int) = (c : Int) - 1 - (near L i : Int) := by
  have e1 := filter_filter_len (fun j => !decide (j = i)) (fun j => decide (j ∈ L)) (List.range c)
  have e2 := filter_filter_len (fun _ => true) (fun j => decide (j = i)) (List.range c)
  have e3 : ((List.range c).filter fun j => true && decide (j = i)).length = 1 := one_of hc
  have e4 : ((List.range c).filter fun _ => true).length = c := by rw [List.filter_eq_self.mpr fun _ _ => rfl, List.length_range]
  have e5 : ((List.range c).filter fun j => !decide (j = i) && decide (j ∈ L)).length = near L i := by
    rw [near_in h]
    congr 1
    exact List.filter_congr fun a _ => Bool.and_comm _ _
  have e6 : ((List.range c).filter fun j => !decide (j = i) && !decide (j ∈ L)).length = (mates c L i).length := by
    unfold mates
    congr 1
    refine List.filter_congr fun a _ => ?_
    rw [decide_eq_false hi]
    cases decide (a ∈ L) <;> cases decide (a = i) <;> rfl
  have e7 : ((List.range c).filter fun j => true && !decide (j = i)).length = ((List.range c).filter fun j => !decide (j = i)).length := rfl
  rw [e5, e6] at e1
  rw [e3, e4, e7] at e2
  omega
/-- afloat where it lies -/
def aflB (h t : Int) (ds : List Int) (L : List Nat) (i : Nat) : Bool := if i ∈ L then decide (ds.getD i 0 ≤ h + (near L i : Int)) else decide (ds.getD i 0 ≤ t + ((ds.length : Int) - 1 - (near L i : Int)))
def afl (h t : Int) (ds : List Int) (L : List Nat) (n : Nat) : List Nat := (List.range n).filter (aflB h t ds L)
theorem aflB_mates {h t : Int} {ds : List Int} {L : List Nat} {i : Nat} (hL : Lot ds.length L) (hi : i < ds.length) :
    aflB h t ds L i = decide (ds.getD i 0 ≤ (if i ∈ L then h else t) + ((mates ds.length L i).length : Int)) := by
  unfold aflB
  by_cases z : i ∈ L
  · rw [if_pos z, if_pos z, mates_here hL z]
  · rw [if_neg z, if_neg z, mates_there hL hi z]
theorem in_ni {i : Nat} {L : List Nat} : inV (.int (i : Int)) (ni L) = decide (i ∈ L) := by
  unfold inV ni
  rw [List.any_map, Bool.eq_iff_iff, List.any_eq_true, decide_eq_true_eq]
  constructor
  · rintro ⟨x, hx, e⟩
    have e' : ((x : Int) == (i : Int)) = true := e
    have : x = i := by have := beq_iff_eq.mp e'; omega
    rw [← this]
    exact hx
  · intro hx
    exact ⟨i, hx, beq_self_eq_true (i : Int)⟩
def spAfl (K : PySem.W.Frag) : Sp := fun vs H Q _ => ∃ (v l : V) (h t : Int) (ds : List Int) (L : List Nat), vs = [v, l] ∧ SeaA K H v h t ds ∧ LotA K H l L ∧ ds.length ≤ 1000 ∧ Lot ds.length L ∧
  ∀ (H' : Hp) (p : Addr), Same H H' → H p = none → H' p = some (.lst (ni (afl h t ds L ds.length))) → Q (.ref p) H'
/-- the same of who may go: of a standing -/
def spMay (K : PySem.W.Frag) : Sp := fun vs H Q _ => ∃ (v l : V) (h t : Int) (ds : List Int) (L : List Nat), vs = [v, l] ∧ SeaA K H v h t ds ∧ LotA K H l L ∧ ds.length ≤ 1000 ∧ Lot ds.length L ∧
  ∀ (H' : Hp) (p : Addr), Same H H' → H p = none → H' p = some (.lst (ni (lets h t ds L ds.length))) → Q (.ref p) H'
end Sh

namespace Sh
open PySem PySem.Spec PyProof.Rows L2
theorem eqv_nil (ns : List Int) : PyData.eqv (.list (ns.map .int)) (.list []) = ns.isEmpty := by cases ns <;> rfl
end Sh

namespace Sh
open PySem PySem.Spec PyProof.Rows L2
/-! ### the program: steps -/
def mk (h t : Int) (k : Nat) (s : Int) : Int := if t + ((k : Int) - 1 - s) < h + s then t + ((k : Int) - 1 - s) else h + s
def gs (m : Int) (ds : List Int) (n : Nat) : List Nat := (List.range n).filter fun i => decide (ds.getD i 0 ≤ m)
def topI (h t : Int) (k : Nat) : Int := if (if (t + ((k : Int) - 1) - h) / 2 < (k : Int) - 1 then (t + ((k : Int) - 1) - h) / 2 else (k : Int) - 1) > 0 then (if (t + ((k : Int) - 1) - h) / 2 < (k : Int) - 1 then (t + ((k : Int) - 1) - h) / 2 else (k : Int) - 1) else 0
def lowI (h d : Int) : Int := if d - h > 0 then d - h else 0
def highI (t : Int) (k : Nat) (d : Int) : Int := if t + ((k : Int) - 1) - d < (k : Int) - 1 then t + ((k : Int) - 1) - d else (k : Int) - 1
def spMark (K : PySem.W.Frag) : Sp := fun vs H Q _ => ∃ (v : V) (h t s : Int) (ds : List Int), vs = [v, .int s] ∧ SeaA K H v h t ds ∧ Q (.int (mk h t ds.length s)) H
def spGoers (K : PySem.W.Frag) : Sp := fun vs H Q _ => ∃ (v : V) (h t s : Int) (ds : List Int), vs = [v, .int s] ∧ SeaA K H v h t ds ∧ ds.length ≤ 1000 ∧
  ∀ (H' : Hp) (p : Addr), Same H H' → H p = none → H' p = some (.lst (((gs (mk h t ds.length s) ds ds.length).map fun (i : Nat) => (i : Int)).map V.int)) → Q (.ref p) H'
def spTop (K : PySem.W.Frag) : Sp := fun vs H Q _ => ∃ (v : V) (h t : Int) (ds : List Int), vs = [v] ∧ SeaA K H v h t ds ∧ Q (.int (topI h t ds.length)) H
def spWindow (K : PySem.W.Frag) : Sp := fun vs H Q _ => ∃ (v : V) (h t d : Int) (j : Nat) (ds : List Int), vs = [v, .int (j : Int)] ∧ SeaA K H v h t ds ∧ ds[j]? = some d ∧
  (lowI h d > highI t ds.length d → Q .non H) ∧ (¬ lowI h d > highI t ds.length d → ∀ p, H p = none → Q (.ref p) (upd H p (.tup [.int (lowI h d), .int (highI t ds.length d)])))
theorem gs_succ {m : Int} {ds : List Int} {n : Nat} : gs m ds (n + 1) = gs m ds n ++ (if ds.getD n 0 ≤ m then [n] else []) := by
  unfold gs
  rw [List.range_succ, List.filter_append]
  congr 1
  by_cases h : ds.getD n 0 ≤ m
  · rw [if_pos h, List.filter_cons_of_pos (by simpa using h)]
    rfl
  · rw [if_neg h, List.filter_cons_of_neg (by simpa using h)]
    rfl
theorem gs_len {m : Int} {ds : List Int} {n : Nat} : (gs m ds n).length ≤ n := by
  unfold gs
  exact Nat.le_trans (List.length_filter_le _ _) (by simp)
theorem mk_alt (h t : Int) (k : Nat) (s : Int) : (if t + (k : Int) - 1 - s < h + s then t + (k : Int) - 1 - s else h + s) = mk h t k s := by
  unfold mk
  rw [show t + (k : Int) - 1 - s = t + ((k : Int) - 1 - s) by omega]
end Sh

namespace Sh
open PySem PySem.Spec PyProof.Rows L2
/-! ### steps: the mathematics -/
def ml (h t : Int) (k n : Nat) : List Int := (List.range n).map fun (i : Nat) => mk h t k (i : Int)
theorem ml_succ (h t : Int) (k n : Nat) : ml h t k (n + 1) = ml h t k n ++ [mk h t k (n : Int)] := by
  unfold ml
  rw [List.range_succ, List.map_append]
  rfl
theorem ml_len (h t : Int) (k n : Nat) : (ml h t k n).length = n := by
  unfold ml
  simp
theorem ml_get {h t : Int} {k n i : Nat} (hi : i < n) : (ml h t k n)[i]? = some (mk h t k (i : Int)) := by
  unfold ml
  simp [hi]
theorem top_lo (h t : Int) (k : Nat) : 0 ≤ topI h t k := by
  unfold topI
  split <;> omega
theorem top_hi (h t : Int) {k : Nat} (hk : 0 < k) : topI h t k < (k : Int) := by
  unfold topI
  repeat' split
  all_goals omega
theorem top_max (h t : Int) {k i : Nat} (hi : i < k) : mk h t k (i : Int) ≤ mk h t k (topI h t k) := by
  unfold mk topI
  repeat' split
  all_goals omega
theorem top_least (h t : Int) {k i : Nat} (hi : (i : Int) < topI h t k) : mk h t k (i : Int) < mk h t k (topI h t k) := by
  unfold mk topI at *
  repeat' split
  all_goals (repeat' split at hi)
  all_goals omega
theorem win_iff (h t d : Int) {k i : Nat} (hi : i < k) : d ≤ mk h t k (i : Int) ↔ lowI h d ≤ (i : Int) ∧ (i : Int) ≤ highI t k d := by
  unfold mk lowI highI
  constructor
  · intro z
    split at z <;> (constructor <;> split <;> omega)
  · intro z
    split <;> (obtain ⟨z1, z2⟩ := z; split at z1 <;> split at z2 <;> omega)
/-- the steps at which it may go -/
def fl (h t d : Int) (k n : Nat) : List Nat := (List.range n).filter fun (i : Nat) => decide (d ≤ mk h t k (i : Int))
theorem fl_succ {h t d : Int} {k n : Nat} : fl h t d k (n + 1) = fl h t d k n ++ (if d ≤ mk h t k (n : Int) then [n] else []) := by
  unfold fl
  rw [List.range_succ, List.filter_append]
  congr 1
  by_cases z : d ≤ mk h t k (n : Int)
  · rw [if_pos z, List.filter_cons_of_pos (by simpa using z)]
    rfl
  · rw [if_neg z, List.filter_cons_of_neg (by simpa using z)]
    rfl
theorem fl_len {h t d : Int} {k n : Nat} : (fl h t d k n).length ≤ n := by
  unfold fl
  exact Nat.le_trans (List.length_filter_le _ _) (by simp)
theorem fl_mem {h t d : Int} {k i : Nat} : i ∈ fl h t d k k ↔ i < k ∧ lowI h d ≤ (i : Int) ∧ (i : Int) ≤ highI t k d := by
  unfold fl
  rw [List.mem_filter, List.mem_range, decide_eq_true_eq]
  constructor
  · rintro ⟨a, b⟩
    exact ⟨a, (win_iff h t d a).mp b⟩
  · rintro ⟨a, b⟩
    exact ⟨a, (win_iff h t d a).mpr b⟩
theorem fl_sorted (h t d : Int) (k : Nat) : (fl h t d k k).Pairwise (· < ·) := by
  unfold fl
  exact List.Pairwise.filter _ List.pairwise_lt_range
theorem high_lt (t d : Int) {k : Nat} (hk : 0 < k) : highI t k d < (k : Int) := by
  unfold highI
  split <;> omega
theorem low_nn (h d : Int) : 0 ≤ lowI h d := by
  unfold lowI
  split <;> omega
theorem fl_nil {h t d : Int} {k : Nat} (z : lowI h d > highI t k d) : fl h t d k k = [] := by
  cases e : fl h t d k k with
  | nil => rfl
  | cons x r =>
    have m : x ∈ fl h t d k k := by rw [e]; exact List.mem_cons_self
    obtain ⟨_, a, b⟩ := fl_mem.mp m
    omega
/-- a rising list has its least first, its greatest last -/
theorem fl_ends {h t d : Int} {k : Nat} (hk : 0 < k) (z : ¬ lowI h d > highI t k d) : ∃ (l : List Nat) (r : List Nat) (a b : Nat), fl h t d k k = a :: r ∧ fl h t d k k = l ++ [b] ∧ (a : Int) = lowI h d ∧ (b : Int) = highI t k d := by
  have hh := high_lt t d hk
  have hl := low_nn h d
  have ml' : (lowI h d).toNat ∈ fl h t d k k := fl_mem.mpr ⟨by omega, by omega, by omega⟩
  have mh : (highI t k d).toNat ∈ fl h t d k k := fl_mem.mpr ⟨by omega, by omega, by omega⟩
  have ne : fl h t d k k ≠ [] := List.ne_nil_of_mem ml'
  have st := fl_sorted h t d k
  obtain ⟨a, r, e1⟩ : ∃ a r, fl h t d k k = a :: r := by
    cases e : fl h t d k k with
    | nil => exact absurd e ne
    | cons x r => exact ⟨x, r, rfl⟩
  have e2 : fl h t d k k = (fl h t d k k).dropLast ++ [(fl h t d k k).getLast ne] := (List.dropLast_concat_getLast ne).symm
  refine ⟨_, r, a, _, e1, e2, ?_, ?_⟩
  · have ma : a ∈ fl h t d k k := by rw [e1]; exact List.mem_cons_self
    obtain ⟨_, g1, g2⟩ := fl_mem.mp ma
    have le : a ≤ (lowI h d).toNat := by
      rw [e1] at ml' st
      rcases List.mem_cons.mp ml' with q | q
      · omega
      · have := (List.pairwise_cons.mp st).1 _ q
        omega
    omega
  · have mb := List.getLast_mem ne
    obtain ⟨_, g1, g2⟩ := fl_mem.mp mb
    have le : (highI t k d).toNat ≤ (fl h t d k k).getLast ne := by
      have st2 := st
      rw [e2] at mh st2
      rcases List.mem_append.mp mh with q | q
      · have := (List.pairwise_append.mp st2).2.2 _ q _ List.mem_cons_self
        omega
      · have : (highI t k d).toNat = (fl h t d k k).getLast ne := by simpa using q
        omega
    omega
end Sh

namespace Sh
open PySem PySem.Spec PyProof.Rows L2
/-! ### sorted lists of ships -/
theorem nat_list {c : Nat} : ∀ {ns : List Int}, (∀ z ∈ ns, 0 ≤ z ∧ z < (c : Int)) → ∃ L : List Nat, ns = L.map (fun (i : Nat) => (i : Int)) ∧ ∀ i ∈ L, i < c
  | [], _ => ⟨[], rfl, fun _ h => by cases h⟩
  | z :: ns, h => by
    obtain ⟨L, e, hL⟩ := nat_list (ns := ns) fun y hy => h y (List.mem_cons_of_mem _ hy)
    have hz := h z List.mem_cons_self
    refine ⟨z.toNat :: L, ?_, fun i hi => ?_⟩
    · rw [List.map_cons, ← e]
      congr 1
      omega
    · rcases List.mem_cons.mp hi with q | q
      · omega
      · exact hL i q
theorem map_inj {L M : List Nat} (h : (L.map fun (i : Nat) => (i : Int)).Perm (M.map fun (i : Nat) => (i : Int))) : L.Perm M := by
  have h2 := h.map Int.toNat
  rw [List.map_map, List.map_map] at h2
  have e : (Int.toNat ∘ fun (i : Nat) => (i : Int)) = id := by
    funext i
    exact Int.toNat_natCast i
  rw [e, List.map_id, List.map_id] at h2
  exact h2
/-- sorted ints that are a rearrangement of different ships: a lot -/
theorem lot_sorted {c : Nat} {ns : List Int} {M : List Nat} (pm : ns.Perm (M.map fun (i : Nat) => (i : Int))) (up : ns.Pairwise (· ≤ ·)) (nd : M.Nodup) (lt : ∀ i ∈ M, i < c) :
    ∃ L : List Nat, ns = L.map (fun (i : Nat) => (i : Int)) ∧ L.Perm M ∧ Lot c L := by
  obtain ⟨L, rfl, hL⟩ := nat_list (c := c) (ns := ns) fun z hz => by
    obtain ⟨i, hi, rfl⟩ := List.mem_map.mp (pm.mem_iff.mp hz)
    have := lt i hi
    omega
  have p2 := map_inj pm
  refine ⟨L, rfl, p2, ?_, hL⟩
  have ndL : L.Nodup := p2.nodup_iff.mpr nd
  have up2 : L.Pairwise (· ≤ ·) := by
    rw [List.pairwise_map] at up
    exact up.imp fun h => by omega
  exact (up2.and ndL).imp fun h => Nat.lt_of_le_of_ne h.1 h.2
theorem cut_take (xs : List V) (l : Nat) : cutV xs none (some (l : Int)) = xs.take l := by
  unfold cutV
  rw [HT.sIx_none, HT.sIx_nat]
  show (xs.drop 0).take (min l xs.length - 0) = xs.take l
  rw [List.drop_zero, Nat.sub_zero]
  by_cases h : l ≤ xs.length
  · rw [Nat.min_eq_left h]
  · rw [Nat.min_eq_right (by omega), List.take_length, List.take_of_length_le (by omega)]
theorem near_out {L : List Nat} {i : Nat} (h : i ∉ L) : near L i = L.length := by
  unfold near
  rw [List.filter_eq_self.mpr fun a ha => ?_]
  have : ¬ a = i := fun e => h (e ▸ ha)
  simpa using this
theorem near_perm {L M : List Nat} (i : Nat) (h : L.Perm M) : near L i = near M i := (h.filter _).length_eq
theorem near_add {L : List Nat} {i : Nat} (h : i ∉ L) : near (L ++ [i]) i = L.length := by
  rw [← near_out h]
  unfold near
  rw [List.filter_append]
  simp
end Sh

namespace Th
/-! ### counting ships below k -/
def cnt (k : Nat) (S : Nat → Bool) : Nat := (List.range k).countP S
theorem cnt_zero (S : Nat → Bool) : cnt 0 S = 0 := rfl
theorem cnt_succ (k : Nat) (S : Nat → Bool) : cnt (k + 1) S = cnt k S + (if S k = true then 1 else 0) := by
  unfold cnt
  rw [List.range_succ, List.countP_append]
  congr 1
  cases h : S k <;> simp [h]
theorem cnt_le (k : Nat) (S : Nat → Bool) : cnt k S ≤ k := by
  induction k with
  | zero => exact Nat.le_refl _
  | succ k ih => rw [cnt_succ]; split <;> omega
theorem cnt_congr {k : Nat} {S U : Nat → Bool} (h : ∀ i, i < k → S i = U i) : cnt k S = cnt k U := by
  induction k with
  | zero => rfl
  | succ k ih => rw [cnt_succ, cnt_succ, ih fun i hi => h i (by omega), h k (by omega)]
theorem cnt_mono {k : Nat} {S U : Nat → Bool} (h : ∀ i, i < k → S i = true → U i = true) : cnt k S ≤ cnt k U := by
  induction k with
  | zero => exact Nat.le_refl _
  | succ k ih =>
    have := ih fun i hi => h i (by omega)
    rw [cnt_succ, cnt_succ]
    by_cases e : S k = true
    · rw [if_pos e, if_pos (h k (by omega) e)]
      omega
    · rw [if_neg e]
      omega
/-- as many, and all of the one among the other: the same -/
theorem cnt_eq {k : Nat} {S U : Nat → Bool} (h : ∀ i, i < k → S i = true → U i = true) (e : cnt k U ≤ cnt k S) : ∀ i, i < k → U i = true → S i = true := by
  induction k with
  | zero => intro i hi; omega
  | succ k ih =>
    have hm := cnt_mono (k := k) fun i hi => h i (by omega)
    rw [cnt_succ, cnt_succ] at e
    intro i hi hu
    by_cases ek : S k = true
    · have uk := h k (by omega) ek
      rw [if_pos ek, if_pos uk] at e
      by_cases z : i = k
      · rw [z]; exact ek
      · exact ih (fun i hi => h i (by omega)) (by omega) i (by omega) hu
    · rw [if_neg ek] at e
      by_cases uk : U k = true
      · rw [if_pos uk] at e
        omega
      · rw [if_neg uk] at e
        by_cases z : i = k
        · rw [z] at hu; exact absurd hu uk
        · exact ih (fun i hi => h i (by omega)) (by omega) i (by omega) hu
theorem cnt_ex {k : Nat} {S U : Nat → Bool} (e : cnt k S < cnt k U) : ∃ i, i < k ∧ U i = true ∧ S i = false := by
  induction k with
  | zero => rw [cnt_zero, cnt_zero] at e; omega
  | succ k ih =>
    rw [cnt_succ, cnt_succ] at e
    by_cases uk : U k = true
    · by_cases sk : S k = true
      · rw [if_pos uk, if_pos sk] at e
        obtain ⟨i, h1, h2⟩ := ih (by omega)
        exact ⟨i, by omega, h2⟩
      · exact ⟨k, by omega, uk, by simpa using sk⟩
    · rw [if_neg uk] at e
      obtain ⟨i, h1, h2⟩ := ih (by omega)
      exact ⟨i, by omega, h2⟩
theorem cnt_pos_ex {k : Nat} {S : Nat → Bool} (e : 0 < cnt k S) : ∃ i, i < k ∧ S i = true := by
  induction k with
  | zero => rw [cnt_zero] at e; omega
  | succ k ih =>
    by_cases sk : S k = true
    · exact ⟨k, by omega, sk⟩
    · rw [cnt_succ, if_neg sk] at e
      obtain ⟨i, h1, h2⟩ := ih (by omega)
      exact ⟨i, by omega, h2⟩
def flip (S : Nat → Bool) (i : Nat) : Nat → Bool := fun j => if j = i then !S j else S j
theorem flip_self (S : Nat → Bool) (i : Nat) : flip S i i = !S i := by unfold flip; rw [if_pos rfl]
theorem flip_ne (S : Nat → Bool) {i j : Nat} (h : j ≠ i) : flip S i j = S j := by unfold flip; rw [if_neg h]
theorem flip_flip (S : Nat → Bool) (i : Nat) : flip (flip S i) i = S := by
  funext j
  by_cases h : j = i
  · subst h
    rw [flip_self, flip_self, Bool.not_not]
  · rw [flip_ne _ h, flip_ne _ h]
theorem cnt_flip_up {k : Nat} {S : Nat → Bool} {i : Nat} (hi : i < k) (h : S i = false) : cnt k (flip S i) = cnt k S + 1 := by
  induction k with
  | zero => omega
  | succ k ih =>
    rw [cnt_succ, cnt_succ]
    by_cases z : i = k
    · subst z
      rw [flip_self, h]
      rw [cnt_congr (k := i) (S := flip S i) (U := S) fun j hj => flip_ne S (by omega)]
      simp
    · rw [ih (by omega), flip_ne S (show k ≠ i by omega)]
      omega
theorem cnt_flip_dn {k : Nat} {S : Nat → Bool} {i : Nat} (hi : i < k) (h : S i = true) : cnt k (flip S i) + 1 = cnt k S := by
  have e : flip S i i = false := by rw [flip_self, h]; rfl
  have := cnt_flip_up hi e
  rw [flip_flip] at this
  omega
theorem cnt_pos {k : Nat} {S : Nat → Bool} {i : Nat} (hi : i < k) (h : S i = true) : 0 < cnt k S := by
  have := cnt_flip_dn hi h
  omega
theorem cnt_or_not {k : Nat} (S U : Nat → Bool) : cnt k (fun i => S i || U i) = cnt k S + cnt k (fun i => U i && !S i) := by
  induction k with
  | zero => rfl
  | succ k ih =>
    rw [cnt_succ, cnt_succ, cnt_succ, ih]
    cases S k <;> cases U k <;> simp <;> omega
theorem cnt_split {k : Nat} (S U : Nat → Bool) : cnt k S = cnt k (fun i => S i && U i) + cnt k (fun i => S i && !U i) := by
  induction k with
  | zero => rfl
  | succ k ih =>
    rw [cnt_succ, cnt_succ, cnt_succ, ih]
    cases S k <;> cases U k <;> simp <;> omega
theorem cnt_not {k : Nat} (S : Nat → Bool) : cnt k S + cnt k (fun i => !S i) = k := by
  induction k with
  | zero => rfl
  | succ k ih =>
    rw [cnt_succ, cnt_succ]
    cases S k <;> simp <;> omega

/-! ### crossings -/
section
variable (k : Nat) (G : Nat → Nat → Bool)
inductive Step : (Nat → Bool) → (Nat → Bool) → Prop
  | up {S : Nat → Bool} {i : Nat} (hi : i < k) (hs : S i = false) (hg : G (cnt k S) i = true) : Step S (flip S i)
  | dn {S : Nat → Bool} {i : Nat} (hi : i < k) (hs : S i = true) (hg : G (cnt k S - 1) i = true) : Step S (flip S i)
inductive Reach : (Nat → Bool) → (Nat → Bool) → Prop
  | refl (S : Nat → Bool) : Reach S S
  | step {S U W : Nat → Bool} : Reach S U → Step k G U W → Reach S W
end
section
variable {k : Nat} {G : Nat → Nat → Bool} {S U W : Nat → Bool}
theorem Step.symm (h : Step k G S U) : Step k G U S := by
  cases h with
  | @up i hi hs hg =>
    have e : Step k G (flip S i) (flip (flip S i) i) := .dn hi (by rw [flip_self, hs]; rfl) (by rw [cnt_flip_up hi hs, Nat.add_sub_cancel]; exact hg)
    rwa [flip_flip] at e
  | @dn i hi hs hg =>
    have e : Step k G (flip S i) (flip (flip S i) i) := .up hi (by rw [flip_self, hs]; rfl) (by have := cnt_flip_dn hi hs; rw [show cnt k (flip S i) = cnt k S - 1 by omega]; exact hg)
    rwa [flip_flip] at e
theorem Reach.trans (a : Reach k G S U) (b : Reach k G U W) : Reach k G S W := by
  induction b with
  | refl => exact a
  | step _ s ih => exact .step ih s
theorem Reach.one (s : Step k G S U) : Reach k G S U := .step (.refl _) s
theorem Reach.symm (a : Reach k G S U) : Reach k G U S := by
  induction a with
  | refl => exact .refl _
  | step _ s ih => exact (Reach.one s.symm).trans ih
/-- whatever every crossing keeps -/
theorem Reach.inv {P : (Nat → Bool) → Prop} (hp : ∀ S U, P S → Step k G S U → P U) (a : Reach k G S U) (h : P S) : P U := by
  induction a with
  | refl => exact h
  | step _ s ih => exact hp _ _ ih s
/-! ### filled from below -/
/-- between a and b goers grow -/
def Grow (G : Nat → Nat → Bool) (b : Nat) : Prop := ∀ s s' i, s ≤ s' → s' ≤ b → G s i = true → G s' i = true
/-- S can be filled to N, if at each number on the way somebody lacks -/
theorem fill {T : Nat} (gr : Grow G T) (N : Nat) (hN : N ≤ T + 1) (h0 : cnt k S ≤ N) (hl : ∀ n, cnt k S ≤ n → n < N → n < cnt k (fun i => S i || G n i)) :
    ∃ U, Reach k G S U ∧ cnt k U = N ∧ (∀ i, S i = true → U i = true) ∧ ∀ i, i < k → U i = true → S i = true ∨ (0 < N ∧ G (N - 1) i = true) := by
  induction N with
  | zero => exact ⟨S, .refl _, by omega, fun _ h => h, fun _ _ h => .inl h⟩
  | succ N ih =>
    by_cases e : cnt k S = N + 1
    · exact ⟨S, .refl _, e, fun _ h => h, fun _ _ h => .inl h⟩
    · obtain ⟨U, r, c, h1, h2⟩ := ih (by omega) (by omega) fun n a b => hl n a (by omega)
      have hlt := hl N (by omega) (by omega)
      obtain ⟨i, hi, g, u⟩ := cnt_ex (k := k) (S := U) (U := fun i => S i || G N i) (by omega)
      have gi : G N i = true := by
        cases hs : S i with
        | true => rw [h1 i hs] at u; cases u
        | false => rw [hs] at g; exact g
      refine ⟨flip U i, r.step (.up hi u (by rw [c]; exact gi)), by rw [cnt_flip_up hi u, c], fun j hj => ?_, fun j hj hf => ?_⟩
      · by_cases z : j = i
        · subst z
          rw [h1 j hj] at u
          cases u
        · rw [flip_ne _ z]
          exact h1 j hj
      · by_cases z : j = i
        · exact .inr ⟨by omega, by rw [z]; exact gi⟩
        · rw [flip_ne _ z] at hf
          rcases h2 j hj hf with q | ⟨q, g2⟩
          · exact .inl q
          · exact .inr ⟨by omega, gr _ _ _ (by omega) (by omega) g2⟩
/-- stuck at N: the fullest one is S with all goers at N -/
theorem stuck {T N : Nat} (gr : Grow G T) (hN : N ≤ T) (h0 : cnt k S ≤ N) (hl : ∀ n, cnt k S ≤ n → n < N → n < cnt k (fun i => S i || G n i)) (hs : cnt k (fun i => S i || G N i) ≤ N) :
    ∃ U, Reach k G S U ∧ cnt k U = N ∧ ∀ i, i < k → U i = (S i || G N i) := by
  obtain ⟨U, r, c, h1, h2⟩ := fill gr N (by omega) h0 hl
  have hm : ∀ i, i < k → U i = true → (S i || G N i) = true := fun i hi hu => by
    rcases h2 i hi hu with q | ⟨_, q⟩
    · rw [q]; rfl
    · rw [gr _ _ _ (by omega) hN q, Bool.or_true]
  have he := cnt_eq (k := k) (S := U) (U := fun i => S i || G N i) hm (by omega)
  refine ⟨U, r, c, fun i hi => ?_⟩
  cases hu : U i with
  | true => exact (hm i hi hu).symm
  | false =>
    cases hq : (S i || G N i) with
    | false => rfl
    | true => rw [he i hi hq] at hu; cases hu
/-- under a low bar at N nobody gets out -/
theorem low_inv {T N : Nat} (gr : Grow G T) (hN : N ≤ T) {F : Nat → Bool} (hF : cnt k F = N) (hG : ∀ i, i < k → G N i = true → F i = true) :
    ∀ S U, (cnt k S ≤ N ∧ ∀ i, i < k → (S i || G N i) = F i) → Step k G S U → (cnt k U ≤ N ∧ ∀ i, i < k → (U i || G N i) = F i) := by
  rintro S U ⟨c, h⟩ s
  have sub : ∀ i, i < k → S i = true → F i = true := fun i hi hs => by rw [← h i hi, hs]; rfl
  cases s with
  | @up i hi hs hg =>
    by_cases z : cnt k S = N
    · exfalso
      rw [z] at hg
      have := cnt_eq sub (by omega) i hi (hG i hi hg)
      rw [hs] at this
      cases this
    · refine ⟨by rw [cnt_flip_up hi hs]; omega, fun j hj => ?_⟩
      by_cases e : j = i
      · subst e
        have gN := gr _ _ _ (by omega) hN hg
        rw [gN, Bool.or_true, hG j hj gN]
      · rw [flip_ne _ e]
        exact h j hj
  | @dn i hi hs hg =>
    have := cnt_flip_dn hi hs
    refine ⟨by omega, fun j hj => ?_⟩
    by_cases e : j = i
    · subst e
      have gN := gr _ _ _ (by omega) hN hg
      rw [gN, Bool.or_true, hG j hj gN]
    · rw [flip_ne _ e]
      exact h j hj
end
end Th
namespace Th
section
variable {k : Nat} {G : Nat → Nat → Bool} {S U W : Nat → Bool}
/-! ### met from the other basin -/
def co (S : Nat → Bool) : Nat → Bool := fun i => !S i
def dual (k : Nat) (G : Nat → Nat → Bool) : Nat → Nat → Bool := fun s i => G (k - 1 - s) i
theorem co_co (S : Nat → Bool) : co (co S) = S := by funext i; exact Bool.not_not _
theorem cnt_co (k : Nat) (S : Nat → Bool) : cnt k S + cnt k (co S) = k := cnt_not S
theorem flip_co (S : Nat → Bool) (i : Nat) : flip (co S) i = co (flip S i) := by
  funext j
  unfold co flip
  split <;> rfl
theorem Step.dual (h : Step k G S U) : Step k (dual k G) (co S) (co U) := by
  cases h with
  | @up i hi hs hg =>
    rw [← flip_co]
    have c1 := cnt_co k S
    have c2 := cnt_le k (flip S i)
    rw [cnt_flip_up hi hs] at c2
    refine .dn hi (by unfold co; rw [hs]; rfl) ?_
    unfold Th.dual
    rw [show k - 1 - (cnt k (co S) - 1) = cnt k S by omega]
    exact hg
  | @dn i hi hs hg =>
    rw [← flip_co]
    have c1 := cnt_co k S
    have c2 := cnt_pos hi hs
    refine .up hi (by unfold co; rw [hs]; rfl) ?_
    unfold Th.dual
    rw [show k - 1 - cnt k (co S) = cnt k S - 1 by omega]
    exact hg
theorem dual_dual_at {s : Nat} (hs : s < k) (i : Nat) : Th.dual k (Th.dual k G) s i = G s i := by
  unfold Th.dual
  rw [show k - 1 - (k - 1 - s) = s by omega]
theorem Reach.dual (h : Reach k G S U) : Reach k (Th.dual k G) (co S) (co U) := by
  induction h with
  | refl => exact .refl _
  | step _ s ih => exact .step ih s.dual
theorem Step.congr {G' : Nat → Nat → Bool} (hg : ∀ s i, s < k → G s i = G' s i) (h : Step k G S U) : Step k G' S U := by
  cases h with
  | @up i hi hs g =>
    have := cnt_le k (flip S i)
    rw [cnt_flip_up hi hs] at this
    exact .up hi hs (by rw [← hg _ _ (by omega)]; exact g)
  | @dn i hi hs g =>
    have := cnt_le k S
    have := cnt_pos hi hs
    exact .dn hi hs (by rw [← hg _ _ (by omega)]; exact g)
theorem Reach.congr {G' : Nat → Nat → Bool} (hg : ∀ s i, s < k → G s i = G' s i) (h : Reach k G S U) : Reach k G' S U := by
  induction h with
  | refl => exact .refl _
  | step _ s ih => exact .step ih (s.congr hg)
theorem Reach.codual (h : Reach k (Th.dual k G) (co S) (co U)) : Reach k G S U := by
  have h2 := h.dual
  rw [co_co, co_co] at h2
  exact h2.congr fun s i hs => dual_dual_at hs i
/-! ### at the top -/
structure Top (k : Nat) (G : Nat → Nat → Bool) (T : Nat) : Prop where
  lt : T < k
  up : Grow G T
  dn : ∀ s s' i, T ≤ s → s ≤ s' → s' < k → G s' i = true → G s i = true
theorem Top.all {T : Nat} (t : Top k G T) {s i : Nat} (hs : s < k) (h : G s i = true) : G T i = true := by
  by_cases z : s ≤ T
  · exact t.up s T i z (Nat.le_refl _) h
  · exact t.dn T s i (Nat.le_refl _) (by omega) hs h
theorem Top.dual {T : Nat} (t : Top k G T) : Top k (Th.dual k G) (k - 1 - T) := by
  have := t.lt
  refine ⟨by omega, fun s s' i a b g => ?_, fun s s' i a b c g => ?_⟩
  · exact t.dn (k - 1 - s') (k - 1 - s) i (by omega) (by omega) (by omega) g
  · exact t.up (k - 1 - s') (k - 1 - s) i (by omega) (by omega) g
/-- who isn't a goer at the top never goes -/
theorem fast_inv {T : Nat} (t : Top k G T) (h : Reach k G S U) : ∀ i, i < k → G T i = false → U i = S i := by
  intro i hi hg
  refine Reach.inv (P := fun W => W i = S i) (fun A B e s => ?_) h rfl
  cases s with
  | @up j hj hs g =>
    have c := cnt_le k (flip A j)
    rw [cnt_flip_up hj hs] at c
    have : i ≠ j := fun z => by
      subst z
      rw [t.all (by omega) g] at hg
      cases hg
    rw [flip_ne _ this]
    exact e
  | @dn j hj hs g =>
    have c := cnt_le k A
    have c2 := cnt_pos hj hs
    have : i ≠ j := fun z => by
      subst z
      rw [t.all (by omega) g] at hg
      cases hg
    rw [flip_ne _ this]
    exact e
def diff (k : Nat) (S U : Nat → Bool) : Nat := cnt k (fun i => S i && !U i)
theorem reach_out (h : Reach k G S U) : ∀ i, ¬ i < k → U i = S i := by
  intro i hi
  refine Reach.inv (P := fun W => W i = S i) (fun A B e s => ?_) h rfl
  cases s with
  | @up j hj hs g =>
    rw [flip_ne _ (show i ≠ j by omega)]
    exact e
  | @dn j hj hs g =>
    rw [flip_ne _ (show i ≠ j by omega)]
    exact e
/-- at the top's own number goers can be exchanged -/
theorem swap {T : Nat} (t : Top k G T) : ∀ (n : Nat) (S U : Nat → Bool), diff k S U ≤ n → cnt k S = T → cnt k U = T → (∀ i, i < k → G T i = false → U i = S i) → (∀ i, ¬ i < k → U i = S i) → Reach k G S U := by
  intro n
  induction n with
  | zero =>
    intro S U hd cs cu hf ho
    have hsub : ∀ i, i < k → S i = true → U i = true := fun i hi hs => by
      cases hu : U i with
      | true => rfl
      | false =>
        have := cnt_pos (k := k) (S := fun i => S i && !U i) hi (by show (S i && !U i) = true; rw [hs, hu]; rfl)
        unfold diff at hd
        omega
    have heq := cnt_eq hsub (by omega)
    have : U = S := by
      funext i
      by_cases hi : i < k
      · cases hs : S i with
        | true => exact hsub i hi hs
        | false =>
          cases hu : U i with
          | false => rfl
          | true => rw [heq i hi hu] at hs; cases hs
      · exact ho i hi
    rw [this]
    exact .refl _
  | succ n ih =>
    intro S U hd cs cu hf ho
    by_cases z : diff k S U = 0
    · exact ih S U (by omega) cs cu hf ho
    · obtain ⟨i, hi, h1⟩ := cnt_pos_ex (k := k) (S := fun i => S i && !U i) (by unfold diff at z; omega)
      have si : S i = true := by revert h1; cases S i <;> simp
      have ui : U i = false := by revert h1; cases U i <;> simp
      have e1 := cnt_split (k := k) S U
      have e2 := cnt_split (k := k) U S
      have e3 : cnt k (fun i => S i && U i) = cnt k (fun i => U i && S i) := cnt_congr fun i _ => Bool.and_comm _ _
      obtain ⟨j, hj, h2⟩ := cnt_pos_ex (k := k) (S := fun i => U i && !S i) (by unfold diff at z; omega)
      have uj : U j = true := by revert h2; cases U j <;> simp
      have sj : S j = false := by revert h2; cases S j <;> simp
      have gi : G T i = true := by
        cases g : G T i with
        | true => rfl
        | false => rw [hf i hi g, si] at ui; cases ui
      have gj : G T j = true := by
        cases g : G T j with
        | true => rfl
        | false => rw [hf j hj g, sj] at uj; cases uj
      have ij : i ≠ j := fun e => by rw [e, sj] at si; cases si
      have s1 : Step k G S (flip S j) := .up hj sj (by rw [cs]; exact gj)
      have c1 : cnt k (flip S j) = T + 1 := by rw [cnt_flip_up hj sj, cs]
      have s2 : Step k G (flip S j) (flip (flip S j) i) := .dn hi (by rw [flip_ne _ ij]; exact si) (by rw [c1, Nat.add_sub_cancel]; exact gi)
      have c2 := cnt_flip_dn (k := k) (S := flip S j) hi (by rw [flip_ne _ ij]; exact si)
      refine ((Reach.one s1).trans (Reach.one s2)).trans (ih _ U ?_ (by omega) cu (fun l hl g => ?_) (fun l hl => ?_))
      · have e : (fun l => flip (flip S j) i l && !U l) = flip (fun l => S l && !U l) i := by
          funext l
          by_cases li : l = i
          · subst li
            rw [flip_self, flip_self, flip_ne _ ij, si, ui]
            rfl
          · rw [flip_ne _ li, flip_ne _ li]
            by_cases lj : l = j
            · subst lj
              rw [flip_self, sj, uj]
              rfl
            · rw [flip_ne _ lj]
        unfold diff
        rw [e]
        have := cnt_flip_dn (k := k) (S := fun l => S l && !U l) hi h1
        unfold diff at hd
        omega
      · have li : l ≠ i := fun e => by rw [e, gi] at g; cases g
        have lj : l ≠ j := fun e => by rw [e, gj] at g; cases g
        rw [flip_ne _ li, flip_ne _ lj]
        exact hf l hl g
      · rw [flip_ne _ (show l ≠ i by omega), flip_ne _ (show l ≠ j by omega)]
        exact ho l hl
/-! ### which lot a standing is in -/
/-- from below it gets to the top's number -/
def Rises (k : Nat) (G : Nat → Nat → Bool) (T : Nat) (S : Nat → Bool) : Prop := cnt k S ≤ T ∧ ∀ n, cnt k S ≤ n → n < T → n < cnt k (fun i => S i || G n i)
/-- from above -/
def Sinks (k : Nat) (G : Nat → Nat → Bool) (T : Nat) (S : Nat → Bool) : Prop := T < cnt k S ∧ ∀ s, T ≤ s → s < cnt k S → cnt k (fun i => S i && !G s i) ≤ s
theorem Rises.to {T : Nat} (t : Top k G T) (h : Rises k G T S) : ∃ U, Reach k G S U ∧ cnt k U = T := by
  obtain ⟨U, r, c, _⟩ := fill t.up T (by omega) h.1 h.2
  exact ⟨U, r, c⟩
theorem co_or (S : Nat → Bool) (f : Nat → Bool) : (fun i => co S i || f i) = co (fun i => S i && !f i) := by
  funext i
  show (!S i || f i) = !(S i && !f i)
  cases S i <;> cases f i <;> rfl
theorem Sinks.to {T : Nat} (t : Top k G T) (h : Sinks k G T S) : ∃ U, Reach k G S U ∧ cnt k U = T := by
  have tl := t.lt
  have c0 := cnt_co k S
  have cle := cnt_le k S
  obtain ⟨h1, h2⟩ := h
  obtain ⟨U, r, c, _⟩ := fill (k := k) (G := Th.dual k G) (S := co S) t.dual.up (k - 1 - T + 1) (by omega) (by omega) fun n a b => by
    have e : (fun i => co S i || Th.dual k G n i) = co (fun i => S i && !G (k - 1 - n) i) := co_or S _
    rw [e]
    have q := h2 (k - 1 - n) (by omega) (by omega)
    have c1 := cnt_co k (fun i => S i && !G (k - 1 - n) i)
    omega
  refine ⟨co U, ?_, ?_⟩
  · refine Reach.codual ?_
    rw [co_co]
    exact r
  · have := cnt_co k U
    omega
/-- two that get to the top's number and have the same fast ones here come to one another -/
theorem open_reach {T : Nat} (t : Top k G T) (hS : Rises k G T S ∨ Sinks k G T S) (hU : Rises k G T U ∨ Sinks k G T U) (hf : ∀ i, i < k → G T i = false → U i = S i) (ho : ∀ i, ¬ i < k → U i = S i) : Reach k G S U := by
  obtain ⟨S', rS, cS⟩ := hS.elim (fun h => h.to t) (fun h => h.to t)
  obtain ⟨U', rU, cU⟩ := hU.elim (fun h => h.to t) (fun h => h.to t)
  refine rS.trans (Reach.trans ?_ rU.symm)
  refine swap t _ S' U' (Nat.le_refl _) cS cU (fun i hi g => ?_) (fun i hi => ?_)
  · rw [fast_inv t rS i hi g, fast_inv t rU i hi g, hf i hi g]
  · rw [reach_out rS i hi, reach_out rU i hi, ho i hi]
/-- the first number at which filling is stuck -/
def StuckLow (k : Nat) (G : Nat → Nat → Bool) (N : Nat) (S : Nat → Bool) : Prop := cnt k S ≤ N ∧ (∀ n, cnt k S ≤ n → n < N → n < cnt k (fun i => S i || G n i)) ∧ cnt k (fun i => S i || G N i) ≤ N
theorem StuckLow.full {N : Nat} (h : StuckLow k G N S) {T : Nat} (t : Top k G T) (hN : N ≤ T) : ∃ U, Reach k G S U ∧ cnt k U = N ∧ ∀ i, i < k → U i = (S i || G N i) := stuck t.up hN h.1 h.2.1 h.2.2
theorem StuckLow.cnt_full {N : Nat} (h : StuckLow k G N S) {T : Nat} (t : Top k G T) (hN : N ≤ T) : cnt k (fun i => S i || G N i) = N := by
  obtain ⟨U, _, c, e⟩ := h.full t hN
  exact (cnt_congr e).symm.trans c
/-- nobody leaves the lot under it -/
theorem StuckLow.under {N T : Nat} (h : StuckLow k G N S) (t : Top k G T) (hN : N ≤ T) (r : Reach k G S U) : cnt k U ≤ N ∧ ∀ i, i < k → (U i || G N i) = (S i || G N i) := by
  refine Reach.inv (P := fun W => cnt k W ≤ N ∧ ∀ i, i < k → (W i || G N i) = (S i || G N i)) (low_inv t.up hN (h.cnt_full t hN) fun i _ g => by rw [g, Bool.or_true]) r ⟨h.1, fun _ _ => rfl⟩
/-- all of a lot are stuck alike -/
theorem StuckLow.same {N T : Nat} (h : StuckLow k G N S) (t : Top k G T) (hN : N ≤ T) (r : Reach k G S U) : StuckLow k G N U := by
  obtain ⟨c, e⟩ := h.under t hN r
  have ce : cnt k (fun i => U i || G N i) = N := by
    rw [cnt_congr e]
    exact h.cnt_full t hN
  refine ⟨c, fun n a b => ?_, by omega⟩
  -- stuck earlier it would never get to S's fullest one
  by_cases z : n < cnt k (fun i => U i || G n i)
  · exact z
  · exfalso
    -- the first such number
    have ex : ∃ m, cnt k U ≤ m ∧ m < N ∧ ¬ m < cnt k (fun i => U i || G m i) ∧ ∀ m', cnt k U ≤ m' → m' < m → m' < cnt k (fun i => U i || G m' i) := by
      clear ce e
      induction n using Nat.strongRecOn with
      | _ n ih =>
        by_cases q : ∀ m', cnt k U ≤ m' → m' < n → m' < cnt k (fun i => U i || G m' i)
        · exact ⟨n, a, b, z, q⟩
        · have : ∃ m', cnt k U ≤ m' ∧ m' < n ∧ ¬ m' < cnt k (fun i => U i || G m' i) := by
            refine Classical.byContradiction fun w => q fun m' x y => ?_
            refine Classical.byContradiction fun v => w ⟨m', x, y, v⟩
          obtain ⟨m', x, y, v⟩ := this
          exact ih m' y x (by omega) v
    obtain ⟨m, x, y, v, u⟩ := ex
    have sl : StuckLow k G m U := ⟨x, u, by omega⟩
    obtain ⟨F, rF, cF, _⟩ := h.full t hN
    have := (sl.under t (by omega) (r.symm.trans rF)).1
    omega
theorem StuckLow.iff {N T : Nat} (h : StuckLow k G N S) (t : Top k G T) (hN : N ≤ T) (ho : ∀ i, ¬ i < k → U i = S i) : Reach k G S U ↔ StuckLow k G N U ∧ ∀ i, i < k → (U i || G N i) = (S i || G N i) := by
  constructor
  · intro r
    exact ⟨h.same t hN r, (h.under t hN r).2⟩
  · rintro ⟨hu, e⟩
    obtain ⟨A, rA, _, eA⟩ := h.full t hN
    obtain ⟨B, rB, _, eB⟩ := hu.full t hN
    have : A = B := by
      funext i
      by_cases hi : i < k
      · rw [eA i hi, eB i hi, e i hi]
      · rw [reach_out rA i hi, reach_out rB i hi, ho i hi]
    rw [this] at rA
    exact rA.trans rB.symm
/-- each standing of no more than the top's number is stuck below it, or gets there -/
theorem low_or {T : Nat} (h : cnt k S ≤ T) : (∃ N, N < T ∧ StuckLow k G N S) ∨ Rises k G T S := by
  by_cases q : ∀ n, cnt k S ≤ n → n < T → n < cnt k (fun i => S i || G n i)
  · exact .inr ⟨h, q⟩
  · refine .inl ?_
    have : ∃ m, cnt k S ≤ m ∧ m < T ∧ ¬ m < cnt k (fun i => S i || G m i) := by
      refine Classical.byContradiction fun w => q fun m' x y => ?_
      refine Classical.byContradiction fun v => w ⟨m', x, y, v⟩
    obtain ⟨n, a, b, z⟩ := this
    clear q
    induction n using Nat.strongRecOn with
    | _ n ih =>
      by_cases q : ∀ m', cnt k S ≤ m' → m' < n → m' < cnt k (fun i => S i || G m' i)
      · exact ⟨n, b, a, q, by omega⟩
      · have : ∃ m', cnt k S ≤ m' ∧ m' < n ∧ ¬ m' < cnt k (fun i => S i || G m' i) := by
          refine Classical.byContradiction fun w => q fun m' x y => ?_
          refine Classical.byContradiction fun v => w ⟨m', x, y, v⟩
        obtain ⟨m', x, y, v⟩ := this
        exact ih m' y x (by omega) v
end
end Th
namespace Th
section
variable {k : Nat} {G : Nat → Nat → Bool} {S U W : Nat → Bool}
/-- i may go at U -/
def May (k : Nat) (G : Nat → Nat → Bool) (U : Nat → Bool) (i : Nat) : Prop := G (if U i = true then cnt k U - 1 else cnt k U) i = true
theorem May.step {i : Nat} (hi : i < k) (h : May k G U i) : Step k G U (flip U i) := by
  unfold May at h
  cases e : U i with
  | true => rw [e, if_pos rfl] at h; exact .dn hi e h
  | false => rw [e, if_neg Bool.false_ne_true] at h; exact .up hi e h
/-- ever goes -/
def Moves (k : Nat) (G : Nat → Nat → Bool) (S : Nat → Bool) (i : Nat) : Prop := ∃ U, Reach k G S U ∧ May k G U i
theorem moves_low {N T i : Nat} (h : StuckLow k G N S) (t : Top k G T) (hN : N ≤ T) (hi : i < k) : Moves k G S i ↔ 0 < N ∧ G (N - 1) i = true := by
  constructor
  · rintro ⟨U, r, m⟩
    obtain ⟨c, e⟩ := h.under t hN r
    unfold May at m
    cases u : U i with
    | true =>
      rw [u, if_pos rfl] at m
      have := cnt_pos hi u
      exact ⟨by omega, t.up _ _ _ (by omega) (by omega) m⟩
    | false =>
      rw [u, if_neg Bool.false_ne_true] at m
      by_cases z : cnt k U = N
      · exfalso
        rw [z] at m
        have cf := h.cnt_full t hN
        have hsub : ∀ j, j < k → U j = true → (S j || G N j) = true := fun j hj uj => by rw [← e j hj, uj]; rfl
        have := cnt_eq hsub (by omega) i hi (by rw [m, Bool.or_true])
        rw [u] at this
        cases this
      · exact ⟨by omega, t.up _ _ _ (by omega) (by omega) m⟩
  · rintro ⟨n0, g⟩
    obtain ⟨F, r, c, e⟩ := h.full t hN
    refine ⟨F, r, ?_⟩
    have fi : F i = true := by rw [e i hi, t.up _ _ _ (show N - 1 ≤ N by omega) hN g, Bool.or_true]
    unfold May
    rw [fi, if_pos rfl, c]
    exact g
/-- gets to the top's number, and there's somebody out who may go there -/
theorem moves_open {T i : Nat} (t : Top k G T) (hS : Rises k G T S ∨ Sinks k G T S) (hc : T < cnt k (fun i => S i || G T i)) (hi : i < k) : Moves k G S i ↔ G T i = true := by
  constructor
  · rintro ⟨U, r, m⟩
    unfold May at m
    have := cnt_le k U
    by_cases u : U i = true
    · rw [if_pos u] at m
      have := cnt_pos hi u
      exact t.all (by omega) m
    · rw [if_neg u] at m
      have u' : U i = false := by simpa using u
      have c := cnt_le k (flip U i)
      rw [cnt_flip_up hi u'] at c
      exact t.all (by omega) m
  · intro g
    obtain ⟨U, r, c⟩ := hS.elim (fun h => h.to t) (fun h => h.to t)
    by_cases u : U i = true
    · -- somebody j is out: exchange them
      have hf := fast_inv t r
      have ce : cnt k (fun i => U i || G T i) = cnt k (fun i => S i || G T i) := cnt_congr fun j hj => by
        cases q : G T j with
        | true => rw [Bool.or_true, Bool.or_true]
        | false => rw [Bool.or_false, Bool.or_false, hf j hj q]
      obtain ⟨j, hj, h1, h2⟩ := cnt_ex (k := k) (S := U) (U := fun i => U i || G T i) (by omega)
      have gj : G T j = true := by rw [h2] at h1; exact h1
      have ij : i ≠ j := fun e => by rw [e, h2] at u; cases u
      have s1 : Step k G U (flip U j) := .up hj h2 (by rw [c]; exact gj)
      have c1 : cnt k (flip U j) = T + 1 := by rw [cnt_flip_up hj h2, c]
      refine ⟨flip U j, r.step s1, ?_⟩
      unfold May
      rw [flip_ne _ ij, u, if_pos rfl, c1, Nat.add_sub_cancel]
      exact g
    · refine ⟨U, r, ?_⟩
      unfold May
      rw [if_neg u, c]
      exact g
/-- stuck at some number up to N, or not before it -/
theorem stuck_or (N : Nat) : (∃ n, n < N ∧ StuckLow k G n S) ∨ ∀ n, cnt k S ≤ n → n < N → n < cnt k (fun i => S i || G n i) := by
  by_cases h : cnt k S ≤ N
  · rcases low_or (k := k) (G := G) (S := S) h with ⟨n, a, b⟩ | r
    · exact .inl ⟨n, a, b⟩
    · exact .inr r.2
  · exact .inr fun n a b => by omega
/-- the three sorts of lots -/
theorem sorts {T : Nat} (t : Top k G T) : (∃ N, N ≤ T ∧ StuckLow k G N S) ∨ (∃ N, N ≤ k - 1 - T ∧ StuckLow k (Th.dual k G) N (co S)) ∨ ((Rises k G T S ∨ Sinks k G T S) ∧ T < cnt k (fun i => S i || G T i)) := by
  have tl := t.lt
  by_cases h : cnt k S ≤ T
  · rcases stuck_or (k := k) (G := G) (S := S) (T + 1) with ⟨N, a, b⟩ | r
    · exact .inl ⟨N, by omega, b⟩
    · exact .inr (.inr ⟨.inl ⟨h, fun n a b => r n a (by omega)⟩, r T h (by omega)⟩)
  · have c0 := cnt_co k S
    rcases stuck_or (k := k) (G := Th.dual k G) (S := co S) (k - 1 - T + 1) with ⟨N, a, b⟩ | r
    · exact .inr (.inl ⟨N, by omega, b⟩)
    · refine .inr (.inr ⟨.inr ⟨by omega, fun s a b => ?_⟩, ?_⟩)
      · have cle := cnt_le k S
        have q := r (k - 1 - s) (by omega) (by omega)
        have e : (fun i => co S i || Th.dual k G (k - 1 - s) i) = co (fun i => S i && !G s i) := by
          rw [co_or]
          funext i
          show (!(S i && !Th.dual k G (k - 1 - s) i)) = !(S i && !G s i)
          have := dual_dual_at (G := G) (k := k) (s := s) (by omega) i
          unfold Th.dual at this ⊢
          rw [this]
        rw [e] at q
        have c1 := cnt_co k (fun i => S i && !G s i)
        omega
      · have := cnt_mono (k := k) (S := S) (U := fun i => S i || G T i) fun i _ hs => by show (S i || G T i) = true; rw [hs]; rfl
        omega
theorem may_co {i : Nat} (hi : i < k) : May k (Th.dual k G) (co U) i ↔ May k G U i := by
  have c0 := cnt_co k U
  have cl := cnt_le k U
  unfold May Th.dual
  cases u : U i with
  | true =>
    have := cnt_pos hi u
    have e : co U i = false := by unfold co; rw [u]; rfl
    rw [e, if_neg Bool.false_ne_true, if_pos rfl, show k - 1 - cnt k (co U) = cnt k U - 1 by omega]
  | false =>
    have e : co U i = true := by unfold co; rw [u]; rfl
    have := cnt_pos (S := co U) hi e
    rw [e, if_pos rfl, if_neg Bool.false_ne_true, show k - 1 - (cnt k (co U) - 1) = cnt k U by omega]
theorem moves_co {i : Nat} (hi : i < k) : Moves k (Th.dual k G) (co S) i ↔ Moves k G S i := by
  constructor
  · rintro ⟨U, r, m⟩
    refine ⟨co U, ?_, ?_⟩
    · refine Reach.codual ?_
      rw [co_co]
      exact r
    · rw [← may_co hi, co_co]
      exact m
  · rintro ⟨U, r, m⟩
    exact ⟨co U, r.dual, (may_co hi).mpr m⟩
/-- stuck from above at N (of the turned sea): who moves -/
theorem moves_high {N T i : Nat} (h : StuckLow k (Th.dual k G) N (co S)) (t : Top k G T) (hN : N ≤ k - 1 - T) (hi : i < k) : Moves k G S i ↔ 0 < N ∧ G (k - N) i = true := by
  have tl := t.lt
  rw [← moves_co hi, moves_low h t.dual hN hi]
  constructor
  · rintro ⟨a, b⟩
    refine ⟨a, ?_⟩
    unfold Th.dual at b
    rw [show k - N = k - 1 - (N - 1) by omega]
    exact b
  · rintro ⟨a, b⟩
    refine ⟨a, ?_⟩
    unfold Th.dual
    rw [show k - 1 - (N - 1) = k - N by omega]
    exact b
end
end Th
namespace Th
section
variable {k : Nat} {G : Nat → Nat → Bool} {S U W : Nat → Bool}
def Sub (k : Nat) (A B : Nat → Bool) : Prop := ∀ i, i < k → A i = true → B i = true
/-- so many of Z, such that each set of a nested family is among them or they among it -/
theorem chain (F : Nat → Nat → Bool) (P : Nat → Prop) (nest : ∀ s s', P s → P s' → Sub k (F s) (F s') ∨ Sub k (F s') (F s)) (Z : Nat → Bool) (inZ : ∀ s, P s → Sub k (F s) Z) :
    ∀ m, m ≤ cnt k Z → ∃ A : Nat → Bool, Sub k A Z ∧ cnt k A = m ∧ (∀ i, ¬ i < k → A i = false) ∧ ∀ s, P s → Sub k A (F s) ∨ Sub k (F s) A := by
  intro m
  induction m with
  | zero =>
    intro _
    have e : ∀ n, cnt n (fun _ => false) = 0 := fun n => by
      induction n with
      | zero => rfl
      | succ n ih => rw [cnt_succ, ih]; rfl
    exact ⟨fun _ => false, (fun _ _ h => by cases h), e k, (fun _ _ => rfl), fun s _ => .inl (fun _ _ h => by cases h)⟩
  | succ m ih =>
    intro hm
    obtain ⟨A, a1, a2, a3, a4⟩ := ih (by omega)
    -- a smallest set of the family that isn't among them, or Z
    have pick : ∃ i, i < k ∧ A i = false ∧ Z i = true ∧ ∀ s, P s → ¬ Sub k (F s) A → F s i = true := by
      -- by how many members
      have go : ∀ n, (∃ s, P s ∧ ¬ Sub k (F s) A ∧ cnt k (F s) ≤ n) → ∃ i, i < k ∧ A i = false ∧ Z i = true ∧ ∀ s, P s → ¬ Sub k (F s) A → F s i = true := by
        intro n
        induction n using Nat.strongRecOn with
        | _ n ih2 =>
          rintro ⟨s, ps, hs, hn⟩
          by_cases q : ∃ s', P s' ∧ ¬ Sub k (F s') A ∧ cnt k (F s') < cnt k (F s)
          · obtain ⟨s', ps', hs', hlt⟩ := q
            exact ih2 (cnt k (F s')) (by omega) ⟨s', ps', hs', Nat.le_refl _⟩
          · have : ∃ i, i < k ∧ F s i = true ∧ A i = false := by
              refine Classical.byContradiction fun w => hs fun i hi f => ?_
              cases e : A i with
              | true => rfl
              | false => exact absurd ⟨i, hi, f, e⟩ w
            obtain ⟨i, hi, f, e⟩ := this
            refine ⟨i, hi, e, inZ s ps i hi f, fun s' ps' hs' => ?_⟩
            rcases nest s s' ps ps' with w | w
            · exact w i hi f
            · have hge : cnt k (F s) ≤ cnt k (F s') := by
                refine Classical.byContradiction fun v => q ⟨s', ps', hs', by omega⟩
              exact cnt_eq w hge i hi f
      by_cases q : ∃ s, P s ∧ ¬ Sub k (F s) A
      · obtain ⟨s, ps, hs⟩ := q
        exact go _ ⟨s, ps, hs, Nat.le_refl _⟩
      · obtain ⟨i, hi, z, e⟩ := cnt_ex (k := k) (S := A) (U := Z) (by omega)
        exact ⟨i, hi, e, z, fun s ps hs => absurd ⟨s, ps, hs⟩ q⟩
    obtain ⟨i, hi, e, z, hp⟩ := pick
    refine ⟨flip A i, fun j hj h => ?_, by rw [cnt_flip_up hi e, a2], fun j hj => ?_, fun s ps => ?_⟩
    · by_cases q : j = i
      · rw [q]; exact z
      · rw [flip_ne _ q] at h
        exact a1 j hj h
    · rw [flip_ne _ (show j ≠ i by omega)]
      exact a3 j hj
    · by_cases q : Sub k (F s) A
      · refine .inr fun j hj h => ?_
        by_cases w : j = i
        · subst w
          have := q j hj h
          rw [e] at this
          cases this
        · rw [flip_ne _ w]
          exact q j hj h
      · rcases a4 s ps with w | w
        · refine .inl fun j hj h => ?_
          by_cases v : j = i
          · rw [v]; exact hp s ps q
          · rw [flip_ne _ v] at h
            exact w j hj h
        · exact absurd w q
theorem cnt_diff {A B : Nat → Bool} (h : Sub k B A) : cnt k (fun i => A i && !B i) + cnt k B = cnt k A := by
  have e := cnt_split (k := k) A B
  have e2 : cnt k (fun i => A i && B i) = cnt k B := cnt_congr fun i hi => by
    cases b : B i with
    | true => rw [h i hi b]; rfl
    | false => rw [Bool.and_false]
  omega
theorem cnt_none {A : Nat → Bool} (h : ∀ i, i < k → A i = false) : cnt k A = 0 := by
  have := cnt_congr (k := k) (S := A) (U := fun _ => false) h
  have e : ∀ n, cnt n (fun _ => false) = 0 := fun n => by
    induction n with
    | zero => rfl
    | succ n ih => rw [cnt_succ, ih]; rfl
  rw [this, e]
/-- how few can come to lie here, of a lot that is stuck at N -/
theorem low_counts {N T n : Nat} (h : StuckLow k G N S) (t : Top k G T) (hN : N ≤ T) (hn : n ≤ N) : (∃ U, Reach k G S U ∧ cnt k U = n) ↔ ∀ m, m < N → m + 1 ≤ n + cnt k (G m) := by
  constructor
  · rintro ⟨U, r, c⟩ m hm
    by_cases z : n ≤ m
    · have q := (h.same t hN r).2.1 m (by omega) hm
      have e := cnt_or_not (k := k) U (G m)
      have e2 := cnt_mono (k := k) (S := fun i => G m i && !U i) (U := G m) fun i _ hh => by revert hh; cases G m i <;> simp
      omega
    · omega
  · intro hc
    have cf := h.cnt_full t hN
    -- the goers at N, so many of them out: the shallowest ones
    have cR : cnt k (fun i => S i && !G N i) + cnt k (G N) = N := by
      have e := cnt_or_not (k := k) (G N) S
      have e1 : (fun i => G N i || S i) = (fun i => S i || G N i) := funext fun i => Bool.or_comm _ _
      rw [e1] at e
      omega
    have hle : N - n ≤ cnt k (G N) := by
      by_cases z : N = 0
      · omega
      · have q := hc (N - 1) (by omega)
        have := cnt_mono (k := k) (S := G (N - 1)) (U := G N) fun i _ g => t.up _ _ _ (by omega) hN g
        omega
    obtain ⟨A, a1, a2, a3, a4⟩ := chain (k := k) G (fun m => m ≤ N) (fun s s' hs hs' => by
      by_cases z : s ≤ s'
      · exact .inl fun i _ g => t.up _ _ _ z (by omega) g
      · exact .inr fun i _ g => t.up _ _ _ (by omega) (by omega) g) (G N) (fun s hs i _ g => t.up _ _ _ hs hN g) (N - n) hle
    -- all others of the fullest one
    have hout : ∀ i, ¬ i < k → (fun i => if i < k then (S i || G N i) && !A i else S i) i = S i := fun i hi => by show (if i < k then (S i || G N i) && !A i else S i) = S i; rw [if_neg hi]
    have hin : ∀ i, i < k → (fun i => if i < k then (S i || G N i) && !A i else S i) i = ((S i || G N i) && !A i) := fun i hi => by show (if i < k then (S i || G N i) && !A i else S i) = _; rw [if_pos hi]
    have subA : Sub k A (fun i => S i || G N i) := fun i hi q => by show (S i || G N i) = true; rw [a1 i hi q, Bool.or_true]
    have cU : cnt k (fun i => if i < k then (S i || G N i) && !A i else S i) = n := by
      rw [cnt_congr hin]
      have := cnt_diff subA
      omega
    have or_eq : ∀ i, i < k → ((fun i => if i < k then (S i || G N i) && !A i else S i) i || G N i) = (S i || G N i) := fun i hi => by
      rw [hin i hi]
      cases q : A i with
      | true =>
        have := a1 i hi q
        rw [this, Bool.or_true, Bool.or_true]
      | false => cases S i <;> cases G N i <;> rfl
    have sl : StuckLow k G N (fun i => if i < k then (S i || G N i) && !A i else S i) := by
      refine ⟨by omega, fun m x y => ?_, ?_⟩
      · have q := hc m y
        -- all of the fullest one but those of A that aren't goers at m
        have e1 : cnt k (fun i => (fun i => if i < k then (S i || G N i) && !A i else S i) i || G m i) = cnt k (fun i => (S i || G N i) && !(A i && !G m i)) := cnt_congr fun i hi => by
          rw [hin i hi]
          cases g : G m i with
          | true =>
            rw [t.up _ _ _ (show m ≤ N by omega) hN g]
            cases S i <;> cases A i <;> rfl
          | false => cases S i <;> cases G N i <;> cases A i <;> rfl
        have sub2 : Sub k (fun i => A i && !G m i) (fun i => S i || G N i) := fun i hi w => subA i hi (by have w' : (A i && !G m i) = true := w; revert w'; cases A i <;> simp)
        have e2 := cnt_diff sub2
        rw [e1]
        rcases a4 m (by omega) with w | w
        · have e3 : cnt k (fun i => A i && !G m i) = 0 := cnt_none fun i hi => by
            cases q : A i with
            | false => rfl
            | true => rw [w i hi q]; rfl
          omega
        · have e3 := cnt_diff w
          omega
      · rw [cnt_congr or_eq]
        omega
    exact ⟨_, (h.iff t hN hout).mpr ⟨sl, or_eq⟩, cU⟩
/-- how many can come to lie here, of a lot that gets to the top's number -/
theorem open_counts {T n : Nat} (t : Top k G T) (hS : Rises k G T S ∨ Sinks k G T S) (hn : T ≤ n) : (∃ U, Reach k G S U ∧ cnt k U = n) ↔ n ≤ cnt k (fun i => S i || G T i) ∧ ∀ s, T ≤ s → s < k → n ≤ s + cnt k (G s) := by
  obtain ⟨V, rV, cV⟩ := hS.elim (fun h => h.to t) (fun h => h.to t)
  have tl := t.lt
  constructor
  · rintro ⟨U, r, c⟩
    have sub : Sub k U (fun i => S i || G T i) := fun i hi u => by
      cases g : G T i with
      | true => show (S i || G T i) = true; rw [g, Bool.or_true]
      | false =>
        rw [fast_inv t r i hi g] at u
        show (S i || G T i) = true
        rw [u]; rfl
    refine ⟨by rw [← c]; exact cnt_mono sub, fun s hs hk => ?_⟩
    by_cases z : n ≤ s
    · omega
    · -- U isn't stuck from above
      have c0 := cnt_co k U
      have cle := cnt_le k U
      rcases stuck_or (k := k) (G := Th.dual k G) (S := co U) (k - 1 - T + 1) with ⟨N, a, b⟩ | q
      · exfalso
        have hr := (rV.symm.trans r).symm.dual
        have := (b.under t.dual (by omega) hr).1
        have c1 := cnt_co k V
        omega
      · have q2 := q (k - 1 - s) (by omega) (by omega)
        have e : (fun i => co U i || Th.dual k G (k - 1 - s) i) = co (fun i => U i && !G s i) := by
          rw [co_or]
          funext i
          show (!(U i && !Th.dual k G (k - 1 - s) i)) = !(U i && !G s i)
          have := dual_dual_at (G := G) (k := k) (s := s) hk i
          unfold Th.dual at this ⊢
          rw [this]
        rw [e] at q2
        have c1 := cnt_co k (fun i => U i && !G s i)
        have c2 := cnt_split (k := k) U (G s)
        have c3 := cnt_mono (k := k) (S := fun i => U i && G s i) (U := G s) fun i _ h => by revert h; cases U i <;> simp
        omega
  · rintro ⟨h1, h2⟩
    have cR : cnt k (fun i => S i && !G T i) + cnt k (G T) = cnt k (fun i => S i || G T i) := by
      have e := cnt_or_not (k := k) (G T) S
      have e1 : (fun i => G T i || S i) = (fun i => S i || G T i) := funext fun i => Bool.or_comm _ _
      rw [e1] at e
      omega
    have rT : cnt k (fun i => S i && !G T i) ≤ T := by
      refine Nat.le_trans (cnt_mono (U := V) fun i hi q => ?_) (Nat.le_of_eq cV)
      have q' : (S i && !G T i) = true := q
      have g : G T i = false := by revert q'; cases G T i <;> cases S i <;> simp
      have s : S i = true := by revert q'; cases G T i <;> cases S i <;> simp
      rw [fast_inv t rV i hi g]
      exact s
    obtain ⟨A, a1, a2, a3, a4⟩ := chain (k := k) G (fun s => T ≤ s ∧ s < k) (fun s s' hs hs' => by
      by_cases z : s ≤ s'
      · exact .inr fun i _ g => t.dn _ _ _ hs.1 z hs'.2 g
      · exact .inl fun i _ g => t.dn _ _ _ hs'.1 (by omega) hs.2 g) (G T) (fun s hs i _ g => t.dn _ _ _ (Nat.le_refl _) hs.1 hs.2 g) (n - cnt k (fun i => S i && !G T i)) (by omega)
    have hout : ∀ i, ¬ i < k → (fun i => if i < k then (S i && !G T i) || A i else S i) i = S i := fun i hi => by show (if i < k then (S i && !G T i) || A i else S i) = S i; rw [if_neg hi]
    have hin : ∀ i, i < k → (fun i => if i < k then (S i && !G T i) || A i else S i) i = ((S i && !G T i) || A i) := fun i hi => by show (if i < k then (S i && !G T i) || A i else S i) = _; rw [if_pos hi]
    have cU : cnt k (fun i => if i < k then (S i && !G T i) || A i else S i) = n := by
      rw [cnt_congr hin, cnt_or_not]
      have : cnt k (fun i => A i && !(S i && !G T i)) = cnt k A := cnt_congr fun i hi => by
        cases q : A i with
        | false => rfl
        | true => rw [a1 i hi q]; cases S i <;> rfl
      omega
    refine ⟨_, open_reach t hS ?_ (fun i hi g => ?_) hout, cU⟩
    · by_cases z : n = T
      · exact .inl ⟨by omega, fun m x y => by omega⟩
      · refine .inr ⟨by omega, fun s x y => ?_⟩
        rw [cU] at y
        have sk : s < k := by
          have := cnt_le k (fun i => if i < k then (S i && !G T i) || A i else S i)
          omega
        have q := h2 s x sk
        have e1 : cnt k (fun i => (fun i => if i < k then (S i && !G T i) || A i else S i) i && !G s i) ≤ cnt k (fun i => S i && !G T i) + cnt k (fun i => A i && !G s i) := by
          have e : cnt k (fun i => (fun i => if i < k then (S i && !G T i) || A i else S i) i && !G s i) ≤ cnt k (fun i => (S i && !G T i) || (A i && !G s i)) := cnt_mono fun i hi w => by
            rw [hin i hi] at w
            show ((S i && !G T i) || (A i && !G s i)) = true
            revert w
            cases S i <;> cases G T i <;> cases A i <;> cases G s i <;> simp
          have e2 := cnt_or_not (k := k) (fun i => S i && !G T i) (fun i => A i && !G s i)
          have e3 := cnt_mono (k := k) (S := fun i => (A i && !G s i) && !(S i && !G T i)) (U := fun i => A i && !G s i) fun i _ w => by revert w; cases (A i && !G s i) <;> simp
          omega
        rcases a4 s ⟨x, sk⟩ with w | w
        · have e3 : cnt k (fun i => A i && !G s i) = 0 := cnt_none fun i hi => by
            cases q : A i with
            | false => rfl
            | true => rw [w i hi q]; rfl
          omega
        · have e3 := cnt_diff w
          omega
    · show (if i < k then S i && !G T i || A i else S i) = S i
      rw [if_pos hi, g]
      cases q : A i with
      | true => rw [a1 i hi q] at g; cases g
      | false => cases S i <;> rfl
end
end Th

namespace Sh
open PySem PySem.Spec PyProof.Rows L2
def spRight : Sp := fun vs H Q _ => ∃ b : Addr, vs = [.ref b] ∧ BoxAt H b 100000 ∧ ∀ H', But b H H' → Q (.bl true) H'
end Sh

namespace Sh
open PySem PySem.Spec PyProof.Rows L2
theorem lv_ni {n : Nat} (L : List Nat) (h : L.length ≤ 100000) : Lv (n + 2) (.list ((L.map fun (i : Nat) => (i : Int)).map .int)) := lv_ints _ (by rw [List.length_map]; exact h)
theorem lv_two {n : Nat} {a b : PyData} (ha : Lv n a) (hb : Lv n b) : Lv (n + 1) (.list [a, b]) := ⟨by show 2 ≤ 100000; decide, fun e he => by
  rcases List.mem_cons.mp he with z | z
  · rw [z]; exact ha
  · rw [List.mem_singleton.mp z]; exact hb⟩
end Sh

namespace Sh
open PySem PySem.Spec PyProof.Rows L2
/-! ### windows, goers, seas beside the box -/
theorem may_mk {h t : Int} {ds : List Int} {L : List Nat} {i : Nat} : mayB h t ds L i = decide (ds.getD i 0 ≤ mk h t ds.length (near L i : Int)) := by
  unfold mayB mk
  rw [Bool.eq_iff_iff, Bool.and_eq_true, decide_eq_true_eq, decide_eq_true_eq, decide_eq_true_eq]
  constructor
  · rintro ⟨a, b⟩
    split <;> omega
  · intro a
    split at a <;> omega
theorem in_lets {h t : Int} {ds : List Int} {L : List Nat} {i : Nat} (hi : i < ds.length) : inV (.int (i : Int)) (ni (lets h t ds L ds.length)) = mayB h t ds L i := by
  rw [in_ni, Bool.eq_iff_iff, decide_eq_true_eq]
  unfold lets
  rw [List.mem_filter, List.mem_range]
  exact ⟨fun q => q.2, fun q => ⟨hi, q⟩⟩
theorem in_gs {m : Int} {ds : List Int} {i : Nat} (hi : i < ds.length) : inV (.int (i : Int)) (((gs m ds ds.length).map fun (i : Nat) => (i : Int)).map V.int) = decide (ds.getD i 0 ≤ m) := by
  rw [← ni_ints, in_ni, Bool.eq_iff_iff, decide_eq_true_eq, decide_eq_true_eq]
  unfold gs
  rw [List.mem_filter, List.mem_range, decide_eq_true_eq]
  exact ⟨fun q => q.2, fun q => ⟨hi, q⟩⟩
/-- a sea that is none of the box -/
def SeaB (K : PySem.W.Frag) (H : Hp) (b : Addr) (v : V) (h t : Int) (ds : List Int) : Prop := ∃ p q, v = .ref p ∧ SqA K H p [.int h, .int t, .ref q] ∧ SqA K H q (ds.map V.int) ∧ p ≠ b ∧ q ≠ b
theorem SeaB.but {K : PySem.W.Frag} {H H' : Hp} {b : Addr} {v : V} {h t : Int} {ds : List Int} (s : SeaB K H b v h t ds) (u : But b H H') : SeaB K H' b v h t ds := let ⟨p, q, e, hp, hq, pb, qb⟩ := s; ⟨p, q, e, (Kp.ofB u pb).sa hp, (Kp.ofB u qb).sa hq, pb, qb⟩
theorem SeaB.a {K : PySem.W.Frag} {H : Hp} {b : Addr} {v : V} {h t : Int} {ds : List Int} (s : SeaB K H b v h t ds) : SeaA K H v h t ds := let ⟨p, q, e, hp, hq, _, _⟩ := s; ⟨p, q, e, hp, hq⟩
/-- a window as it is told: None, or a new pair -/
def WinAt (H H' : Hp) (sp : V) (lo hi : Int) : Prop := (lo > hi ∧ sp = .non) ∨ (¬ lo > hi ∧ ∃ a, sp = .ref a ∧ H a = none ∧ H' a = some (.tup [.int lo, .int hi]))
def spWin (K : PySem.W.Frag) : Sp := fun vs H Q _ => ∃ (v : V) (h t d : Int) (j : Nat) (ds : List Int), vs = [v, .int (j : Int)] ∧ SeaA K H v h t ds ∧ ds[j]? = some d ∧ ∀ (sp : V) (H' : Hp), Same H H' → WinAt H H' sp (lowI h d) (highI t ds.length d) → Q sp H'
theorem win_imp {K : PySem.W.Frag} (vs : List V) (H : Hp) (Q : VK) (E : XK) (z : spWin K vs H Q E) : spWindow K vs H Q E := by
  obtain ⟨v, h, t, d, j, ds, rfl, hv, hj, q⟩ := z
  exact ⟨v, h, t, d, j, ds, rfl, hv, hj, fun c => q .non H (Same.refl _) (.inl ⟨c, rfl⟩), fun c p np => q (.ref p) _ (same_new np) (.inr ⟨c, p, rfl, np, upd_same⟩)⟩
end Sh

namespace Sh
open PySem PySem.Spec PyProof.Rows L2
/-! ### lots as sets, crossings of lots -/
def mem (L : List Nat) : Nat → Bool := fun i => decide (i ∈ L)
theorem cnt_mem {c : Nat} {L : List Nat} (h : Lot c L) : Th.cnt c (mem L) = L.length := by
  unfold Th.cnt mem
  rw [List.countP_eq_length_filter]
  exact congrArg List.length h.mem_eq.symm
theorem mem_out {c : Nat} {L : List Nat} (h : Lot c L) {i : Nat} (hi : ¬ i < c) : mem L i = false := decide_eq_false fun z => hi (h.lt i z)
theorem lot_ext {c : Nat} {L M : List Nat} (h : Lot c L) (h' : Lot c M) (e : ∀ i, i < c → mem L i = mem M i) : L = M := by
  rw [h.mem_eq, h'.mem_eq]
  exact List.filter_congr fun i hi => e i (List.mem_range.mp hi)
/-- who goes at a step -/
def Gof (h t : Int) (ds : List Int) : Nat → Nat → Bool := fun s i => decide (ds.getD i 0 ≤ mk h t ds.length (s : Int))
theorem near_cnt {c : Nat} {L : List Nat} (h : Lot c L) {i : Nat} (hi : i < c) : near L i = if i ∈ L then L.length - 1 else L.length := by
  by_cases z : i ∈ L
  · rw [if_pos z, near_in h]
    have e := filter_filter_len (fun j => decide (j ∈ L)) (fun j => decide (j = i)) (List.range c)
    have e1 : ((List.range c).filter fun j => decide (j ∈ L)).length = L.length := congrArg List.length h.mem_eq.symm
    have e2 : ((List.range c).filter fun j => decide (j ∈ L) && decide (j = i)).length = 1 := by
      rw [← one_of hi]
      congr 1
      refine List.filter_congr fun a _ => ?_
      by_cases q : a = i
      · subst q
        rw [decide_eq_true z]
        rfl
      · rw [decide_eq_false q, Bool.and_false]
    omega
  · rw [if_neg z]
    exact near_out z
theorem may_G {h t : Int} {ds : List Int} {L : List Nat} {i : Nat} : mayB h t ds L i = Gof h t ds (near L i) i := may_mk
/-- the standing behind i's going over -/
def gone (L : List Nat) (i : Nat) : List Nat := if i ∈ L then L.filter (fun j => !decide (j = i)) else L.filter (fun j => decide (j < i)) ++ i :: L.filter (fun j => decide (i < j))
theorem gone_lot {c : Nat} {L : List Nat} (h : Lot c L) {i : Nat} (hi : i < c) : Lot c (gone L i) := by
  unfold gone
  split
  · exact h.filter _
  · refine ⟨List.pairwise_append.mpr ⟨h.up.filter _, List.pairwise_cons.mpr ⟨fun a ha => ?_, h.up.filter _⟩, fun a ha b hb => ?_⟩, fun a ha => ?_⟩
    · simpa using (List.mem_filter.mp ha).2
    · have h1 : a < i := by simpa using (List.mem_filter.mp ha).2
      rcases List.mem_cons.mp hb with q | q
      · omega
      · have : i < b := by simpa using (List.mem_filter.mp q).2
        omega
    · rcases List.mem_append.mp ha with q | q
      · exact h.lt a (List.mem_filter.mp q).1
      · rcases List.mem_cons.mp q with q | q
        · omega
        · exact h.lt a (List.mem_filter.mp q).1
theorem gone_mem {L : List Nat} {i : Nat} : mem (gone L i) = Th.flip (mem L) i := by
  funext j
  unfold mem gone
  by_cases z : i ∈ L
  · rw [if_pos z]
    by_cases e : j = i
    · subst e
      rw [Th.flip_self]
      simp [z]
    · rw [Th.flip_ne _ e]
      simp [e]
  · rw [if_neg z]
    by_cases e : j = i
    · subst e
      rw [Th.flip_self]
      simp [z]
    · rw [Th.flip_ne _ e]
      by_cases q : j < i
      · simp [e, q]
        omega
      · have : i < j := by omega
        simp [e, q, this]
/-- one comes to the other -/
def Rl (h t : Int) (ds : List Int) (L M : List Nat) : Prop := Th.Reach ds.length (Gof h t ds) (mem L) (mem M)
theorem rl_one {h t : Int} {ds : List Int} {L : List Nat} {i : Nat} (hL : Lot ds.length L) (hi : i < ds.length) (m : mayB h t ds L i = true) : Rl h t ds L (gone L i) := by
  unfold Rl
  rw [gone_mem]
  rw [may_G, near_cnt hL hi] at m
  refine .one ?_
  by_cases z : i ∈ L
  · rw [if_pos z] at m
    exact .dn hi (decide_eq_true z) (by rw [cnt_mem hL]; exact m)
  · rw [if_neg z] at m
    exact .up hi (decide_eq_false z) (by rw [cnt_mem hL]; exact m)
/-- behind its going over it may go back -/
theorem may_back {h t : Int} {ds : List Int} {L : List Nat} {i : Nat} (hL : Lot ds.length L) (hi : i < ds.length) : near (gone L i) i = near L i := by
  rw [near_cnt (gone_lot hL hi) hi, near_cnt hL hi]
  have m : mem (gone L i) i = !mem L i := by rw [gone_mem, Th.flip_self]
  have c1 := cnt_mem hL
  have c2 := cnt_mem (gone_lot hL hi)
  rw [gone_mem] at c2
  by_cases z : i ∈ L
  · have z2 : ¬ i ∈ gone L i := fun q => by
      have : mem (gone L i) i = true := decide_eq_true q
      rw [m, show mem L i = true from decide_eq_true z] at this
      cases this
    have := Th.cnt_flip_dn (k := ds.length) (S := mem L) hi (decide_eq_true z)
    rw [if_pos z, if_neg z2]
    omega
  · have z2 : i ∈ gone L i := by
      have : mem (gone L i) i = true := by rw [m, show mem L i = false from decide_eq_false z]; rfl
      exact of_decide_eq_true this
    have := Th.cnt_flip_up (k := ds.length) (S := mem L) hi (decide_eq_false z)
    rw [if_neg z, if_pos z2]
    omega
theorem top_of (h t : Int) (ds : List Int) (hk : 0 < ds.length) : Th.Top ds.length (Gof h t ds) (topI h t ds.length).toNat := by
  have t0 := top_lo h t ds.length
  have t1 := top_hi h t hk
  refine ⟨by omega, fun s s' i a b g => ?_, fun s s' i a b c g => ?_⟩
  · have g' : ds.getD i 0 ≤ mk h t ds.length (s : Int) := of_decide_eq_true g
    refine decide_eq_true (Int.le_trans g' ?_)
    have b' : (s' : Int) ≤ topI h t ds.length := by omega
    clear g g' t0 t1
    unfold mk topI at *
    repeat' split
    all_goals (repeat' split at b')
    all_goals omega
  · have g' : ds.getD i 0 ≤ mk h t ds.length (s' : Int) := of_decide_eq_true g
    refine decide_eq_true (Int.le_trans g' ?_)
    have b' : topI h t ds.length ≤ (s : Int) := by omega
    clear g g' t0 t1
    unfold mk topI at *
    repeat' split
    all_goals (repeat' split at b')
    all_goals omega
/-! ### what is told of it -/
def IsMost (h t : Int) (ds : List Int) (L : List Nat) (m : Nat) : Prop := (∃ M, Lot ds.length M ∧ Rl h t ds L M ∧ M.length = m) ∧ ∀ M, Lot ds.length M → Rl h t ds L M → M.length ≤ m
def IsLeast (h t : Int) (ds : List Int) (L : List Nat) (m : Nat) : Prop := (∃ M, Lot ds.length M ∧ Rl h t ds L M ∧ M.length = m) ∧ ∀ M, Lot ds.length M → Rl h t ds L M → m ≤ M.length
def IsMovers (h t : Int) (ds : List Int) (L ms : List Nat) : Prop := Lot ds.length ms ∧ ∀ i, i < ds.length → (i ∈ ms ↔ ∃ M, Lot ds.length M ∧ Rl h t ds L M ∧ mayB h t ds M i = true)
theorem IsMost.uniq {h t : Int} {ds : List Int} {L L' : List Nat} {m m' : Nat} (r : Rl h t ds L L') (a : IsMost h t ds L m) (b : IsMost h t ds L' m') : m = m' := by
  obtain ⟨⟨M, l1, r1, e1⟩, h1⟩ := a
  obtain ⟨⟨M', l2, r2, e2⟩, h2⟩ := b
  have := h1 M' l2 (r.trans r2)
  have := h2 M l1 (r.symm.trans r1)
  omega
theorem IsLeast.uniq {h t : Int} {ds : List Int} {L L' : List Nat} {m m' : Nat} (r : Rl h t ds L L') (a : IsLeast h t ds L m) (b : IsLeast h t ds L' m') : m = m' := by
  obtain ⟨⟨M, l1, r1, e1⟩, h1⟩ := a
  obtain ⟨⟨M', l2, r2, e2⟩, h2⟩ := b
  have := h1 M' l2 (r.trans r2)
  have := h2 M l1 (r.symm.trans r1)
  omega
theorem IsMovers.uniq {h t : Int} {ds : List Int} {L L' ms ms' : List Nat} (r : Rl h t ds L L') (a : IsMovers h t ds L ms) (b : IsMovers h t ds L' ms') : ms = ms' := by
  refine lot_ext a.1 b.1 fun i hi => ?_
  unfold mem
  rw [decide_eq_decide, a.2 i hi, b.2 i hi]
  exact ⟨fun ⟨M, l, q, m⟩ => ⟨M, l, r.symm.trans q, m⟩, fun ⟨M, l, q, m⟩ => ⟨M, l, r.trans q, m⟩⟩
/-- a sea whose draughts are a tuple is handed in -/
def SeaD (K : PySem.W.Frag) (H : Hp) (v : V) (h t : Int) (ds : List Int) : Prop := ∃ p q, v = .ref p ∧ SqA K H p [.int h, .int t, .ref q] ∧ SqT K H q (ds.map V.int)
theorem SeaD.same {K : PySem.W.Frag} {H H' : Hp} {v : V} {h t : Int} {ds : List Int} (s : SeaD K H v h t ds) (e : Same H H') : SeaD K H' v h t ds := let ⟨p, q, a, b, c⟩ := s; ⟨p, q, a, Same.sqA e b, Same.tup e c⟩
theorem SeaD.a {K : PySem.W.Frag} {H : Hp} {v : V} {h t : Int} {ds : List Int} (s : SeaD K H v h t ds) : SeaA K H v h t ds := let ⟨p, q, a, b, c⟩ := s; ⟨p, q, a, b, .inr c⟩
def spMost (K : PySem.W.Frag) : Sp := fun vs H Q _ => ∃ (v l : V) (h t : Int) (ds : List Int) (L : List Nat), vs = [v, l] ∧ SeaD K H v h t ds ∧ LotA K H l L ∧ ds.length ≤ 60 ∧ 0 < ds.length ∧ Lot ds.length L ∧ ∀ (H' : Hp) (m : Nat), Same H H' → IsMost h t ds L m → Q (.int (m : Int)) H'
def spLeast (K : PySem.W.Frag) : Sp := fun vs H Q _ => ∃ (v l : V) (h t : Int) (ds : List Int) (L : List Nat), vs = [v, l] ∧ SeaD K H v h t ds ∧ LotA K H l L ∧ ds.length ≤ 60 ∧ 0 < ds.length ∧ Lot ds.length L ∧ ∀ (H' : Hp) (m : Nat), Same H H' → IsLeast h t ds L m → Q (.int (m : Int)) H'
def spMovers (K : PySem.W.Frag) : Sp := fun vs H Q _ => ∃ (v l : V) (h t : Int) (ds : List Int) (L : List Nat), vs = [v, l] ∧ SeaD K H v h t ds ∧ LotA K H l L ∧ ds.length ≤ 60 ∧ 0 < ds.length ∧ Lot ds.length L ∧
  ∀ (H' : Hp) (p : Addr) (ms : List Nat), Same H H' → H p = none → H' p = some (.lst (ni ms)) → IsMovers h t ds L ms → Q (.ref p) H'
def spComes (K : PySem.W.Frag) : Sp := fun vs H Q _ => ∃ (v l m : V) (h t : Int) (ds : List Int) (L M : List Nat), vs = [v, l, m] ∧ SeaD K H v h t ds ∧ LotA K H l L ∧ LotA K H m M ∧ ds.length ≤ 60 ∧ 0 < ds.length ∧ Lot ds.length L ∧ Lot ds.length M ∧
  ∀ (H' : Hp) (b : Bool), Same H H' → (b = true ↔ Rl h t ds L M) → Q (.bl b) H'
/-! ### turned about -/
def away (c : Nat) (L : List Nat) : List Nat := (List.range c).filter fun i => !decide (i ∈ L)
theorem away_lot (c : Nat) (L : List Nat) : Lot c (away c L) := (Lot.all c).filter _
theorem mk_turn {h t : Int} {k s : Nat} (hs : s < k) : mk t h k (s : Int) = mk h t k ((k - 1 - s : Nat) : Int) := by
  unfold mk
  split <;> split <;> omega
theorem mem_away {c : Nat} {L : List Nat} {i : Nat} (hi : i < c) : mem (away c L) i = !mem L i := by
  unfold mem away
  rw [Bool.eq_iff_iff, decide_eq_true_eq, List.mem_filter, List.mem_range]
  simp [hi]
end Sh

namespace Sh
/-! ### fleets: sums over sorts, and ships one by one -/
abbrev Srt := Int × Nat × Nat
def mny (ss : List Srt) : Nat := (ss.map fun x => x.2.1 + x.2.2).sum
theorem mny_cons (x : Srt) (l : List Srt) : mny (x :: l) = x.2.1 + x.2.2 + mny l := by
  unfold mny
  rw [List.map_cons, List.sum_cons]
theorem mny_snoc (l : List Srt) (x : Srt) : mny (l ++ [x]) = mny l + (x.2.1 + x.2.2) := by
  unfold mny
  rw [List.map_append, List.sum_append]
  simp
def ourn (ss : List Srt) : Nat := (ss.map fun x => x.2.1).sum
def gmF (ss : List Srt) (m : Int) : Nat := ((ss.filter fun x => decide (x.1 ≤ m)).map fun x => x.2.1 + x.2.2).sum
def filF (ss : List Srt) (m : Int) : Nat := (ss.map fun x => x.2.1 + if x.1 ≤ m then x.2.2 else 0).sum
def fxF (ss : List Srt) (m : Int) : List Nat := (ss.filter fun x => decide (x.1 > m)).map fun x => x.2.1
def turnF (ss : List Srt) : List Srt := ss.map fun x => (x.1, x.2.2, x.2.1)
theorem mny_turn (ss : List Srt) : mny (turnF ss) = mny ss := by
  unfold mny turnF
  rw [List.map_map]
  congr 1
  exact List.map_congr_left fun x _ => Nat.add_comm _ _
theorem turn_turn (ss : List Srt) : turnF (turnF ss) = ss := by
  unfold turnF
  rw [List.map_map]
  exact (List.map_congr_left fun x _ => rfl).trans (List.map_id ss)
/-- the ships of a fleet one by one -/
structure Rp (ss : List Srt) (k : Nat) (D : Nat → Int) (S : Nat → Bool) : Prop where
  here : ∀ P : Int → Bool, ((ss.filter fun x => P x.1).map fun x => x.2.1).sum = Th.cnt k (fun i => P (D i) && S i)
  there : ∀ P : Int → Bool, ((ss.filter fun x => P x.1).map fun x => x.2.2).sum = Th.cnt k (fun i => P (D i) && !S i)
theorem sum_two (f g : Srt → Nat) : ∀ l : List Srt, (l.map fun x => f x + g x).sum = (l.map f).sum + (l.map g).sum
  | [] => rfl
  | a :: l => by
    simp only [List.map_cons, List.sum_cons, sum_two f g l]
    omega
theorem sum_filter (P : Srt → Bool) (f : Srt → Nat) : ∀ l : List Srt, (l.map fun x => if P x = true then f x else 0).sum = ((l.filter P).map f).sum
  | [] => rfl
  | a :: l => by
    cases h : P a <;> simp [h, sum_filter P f l]
section
variable {ss : List Srt} {k : Nat} {D : Nat → Int} {S : Nat → Bool}
theorem Rp.gm (r : Rp ss k D S) (m : Int) : gmF ss m = Th.cnt k (fun i => decide (D i ≤ m)) := by
  unfold gmF
  rw [sum_two (fun x => x.2.1) (fun x => x.2.2), r.here fun d => decide (d ≤ m), r.there fun d => decide (d ≤ m)]
  exact (Th.cnt_split _ S).symm
theorem Rp.ourn (r : Rp ss k D S) : ourn ss = Th.cnt k S := by
  have e := r.here fun _ => true
  rw [List.filter_eq_self.mpr fun _ _ => rfl] at e
  exact e
theorem Rp.mny (r : Rp ss k D S) : mny ss = k := by
  have e := r.there fun _ => true
  rw [List.filter_eq_self.mpr fun _ _ => rfl] at e
  unfold Sh.mny
  rw [sum_two (fun x => x.2.1) (fun x => x.2.2), e]
  have e2 := r.ourn
  unfold Sh.ourn at e2
  rw [e2]
  exact Th.cnt_not S
theorem Rp.fil (r : Rp ss k D S) (m : Int) : filF ss m = Th.cnt k (fun i => S i || decide (D i ≤ m)) := by
  unfold filF
  rw [sum_two (fun x => x.2.1) (fun x => if x.1 ≤ m then x.2.2 else 0)]
  have e1 := r.ourn
  unfold Sh.ourn at e1
  have e2 : (ss.map fun x => if x.1 ≤ m then x.2.2 else 0).sum = Th.cnt k (fun i => decide (D i ≤ m) && !S i) := by
    rw [← r.there fun d => decide (d ≤ m), ← sum_filter]
    congr 1
    refine List.map_congr_left fun x _ => ?_
    by_cases z : x.1 ≤ m
    · rw [if_pos z, if_pos (decide_eq_true z)]
    · rw [if_neg z, if_neg (by simpa using z)]
  rw [e1, e2, Th.cnt_or_not]
theorem Rp.fx (r : Rp ss k D S) (m : Int) : (fxF ss m).sum = Th.cnt k (fun i => S i && !decide (D i ≤ m)) := by
  unfold fxF
  rw [r.here fun d => decide (d > m)]
  refine Th.cnt_congr fun i _ => ?_
  rw [Bool.and_comm]
  congr 1
  by_cases z : D i ≤ m
  · rw [decide_eq_true z, decide_eq_false (by omega)]; rfl
  · rw [decide_eq_false z, decide_eq_true (by omega)]; rfl
theorem Rp.turn (r : Rp ss k D S) : Rp (turnF ss) k D (Th.co S) := by
  refine ⟨fun P => ?_, fun P => ?_⟩
  · have e := r.there P
    unfold turnF
    rw [List.filter_map, List.map_map]
    exact e
  · have e := r.here P
    unfold turnF
    rw [List.filter_map, List.map_map]
    refine Eq.trans e ?_
    refine Th.cnt_congr fun i _ => ?_
    unfold Th.co
    rw [Bool.not_not]
end
/-- who goes at a step -/
def Gd (h t : Int) (k : Nat) (D : Nat → Int) : Nat → Nat → Bool := fun s i => decide (D i ≤ mk h t k (s : Int))
theorem top_lo' (h t : Int) (k : Nat) : 0 ≤ topI h t k := by
  unfold topI
  split <;> omega
theorem top_hi' (h t : Int) {k : Nat} (hk : 0 < k) : topI h t k < (k : Int) := by
  unfold topI
  repeat' split
  all_goals omega
theorem mk_le {h t : Int} {k : Nat} {s s' : Int} (s0 : 0 ≤ s) (a : s ≤ s') (b : s' ≤ topI h t k) : mk h t k s ≤ mk h t k s' := by
  unfold mk topI at *
  repeat' split
  all_goals (repeat' split at b)
  all_goals omega
theorem mk_dn {h t : Int} {k : Nat} {s s' : Int} (c : topI h t k ≤ s) (a : s ≤ s') (d : s' < (k : Int)) : mk h t k s' ≤ mk h t k s := by
  unfold mk topI at *
  repeat' split
  all_goals (repeat' split at c)
  all_goals omega
theorem mk_turn' {h t : Int} {k : Nat} {s : Int} : mk t h k s = mk h t k ((k : Int) - 1 - s) := by
  unfold mk
  split <;> split <;> omega
/-- up to the top the water here bounds -/
theorem mk_low {h t : Int} {k : Nat} {s : Int} (s0 : 0 ≤ s) (b : s < topI h t k) : mk h t k s = h + s := by
  unfold mk topI at *
  repeat' split at b
  all_goals split
  all_goals omega
theorem mk_high {h t : Int} {k : Nat} {s : Int} (s0 : 0 ≤ s) (b : s < (k : Int) - 1 - topI h t k) : mk t h k s = t + s := by
  unfold mk topI at *
  repeat' split at b
  all_goals split
  all_goals omega
theorem top_D (h t : Int) {k : Nat} (D : Nat → Int) (hk : 0 < k) : Th.Top k (Gd h t k D) (topI h t k).toNat := by
  have t0 := top_lo' h t k
  have t1 := top_hi' h t hk
  refine ⟨by omega, fun s s' i a b g => ?_, fun s s' i a b c g => ?_⟩
  · have g' : D i ≤ mk h t k (s : Int) := of_decide_eq_true g
    exact decide_eq_true (Int.le_trans g' (mk_le (by omega) (by omega) (by omega)))
  · have g' : D i ≤ mk h t k (s' : Int) := of_decide_eq_true g
    exact decide_eq_true (Int.le_trans g' (mk_dn (by omega) (by omega) (by omega)))
theorem Gd_turn {h t : Int} {k : Nat} {D : Nat → Int} {s i : Nat} (hs : s < k) : Gd t h k D s i = Th.dual k (Gd h t k D) s i := by
  unfold Gd Th.dual
  rw [mk_turn', show ((k : Int) - 1 - (s : Int)) = ((k - 1 - s : Nat) : Int) by omega]
/-! ### stuck, by sums -/
def StuckF (h t : Int) (ss : List Srt) (N : Nat) : Prop := ourn ss ≤ N ∧ (∀ n : Nat, ourn ss ≤ n → n < N → n < filF ss (mk h t (mny ss) (n : Int))) ∧ filF ss (mk h t (mny ss) (N : Int)) ≤ N
theorem Rp.stuck {ss : List Srt} {k : Nat} {D : Nat → Int} {S : Nat → Bool} (r : Rp ss k D S) (h t : Int) (N : Nat) : StuckF h t ss N ↔ Th.StuckLow k (Gd h t k D) N S := by
  unfold StuckF Th.StuckLow
  rw [r.ourn, r.mny, r.fil]
  have e : ∀ n : Nat, filF ss (Sh.mk h t k (n : Int)) = Th.cnt k (fun i => S i || Gd h t k D n i) := fun n => r.fil _
  simp only [e]
  exact Iff.rfl
end Sh
namespace Th
theorem StuckLow.congr {k : Nat} {G G' : Nat → Nat → Bool} {S : Nat → Bool} {N : Nat} (hN : N < k) (e : ∀ s i, s < k → G s i = G' s i) (h : StuckLow k G N S) : StuckLow k G' N S := by
  have e2 : ∀ n, n < k → cnt k (fun i => S i || G n i) = cnt k (fun i => S i || G' n i) := fun n hn => cnt_congr fun i _ => by rw [e n i hn]
  refine ⟨h.1, fun n a b => ?_, ?_⟩
  · rw [← e2 n (by omega)]
    exact h.2.1 n a b
  · rw [← e2 N hN]
    exact h.2.2
/-- gets to the top's number, and somebody may go there -/
def Open (k : Nat) (G : Nat → Nat → Bool) (T : Nat) (S : Nat → Bool) : Prop := (Rises k G T S ∨ Sinks k G T S) ∧ T < cnt k (fun i => S i || G T i)
theorem Open.congr {k : Nat} {G G' : Nat → Nat → Bool} {T : Nat} {S : Nat → Bool} (hT : T < k) (e : ∀ s i, s < k → G s i = G' s i) (h : Open k G T S) : Open k G' T S := by
  have e2 : ∀ n, n < k → cnt k (fun i => S i || G n i) = cnt k (fun i => S i || G' n i) := fun n hn => cnt_congr fun i _ => by rw [e n i hn]
  have e3 : ∀ n, n < k → cnt k (fun i => S i && !G n i) = cnt k (fun i => S i && !G' n i) := fun n hn => cnt_congr fun i _ => by rw [e n i hn]
  have cl := cnt_le k S
  refine ⟨h.1.imp (fun q => ⟨q.1, fun n a b => ?_⟩) (fun q => ⟨q.1, fun s a b => ?_⟩), ?_⟩
  · rw [← e2 n (by omega)]
    exact q.2 n a b
  · rw [← e3 s (by omega)]
    exact q.2 s a b
  · rw [← e2 T hT]
    exact h.2
theorem cnt_and_or {k : Nat} (S f : Nat → Bool) : cnt k (fun i => S i && !f i) + cnt k f = cnt k (fun i => S i || f i) := by
  have e := cnt_or_not (k := k) f S
  have e1 : (fun i => f i || S i) = (fun i => S i || f i) := funext fun i => Bool.or_comm _ _
  rw [e1] at e
  omega
theorem Open.dual {k : Nat} {G : Nat → Nat → Bool} {T : Nat} {S : Nat → Bool} (t : Top k G T) (h : Open k G T S) : Open k (Th.dual k G) (k - 1 - T) (co S) := by
  have tl := t.lt
  have c0 := cnt_co k S
  have cle := cnt_le k S
  have key : ∀ n, n < k → cnt k (fun i => co S i && !Th.dual k G (k - 1 - n) i) + cnt k (fun i => S i || G n i) = k := fun n hn => by
    have e : (fun i => co S i && !Th.dual k G (k - 1 - n) i) = co (fun i => S i || G n i) := by
      funext i
      have := dual_dual_at (G := G) (k := k) (s := n) hn i
      unfold Th.dual at this
      show (!S i && !G (k - 1 - (k - 1 - n)) i) = !(S i || G n i)
      rw [this]
      cases S i <;> cases G n i <;> rfl
    rw [e, Nat.add_comm]
    exact cnt_co k _
  have key2 : ∀ n, n < k → cnt k (fun i => co S i || Th.dual k G (k - 1 - n) i) + cnt k (fun i => S i && !G n i) = k := fun n hn => by
    have e : (fun i => co S i || Th.dual k G (k - 1 - n) i) = co (fun i => S i && !G n i) := by
      rw [co_or]
      funext i
      have := dual_dual_at (G := G) (k := k) (s := n) hn i
      unfold Th.dual at this
      show (!(S i && !G (k - 1 - (k - 1 - n)) i)) = !(S i && !G n i)
      rw [this]
    rw [e, Nat.add_comm]
    exact cnt_co k _
  obtain ⟨rs, hc⟩ := h
  have hf : cnt k (fun i => S i && !G T i) ≤ T := by
    rcases rs with q | q
    · exact Nat.le_trans (cnt_mono fun i _ w => by revert w; cases S i <;> simp) q.1
    · exact q.2 T (Nat.le_refl _) q.1
  refine ⟨?_, ?_⟩
  · rcases rs with ⟨q1, q2⟩ | ⟨q1, q2⟩
    · refine .inr ⟨by omega, fun s a b => ?_⟩
      have hk := key (k - 1 - s) (by omega)
      rw [show k - 1 - (k - 1 - s) = s by omega] at hk
      have : k - 1 - s < cnt k (fun i => S i || G (k - 1 - s) i) := by
        by_cases z : k - 1 - s = T
        · rw [z]; exact hc
        · exact q2 _ (by omega) (by omega)
      omega
    · refine .inl ⟨by omega, fun n a b => ?_⟩
      have hk := key2 (k - 1 - n) (by omega)
      rw [show k - 1 - (k - 1 - n) = n by omega] at hk
      have := q2 (k - 1 - n) (by omega) (by omega)
      omega
  · have hk := key2 T tl
    omega
/-- how few can come to lie here, of a lot that gets to the top's number -/
theorem open_counts_low {k : Nat} {G : Nat → Nat → Bool} {T n : Nat} {S : Nat → Bool} (t : Top k G T) (h : Open k G T S) (hn : n ≤ T + 1) : (∃ U, Reach k G S U ∧ cnt k U = n) ↔ cnt k (fun i => S i && !G T i) ≤ n ∧ ∀ m, m ≤ T → m + 1 ≤ n + cnt k (G m) := by
  have tl := t.lt
  have hd := h.dual t
  have oc := open_counts (n := k - n) t.dual hd.1 (by omega)
  have e1 : (∃ U, Reach k G S U ∧ cnt k U = n) ↔ ∃ U, Reach k (Th.dual k G) (co S) U ∧ cnt k U = k - n := by
    constructor
    · rintro ⟨U, r, c⟩
      refine ⟨co U, r.dual, ?_⟩
      have := cnt_co k U
      omega
    · rintro ⟨U, r, c⟩
      refine ⟨co U, ?_, ?_⟩
      · refine Reach.codual ?_
        rw [co_co]
        exact r
      · have := cnt_co k U
        omega
  have e2 : cnt k (fun i => co S i || Th.dual k G (k - 1 - T) i) + cnt k (fun i => S i && !G T i) = k := by
    have e : (fun i => co S i || Th.dual k G (k - 1 - T) i) = co (fun i => S i && !G T i) := by
      rw [co_or]
      funext i
      have := dual_dual_at (G := G) (k := k) (s := T) tl i
      unfold Th.dual at this
      show (!(S i && !G (k - 1 - (k - 1 - T)) i)) = !(S i && !G T i)
      rw [this]
    rw [e, Nat.add_comm]
    exact cnt_co k _
  rw [e1, oc]
  constructor
  · rintro ⟨a, b⟩
    refine ⟨by omega, fun m hm => ?_⟩
    have := b (k - 1 - m) (by omega) (by omega)
    unfold Th.dual at this
    rw [show k - 1 - (k - 1 - m) = m by omega] at this
    have this' : k - n ≤ k - 1 - m + cnt k (G m) := this
    omega
  · rintro ⟨a, b⟩
    refine ⟨by omega, fun s hs hk => ?_⟩
    have := b (k - 1 - s) (by omega)
    show k - n ≤ s + cnt k (G (k - 1 - s))
    omega
def IsMin (k : Nat) (G : Nat → Nat → Bool) (S : Nat → Bool) (n : Nat) : Prop := (∃ U, Reach k G S U ∧ cnt k U = n) ∧ ∀ U, Reach k G S U → n ≤ cnt k U
def IsMax (k : Nat) (G : Nat → Nat → Bool) (S : Nat → Bool) (n : Nat) : Prop := (∃ U, Reach k G S U ∧ cnt k U = n) ∧ ∀ U, Reach k G S U → cnt k U ≤ n
theorem IsMin.co {k : Nat} {G : Nat → Nat → Bool} {S : Nat → Bool} {n : Nat} (h : IsMin k (Th.dual k G) (co S) n) : n ≤ k ∧ IsMax k G S (k - n) := by
  obtain ⟨⟨U, r, c⟩, hm⟩ := h
  have cu := cnt_le k U
  refine ⟨by omega, ⟨Th.co U, ?_, ?_⟩, fun W rW => ?_⟩
  · refine Reach.codual ?_
    rw [co_co]
    exact r
  · have := cnt_co k U
    omega
  · have := hm _ rW.dual
    have := cnt_co k W
    omega
theorem IsMin.congr {k : Nat} {G G' : Nat → Nat → Bool} {S : Nat → Bool} {n : Nat} (e : ∀ s i, s < k → G s i = G' s i) (h : IsMin k G S n) : IsMin k G' S n := by
  obtain ⟨⟨U, r, c⟩, hm⟩ := h
  exact ⟨⟨U, r.congr e, c⟩, fun W rW => hm W (rW.congr fun s i hs => (e s i hs).symm)⟩
theorem stuck_min_high {k : Nat} {G : Nat → Nat → Bool} {T N : Nat} {S : Nat → Bool} (t : Top k G T) (hN : N ≤ T) (h : StuckLow k G N S) : IsMax k G S N := by
  obtain ⟨U, r, c, _⟩ := h.full t hN
  exact ⟨⟨U, r, c⟩, fun W rW => (h.under t hN rW).1⟩
end Th
namespace Sh
/-! ### the least number, as it's told -/
/-- m is the greatest of what least_in looks at -/
def LeastI (h t : Int) (ss : List Srt) (step : Int) (m : Int) : Prop :=
  (m = ((fxF ss (mk h t (mny ss) step)).sum : Int) ∨ ∃ e : Int, (e = step ∨ (∃ x ∈ ss, e = x.1 - h ∧ e < step)) ∧ 0 < e ∧ m = e - (gmF ss (mk h t (mny ss) (e - 1)) : Int)) ∧
  ((fxF ss (mk h t (mny ss) step)).sum : Int) ≤ m ∧ ∀ e : Int, (e = step ∨ (∃ x ∈ ss, e = x.1 - h ∧ e < step)) → 0 < e → e - (gmF ss (mk h t (mny ss) (e - 1)) : Int) ≤ m
/-- the ends are enough -/
theorem least_ends {h t : Int} {ss : List Srt} {N : Nat} {m0 : Int} (hm : ∀ m : Nat, m < N → mk h t (mny ss) (m : Int) = h + m)
    (ub : ∀ e : Int, (e = (N : Int) ∨ (∃ x ∈ ss, e = x.1 - h ∧ e < (N : Int))) → 0 < e → e - (gmF ss (mk h t (mny ss) (e - 1)) : Int) ≤ m0) :
    ∀ (j m : Nat), m < N → N - m = j → (m : Int) + 1 - (gmF ss (mk h t (mny ss) (m : Int)) : Int) ≤ m0 := by
  intro j
  induction j with
  | zero => intro m a b; omega
  | succ j ih =>
    intro m a b
    by_cases z : m + 1 = N
    · have := ub N (.inl rfl) (by omega)
      rw [show (N : Int) - 1 = (m : Int) by omega] at this
      omega
    · by_cases q : ∃ x ∈ ss, x.1 - h = (m : Int) + 1
      · obtain ⟨x, hx, e⟩ := q
        have := ub ((m : Int) + 1) (.inr ⟨x, hx, e.symm, by omega⟩) (by omega)
        rw [show (m : Int) + 1 - 1 = (m : Int) by omega] at this
        exact this
      · have i2 := ih (m + 1) (by omega) (by omega)
        rw [hm (m + 1) (by omega)] at i2
        rw [hm m a]
        have e : gmF ss (h + ((m + 1 : Nat) : Int)) = gmF ss (h + (m : Int)) := by
          unfold gmF
          congr 2
          refine List.filter_congr fun x hx => ?_
          rw [decide_eq_decide]
          have : ¬ x.1 - h = (m : Int) + 1 := fun w => q ⟨x, hx, w⟩
          omega
        rw [e] at i2
        omega
section
variable {ss : List Srt} {k : Nat} {D : Nat → Int} {S : Nat → Bool} {h t : Int}
theorem least_low (r : Rp ss k D S) {T N : Nat} (tp : Th.Top k (Gd h t k D) T) (hN : N ≤ T) (sl : Th.StuckLow k (Gd h t k D) N S) (hm : ∀ m : Nat, m < N → mk h t k (m : Int) = h + m) {m0 : Int} (L : LeastI h t ss (N : Int) m0) :
    ∃ n : Nat, m0 = (n : Int) ∧ Th.IsMin k (Gd h t k D) S n := by
  obtain ⟨l1, l2, l3⟩ := L
  have km := r.mny
  have hends := least_ends (h := h) (t := t) (ss := ss) (N := N) (by rw [km]; exact hm) l3
  have efx := r.fx (mk h t (mny ss) (N : Int))
  rw [km] at efx hends l1 l2 l3
  have gme : ∀ m : Nat, gmF ss (mk h t k (m : Int)) = Th.cnt k (Gd h t k D m) := fun m => r.gm _
  have fxle : (fxF ss (mk h t k (N : Int))).sum ≤ Th.cnt k S := by
    rw [efx]
    exact Th.cnt_mono fun i _ w => by revert w; cases S i <;> simp
  have m0N : m0 ≤ (N : Int) := by
    have := sl.1
    rcases l1 with e | ⟨e, he, e0, e1⟩
    · omega
    · rcases he with he | ⟨x, _, _, he⟩ <;> omega
  have cond : ∀ m, m < N → m + 1 ≤ m0.toNat + Th.cnt k (Gd h t k D m) := fun m a => by
    have := hends _ m a rfl
    rw [gme] at this
    omega
  refine ⟨m0.toNat, by omega, (Th.low_counts sl tp hN (by omega)).mpr cond, fun U rU => ?_⟩
  have ur := sl.under tp hN rU
  have lc := (Th.low_counts sl tp hN ur.1).mp ⟨U, rU, rfl⟩
  rcases l1 with e | ⟨e, he, e0, e1⟩
  · have : Th.cnt k (fun i => S i && !Gd h t k D N i) ≤ Th.cnt k U := Th.cnt_mono fun i hi w => by
      have := ur.2 i hi
      revert w this
      cases S i <;> cases U i <;> cases Gd h t k D N i <;> simp
    have e3 : (fxF ss (mk h t k (N : Int))).sum = Th.cnt k (fun i => S i && !Gd h t k D N i) := efx
    omega
  · have eN : e ≤ (N : Int) := by rcases he with he | ⟨x, _, _, he⟩ <;> omega
    have := lc (e - 1).toNat (by omega)
    rw [show e - 1 = (((e - 1).toNat : Nat) : Int) by omega, gme] at e1
    omega
theorem least_open (r : Rp ss k D S) {T : Nat} (tp : Th.Top k (Gd h t k D) T) (op : Th.Open k (Gd h t k D) T S) (hm : ∀ m : Nat, m < T → mk h t k (m : Int) = h + m) {m0 : Int} (L : LeastI h t ss (T : Int) m0) :
    ∃ n : Nat, m0 = (n : Int) ∧ Th.IsMin k (Gd h t k D) S n := by
  obtain ⟨l1, l2, l3⟩ := L
  have km := r.mny
  have hends := least_ends (h := h) (t := t) (ss := ss) (N := T) (by rw [km]; exact hm) l3
  have efx := r.fx (mk h t (mny ss) (T : Int))
  rw [km] at efx hends l1 l2 l3
  have e3 : (fxF ss (mk h t k (T : Int))).sum = Th.cnt k (fun i => S i && !Gd h t k D T i) := efx
  have gme : ∀ m : Nat, gmF ss (mk h t k (m : Int)) = Th.cnt k (Gd h t k D m) := fun m => r.gm _
  have fT : Th.cnt k (fun i => S i && !Gd h t k D T i) ≤ T := by
    rcases op.1 with q | q
    · exact Nat.le_trans (Th.cnt_mono fun i _ w => by revert w; cases S i <;> simp) q.1
    · exact q.2 T (Nat.le_refl _) q.1
  have m0N : m0 ≤ (T : Int) := by
    rcases l1 with e | ⟨e, he, e0, e1⟩
    · omega
    · rcases he with he | ⟨x, _, _, he⟩ <;> omega
  have ca := Th.cnt_and_or (k := k) S (Gd h t k D T)
  have opc := op.2
  refine ⟨m0.toNat, by omega, (Th.open_counts_low tp op (by omega)).mpr ⟨by omega, fun m a => ?_⟩, fun U rU => ?_⟩
  · by_cases z : m = T
    · subst z
      omega
    · have := hends _ m (by omega) rfl
      rw [gme] at this
      omega
  · by_cases z : Th.cnt k U ≤ T + 1
    · have lc := (Th.open_counts_low tp op z).mp ⟨U, rU, rfl⟩
      rcases l1 with e | ⟨e, he, e0, e1⟩
      · have := lc.1
        omega
      · have eN : e ≤ (T : Int) := by rcases he with he | ⟨x, _, _, he⟩ <;> omega
        have := lc.2 (e - 1).toNat (by omega)
        rw [show e - 1 = (((e - 1).toNat : Nat) : Int) by omega, gme] at e1
        omega
    · omega
end
end Sh

namespace Sh
open PySem PySem.Spec PyProof.Rows L2
theorem may_May {h t : Int} {ds : List Int} {L : List Nat} {i : Nat} (hL : Lot ds.length L) (hi : i < ds.length) : mayB h t ds L i = true ↔ Th.May ds.length (Gof h t ds) (mem L) i := by
  rw [may_G, near_cnt hL hi]
  unfold Th.May
  rw [cnt_mem hL]
  unfold mem
  by_cases z : i ∈ L
  · rw [if_pos z, decide_eq_true z, if_pos rfl]
  · rw [if_neg z, decide_eq_false z, if_neg Bool.false_ne_true]
/-- the lot of a set -/
def lotOf (c : Nat) (U : Nat → Bool) : List Nat := (List.range c).filter U
theorem lotOf_lot (c : Nat) (U : Nat → Bool) : Lot c (lotOf c U) := (Lot.all c).filter _
theorem lotOf_mem {c : Nat} {U : Nat → Bool} {i : Nat} (hi : i < c) : mem (lotOf c U) i = U i := by
  unfold mem lotOf
  rw [Bool.eq_iff_iff, decide_eq_true_eq, List.mem_filter, List.mem_range]
  exact ⟨fun q => q.2, fun q => ⟨hi, q⟩⟩
theorem lotOf_eq {h t : Int} {ds : List Int} {L : List Nat} {U : Nat → Bool} (hL : Lot ds.length L) (r : Th.Reach ds.length (Gof h t ds) (mem L) U) : mem (lotOf ds.length U) = U := by
  funext i
  by_cases hi : i < ds.length
  · exact lotOf_mem hi
  · rw [Th.reach_out r i hi, mem_out hL hi, mem_out (lotOf_lot _ _) hi]
/-- to be one of those that ever go, by lots or by sets -/
theorem ex_moves {h t : Int} {ds : List Int} {L : List Nat} (hL : Lot ds.length L) {i : Nat} (hi : i < ds.length) : (∃ M, Lot ds.length M ∧ Rl h t ds L M ∧ mayB h t ds M i = true) ↔ Th.Moves ds.length (Gof h t ds) (mem L) i := by
  constructor
  · rintro ⟨M, l, r, m⟩
    exact ⟨mem M, r, (may_May l hi).mp m⟩
  · rintro ⟨U, r, m⟩
    have e := lotOf_eq hL r
    refine ⟨lotOf ds.length U, lotOf_lot _ _, ?_, ?_⟩
    · unfold Rl
      rw [e]
      exact r
    · rw [may_May (lotOf_lot _ _) hi, e]
      exact m
theorem movers_moves {h t : Int} {ds : List Int} {L ms : List Nat} (hL : Lot ds.length L) (im : IsMovers h t ds L ms) {i : Nat} (hi : i < ds.length) : i ∈ ms ↔ Th.Moves ds.length (Gof h t ds) (mem L) i := by
  rw [im.2 i hi, ex_moves hL hi]
/-- the most, the least, by sets -/
theorem isMost_of {h t : Int} {ds : List Int} {L : List Nat} {n : Nat} (hL : Lot ds.length L) (q : Th.IsMax ds.length (Gof h t ds) (mem L) n) : IsMost h t ds L n := by
  obtain ⟨⟨U, r, c⟩, hm⟩ := q
  have e := lotOf_eq hL r
  refine ⟨⟨lotOf ds.length U, lotOf_lot _ _, ?_, ?_⟩, fun M l rM => ?_⟩
  · unfold Rl
    rw [e]
    exact r
  · rw [← cnt_mem (lotOf_lot _ _), e]
    exact c
  · rw [← cnt_mem l]
    exact hm _ rM
theorem isLeast_of {h t : Int} {ds : List Int} {L : List Nat} {n : Nat} (hL : Lot ds.length L) (q : Th.IsMin ds.length (Gof h t ds) (mem L) n) : IsLeast h t ds L n := by
  obtain ⟨⟨U, r, c⟩, hm⟩ := q
  have e := lotOf_eq hL r
  refine ⟨⟨lotOf ds.length U, lotOf_lot _ _, ?_, ?_⟩, fun M l rM => ?_⟩
  · unfold Rl
    rw [e]
    exact r
  · rw [← cnt_mem (lotOf_lot _ _), e]
    exact c
  · rw [← cnt_mem l]
    exact hm _ rM
end Sh

/-! set(xs) of a list of ints, by the walk of the list -/
namespace Sh
open PySem PySem.Spec PyProof.Rows L2
section
variable {P : Program} {w : World} {A : Around} {E : Value → Shared → Prop} {s : Shared}
/-- a set as it is born -/
abbrev Bare (w : World) : Obj := { cls := .type "set", dict := none, data := .set #[] 0 (.fresh 0 0 (!w.params.followText "set-order")) }
/-- what is left: a set of the ints; all that stood stands -/
def Made (w : World) (s : Shared) (ns : List Int) (t : Shared) : Prop := ∃ (h' : Heap) (tk c : Nat), t = { s with heap := h', toks := tk } ∧ SetR w h' s.heap.objs.size (fun j => decide (j ∈ ns)) c ∧ c ≤ ns.length ∧ ∀ b o, s.heap.get? b = some o → h'.get? b = some o
/-- the ints of the list, one by one, into the set that was born at the end of the heap -/
theorem fill_lst {A3 : Around} {l : Addr} {items : Array Value} {ns : List Int} {R : Result → Shared → Prop} (hh : A3.in1.handled = none) (hl : s.heap.IsList l items) (hit : IntsAre items.toList ns) (hb : ns.length + 1 < scanBound)
    (hR : ∀ t, Made w s ns t → R (.ok (.ret .none)) t) :
    codeAny (model P w) A3 (.builtin "set.update.loop" ⟨[.ref s.heap.objs.size, .ref (s.heap.push (Bare w)).objs.size], []⟩) R { s with heap := (s.heap.push (Bare w)).push { cls := .type "list_iterator", data := .fields #[.ref l, .int 0 0] } } := by
  have n1 : items.size = ns.length := by rw [← Array.length_toList]; exact hit.length
  obtain ⟨ol, e1, e2, e3⟩ := id hl
  have l1 : l < s.heap.objs.size := Heap.lt_size e1
  have z1 : (s.heap.push (Bare w)).objs.size = s.heap.objs.size + 1 := Heap.size_push ..
  have l2 : l ≠ (s.heap.push (Bare w)).objs.size := by rw [z1]; exact Nat.ne_of_lt (Nat.lt_succ_of_lt l1)
  have vals : ∀ (i : Nat) (v : Value), items[i]? = some v → ∃ k t, ns[i]? = some k ∧ v = .int k t := by
    intro i v hv
    have hi : i < ns.length := n1 ▸ (Array.getElem?_eq_some_iff.mp hv).1
    obtain ⟨t, e⟩ := IntsAre.int_at hit i v (by rw [Array.getElem?_toList]; exact hv)
    exact ⟨ns[i], t, List.getElem?_eq_getElem hi, by rw [e, List.getD_eq_getElem?_getD, List.getElem?_eq_getElem hi]; rfl⟩
  have born : ((s.heap.push (Bare w)).push { cls := .type "list_iterator", data := .fields #[.ref l, .int 0 0] }).get? s.heap.objs.size = some (Bare w) := Heap.get?_push_of_some _ (Heap.get?_push_size _ rfl)
  refine set_update_ints ((Walks.list hh _ l l2 items).toS) s.heap.objs.size (by rw [z1]; simp only [List.mem_cons, List.not_mem_nil, or_false, not_or]; exact ⟨Nat.ne_of_lt (Nat.lt_succ_self _), Nat.ne_of_gt l1⟩) ns n1 hb vals (items.size - 0) 0 _ (by omega) (Nat.zero_le _) ⟨⟨_, Heap.get?_push_size _ rfl, rfl, rfl⟩, (hl.push _).push _⟩ ⟨0, Nat.le_refl 0, setR_new_at born⟩ ?_
  rintro ⟨h', g2, d', tk', os'⟩ c' mv hc' hS'
  obtain rfl : g2 = s.gens := mv.gens
  obtain rfl : d' = s.drawn := mv.drawn
  obtain rfl : os' = s.os := mv.os
  refine hR _ ⟨h', tk', c', rfl, hS', by omega, fun b o e => ?_⟩
  have b0 := Heap.lt_size e
  exact mv.heap b o (by rw [z1]; simp only [List.mem_cons, List.not_mem_nil, or_false, not_or]; exact ⟨Nat.ne_of_lt b0, Nat.ne_of_lt (Nat.lt_succ_of_lt b0)⟩) (Heap.get?_push_of_some _ (Heap.get?_push_of_some _ e))
set_option maxHeartbeats 4000000 in
/-- set(xs) -/
theorem call_set_lst {l : Addr} {items : Array Value} {ns : List Int} {Q : Value → Shared → Prop} (hh : A.handled = none) (hl : s.heap.IsList l items) (hit : IntsAre items.toList ns) (hb : ns.length + 1 < scanBound)
    (h : ∀ t, Made w s ns t → Q (.ref s.heap.objs.size) t) : wpAny (model P w) A (call (.type "set") [.ref l]) Q E s := by
  have ⟨_, _, m1⟩ := F.called_set.mro; have m2 := F.called_set.made; have m3 := F.called_set.sub; have m4 := F.called_set.notType; have m5 := F.called_set.canCreate; have m6 := F.typeCall_set_1 (.ref l)
  refine wpAny_call (codeAny_of_tree (show wpAny _ _ (callAny (.type "set") _) _ _ _ from wpAny_pure ⟨Code.quiet_builtin _ (by decide +kernel), codeAny_builtin F.entry_type_call ?_⟩))
  rw [Around.under_plain (weight_type_call_type "set" [.ref l] []) rfl]
  repeat (any_goals (first | assumption | wp_step))
  refine codeAny_mono (code_set_led1 (.ref l) (E := E) (Q₁ := fun x t => x = .ref s.heap.objs.size ∧ t = { s with heap := s.heap.push (Bare w) }) ⟨rfl, rfl⟩) fun r t hr => ?_
  rcases r with e | fl
  · exact hr
  · rcases fl with x | _ | _ | _
    all_goals try exact hr.elim
    obtain ⟨rfl, rfl⟩ := hr
    have born : (s.heap.push (Bare w)).get? s.heap.objs.size = some (Bare w) := Heap.get?_push_size _ rfl
    have ty : Shared.TypeIs { s with heap := s.heap.push (Bare w) } (.ref s.heap.objs.size) "set" := ⟨_, born, rfl⟩
    have i1 := F.called_set.init.lookup; have i2 := F.called_set.init.bind (.ref s.heap.objs.size)
    repeat (any_goals (first | assumption | wp_step))
    refine codeAny_mono (codeAny_call_builtin (R := wants (fun x t => x = .none ∧ Made w s ns t) E) F.called_set.init.plain F.entry_set_init (check_set_init_1 ty ?_)) fun r2 t2 hr2 => ?_
    · obtain ⟨⟨ocls, odict, odata, oslots⟩, e1, e2, nl, e3⟩ := id hl
      simp only at e2 e3
      subst e2 e3
      have l1 : (s.heap.push (Bare w)).IsList l items := hl.push _
      have e4 : (s.heap.push (Bare w)).get? l = some { cls := .type "list", dict := odict, data := .seq items nl, slots := oslots } := Heap.get?_push_of_some _ e1
      have f1 := F.sub_list_set; have f2 := F.sub_list_frozenset; have f3 : (Value.type "list" == Value.type "dict") = false := by decide
      unfold Builtin.«set.__init__» noKeywords Builtin.Frozenset.updateFrom
      generalize eI : pyIter = it; wp_walk; subst eI
      refine wpAny_pyIter_list l1 (wpAny_bind (wpAny_runValue (fill_lst (by simp [hh]) hl hit hb fun t m => ?_)))
      exact wpAny_pure (wpAny_pure ⟨rfl, m⟩)
    · rcases r2 with e | fl
      · exact hr2
      · rcases fl with x | _ | _ | _
        all_goals try exact hr2.elim
        obtain ⟨rfl, m⟩ := hr2
        repeat (any_goals (first | assumption | wp_step))
        exact h _ m
/-- the members, each once -/
theorem SetR.keys {h : Heap} {a : Addr} {ns : List Int} {c : Nat} (R : SetR w h a (fun j => decide (j ∈ ns)) c) : ∃ ks : List Int, ks.Nodup ∧ (∀ k, k ∈ ks ↔ k ∈ ns) ∧ c = ks.length := by
  obtain ⟨o, es, ep, t, _, _, _, _, nd, hm, _, _, hn, _⟩ := R
  refine ⟨es.toList.map keyOf, nd, fun k => ?_, ?_⟩
  · rw [← hm k, decide_eq_true_eq]
  · rw [List.length_map, Array.length_toList, hn]
/-- set(xs) of a list or a tuple of ints, as a thing that stands -/
def rSetA (K : PySem.W.Frag) (w : World) : List V → Hp → VK → Prop := fun xs H Q => ∃ (q : Addr) (ns : List Int), xs = [.ref q] ∧ SqA K H q (ns.map V.int) ∧ ns.length ≤ 1000 ∧ ∀ (a : Addr) (ks : List Int), H a = none → ks.Nodup → (∀ k, k ∈ ks ↔ k ∈ ns) → Q (.ref a) (upd H a (SetO w a (fun j => decide (j ∈ ns)) ks.length))
theorem cr_setA {X : Cx} (hc : X.calm = true) : CallR X (.type "set") (rSetA X.K X.w) := by
  intro pins s σ H xs us Q I r h
  obtain ⟨q, ns, rfl, hq | hq, hl, k⟩ := h
  · rw [Vals.ref1 r]
    obtain ⟨its, rv, pl, hz⟩ := I.list hq
    refine call_set_lst (ns := ns) (I.ok.hd hc) pl.isList (ints_of_vals rv) (by unfold scanBound; omega) ?_
    rintro t ⟨h', tk, c, rfl, R1, hcn, kk⟩
    obtain ⟨ks, k1, k2, rfl⟩ := SetR.keys R1
    exact ⟨.ref _, upd H s.heap.objs.size (SetO X.w s.heap.objs.size _ ks.length), I.laid (t' := tk) kk (Nat.le_refl _) (setO_new R1), rfl, k _ _ (I.hok.fresh (Nat.le_refl _)) k1 k2⟩
  · rw [Vals.ref1 r]
    obtain ⟨its, rv, pt, hz⟩ := I.tuple hq
    refine call_set_tupI ns (I.ok.hd hc) (show s.heap.IsTuple q its.toArray from pt) (ints_of_vals rv) (by unfold scanBound; omega) fun h' tk c R1 hcn kk => ?_
    obtain ⟨ks, k1, k2, rfl⟩ := SetR.keys R1
    exact ⟨.ref _, upd H s.heap.objs.size (SetO X.w s.heap.objs.size _ ks.length), I.laid (t' := tk) kk (Nat.le_refl _) (setO_new R1), rfl, k _ _ (I.hok.fresh (Nat.le_refl _)) k1 k2⟩
theorem cr_setAw {X : Cx} (w : World) (hc : X.calm = true) (hw : X.w = w := by rfl) : CallR X (.type "set") (rSetA X.K w) := hw ▸ cr_setA hc
end
end Sh

namespace Sh
open PySem PySem.Spec PyProof.Rows L2
/-! ### the program: water -/
def spMarkOf : Sp := fun vs H Q _ => ∃ (h t s : Int) (n : Nat), vs = [.int h, .int t, .int (n : Int), .int s] ∧ Q (.int (mk h t n s)) H
def spTopOf : Sp := fun vs H Q _ => ∃ (h t : Int) (n : Nat), vs = [.int h, .int t, .int (n : Int)] ∧ Q (.int (topI h t n)) H
abbrev s_mark_of : Stmt := topS 5
theorem sc_mark_of : FnScope (["here", "there", "many", "step"] : List Str) (["here", "there", "many", "step"] : List Str) (defScope s_mark_of) := ⟨rfl, rfl, rfl, by decide +kernel, rfl, by decide +kernel, by decide +kernel⟩
theorem b_mark_of (kV doc pm : Value) (an : Option Addr) (cdv ct : Value) (us : List Value) (hl : us.length = (["here", "there", "many", "step"] : List Str).length) : bindArgs (PySem.W.fnOf "mark_of" "mark_of" (defArgs s_mark_of) (defBody s_mark_of) (defScope s_mark_of) .none kV doc pm an cdv ct) ⟨us, []⟩ = pure ((["here", "there", "many", "step"] : List Str).zip us) :=
  match us, hl with | [_, _, _, _], _ => rfl
abbrev s_top_of : Stmt := topS 6
theorem sc_top_of : FnScope (["here", "there", "many", "last", "meeting"] : List Str) (["here", "there", "many"] : List Str) (defScope s_top_of) := ⟨rfl, rfl, rfl, by decide +kernel, rfl, by decide +kernel, by decide +kernel⟩
theorem b_top_of (kV doc pm : Value) (an : Option Addr) (cdv ct : Value) (us : List Value) (hl : us.length = (["here", "there", "many"] : List Str).length) : bindArgs (PySem.W.fnOf "top_of" "top_of" (defArgs s_top_of) (defBody s_top_of) (defScope s_top_of) .none kV doc pm an cdv ct) ⟨us, []⟩ = pure ((["here", "there", "many"] : List Str).zip us) :=
  match us, hl with | [_, _, _], _ => rfl
section
variable {P : Program} {w : World} {K : PySem.W.Frag} {mg : Str → Option Value} {base : Heap}
theorem ok_mark_of {k : Nat} (D : Df K mg "mark_of" s_mark_of) (T : Bt mg) : Ok P w K mg base (k + 1) "mark_of" s_mark_of ["here", "there", "many", "step"] spMarkOf := by
  refine D.ok sc_mark_of b_mark_of (fun vs H Q E h => ?_) (fun f cdv A outer s H vs Q E hr h => ?_)
  · obtain ⟨h, t, s, n, rfl, _⟩ := h
    rfl
  · obtain ⟨h, t, s, n, rfl, k⟩ := h
    refine ⟨_, (pss_one (ps_ret (pe_callB (call_min2 rfl) (by rfl) T.min_ (by decide +kernel) (pa_cons (pe_op op_add (pv 0) (pv 3)) (pa_cons (pe_op op_sub (pe_op op_sub (pe_op op_add (pv 1) (pv 2)) pe_int) (pv 3)) pa_nil))))), ?_⟩
    refine ⟨_, rfl, _, rfl, h, s, rfl, rfl, _, rfl, _, rfl, t, _, rfl, rfl, _, 1, rfl, rfl, _, rfl, _, s, rfl, rfl, _, _, rfl, ?_⟩
    rw [← mk_alt] at k
    exact k
theorem ok_top_of {k : Nat} (D : Df K mg "top_of" s_top_of) (T : Bt mg) : Ok P w K mg base (k + 1) "top_of" s_top_of ["here", "there", "many"] spTopOf := by
  refine D.ok sc_top_of b_top_of (fun vs H Q E h => ?_) (fun f cdv A outer s H vs Q E hr h => ?_)
  · obtain ⟨h, t, n, rfl, _⟩ := h
    rfl
  · obtain ⟨h, t, n, rfl, k⟩ := h
    refine ⟨_, (pss_cons (ps_set (i := 3) sc_top_of.nd rfl (.inl rfl) (pe_op op_sub (pv 2) pe_int))
      (pss_cons (ps_set (i := 4) sc_top_of.nd rfl (.inl rfl) (pe_op op_fdiv (pe_op op_sub (pe_op op_add (pv 1) (pv 3)) (pv 0)) pe_int))
      (pss_one (ps_ret (pe_callB (call_max2 rfl) (by rfl) T.max_ (by decide +kernel) (pa_cons pe_int (pa_cons (pe_callB (call_min2 rfl) (by rfl) T.min_ (by decide +kernel) (pa_cons (pv 3) (pa_cons (pv 4) pa_nil))) pa_nil))))))), ?_⟩
    refine ⟨_, rfl, _, 1, rfl, rfl, ?_⟩
    refine ⟨_, rfl, _, rfl, t, _, rfl, rfl, _, rfl, _, h, rfl, rfl, _, 2, rfl, rfl, ⟨by decide, by decide⟩, ?_⟩
    refine ⟨_, rfl, _, rfl, _, _, rfl, 0, _, rfl, ?_⟩
    exact k
end
end Sh

namespace Sh
open PySem PySem.Spec PyProof.Rows L2
/-! ### the program: steps -/
abbrev s_mark_at : Stmt := topS 20
theorem sc_mark_at : FnScope (["sea", "step", "here", "there", "draughts"] : List Str) (["sea", "step"] : List Str) (defScope s_mark_at) := ⟨rfl, rfl, rfl, by decide +kernel, rfl, by decide +kernel, by decide +kernel⟩
theorem b_mark_at (kV doc pm : Value) (an : Option Addr) (cdv ct : Value) (us : List Value) (hl : us.length = (["sea", "step"] : List Str).length) : bindArgs (PySem.W.fnOf "mark_at" "mark_at" (defArgs s_mark_at) (defBody s_mark_at) (defScope s_mark_at) .none kV doc pm an cdv ct) ⟨us, []⟩ = pure ((["sea", "step"] : List Str).zip us) :=
  match us, hl with | [_, _], _ => rfl
abbrev s_goers_at : Stmt := topS 21
theorem sc_goers_at : FnScope (["sea", "step", "draughts", "mark", "ship", "draught"] : List Str) (["sea", "step"] : List Str) (defScope s_goers_at) := ⟨rfl, rfl, rfl, by decide +kernel, rfl, by decide +kernel, by decide +kernel⟩
theorem b_goers_at (kV doc pm : Value) (an : Option Addr) (cdv ct : Value) (us : List Value) (hl : us.length = (["sea", "step"] : List Str).length) : bindArgs (PySem.W.fnOf "goers_at" "goers_at" (defArgs s_goers_at) (defBody s_goers_at) (defScope s_goers_at) .none kV doc pm an cdv ct) ⟨us, []⟩ = pure ((["sea", "step"] : List Str).zip us) :=
  match us, hl with | [_, _], _ => rfl
abbrev s_top_step : Stmt := topS 22
theorem sc_top_step : FnScope (["sea", "here", "there", "draughts"] : List Str) (["sea"] : List Str) (defScope s_top_step) := ⟨rfl, rfl, rfl, by decide +kernel, rfl, by decide +kernel, by decide +kernel⟩
theorem b_top_step (kV doc pm : Value) (an : Option Addr) (cdv ct : Value) (us : List Value) (hl : us.length = (["sea"] : List Str).length) : bindArgs (PySem.W.fnOf "top_step" "top_step" (defArgs s_top_step) (defBody s_top_step) (defScope s_top_step) .none kV doc pm an cdv ct) ⟨us, []⟩ = pure ((["sea"] : List Str).zip us) :=
  match us, hl with | [_], _ => rfl
section
variable {P : Program} {w : World} {K : PySem.W.Frag} {mg : Str → Option Value} {base : Heap}
theorem ok_mark {k : Nat} (D : Df K mg "mark_at" s_mark_at) (T : Bt mg) (O_mark_of : Ok P w K mg base k "mark_of" s_mark_of ["here", "there", "many", "step"] spMarkOf) : Ok P w K mg base (k + 1) "mark_at" s_mark_at ["sea", "step"] (spMark K) := by
  refine D.ok sc_mark_at b_mark_at (fun vs H Q E h => ?_) (fun f cdv A outer s H vs Q E hr h => ?_)
  · obtain ⟨v, h, t, s, ds, rfl, _⟩ := h
    rfl
  · obtain ⟨v, h, t, s, ds, rfl, ⟨p, q, rfl, hp, hq⟩, k⟩ := h
    refine ⟨_, (pss_cons (ps_asg (pv 0) (pg_seq rfl (pgs_cons (pg_name (i := 2) sc_mark_at.nd rfl (.inl rfl)) (pgs_cons (pg_name (i := 3) sc_mark_at.nd rfl (.inl rfl)) (pgs_cons (pg_name (i := 4) sc_mark_at.nd rfl (.inl rfl)) pgs_nil)))))
      (pss_one (ps_ret (pe_fn O_mark_of (hr.mono (by omega)) (pa_cons (pv 2) (pa_cons (pv 3) (pa_cons (pe_callB call_len_seq (by rfl) T.len_ PySem.boot_len (pa_cons (pv 4) pa_nil)) (pa_cons (pv 1) pa_nil)))))))), ?_⟩
    refine ⟨_, rfl, p, _, rfl, hp, rfl, _, _, rfl, _, _, rfl, _, _, rfl, rfl, ?_⟩
    refine ⟨_, rfl, _, rfl, _, rfl, q, _, rfl, hq, _, rfl, h, t, s, ds.length, ?_, k⟩
    rw [List.length_map]
    rfl
theorem ok_goers {k : Nat} (D : Df K mg "goers_at" s_goers_at) (T : Bt mg) (O_mark_at : Ok P w K mg base k "mark_at" s_mark_at ["sea", "step"] (spMark K)) : Ok P w K mg base (k + 1) "goers_at" s_goers_at ["sea", "step"] (spGoers K) := by
  refine D.ok sc_goers_at b_goers_at (fun vs H Q E h => ?_) (fun f cdv A outer s H vs Q E hr h => ?_)
  · obtain ⟨v, h, t, s, ds, rfl, _⟩ := h
    rfl
  · obtain ⟨v, h, t, s, ds, rfl, hv, hl, k⟩ := h
    obtain ⟨p, q, rfl, hp, hq⟩ := id hv
    refine ⟨_, (pss_cons (ps_set (i := 2) sc_goers_at.nd rfl (.inl rfl) (pe_ix ix_lt (pv 0) pe_int (fun _ _ => rfl)))
      (pss_cons (ps_set (i := 3) sc_goers_at.nd rfl (.inr rfl) (pe_fn O_mark_at (hr.mono (by omega)) (pa_cons (pv 0) (pa_cons (pv 1) pa_nil))))
      (pss_one (ps_ret (pe_lc (own := [("ship", 4), ("draught", 5)]) (g := (gSeq K 2 (gCons (gName 4) (gCons (gName 5) gNil)))) (by rfl) sc_goers_at.nd (pi_enumA (by rfl) T.enumerate_ (pa_cons (pv 2) pa_nil)) (blkOk_by (own := [("ship", 4), ("draught", 5)]) (N := (["sea", "step", "draughts", "mark", "ship", "draught"] : List Str)) (sc := defScope s_goers_at) (by decide +kernel)) (fun _ _ _ _ _ => (pg_seq rfl (pgs_cons (pg_name (i := 4) sc_goers_at.nd rfl (.inl rfl)) (pgs_cons (pg_name (i := 5) sc_goers_at.nd rfl (.inl rfl)) pgs_nil)))) (fun _ _ _ _ _ => (pts_one (pt_cmpR op_le (pv 5) (pv 3) (nomark _)))) (fun _ _ _ _ _ => (pv 4))))))), ?_⟩
    refine ⟨_, rfl, p, _, 2, .ref q, rfl, rfl, hp, rfl, ?_⟩
    refine ⟨_, rfl, _, rfl, .ref p, h, t, s, ds, rfl, hv, ?_⟩
    generalize mk h t ds.length s = m at k
    refine ⟨_, rfl, q, _, H, rfl, hq, Kp.refl _ _, fun J hJ C nC => ?_⟩
    obtain ⟨G, g, W⟩ := hJ.walk
    refine lc_it W (fun i H' => Same H H' ∧ H' C = some (.lst (((gs m ds i).map fun (i : Nat) => (i : Int)).map V.int))) ⟨same_new nC, upd_same⟩ (fun i H' _ z => g H' (.ofS z.1)) ?_ ?_
    · rintro i x H1 H2 hi ⟨sm, hC⟩ ⟨u, x1, x2, rfl, nu, rfl, g1, g2⟩
      rw [List.length_map] at hi
      obtain rfl : .int (i : Nat) = x1 := Option.some.inj g1
      obtain rfl : .int ds[i] = x2 := by
        have g3 : (ds.map V.int)[i]? = some (.int ds[i]) := by simp [hi]
        exact Option.some.inj (g3.symm.trans g2)
      have ed : ds.getD i 0 = ds[i] := by simp [hi]
      have nuC : C ≠ u := ne_of_none hC nu
      have hC' : upd H1 u (.tup [.int (i : Nat), .int ds[i]]) C = some (.lst (((gs m ds i).map fun (i : Nat) => (i : Int)).map V.int)) := by rw [upd_ne nuC]; exact hC
      refine ⟨u, _, rfl, SqA.t upd_same, rfl, _, _, rfl, _, _, rfl, rfl, rfl, ?_⟩
      refine ⟨_, rfl, _, rfl, ds[i], m, rfl, rfl, _, rfl, ite2 (fun c => ?_) (fun c => ?_)⟩
      · have c0 : ds[i] ≤ m := of_decide_eq_true c
        refine ⟨_, rfl, _, hC', ?_, fun a o e => ?_, ?_⟩
        · rw [List.length_map, List.length_map]
          exact Nat.lt_of_le_of_lt gs_len (small1000 (by omega))
        · rw [upd_ne (ne_of_none e nC)]
          exact same_new nu _ _ (sm _ _ e)
        · rw [upd_same, gs_succ, ed, if_pos c0, List.map_append, List.map_append]
          rfl
      · have c0 : ¬ ds[i] ≤ m := fun z => c (decide_eq_true z)
        refine ⟨fun a o e => same_new nu _ _ (sm _ _ e), ?_⟩
        rw [hC', gs_succ, ed, if_neg c0, List.append_nil]
    · rintro H1 ⟨sm, hC⟩
      rw [List.length_map] at hC
      exact k H1 C sm nC hC
theorem ok_top {k : Nat} (D : Df K mg "top_step" s_top_step) (T : Bt mg) (O_top_of : Ok P w K mg base k "top_of" s_top_of ["here", "there", "many"] spTopOf) : Ok P w K mg base (k + 1) "top_step" s_top_step ["sea"] (spTop K) := by
  refine D.ok sc_top_step b_top_step (fun vs H Q E h => ?_) (fun f cdv A outer s H vs Q E hr h => ?_)
  · obtain ⟨v, h, t, ds, rfl, _⟩ := h
    rfl
  · obtain ⟨v, h, t, ds, rfl, ⟨p, q, rfl, hp, hq⟩, k⟩ := h
    refine ⟨_, (pss_cons (ps_asg (pv 0) (pg_seq rfl (pgs_cons (pg_name (i := 1) sc_top_step.nd rfl (.inl rfl)) (pgs_cons (pg_name (i := 2) sc_top_step.nd rfl (.inl rfl)) (pgs_cons (pg_name (i := 3) sc_top_step.nd rfl (.inl rfl)) pgs_nil)))))
      (pss_one (ps_ret (pe_fn O_top_of (hr.mono (by omega)) (pa_cons (pv 1) (pa_cons (pv 2) (pa_cons (pe_callB call_len_seq (by rfl) T.len_ PySem.boot_len (pa_cons (pv 3) pa_nil)) pa_nil))))))), ?_⟩
    refine ⟨_, rfl, p, _, rfl, hp, rfl, _, _, rfl, _, _, rfl, _, _, rfl, rfl, ?_⟩
    refine ⟨_, rfl, _, rfl, _, rfl, q, _, rfl, hq, h, t, ds.length, ?_, k⟩
    rw [List.length_map]
    rfl
end
end Sh

namespace Sh
open PySem PySem.Spec PyProof.Rows L2
/-! ### fleets as they are handed in -/
def SrtV (x : Srt) : List V := [.int x.1, .int (x.2.1 : Int), .int (x.2.2 : Int)]
def SrtsA (K : PySem.W.Frag) (H : Hp) (rs : List Addr) (ss : List Srt) : Prop := rs.length = ss.length ∧ ∀ (i : Nat) (r : Addr) (x : Srt), rs[i]? = some r → ss[i]? = some x → SqA K H r (SrtV x)
theorem SrtsA.same {K : PySem.W.Frag} {H H' : Hp} {rs : List Addr} {ss : List Srt} (w : SrtsA K H rs ss) (e : Same H H') : SrtsA K H' rs ss := ⟨w.1, fun i r x a b => Same.sqA e (w.2 i r x a b)⟩
theorem srt_at {K : PySem.W.Frag} {H : Hp} {rs : List Addr} {ss : List Srt} {i : Nat} {v : V} (w : SrtsA K H rs ss) (g : (rs.map V.ref)[i]? = some v) : ∃ (r : Addr) (hi : i < ss.length), v = .ref r ∧ SqA K H r (SrtV ss[i]) := by
  rw [List.getElem?_map] at g
  cases e : rs[i]? with
  | none => rw [e] at g; cases g
  | some r =>
    rw [e] at g
    have hi : i < rs.length := (List.getElem?_eq_some_iff.mp e).1
    have hi2 : i < ss.length := w.1 ▸ hi
    exact ⟨r, hi2, (Option.some.inj g).symm, w.2 i r _ e (List.getElem?_eq_getElem hi2)⟩
/-- a fleet (lists or tuples) is handed in -/
def FltA (K : PySem.W.Frag) (H : Hp) (v : V) (h t : Int) (ss : List Srt) : Prop := ∃ (p q : Addr) (rs : List Addr), v = .ref p ∧ SqA K H p [.int h, .int t, .ref q] ∧ SqA K H q (rs.map V.ref) ∧ SrtsA K H rs ss
theorem FltA.same {K : PySem.W.Frag} {H H' : Hp} {v : V} {h t : Int} {ss : List Srt} (s : FltA K H v h t ss) (e : Same H H') : FltA K H' v h t ss := let ⟨p, q, rs, a, b, c, d⟩ := s; ⟨p, q, rs, a, Same.sqA e b, Same.sqA e c, d.same e⟩
/-- new sorts, as tuples -/
def SrtsN (H : Hp) (rs : List Addr) (ss : List Srt) : Prop := rs.length = ss.length ∧ ∀ (i : Nat) (r : Addr) (x : Srt), rs[i]? = some r → ss[i]? = some x → H r = some (.tup (SrtV x))
theorem SrtsN.a {K : PySem.W.Frag} {H : Hp} {rs : List Addr} {ss : List Srt} (w : SrtsN H rs ss) : SrtsA K H rs ss := ⟨w.1, fun i r x a b => SqA.t (w.2 i r x a b)⟩
theorem SrtsN.same {H H' : Hp} {rs : List Addr} {ss : List Srt} (w : SrtsN H rs ss) (e : Same H H') : SrtsN H' rs ss := ⟨w.1, fun i r x a b => e _ _ (w.2 i r x a b)⟩
theorem SrtsN.put {H : Hp} {rs : List Addr} {ss : List Srt} {C : Addr} {xs ys : List V} (w : SrtsN H rs ss) (h : H C = some (.lst xs)) : SrtsN (upd H C (.lst ys)) rs ss := ⟨w.1, fun i r x a b => by
  have q := w.2 i r x a b
  rw [upd_ne (ne_of q h (by intro z; cases z))]
  exact q⟩
theorem SrtsN.push {H : Hp} {rs : List Addr} {ss : List Srt} {u : Addr} {x : Srt} (w : SrtsN H rs ss) (n : H u = none) : SrtsN (upd H u (.tup (SrtV x))) (rs ++ [u]) (ss ++ [x]) := by
  refine ⟨by rw [List.length_append, List.length_append, w.1]; rfl, fun i r y a b => ?_⟩
  by_cases z : i < rs.length
  · rw [List.getElem?_append_left z] at a
    rw [List.getElem?_append_left (by rw [← w.1]; exact z)] at b
    exact same_new n _ _ (w.2 i r y a b)
  · have e : i = rs.length := by
      have := (List.getElem?_eq_some_iff.mp a).1
      rw [List.length_append] at this
      simp at this
      omega
    subst e
    rw [List.getElem?_append_right (Nat.le_refl _), Nat.sub_self] at a
    rw [List.getElem?_append_right (by rw [w.1]; exact Nat.le_refl _), w.1, Nat.sub_self] at b
    obtain rfl : u = r := Option.some.inj a
    obtain rfl : x = y := Option.some.inj b
    exact upd_same
theorem SrtsN.push' {H : Hp} {rs : List Addr} {ss : List Srt} {u : Addr} {x : Srt} {o : HO} (w : SrtsN H rs ss) (n : H u = none) (e : o = .tup (SrtV x)) : SrtsN (upd H u o) (rs ++ [u]) (ss ++ [x]) := by
  subst e
  exact w.push n
end Sh

namespace Sh
open PySem PySem.Spec PyProof.Rows L2
/-! ### the program: lots, of fleets as they are handed in -/
theorem isum (f : Srt → Nat) : ∀ l : List Srt, (l.map fun x => (f x : Int)).sum = ((l.map f).sum : Int)
  | [] => rfl
  | a :: l => by
    rw [List.map_cons, List.sum_cons, isum f l, List.map_cons, List.sum_cons]
    rfl
theorem tm {β : Type} (f : Srt → β) {ss : List Srt} {i : Nat} (hi : i < ss.length) : (ss.take (i + 1)).map f = (ss.take i).map f ++ [f ss[i]] := by rw [take_succ_get hi, List.map_append]; rfl
theorem tfm {β : Type} (p : Srt → Bool) (f : Srt → β) {ss : List Srt} {i : Nat} (hi : i < ss.length) : ((ss.take (i + 1)).filter p).map f = ((ss.take i).filter p).map f ++ (if p ss[i] = true then [f ss[i]] else []) := by
  rw [take_succ_get hi, List.filter_append, List.map_append]
  congr 1
  by_cases c : p ss[i] = true
  · rw [if_pos c, List.filter_cons_of_pos c]; rfl
  · rw [if_neg c, List.filter_cons_of_neg c]; rfl
theorem take_le {ss : List Srt} {i : Nat} (hi : i < ss.length) : (ss.take i).length < ss.length := by rw [List.length_take]; omega
theorem tf_le {p : Srt → Bool} {ss : List Srt} {i : Nat} (hi : i < ss.length) : ((ss.take i).filter p).length < ss.length := Nat.lt_of_le_of_lt (List.length_filter_le _ _) (take_le hi)
def spShips (K : PySem.W.Frag) : Sp := fun vs H Q _ => ∃ (v : V) (h t : Int) (ss : List Srt), vs = [v] ∧ FltA K H v h t ss ∧ ss.length ≤ 1000 ∧ ∀ H', Same H H' → Q (.int (mny ss : Int)) H'
def spMarkIn (K : PySem.W.Frag) : Sp := fun vs H Q _ => ∃ (v : V) (h t s : Int) (ss : List Srt), vs = [v, .int s] ∧ FltA K H v h t ss ∧ ss.length ≤ 1000 ∧ ∀ H', Same H H' → Q (.int (mk h t (mny ss) s)) H'
def spGoersMany (K : PySem.W.Frag) : Sp := fun vs H Q _ => ∃ (v : V) (h t s : Int) (ss : List Srt), vs = [v, .int s] ∧ FltA K H v h t ss ∧ ss.length ≤ 1000 ∧ ∀ H', Same H H' → Q (.int (gmF ss (mk h t (mny ss) s) : Int)) H'
def spTopIn (K : PySem.W.Frag) : Sp := fun vs H Q _ => ∃ (v : V) (h t : Int) (ss : List Srt), vs = [v] ∧ FltA K H v h t ss ∧ ss.length ≤ 1000 ∧ ∀ H', Same H H' → Q (.int (topI h t (mny ss))) H'
def spFilled (K : PySem.W.Frag) : Sp := fun vs H Q _ => ∃ (v : V) (h t s : Int) (ss : List Srt), vs = [v, .int s] ∧ FltA K H v h t ss ∧ ss.length ≤ 1000 ∧ ∀ H', Same H H' → Q (.int (filF ss (mk h t (mny ss) s) : Int)) H'
/-- marks rise up to top -/
def Rise (h t : Int) (n : Nat) (top : Int) : Prop := ∀ s s' : Int, 0 ≤ s → s ≤ s' → s' ≤ top → mk h t n s ≤ mk h t n s'
def spLowStop (K : PySem.W.Frag) : Sp := fun vs H Q _ => ∃ (v : V) (h t top : Int) (ss : List Srt), vs = [v, .int top] ∧ FltA K H v h t ss ∧ ss.length ≤ 1000 ∧ Rise h t (mny ss) top ∧
  (∀ (H' : Hp) (N : Nat), Same H H' → (N : Int) ≤ top → StuckF h t ss N → Q (.int (N : Int)) H') ∧ (∀ H', Same H H' → (∀ N : Nat, (N : Int) ≤ top → ¬ StuckF h t ss N) → Q .non H')
def spTurnedF (K : PySem.W.Frag) : Sp := fun vs H Q _ => ∃ (v : V) (h t : Int) (ss : List Srt), vs = [v] ∧ FltA K H v h t ss ∧ ss.length ≤ 1000 ∧ ∀ (H' : Hp) (z : V), Same H H' → FltA K H' z t h (turnF ss) → Q z H'
theorem fil_mono {ss : List Srt} {m m' : Int} (e : m ≤ m') : filF ss m ≤ filF ss m' := by
  unfold filF
  induction ss with
  | nil => exact Nat.le_refl _
  | cons a l ih =>
    simp only [List.map_cons, List.sum_cons]
    have : (if a.1 ≤ m then a.2.2 else 0) ≤ (if a.1 ≤ m' then a.2.2 else 0) := by
      by_cases z : a.1 ≤ m
      · rw [if_pos z, if_pos (by omega)]
        exact Nat.le_refl _
      · rw [if_neg z]
        exact Nat.zero_le _
    omega
theorem fil_ge {ss : List Srt} {m : Int} : ourn ss ≤ filF ss m := by
  unfold filF ourn
  induction ss with
  | nil => exact Nat.le_refl _
  | cons a l ih =>
    simp only [List.map_cons, List.sum_cons]
    omega
theorem fil_le {ss : List Srt} {m : Int} : filF ss m ≤ mny ss := by
  unfold filF mny
  induction ss with
  | nil => exact Nat.le_refl _
  | cons a l ih =>
    simp only [List.map_cons, List.sum_cons]
    have : (if a.1 ≤ m then a.2.2 else 0) ≤ a.2.2 := by split <;> omega
    omega
abbrev s_ships_many : Stmt := topS 13
theorem sc_ships_many : FnScope (["fleet", "draught", "ours", "theirs"] : List Str) (["fleet"] : List Str) (defScope s_ships_many) := ⟨rfl, rfl, rfl, by decide +kernel, rfl, by decide +kernel, by decide +kernel⟩
theorem b_ships_many (kV doc pm : Value) (an : Option Addr) (cdv ct : Value) (us : List Value) (hl : us.length = (["fleet"] : List Str).length) : bindArgs (PySem.W.fnOf "ships_many" "ships_many" (defArgs s_ships_many) (defBody s_ships_many) (defScope s_ships_many) .none kV doc pm an cdv ct) ⟨us, []⟩ = pure ((["fleet"] : List Str).zip us) :=
  match us, hl with | [_], _ => rfl
abbrev s_mark_in : Stmt := topS 14
theorem sc_mark_in : FnScope (["fleet", "step", "here", "there", "sorts"] : List Str) (["fleet", "step"] : List Str) (defScope s_mark_in) := ⟨rfl, rfl, rfl, by decide +kernel, rfl, by decide +kernel, by decide +kernel⟩
theorem b_mark_in (kV doc pm : Value) (an : Option Addr) (cdv ct : Value) (us : List Value) (hl : us.length = (["fleet", "step"] : List Str).length) : bindArgs (PySem.W.fnOf "mark_in" "mark_in" (defArgs s_mark_in) (defBody s_mark_in) (defScope s_mark_in) .none kV doc pm an cdv ct) ⟨us, []⟩ = pure ((["fleet", "step"] : List Str).zip us) :=
  match us, hl with | [_, _], _ => rfl
abbrev s_top_in : Stmt := topS 15
theorem sc_top_in : FnScope (["fleet", "here", "there", "sorts"] : List Str) (["fleet"] : List Str) (defScope s_top_in) := ⟨rfl, rfl, rfl, by decide +kernel, rfl, by decide +kernel, by decide +kernel⟩
theorem b_top_in (kV doc pm : Value) (an : Option Addr) (cdv ct : Value) (us : List Value) (hl : us.length = (["fleet"] : List Str).length) : bindArgs (PySem.W.fnOf "top_in" "top_in" (defArgs s_top_in) (defBody s_top_in) (defScope s_top_in) .none kV doc pm an cdv ct) ⟨us, []⟩ = pure ((["fleet"] : List Str).zip us) :=
  match us, hl with | [_], _ => rfl
abbrev s_filled_at : Stmt := topS 16
theorem sc_filled_at : FnScope (["fleet", "step", "mark", "draught", "ours", "theirs"] : List Str) (["fleet", "step"] : List Str) (defScope s_filled_at) := ⟨rfl, rfl, rfl, by decide +kernel, rfl, by decide +kernel, by decide +kernel⟩
theorem b_filled_at (kV doc pm : Value) (an : Option Addr) (cdv ct : Value) (us : List Value) (hl : us.length = (["fleet", "step"] : List Str).length) : bindArgs (PySem.W.fnOf "filled_at" "filled_at" (defArgs s_filled_at) (defBody s_filled_at) (defScope s_filled_at) .none kV doc pm an cdv ct) ⟨us, []⟩ = pure ((["fleet", "step"] : List Str).zip us) :=
  match us, hl with | [_, _], _ => rfl
abbrev s_low_stop : Stmt := topS 17
theorem sc_low_stop : FnScope (["fleet", "top", "step", "filled", "draught", "ours", "theirs"] : List Str) (["fleet", "top"] : List Str) (defScope s_low_stop) := ⟨rfl, rfl, rfl, by decide +kernel, rfl, by decide +kernel, by decide +kernel⟩
theorem b_low_stop (kV doc pm : Value) (an : Option Addr) (cdv ct : Value) (us : List Value) (hl : us.length = (["fleet", "top"] : List Str).length) : bindArgs (PySem.W.fnOf "low_stop" "low_stop" (defArgs s_low_stop) (defBody s_low_stop) (defScope s_low_stop) .none kV doc pm an cdv ct) ⟨us, []⟩ = pure ((["fleet", "top"] : List Str).zip us) :=
  match us, hl with | [_, _], _ => rfl
abbrev s_turned_fleet : Stmt := topS 12
theorem sc_turned_fleet : FnScope (["fleet", "here", "there", "sorts", "draught", "ours", "theirs"] : List Str) (["fleet"] : List Str) (defScope s_turned_fleet) := ⟨rfl, rfl, rfl, by decide +kernel, rfl, by decide +kernel, by decide +kernel⟩
theorem b_turned_fleet (kV doc pm : Value) (an : Option Addr) (cdv ct : Value) (us : List Value) (hl : us.length = (["fleet"] : List Str).length) : bindArgs (PySem.W.fnOf "turned_fleet" "turned_fleet" (defArgs s_turned_fleet) (defBody s_turned_fleet) (defScope s_turned_fleet) .none kV doc pm an cdv ct) ⟨us, []⟩ = pure ((["fleet"] : List Str).zip us) :=
  match us, hl with | [_], _ => rfl
section
variable {P : Program} {w : World} {K : PySem.W.Frag} {mg : Str → Option Value} {base : Heap}
theorem ok_ships {k : Nat} (D : Df K mg "ships_many" s_ships_many) (T : Bt mg) : Ok P w K mg base (k + 1) "ships_many" s_ships_many ["fleet"] (spShips K) := by
  refine D.ok sc_ships_many b_ships_many (fun vs H Q E h => ?_) (fun f cdv A outer s H vs Q E hr h => ?_)
  · obtain ⟨v, h, t, ss, rfl, _⟩ := h
    rfl
  · obtain ⟨v, h, t, ss, rfl, ⟨p, q, rs, rfl, hp, hq, hs⟩, l1, k⟩ := h
    refine ⟨_, (pss_one (ps_ret (pe_callB (cr_sum rfl) (by rfl) T.sum_ (by decide +kernel) (pa_cons (pe_lc (own := [("draught", 1), ("ours", 2), ("theirs", 3)]) (g := (gSeq K 3 (gCons (gName 1) (gCons (gName 2) (gCons (gName 3) gNil))))) (tt := tYes) (by rfl) sc_ships_many.nd (pi_seq (pe_ix ix_lt (pv 0) pe_int (fun _ _ => rfl))) (blkOk_by (own := [("draught", 1), ("ours", 2), ("theirs", 3)]) (N := (["fleet", "draught", "ours", "theirs"] : List Str)) (sc := defScope s_ships_many) (by decide +kernel)) (fun _ _ _ _ _ => (pg_seq rfl (pgs_cons (pg_name (i := 1) sc_ships_many.nd rfl (.inl rfl)) (pgs_cons (pg_name (i := 2) sc_ships_many.nd rfl (.inl rfl)) (pgs_cons (pg_name (i := 3) sc_ships_many.nd rfl (.inl rfl)) pgs_nil))))) (fun _ _ _ _ _ => pts_nil) (fun _ _ _ _ _ => (pe_op op_add (pv 2) (pv 3)))) pa_nil)))), ?_⟩
    refine ⟨_, rfl, p, _, 2, .ref q, rfl, rfl, hp, rfl, q, _, H, rfl, hq, Kp.refl _ _, fun J hJ C nC => ?_⟩
    obtain ⟨G, g, W⟩ := hJ.walk
    refine lc_it W (fun i H' => Same H H' ∧ H' C = some (.lst (((ss.take i).map fun x => ((x.2.1 + x.2.2 : Nat) : Int)).map V.int))) ⟨same_new nC, upd_same⟩ (fun i H' _ z => g H' (.ofS z.1)) ?_ ?_
    · rintro i x H1 H2 _ ⟨sm, hC⟩ ⟨rfl, gx⟩
      obtain ⟨r, hi, rfl, hr1⟩ := srt_at (hs.same sm) gx
      refine ⟨r, _, rfl, hr1, rfl, _, _, rfl, _, _, rfl, _, _, rfl, rfl, rfl, tyes (iteT ⟨_, rfl, _, rfl, _, _, rfl, rfl, _, hC, ?_, same_over sm nC, ?_⟩)⟩
      · rw [List.length_map, List.length_map]
        exact Nat.lt_of_lt_of_le (take_le hi) (Nat.le_trans l1 (by decide))
      · rw [upd_same, tm _ hi, List.map_append]
        rfl
    · rintro H1 ⟨sm, hC⟩
      rw [List.length_map, hs.1, List.take_length] at hC
      refine ⟨C, _, rfl, SqL.of hC, ?_⟩
      rw [isum]
      exact k H1 sm
theorem ok_mark_in {k : Nat} (D : Df K mg "mark_in" s_mark_in) (T : Bt mg) (O_mark_of : Ok P w K mg base k "mark_of" s_mark_of ["here", "there", "many", "step"] spMarkOf) (O_ships_many : Ok P w K mg base k "ships_many" s_ships_many ["fleet"] (spShips K)) :
    Ok P w K mg base (k + 1) "mark_in" s_mark_in ["fleet", "step"] (spMarkIn K) := by
  refine D.ok sc_mark_in b_mark_in (fun vs H Q E h => ?_) (fun f cdv A outer s H vs Q E hr h => ?_)
  · obtain ⟨v, h, t, s, ss, rfl, _⟩ := h
    rfl
  · obtain ⟨v, h, t, s, ss, rfl, hv, l1, k⟩ := h
    obtain ⟨p, q, rs, rfl, hp, hq, hs⟩ := id hv
    refine ⟨_, (pss_cons (ps_asg (pv 0) (pg_seq rfl (pgs_cons (pg_name (i := 2) sc_mark_in.nd rfl (.inl rfl)) (pgs_cons (pg_name (i := 3) sc_mark_in.nd rfl (.inl rfl)) (pgs_cons (pg_name (i := 4) sc_mark_in.nd rfl (.inl rfl)) pgs_nil)))))
      (pss_one (ps_ret (pe_fn O_mark_of (hr.mono (by omega)) (pa_cons (pv 2) (pa_cons (pv 3) (pa_cons (pe_fn O_ships_many (hr.mono (by omega)) (pa_cons (pv 0) pa_nil)) (pa_cons (pv 1) pa_nil)))))))), ?_⟩
    refine ⟨_, rfl, p, _, rfl, hp, rfl, _, _, rfl, _, _, rfl, _, _, rfl, rfl, ?_⟩
    exact ⟨_, rfl, _, rfl, _, rfl, .ref p, h, t, ss, rfl, hv, l1, fun H' s1 => ⟨_, rfl, h, t, s, mny ss, rfl, k H' s1⟩⟩
theorem ok_top_in {k : Nat} (D : Df K mg "top_in" s_top_in) (T : Bt mg) (O_top_of : Ok P w K mg base k "top_of" s_top_of ["here", "there", "many"] spTopOf) (O_ships_many : Ok P w K mg base k "ships_many" s_ships_many ["fleet"] (spShips K)) :
    Ok P w K mg base (k + 1) "top_in" s_top_in ["fleet"] (spTopIn K) := by
  refine D.ok sc_top_in b_top_in (fun vs H Q E h => ?_) (fun f cdv A outer s H vs Q E hr h => ?_)
  · obtain ⟨v, h, t, ss, rfl, _⟩ := h
    rfl
  · obtain ⟨v, h, t, ss, rfl, hv, l1, k⟩ := h
    obtain ⟨p, q, rs, rfl, hp, hq, hs⟩ := id hv
    refine ⟨_, (pss_cons (ps_asg (pv 0) (pg_seq rfl (pgs_cons (pg_name (i := 1) sc_top_in.nd rfl (.inl rfl)) (pgs_cons (pg_name (i := 2) sc_top_in.nd rfl (.inl rfl)) (pgs_cons (pg_name (i := 3) sc_top_in.nd rfl (.inl rfl)) pgs_nil)))))
      (pss_one (ps_ret (pe_fn O_top_of (hr.mono (by omega)) (pa_cons (pv 1) (pa_cons (pv 2) (pa_cons (pe_fn O_ships_many (hr.mono (by omega)) (pa_cons (pv 0) pa_nil)) pa_nil))))))), ?_⟩
    refine ⟨_, rfl, p, _, rfl, hp, rfl, _, _, rfl, _, _, rfl, _, _, rfl, rfl, ?_⟩
    exact ⟨_, rfl, _, rfl, _, rfl, .ref p, h, t, ss, rfl, hv, l1, fun H' s1 => ⟨h, t, mny ss, rfl, k H' s1⟩⟩
theorem ok_filled {k : Nat} (D : Df K mg "filled_at" s_filled_at) (T : Bt mg) (O_mark_in : Ok P w K mg base k "mark_in" s_mark_in ["fleet", "step"] (spMarkIn K)) :
    Ok P w K mg base (k + 1) "filled_at" s_filled_at ["fleet", "step"] (spFilled K) := by
  refine D.ok sc_filled_at b_filled_at (fun vs H Q E h => ?_) (fun f cdv A outer s H vs Q E hr h => ?_)
  · obtain ⟨v, h, t, s, ss, rfl, _⟩ := h
    rfl
  · obtain ⟨v, h, t, s, ss, rfl, hv, l1, k⟩ := h
    refine ⟨_, (pss_cons (ps_set (i := 2) sc_filled_at.nd rfl (.inr rfl) (pe_fn O_mark_in (hr.mono (by omega)) (pa_cons (pv 0) (pa_cons (pv 1) pa_nil))))
      (pss_one (ps_ret (pe_callB (cr_sum rfl) (by rfl) T.sum_ (by decide +kernel) (pa_cons (pe_lc (own := [("draught", 3), ("ours", 4), ("theirs", 5)]) (g := (gSeq K 3 (gCons (gName 3) (gCons (gName 4) (gCons (gName 5) gNil))))) (tt := tYes) (by rfl) sc_filled_at.nd (pi_seq (pe_ix ix_lt (pv 0) pe_int (fun _ _ => rfl))) (blkOk_by (own := [("draught", 3), ("ours", 4), ("theirs", 5)]) (N := (["fleet", "step", "mark", "draught", "ours", "theirs"] : List Str)) (sc := defScope s_filled_at) (by decide +kernel)) (fun _ _ _ _ _ => (pg_seq rfl (pgs_cons (pg_name (i := 3) sc_filled_at.nd rfl (.inl rfl)) (pgs_cons (pg_name (i := 4) sc_filled_at.nd rfl (.inl rfl)) (pgs_cons (pg_name (i := 5) sc_filled_at.nd rfl (.inl rfl)) pgs_nil))))) (fun _ _ _ _ _ => pts_nil) (fun _ _ _ _ _ => (pe_op op_add (pv 4) (pe_ifExp (pt_cmpR op_le (pv 3) (pv 2) (nomark _)) (pv 5) pe_int)))) pa_nil))))), ?_⟩
    refine ⟨_, rfl, _, rfl, v, h, t, s, ss, rfl, hv, l1, fun H0 s0 => ?_⟩
    obtain ⟨p, q, rs, rfl, hp, hq, hs⟩ := hv.same s0
    generalize mk h t (mny ss) s = m at k
    refine ⟨_, rfl, p, _, 2, .ref q, rfl, rfl, hp, rfl, q, _, H0, rfl, hq, Kp.refl _ _, fun J hJ C nC => ?_⟩
    obtain ⟨G, g, W⟩ := hJ.walk
    refine lc_it W (fun i H' => Same H0 H' ∧ H' C = some (.lst (((ss.take i).map fun x => ((x.2.1 + if x.1 ≤ m then x.2.2 else 0 : Nat) : Int)).map V.int))) ⟨same_new nC, upd_same⟩ (fun i H' _ z => g H' (.ofS z.1)) ?_ ?_
    · rintro i x H1 H2 _ ⟨sm, hC⟩ ⟨rfl, gx⟩
      obtain ⟨r, hi, rfl, hr1⟩ := srt_at (hs.same sm) gx
      have len : (((ss.take i).map fun x => ((x.2.1 + if x.1 ≤ m then x.2.2 else 0 : Nat) : Int)).map V.int).length < sizeLine := by
        rw [List.length_map, List.length_map]
        exact Nat.lt_of_lt_of_le (take_le hi) (Nat.le_trans l1 (by decide))
      refine ⟨r, _, rfl, hr1, rfl, _, _, rfl, _, _, rfl, _, _, rfl, rfl, rfl, tyes (iteT ⟨_, rfl, _, rfl, _, rfl, _, _, rfl, rfl, _, rfl, ite2 (fun c => ⟨_, rfl, _, _, rfl, rfl, _, hC, len, same_over sm nC, ?_⟩) (fun c => ⟨_, _, rfl, rfl, _, hC, len, same_over sm nC, ?_⟩)⟩)⟩
      · have c0 : ss[i].1 ≤ m := of_decide_eq_true c
        rw [upd_same, tm _ hi, List.map_append, if_pos c0]
        rfl
      · have c0 : ¬ ss[i].1 ≤ m := fun z => c (decide_eq_true z)
        rw [upd_same, tm _ hi, List.map_append, if_neg c0]
        rfl
    · rintro H1 ⟨sm, hC⟩
      rw [List.length_map, hs.1, List.take_length] at hC
      refine ⟨C, _, rfl, SqL.of hC, ?_⟩
      rw [isum]
      exact k H1 (s0.trans sm)
theorem ok_low_stop {k : Nat} (D : Df K mg "low_stop" s_low_stop) (T : Bt mg) (O_filled_at : Ok P w K mg base k "filled_at" s_filled_at ["fleet", "step"] (spFilled K)) :
    Ok P w K mg base (k + 1) "low_stop" s_low_stop ["fleet", "top"] (spLowStop K) := by
  refine D.ok sc_low_stop b_low_stop (fun vs H Q E h => ?_) (fun f cdv A outer s H vs Q E hr h => ?_)
  · obtain ⟨v, h, t, top, ss, rfl, _⟩ := h
    rfl
  · obtain ⟨v, h, t, top, ss, rfl, hv, l1, ris, k1, k2⟩ := h
    refine ⟨_, (pss_cons (ps_set (i := 2) sc_low_stop.nd rfl (.inl rfl) (pe_callB (cr_sum rfl) (by rfl) T.sum_ (by decide +kernel) (pa_cons (pe_lc (own := [("draught", 4), ("ours", 5), ("theirs", 6)]) (g := (gSeq K 3 (gCons (gName 4) (gCons (gName 5) (gCons (gName 6) gNil))))) (tt := tYes) (by rfl) sc_low_stop.nd (pi_seq (pe_ix ix_lt (pv 0) pe_int (fun _ _ => rfl))) (blkOk_by (own := [("draught", 4), ("ours", 5), ("theirs", 6)]) (N := (["fleet", "top", "step", "filled", "draught", "ours", "theirs"] : List Str)) (sc := defScope s_low_stop) (by decide +kernel)) (fun _ _ _ _ _ => (pg_seq rfl (pgs_cons (pg_name (i := 4) sc_low_stop.nd rfl (.inl rfl)) (pgs_cons (pg_name (i := 5) sc_low_stop.nd rfl (.inl rfl)) (pgs_cons (pg_name (i := 6) sc_low_stop.nd rfl (.inl rfl)) pgs_nil))))) (fun _ _ _ _ _ => pts_nil) (fun _ _ _ _ _ => (pv 5))) pa_nil)))
      (pss_cons (ps_while PassesOwn.never (pt_cmpR op_le (pv 2) (pv 1) (nomark _))
        (pss_cons (ps_set (i := 3) sc_low_stop.nd rfl (.inl rfl) (pe_fn O_filled_at (hr.mono (by omega)) (pa_cons (pv 0) (pa_cons (pv 2) pa_nil))))
          (pss_cons (ps_if (pt_cmpR op_eq (pv 3) (pv 2) (nomark _))
            (pss_one (ps_ret (pv 2)))
            pss_nil)
          (pss_one (ps_set (i := 2) sc_low_stop.nd rfl (.inl rfl) (pv 3))))))
      (pss_one (ps_ret pe_non)))), ?_⟩
    obtain ⟨p, q, rs, rfl, hp, hq, hs⟩ := id hv
    refine ⟨_, rfl, p, _, 2, .ref q, rfl, rfl, hp, rfl, q, _, H, rfl, hq, Kp.refl _ _, fun J hJ C nC => ?_⟩
    obtain ⟨G, g, W⟩ := hJ.walk
    refine lc_it W (fun i H' => Same H H' ∧ H' C = some (.lst (((ss.take i).map fun x => ((x.2.1 : Nat) : Int)).map V.int))) ⟨same_new nC, upd_same⟩ (fun i H' _ z => g H' (.ofS z.1)) ?_ ?_
    · rintro i x H1 H2 _ ⟨sm, hC⟩ ⟨rfl, gx⟩
      obtain ⟨r, hi, rfl, hr1⟩ := srt_at (hs.same sm) gx
      refine ⟨r, _, rfl, hr1, rfl, _, _, rfl, _, _, rfl, _, _, rfl, rfl, rfl, tyes (iteT ⟨_, rfl, _, hC, ?_, same_over sm nC, ?_⟩)⟩
      · rw [List.length_map, List.length_map]
        exact Nat.lt_of_lt_of_le (take_le hi) (Nat.le_trans l1 (by decide))
      · rw [upd_same, tm _ hi, List.map_append]
        rfl
    rintro H1 ⟨sm, hC⟩
    rw [List.length_map, hs.1, List.take_length] at hC
    refine ⟨C, _, rfl, SqL.of hC, ?_⟩
    rw [isum]
    -- the loop: step is no less than those here; at no step between is it stuck
    refine ⟨fun m σ H' => ∃ (y : Option V) (n : Nat), σ = [some (.ref p), some (.int top), some (.int (n : Int)), y, none, none, none] ∧ Same H H' ∧ ourn ss ≤ n ∧ n ≤ mny ss ∧ mny ss - n = m ∧ (∀ j : Nat, ourn ss ≤ j → j < n → (j : Int) ≤ top → j < filF ss (mk h t (mny ss) (j : Int))) ∧ ((n : Int) ≤ top → n ≤ filF ss (mk h t (mny ss) (n : Int))),
      ⟨_, none, ourn ss, rfl, sm, Nat.le_refl _, ?_, rfl, fun j a b => by omega, fun _ => fil_ge⟩, ?_⟩
    · exact Nat.le_trans (fil_ge (m := 0)) fil_le
    rintro m σ H2 ⟨y, n, rfl, s2, n0, n1, rfl, hj, hn⟩
    refine ⟨_, rfl, _, rfl, _, _, rfl, rfl, _, rfl, ite2 (fun c => ?_) (fun c => ?_)⟩
    · have c0 : (n : Int) ≤ top := of_decide_eq_true c
      refine ⟨fun σ' H' => ∃ (y : Option V) (n' : Nat), σ' = [some (.ref p), some (.int top), some (.int (n' : Int)), y, none, none, none] ∧ Same H H' ∧ ourn ss ≤ n' ∧ n' ≤ mny ss ∧ n < n' ∧ (∀ j : Nat, ourn ss ≤ j → j < n' → (j : Int) ≤ top → j < filF ss (mk h t (mny ss) (j : Int))) ∧ ((n' : Int) ≤ top → n' ≤ filF ss (mk h t (mny ss) (n' : Int))),
        fun σ' H' ⟨y', n', z1, z2, z3, z4, z5, z6, z7⟩ => ⟨_, by omega, y', n', z1, z2, z3, z4, rfl, z6, z7⟩, ?_⟩
      refine ⟨_, rfl, _, rfl, .ref p, h, t, (n : Int), ss, rfl, hv.same s2, l1, fun H3 s3 => ?_⟩
      have s23 := s2.trans s3
      refine ⟨_, rfl, _, rfl, rfl, _, rfl, ite2 (fun c2 => ?_) (fun c2 => ?_)⟩
      · have e : (filF ss (mk h t (mny ss) (n : Int)) : Int) = (n : Int) := V.int.inj (of_decide_eq_true c2)
        exact ⟨_, rfl, k1 H3 n s23 c0 ⟨n0, fun j a b => hj j a b (by omega), by omega⟩⟩
      · have e : ¬ (filF ss (mk h t (mny ss) (n : Int)) : Int) = (n : Int) := fun z => c2 (decide_eq_true (by rw [z]))
        have hn' := hn c0
        refine ⟨_, rfl, _, filF ss (mk h t (mny ss) (n : Int)), rfl, s23, fil_ge, fil_le, by omega, fun j a b d => ?_, fun d => ?_⟩
        · by_cases z : j < n
          · exact hj j a z d
          · have := fil_mono (ss := ss) (ris (n : Int) (j : Int) (by omega) (by omega) d)
            omega
        · exact fil_mono (ris _ _ (by omega) (by omega) d)
    · have c0 : ¬ (n : Int) ≤ top := fun z => c (decide_eq_true z)
      refine k2 H2 s2 fun N a ⟨b1, b2, b3⟩ => ?_
      have := hj N b1 (by omega) a
      omega
theorem ok_turned_fleet {k : Nat} (D : Df K mg "turned_fleet" s_turned_fleet) (T : Bt mg) : Ok P w K mg base (k + 1) "turned_fleet" s_turned_fleet ["fleet"] (spTurnedF K) := by
  refine D.ok sc_turned_fleet b_turned_fleet (fun vs H Q E h => ?_) (fun f cdv A outer s H vs Q E hr h => ?_)
  · obtain ⟨v, h, t, ss, rfl, _⟩ := h
    rfl
  · obtain ⟨v, h, t, ss, rfl, hv, l1, k⟩ := h
    obtain ⟨p, q, rs, rfl, hp, hq, hs⟩ := id hv
    refine ⟨_, (pss_cons (ps_asg (pv 0) (pg_seq rfl (pgs_cons (pg_name (i := 1) sc_turned_fleet.nd rfl (.inl rfl)) (pgs_cons (pg_name (i := 2) sc_turned_fleet.nd rfl (.inl rfl)) (pgs_cons (pg_name (i := 3) sc_turned_fleet.nd rfl (.inl rfl)) pgs_nil)))))
      (pss_one (ps_ret (pe_tup (pa_cons (pv 2) (pa_cons (pv 1) (pa_cons (pe_callTy call_tuple_of (by rfl) T.tuple_ (by decide +kernel) (pa_cons (pe_lc (own := [("draught", 4), ("ours", 5), ("theirs", 6)]) (g := (gSeq K 3 (gCons (gName 4) (gCons (gName 5) (gCons (gName 6) gNil))))) (tt := tYes) (by rfl) sc_turned_fleet.nd (pi_seq (pv 3)) (blkOk_by (own := [("draught", 4), ("ours", 5), ("theirs", 6)]) (N := (["fleet", "here", "there", "sorts", "draught", "ours", "theirs"] : List Str)) (sc := defScope s_turned_fleet) (by decide +kernel)) (fun _ _ _ _ _ => (pg_seq rfl (pgs_cons (pg_name (i := 4) sc_turned_fleet.nd rfl (.inl rfl)) (pgs_cons (pg_name (i := 5) sc_turned_fleet.nd rfl (.inl rfl)) (pgs_cons (pg_name (i := 6) sc_turned_fleet.nd rfl (.inl rfl)) pgs_nil))))) (fun _ _ _ _ _ => pts_nil) (fun _ _ _ _ _ => (pe_tup (pa_cons (pv 4) (pa_cons (pv 6) (pa_cons (pv 5) pa_nil)))))) pa_nil)) pa_nil))))))), ?_⟩
    refine ⟨_, rfl, p, _, rfl, hp, rfl, _, _, rfl, _, _, rfl, _, _, rfl, rfl, ?_⟩
    refine ⟨_, rfl, _, rfl, _, rfl, q, _, H, rfl, hq, Kp.refl _ _, fun J hJ C nC => ?_⟩
    obtain ⟨G, g, W⟩ := hJ.walk
    refine lc_it W (fun i H' => Same H H' ∧ ∃ us : List Addr, H' C = some (.lst (us.map V.ref)) ∧ SrtsN H' us (turnF (ss.take i))) ⟨same_new nC, [], upd_same, ?_⟩ (fun i H' _ z => g H' (.ofS z.1)) ?_ ?_
    · exact ⟨rfl, fun i r x a _ => by simp at a⟩
    · rintro i x H1 H2 _ ⟨sm, us, hC, hu⟩ ⟨rfl, gx⟩
      obtain ⟨r, hi, rfl, hr1⟩ := srt_at (hs.same sm) gx
      have lu : us.length = i := by
        rw [hu.1]
        unfold turnF
        rw [List.length_map, List.length_take]
        omega
      refine ⟨r, _, rfl, hr1, rfl, _, _, rfl, _, _, rfl, _, _, rfl, rfl, rfl, tyes (iteT ⟨_, rfl, _, rfl, _, rfl, (by show 3 ≤ sizeLine; decide), fun u nu => ⟨_, same_new nu _ _ hC, ?_, ?_, us ++ [u], ?_, ?_⟩⟩)⟩
      · rw [List.length_map, lu]
        exact Nat.lt_of_lt_of_le hi (Nat.le_trans l1 (by decide))
      · exact same_over (sm.trans (same_new nu)) nC
      · rw [upd_same, List.map_append]
        rfl
      · have e : turnF (ss.take (i + 1)) = turnF (ss.take i) ++ [(ss[i].1, ss[i].2.2, ss[i].2.1)] := tm _ hi
        rw [e]
        exact (hu.push (x := (ss[i].1, ss[i].2.2, ss[i].2.1)) nu).put (same_new nu _ _ hC)
    · rintro H1 ⟨sm, us, hC, hu⟩
      rw [List.length_map, hs.1, List.take_length] at hu
      refine ⟨C, _, rfl, .inl ⟨SqL.of hC, fun a na => ⟨(by show 3 ≤ sizeLine; decide), fun b nb => ?_⟩⟩⟩
      have s1 : Same H1 (upd H1 a (.tup (us.map V.ref))) := same_new na
      have s2 := s1.trans (same_new nb (o := .tup [.int t, .int h, .ref a]))
      exact k _ _ (sm.trans s2) ⟨b, a, us, rfl, SqA.t upd_same, SqA.t (same_new nb _ _ upd_same), (hu.same s2).a⟩
end
end Sh

namespace Sh
open PySem PySem.Spec PyProof.Rows L2
/-! ### which lot: its kind and its step -/
/-- constants of the top -/
structure Cn (mg : Str → Option Value) : Prop where
  low : ∃ t, mg "LOW" = some (.str "low" t)
  high : ∃ t, mg "HIGH" = some (.str "high" t)
  top : ∃ t, mg "TOP" = some (.str "top" t)
structure Ck (mg : Str → Option Value) (K : PySem.W.Frag) (w : World) : Prop where
  kinds : ∃ a, mg "TURNED_KINDS" = some (.ref a) ∧ KDct K w a "low" (.str "high") ∧ KDct K w a "high" (.str "low") ∧ KDct K w a "top" (.str "top")
section
variable {K : PySem.W.Frag} {mg : Str → Option Value} {w : World}
theorem with_cn {R : Prop} {h : Heap} {t1 t2 t3 : Tok} (X : K.In h) (G : h.Ns mainGlobals mg) (a : PySem.W.nsIn K mainGlobals "LOW" = some (some (.str "low" t1))) (b : PySem.W.nsIn K mainGlobals "HIGH" = some (some (.str "high" t2)))
    (c : PySem.W.nsIn K mainGlobals "TOP" = some (some (.str "top" t3))) (r : Cn mg → R) : R := r ⟨⟨_, PySem.W.mg_of X G a⟩, ⟨_, PySem.W.mg_of X G b⟩, ⟨_, PySem.W.mg_of X G c⟩⟩
theorem with_ck {R : Prop} {h : Heap} {p : Addr} {es : Array DictEntry} {n : Nat} {t1 t2 t3 : Tok} (X : K.In h) (G : h.Ns mainGlobals mg) (a : PySem.W.nsIn K mainGlobals "TURNED_KINDS" = some (some (.ref p))) (l : K.lookup p = some ⟨.type "dict", none, .dict es n, #[]⟩)
    (k : PySem.W.KeysLit w.params es.toList) (d1 : PySem.W.nsIn K p "low" = some (some (.str "high" t1))) (d2 : PySem.W.nsIn K p "high" = some (some (.str "low" t2))) (d3 : PySem.W.nsIn K p "top" = some (some (.str "top" t3))) (r : Ck mg K w → R) : R :=
  r ⟨⟨p, PySem.W.mg_of X G a, ⟨es, n, _, l, k, d1, _, rfl⟩, ⟨es, n, _, l, k, d2, _, rfl⟩, ⟨es, n, _, l, k, d3, _, rfl⟩⟩⟩
end
inductive Kd where
  | low | high | top
def Kd.str : Kd → Str
  | .low => "low"
  | .high => "high"
  | .top => "top"
def Kd.turn : Kd → Kd
  | .low => .high
  | .high => .low
  | .top => .top
theorem Kd.str_inj {a b : Kd} (h : a.str = b.str) : a = b := by
  cases a <;> cases b <;> first | rfl | (exfalso; revert h; decide)
/-- the lot of a fleet -/
def LotF (h t : Int) (ss : List Srt) : Kd → Int → Prop
  | .low, s => ∃ N : Nat, s = (N : Int) ∧ (N : Int) ≤ topI h t (mny ss) ∧ StuckF h t ss N
  | .high, s => ∃ N : Nat, s = (mny ss : Int) - 1 - (N : Int) ∧ (N : Int) ≤ (mny ss : Int) - 1 - topI h t (mny ss) ∧ StuckF t h (turnF ss) N
  | .top, s => s = topI h t (mny ss) ∧ (∀ N : Nat, (N : Int) ≤ topI h t (mny ss) → ¬ StuckF h t ss N) ∧ ∀ N : Nat, (N : Int) ≤ (mny ss : Int) - 1 - topI h t (mny ss) → ¬ StuckF t h (turnF ss) N
/-- a lot told or handed in -/
def LtA (K : PySem.W.Frag) (H : Hp) (v : V) (kd : Kd) (s : Int) : Prop := ∃ p, v = .ref p ∧ SqA K H p [.str kd.str, .int s]
theorem LtA.same {K : PySem.W.Frag} {H H' : Hp} {v : V} {kd : Kd} {s : Int} (l : LtA K H v kd s) (e : Same H H') : LtA K H' v kd s := let ⟨p, a, b⟩ := l; ⟨p, a, Same.sqA e b⟩
theorem rise_top (h t : Int) (n : Nat) : Rise h t n (topI h t n) := fun _ _ a b c => mk_le a b c
theorem rise_turn (h t : Int) (n : Nat) : Rise t h n ((n : Int) - 1 - topI h t n) := fun s s' a b c => by
  rw [mk_turn' (h := h) (t := t), mk_turn' (h := h) (t := t)]
  exact mk_dn (by omega) (by omega) (by omega)
theorem isumN : ∀ l : List Nat, (l.map fun (n : Nat) => (n : Int)).sum = (l.sum : Int)
  | [] => rfl
  | a :: l => by
    rw [List.map_cons, List.sum_cons, isumN l, List.sum_cons]
    rfl
def spLotOf (K : PySem.W.Frag) : Sp := fun vs H Q _ => ∃ (v : V) (h t : Int) (ss : List Srt), vs = [v] ∧ FltA K H v h t ss ∧ ss.length ≤ 1000 ∧
  ∀ (H' : Hp) (p : Addr) (kd : Kd) (s : Int), Same H H' → H p = none → H' p = some (.tup [.str kd.str, .int s]) → LotF h t ss kd s → Q (.ref p) H'
def spTurnedLot (K : PySem.W.Frag) : Sp := fun vs H Q _ => ∃ (v l : V) (h t s : Int) (ss : List Srt) (kd : Kd), vs = [v, l] ∧ FltA K H v h t ss ∧ ss.length ≤ 1000 ∧ LtA K H l kd s ∧
  ∀ (H' : Hp) (z : V), Same H H' → LtA K H' z kd.turn ((mny ss : Int) - 1 - s) → Q z H'
def spFixed (K : PySem.W.Frag) : Sp := fun vs H Q _ => ∃ (v l : V) (h t s : Int) (ss : List Srt) (kd : Kd), vs = [v, l] ∧ FltA K H v h t ss ∧ ss.length ≤ 1000 ∧ LtA K H l kd s ∧
  ∀ (H' : Hp) (p : Addr), Same H H' → H p = none → H' p = some (.lst (((fxF ss (mk h t (mny ss) s)).map fun (n : Nat) => (n : Int)).map V.int)) → Q (.ref p) H'
def spLeastIn (K : PySem.W.Frag) : Sp := fun vs H Q _ => ∃ (v l : V) (h t s : Int) (ss : List Srt) (kd : Kd), vs = [v, l] ∧ FltA K H v h t ss ∧ ss.length ≤ 1000 ∧ LtA K H l kd s ∧
  (kd = .high → ∀ H', Same H H' → Q (.int (s + 1)) H') ∧ (kd ≠ .high → ∀ (H' : Hp) (m : Int), Same H H' → LeastI h t ss s m → Q (.int m) H')
def spMostIn (K : PySem.W.Frag) : Sp := fun vs H Q _ => ∃ (v l : V) (h t s : Int) (ss : List Srt) (kd : Kd), vs = [v, l] ∧ FltA K H v h t ss ∧ ss.length ≤ 1000 ∧ LtA K H l kd s ∧
  (kd = .low → ∀ H', Same H H' → Q (.int s) H') ∧ (kd ≠ .low → ∀ (H' : Hp) (m : Int), Same H H' → LeastI t h (turnF ss) ((mny ss : Int) - 1 - s) m → Q (.int ((mny ss : Int) - m)) H')
/-- the step next to which one goes -/
def nextS : Kd → Int → Int
  | .low, s => s - 1
  | .high, s => s + 1
  | .top, s => s
def spMoving (K : PySem.W.Frag) : Sp := fun vs H Q _ => ∃ (v l : V) (h t s : Int) (ss : List Srt) (kd : Kd), vs = [v, l] ∧ FltA K H v h t ss ∧ ss.length ≤ 1000 ∧ LtA K H l kd s ∧
  ((nextS kd s < 0 ∨ (mny ss : Int) ≤ nextS kd s) → ∀ H', Same H H' → Q .non H') ∧ (0 ≤ nextS kd s → nextS kd s < (mny ss : Int) → ∀ H', Same H H' → Q (.int (mk h t (mny ss) (nextS kd s))) H')
abbrev s_lot_of : Stmt := topS 18
theorem sc_lot_of : FnScope (["fleet", "last", "top", "stop"] : List Str) (["fleet"] : List Str) (defScope s_lot_of) := ⟨rfl, rfl, rfl, by decide +kernel, rfl, by decide +kernel, by decide +kernel⟩
theorem b_lot_of (kV doc pm : Value) (an : Option Addr) (cdv ct : Value) (us : List Value) (hl : us.length = (["fleet"] : List Str).length) : bindArgs (PySem.W.fnOf "lot_of" "lot_of" (defArgs s_lot_of) (defBody s_lot_of) (defScope s_lot_of) .none kV doc pm an cdv ct) ⟨us, []⟩ = pure ((["fleet"] : List Str).zip us) :=
  match us, hl with | [_], _ => rfl
section
variable {P : Program} {w : World} {K : PySem.W.Frag} {mg : Str → Option Value} {base : Heap}
theorem ok_lot_of {k : Nat} (D : Df K mg "lot_of" s_lot_of) (T : Bt mg) (C : Cn mg) (O_ships_many : Ok P w K mg base k "ships_many" s_ships_many ["fleet"] (spShips K)) (O_top_in : Ok P w K mg base k "top_in" s_top_in ["fleet"] (spTopIn K))
    (O_low_stop : Ok P w K mg base k "low_stop" s_low_stop ["fleet", "top"] (spLowStop K)) (O_turned_fleet : Ok P w K mg base k "turned_fleet" s_turned_fleet ["fleet"] (spTurnedF K)) : Ok P w K mg base (k + 1) "lot_of" s_lot_of ["fleet"] (spLotOf K) := by
  obtain ⟨_, g_LOW⟩ := C.low
  obtain ⟨_, g_HIGH⟩ := C.high
  obtain ⟨_, g_TOP⟩ := C.top
  refine D.ok sc_lot_of b_lot_of (fun vs H Q E h => ?_) (fun f cdv A outer s H vs Q E hr h => ?_)
  · obtain ⟨v, h, t, ss, rfl, _⟩ := h
    rfl
  · obtain ⟨v, h, t, ss, rfl, hv, l1, k⟩ := h
    refine ⟨_, (pss_cons (ps_set (i := 1) sc_lot_of.nd rfl (.inl rfl) (pe_op op_sub (pe_fn O_ships_many (hr.mono (by omega)) (pa_cons (pv 0) pa_nil)) pe_int))
      (pss_cons (ps_set (i := 2) sc_lot_of.nd rfl (.inl rfl) (pe_fn O_top_in (hr.mono (by omega)) (pa_cons (pv 0) pa_nil)))
      (pss_cons (ps_set (i := 3) sc_lot_of.nd rfl (.inl rfl) (pe_fn O_low_stop (hr.mono (by omega)) (pa_cons (pv 0) (pa_cons (pv 2) pa_nil))))
      (pss_cons (ps_if (pt_cmpR op_notN (pv 3) pe_non (nomark _))
        (pss_one (ps_ret (pe_tup (pa_cons (pe_glob (v := .str "low") (by rfl) g_LOW ⟨_, rfl⟩) (pa_cons (pv 3) pa_nil)))))
        pss_nil)
      (pss_cons (ps_set (i := 3) sc_lot_of.nd rfl (.inl rfl) (pe_fn O_low_stop (hr.mono (by omega)) (pa_cons (pe_fn O_turned_fleet (hr.mono (by omega)) (pa_cons (pv 0) pa_nil)) (pa_cons (pe_op op_sub (pv 1) (pv 2)) pa_nil))))
      (pss_cons (ps_if (pt_cmpR op_notN (pv 3) pe_non (nomark _))
        (pss_one (ps_ret (pe_tup (pa_cons (pe_glob (v := .str "high") (by rfl) g_HIGH ⟨_, rfl⟩) (pa_cons (pe_op op_sub (pv 1) (pv 3)) pa_nil)))))
        pss_nil)
      (pss_one (ps_ret (pe_tup (pa_cons (pe_glob (v := .str "top") (by rfl) g_TOP ⟨_, rfl⟩) (pa_cons (pv 2) pa_nil))))))))))), ?_⟩
    refine ⟨_, rfl, v, h, t, ss, rfl, hv, l1, fun H1 s1 => ⟨_, 1, rfl, rfl, ?_⟩⟩
    refine ⟨_, rfl, v, h, t, ss, rfl, hv.same s1, l1, fun H2 s2 => ?_⟩
    have s02 := s1.trans s2
    refine ⟨_, rfl, _, rfl, v, h, t, topI h t (mny ss), ss, rfl, hv.same s02, l1, rise_top _ _ _, fun H3 N s3 a b => ?_, fun H3 s3 no => ?_⟩
    · refine ⟨_, rfl, rfl, _, rfl, iteT ⟨_, rfl, (by show 2 ≤ sizeLine; decide), fun p np => ?_⟩⟩
      have s03 := s02.trans s3
      exact k _ p .low (N : Int) (s03.trans (same_new np)) (s03.free np) upd_same ⟨N, rfl, a, b⟩
    · have s03 := s02.trans s3
      refine ⟨_, rfl, rfl, _, rfl, iteF ?_⟩
      refine ⟨_, rfl, v, h, t, ss, rfl, hv.same s03, l1, fun H4 z s4 hz => ?_⟩
      have s04 := s03.trans s4
      refine ⟨_, rfl, _, rfl, _, _, rfl, rfl, z, t, h, (mny ss : Int) - 1 - topI h t (mny ss), turnF ss, rfl, hz, ?_, ?_, fun H5 N s5 a b => ?_, fun H5 s5 no2 => ?_⟩
      · unfold turnF
        rw [List.length_map]
        exact l1
      · rw [mny_turn]
        exact rise_turn h t _
      · refine ⟨_, rfl, rfl, _, rfl, iteT ⟨_, rfl, _, rfl, _, _, rfl, rfl, (by show 2 ≤ sizeLine; decide), fun p np => ?_⟩⟩
        have s05 := s04.trans s5
        exact k _ p .high _ (s05.trans (same_new np)) (s05.free np) upd_same ⟨N, rfl, a, b⟩
      · refine ⟨_, rfl, rfl, _, rfl, iteF ⟨_, rfl, (by show 2 ≤ sizeLine; decide), fun p np => ?_⟩⟩
        have s05 := s04.trans s5
        exact k _ p .top _ (s05.trans (same_new np)) (s05.free np) upd_same ⟨rfl, no, no2⟩
end
end Sh

namespace Sh
open PySem PySem.Spec PyProof.Rows L2
/-! ### a sea's fleet -/
theorem len_os {k : Nat} {L : List Nat} (hL : Lot k L) (D : Nat → Int) (d : Int) : ((L.map D).filter fun o => decide (o = d)).length = Th.cnt k (fun i => mem L i && decide (D i = d)) := by
  rw [List.filter_map, List.length_map]
  conv => lhs; rw [hL.mem_eq]
  rw [List.filter_filter]
  unfold Th.cnt
  rw [List.countP_eq_length_filter]
  congr 1
  refine List.filter_congr fun a _ => ?_
  show (decide (D a = d) && decide (a ∈ L)) = (mem L a && decide (D a = d))
  rw [Bool.and_comm]
  rfl
theorem ds_map (ds : List Int) : ds = (List.range ds.length).map fun i => ds.getD i 0 := by
  refine List.ext_getElem (by simp) fun i h1 h2 => ?_
  simp [h1]
theorem len_ds (ds : List Int) (d : Int) : (ds.filter fun o => decide (o = d)).length = Th.cnt ds.length (fun i => decide (ds.getD i 0 = d)) := by
  conv => lhs; rw [ds_map ds]
  rw [List.filter_map, List.length_map]
  unfold Th.cnt
  rw [List.countP_eq_length_filter]
  rfl
theorem sum_if (P : Int → Bool) (x : Int) (b : Bool) : ∀ {ns : List Int}, ns.Nodup → x ∈ ns → ((ns.filter P).map fun d => if (b && decide (x = d)) = true then 1 else 0).sum = if (P x && b) = true then 1 else 0 := by
  have none : ∀ {ns : List Int}, ¬ x ∈ ns → ((ns.filter P).map fun d => if (b && decide (x = d)) = true then 1 else 0).sum = 0 := by
    intro ns
    induction ns with
    | nil => intro _; rfl
    | cons a l ih =>
      intro h
      have h1 : ¬ x = a := fun e => h (e ▸ List.mem_cons_self)
      have h2 := ih fun q => h (List.mem_cons_of_mem _ q)
      by_cases c : P a = true
      · rw [List.filter_cons_of_pos c, List.map_cons, List.sum_cons, h2, decide_eq_false h1, Bool.and_false]
        rfl
      · rw [List.filter_cons_of_neg c]
        exact h2
  intro ns
  induction ns with
  | nil => intro _ h; cases h
  | cons a l ih =>
    intro nd h
    obtain ⟨n1, n2⟩ := List.nodup_cons.mp nd
    by_cases e : x = a
    · subst e
      have h0 := none n1
      by_cases c : P x = true
      · rw [List.filter_cons_of_pos c, List.map_cons, List.sum_cons, h0, decide_eq_true rfl, Bool.and_true, c, Bool.true_and, Nat.add_zero]
      · rw [List.filter_cons_of_neg c, h0]
        have c' : P x = false := by simpa using c
        rw [c', Bool.false_and]
        rfl
    · have hx : x ∈ l := by
        rcases List.mem_cons.mp h with q | q
        · exact absurd q e
        · exact q
      have h2 := ih n2 hx
      by_cases c : P a = true
      · rw [List.filter_cons_of_pos c, List.map_cons, List.sum_cons, h2, decide_eq_false e, Bool.and_false]
        show 0 + _ = _
        rw [Nat.zero_add]
      · rw [List.filter_cons_of_neg c]
        exact h2
theorem sum_two' {α : Type} (f g : α → Nat) : ∀ l : List α, (l.map fun x => f x + g x).sum = (l.map f).sum + (l.map g).sum
  | [] => rfl
  | a :: l => by
    simp only [List.map_cons, List.sum_cons, sum_two' f g l]
    omega
theorem sum_zero {α : Type} : ∀ l : List α, (l.map fun _ => 0).sum = 0
  | [] => rfl
  | a :: l => by rw [List.map_cons, List.sum_cons, sum_zero l]
theorem sum_cnt (P : Int → Bool) (D : Nat → Int) (R : Nat → Bool) {ns : List Int} (nd : ns.Nodup) : ∀ k : Nat, (∀ i, i < k → D i ∈ ns) → ((ns.filter P).map fun d => Th.cnt k (fun i => R i && decide (D i = d))).sum = Th.cnt k (fun i => P (D i) && R i)
  | 0, _ => sum_zero _
  | k + 1, h => by
    have ih := sum_cnt P D R nd k fun i hi => h i (by omega)
    have e : ((ns.filter P).map fun d => Th.cnt (k + 1) (fun i => R i && decide (D i = d))).sum = ((ns.filter P).map fun d => Th.cnt k (fun i => R i && decide (D i = d)) + if (R k && decide (D k = d)) = true then 1 else 0).sum := by
      congr 1
      exact List.map_congr_left fun d _ => Th.cnt_succ _ _
    rw [e, sum_two', ih, sum_if P (D k) (R k) nd (h k (by omega)), Th.cnt_succ]
/-- the sorts of a sea's ships -/
def sortsOf (ds : List Int) (L : List Nat) (ns : List Int) : List Srt := ns.map fun d => (d, ((L.map fun i => ds.getD i 0).filter fun o => decide (o = d)).length, (ds.filter fun o => decide (o = d)).length - ((L.map fun i => ds.getD i 0).filter fun o => decide (o = d)).length)
theorem sorts_rp {ds : List Int} {L : List Nat} {ns : List Int} (hL : Lot ds.length L) (nd : ns.Nodup) (hm : ∀ d : Int, d ∈ ds → d ∈ ns) : Rp (sortsOf ds L ns) ds.length (fun i => ds.getD i 0) (mem L) := by
  have hD : ∀ i, i < ds.length → ds.getD i 0 ∈ ns := fun i hi => hm _ (by
    have : ds.getD i 0 = ds[i] := by simp [hi]
    rw [this]
    exact List.getElem_mem hi)
  refine ⟨fun P => ?_, fun P => ?_⟩
  · unfold sortsOf
    rw [List.filter_map, List.map_map, ← sum_cnt P (fun i => ds.getD i 0) (mem L) nd ds.length hD]
    congr 1
    exact List.map_congr_left fun d _ => len_os hL _ d
  · unfold sortsOf
    rw [List.filter_map, List.map_map, ← sum_cnt P (fun i => ds.getD i 0) (fun i => !mem L i) nd ds.length hD]
    congr 1
    refine List.map_congr_left fun d _ => ?_
    show (ds.filter fun o => decide (o = d)).length - ((L.map fun i => ds.getD i 0).filter fun o => decide (o = d)).length = _
    rw [len_os hL, len_ds]
    have e := Th.cnt_split (k := ds.length) (fun i => decide (ds.getD i 0 = d)) (mem L)
    have e1 : Th.cnt ds.length (fun i => decide (ds.getD i 0 = d) && mem L i) = Th.cnt ds.length (fun i => mem L i && decide (ds.getD i 0 = d)) := Th.cnt_congr fun i _ => Bool.and_comm _ _
    have e2 : Th.cnt ds.length (fun i => decide (ds.getD i 0 = d) && !mem L i) = Th.cnt ds.length (fun i => !mem L i && decide (ds.getD i 0 = d)) := Th.cnt_congr fun i _ => Bool.and_comm _ _
    omega
theorem lying_le {ds : List Int} {L : List Nat} (hL : Lot ds.length L) (d : Int) : ((L.map fun i => ds.getD i 0).filter fun o => decide (o = d)).length ≤ (ds.filter fun o => decide (o = d)).length := by
  rw [len_os hL, len_ds]
  exact Th.cnt_mono fun i _ h => by
    revert h
    cases mem L i <;> simp
/-! ### what a lot tells of its standings -/
section
variable {ss : List Srt} {k : Nat} {D : Nat → Int} {S : Nat → Bool} {h t : Int}
theorem low_low (r : Rp ss k D S) {N : Nat} (st : StuckF h t ss N) : Th.StuckLow k (Gd h t k D) N S := (r.stuck h t N).mp st
theorem high_high (r : Rp ss k D S) (hk : 0 < k) {N : Nat} (hN : (N : Int) ≤ (k : Int) - 1 - topI h t k) (st : StuckF t h (turnF ss) N) : Th.StuckLow k (Th.dual k (Gd h t k D)) N (Th.co S) := by
  have t0 := top_lo' h t k
  exact Th.StuckLow.congr (by omega) (fun s i hs => Gd_turn hs) ((r.turn.stuck t h N).mp st)
theorem high_back (r : Rp ss k D S) (hk : 0 < k) {N : Nat} (hN : (N : Int) ≤ (k : Int) - 1 - topI h t k) (st : Th.StuckLow k (Th.dual k (Gd h t k D)) N (Th.co S)) : StuckF t h (turnF ss) N := by
  have t0 := top_lo' h t k
  exact (r.turn.stuck t h N).mpr (Th.StuckLow.congr (by omega) (fun s i hs => (Gd_turn hs).symm) st)
/-- a lot by its kind, in terms of ships -/
def LotS (h t : Int) (k : Nat) (D : Nat → Int) (S : Nat → Bool) : Kd → Int → Prop
  | .low, s => ∃ N : Nat, s = (N : Int) ∧ N ≤ (topI h t k).toNat ∧ Th.StuckLow k (Gd h t k D) N S
  | .high, s => ∃ N : Nat, s = (k : Int) - 1 - (N : Int) ∧ N ≤ k - 1 - (topI h t k).toNat ∧ Th.StuckLow k (Th.dual k (Gd h t k D)) N (Th.co S)
  | .top, s => s = topI h t k ∧ Th.Open k (Gd h t k D) (topI h t k).toNat S
theorem LotF.ships (r : Rp ss k D S) (hk : 0 < k) {kd : Kd} {s : Int} (l : LotF h t ss kd s) : LotS h t k D S kd s := by
  have t0 := top_lo' h t k
  have t1 := top_hi' h t hk
  have tp := top_D h t D hk
  unfold LotF at l
  cases kd with
  | low =>
    obtain ⟨N, e, a, b⟩ := l
    rw [r.mny] at a
    exact ⟨N, e, by omega, low_low r b⟩
  | high =>
    obtain ⟨N, e, a, b⟩ := l
    rw [r.mny] at a e
    exact ⟨N, e, by omega, high_high r hk a b⟩
  | top =>
    obtain ⟨e, a, b⟩ := l
    rw [r.mny] at a e b
    refine ⟨e, ?_⟩
    rcases Th.sorts (S := S) tp with ⟨N, hN, sl⟩ | ⟨N, hN, sl⟩ | q
    · exact absurd ((r.stuck h t N).mpr sl) (a N (by omega))
    · exact absurd (high_back r hk (by omega) sl) (b N (by omega))
    · exact q
end
end Sh
namespace Th
section
variable {k : Nat} {G : Nat → Nat → Bool} {S U : Nat → Bool} {T : Nat}
/-- where one stops tells from the other -/
theorem low_uniq {N N' : Nat} (a : StuckLow k G N S) (b : StuckLow k G N' S) : N = N' := by
  obtain ⟨a1, a2, a3⟩ := a
  obtain ⟨b1, b2, b3⟩ := b
  by_cases z : N < N'
  · have := b2 N a1 z
    omega
  · by_cases z2 : N' < N
    · have := a2 N' b1 z2
      omega
    · omega
theorem low_high {N N' : Nat} (t : Top k G T) (hN : N ≤ T) (a : StuckLow k G N S) (hN' : N' ≤ k - 1 - T) (b : StuckLow k (Th.dual k G) N' (co S)) : False := by
  have := a.1
  have := b.1
  have := cnt_co k S
  have := t.lt
  omega
theorem low_open {N : Nat} (t : Top k G T) (hN : N ≤ T) (a : StuckLow k G N S) (b : Open k G T S) : False := by
  obtain ⟨rs, c⟩ := b
  rcases rs with q | q
  · by_cases z : N = T
    · subst z
      have := a.2.2
      omega
    · have := q.2 N a.1 (by omega)
      have := a.2.2
      omega
  · have := a.1
    have := q.1
    omega
theorem high_open {N : Nat} (t : Top k G T) (hN : N ≤ k - 1 - T) (a : StuckLow k (Th.dual k G) N (co S)) (b : Open k G T S) : False := low_open t.dual hN a (b.dual t)
theorem Reach.out (r : Reach k G S U) : ∀ i, ¬ i < k → U i = S i := reach_out r
/-- the lot of an open one is kept -/
theorem Open.same (t : Top k G T) (a : Open k G T S) (r : Reach k G S U) : Open k G T U := by
  rcases sorts (S := U) t with ⟨N, hN, sl⟩ | ⟨N, hN, sl⟩ | q
  · exact absurd a fun a => low_open t hN (sl.same t hN r.symm) a
  · exact absurd a fun a => high_open t hN (sl.same t.dual hN r.symm.dual) a
  · exact q
theorem high_iff {N : Nat} (t : Top k G T) (hN : N ≤ k - 1 - T) (h : StuckLow k (Th.dual k G) N (co S)) (ho : ∀ i, ¬ i < k → U i = S i) : Reach k G S U ↔ StuckLow k (Th.dual k G) N (co U) ∧ ∀ i, i < k → (co U i || Th.dual k G N i) = (co S i || Th.dual k G N i) := by
  rw [← h.iff (U := co U) t.dual hN fun i hi => by unfold co; rw [ho i hi]]
  exact ⟨fun r => r.dual, fun r => r.codual⟩
end
end Th
namespace Sh
open PySem PySem.Spec PyProof.Rows L2
section
variable {ss : List Srt} {k : Nat} {D : Nat → Int} {S U : Nat → Bool} {h t : Int}
/-- a lot's kind and step are kept by crossings -/
theorem LotS.same (hk : 0 < k) {kd : Kd} {s : Int} (l : LotS h t k D S kd s) (r : Th.Reach k (Gd h t k D) S U) : LotS h t k D U kd s := by
  have tp := top_D h t D hk
  cases kd with
  | low =>
    obtain ⟨N, e, a, b⟩ := l
    exact ⟨N, e, a, b.same tp a r⟩
  | high =>
    obtain ⟨N, e, a, b⟩ := l
    exact ⟨N, e, a, b.same tp.dual a r.dual⟩
  | top =>
    obtain ⟨e, a⟩ := l
    exact ⟨e, a.same tp r⟩
theorem LotS.uniq (hk : 0 < k) {kd kd' : Kd} {s s' : Int} (l : LotS h t k D S kd s) (l' : LotS h t k D S kd' s') : kd = kd' ∧ s = s' := by
  have tp := top_D h t D hk
  cases kd with
  | low =>
    obtain ⟨N, e, a, b⟩ := l
    cases kd' with
    | low =>
      obtain ⟨N', e', a', b'⟩ := l'
      have := Th.low_uniq b b'
      exact ⟨rfl, by omega⟩
    | high =>
      obtain ⟨N', e', a', b'⟩ := l'
      exact (Th.low_high tp a b a' b').elim
    | top => exact (Th.low_open tp a b l'.2).elim
  | high =>
    obtain ⟨N, e, a, b⟩ := l
    cases kd' with
    | low =>
      obtain ⟨N', e', a', b'⟩ := l'
      exact (Th.low_high tp a' b' a b).elim
    | high =>
      obtain ⟨N', e', a', b'⟩ := l'
      have := Th.low_uniq b b'
      exact ⟨rfl, by omega⟩
    | top => exact (Th.high_open tp a b l'.2).elim
  | top =>
    obtain ⟨e, a⟩ := l
    cases kd' with
    | low =>
      obtain ⟨N', e', a', b'⟩ := l'
      exact (Th.low_open tp a' b' a).elim
    | high =>
      obtain ⟨N', e', a', b'⟩ := l'
      exact (Th.high_open tp a' b' a).elim
    | top => exact ⟨rfl, by rw [e, l'.1]⟩
/-- one comes to the other just where the lots' words are the same and those that don't go lie alike -/
theorem LotS.reach (hk : 0 < k) {kd : Kd} {s : Int} (l : LotS h t k D S kd s) (l' : LotS h t k D U kd s) (ho : ∀ i, ¬ i < k → U i = S i) : Th.Reach k (Gd h t k D) S U ↔ ∀ i, i < k → ¬ D i ≤ mk h t k s → U i = S i := by
  have tp := top_D h t D hk
  have t0 := top_lo' h t k
  have t1 := top_hi' h t hk
  cases kd with
  | low =>
    obtain ⟨N, e, a, b⟩ := l
    obtain ⟨N', e', a', b'⟩ := l'
    obtain rfl : N = N' := by omega
    rw [b.iff tp a ho]
    have key : ∀ i, ((U i || Gd h t k D N i) = (S i || Gd h t k D N i)) ↔ (¬ D i ≤ mk h t k s → U i = S i) := fun i => by
      unfold Gd
      rw [← e]
      by_cases z : D i ≤ mk h t k s
      · rw [decide_eq_true z, Bool.or_true, Bool.or_true]
        exact ⟨fun _ w => absurd z w, fun _ => rfl⟩
      · rw [decide_eq_false z, Bool.or_false, Bool.or_false]
        exact ⟨fun q _ => q, fun q => q z⟩
    exact ⟨fun q i hi => (key i).mp (q.2 i hi), fun q => ⟨b', fun i hi => (key i).mpr (q i hi)⟩⟩
  | high =>
    obtain ⟨N, e, a, b⟩ := l
    obtain ⟨N', e', a', b'⟩ := l'
    obtain rfl : N = N' := by omega
    rw [Th.high_iff tp a b ho]
    have key : ∀ i, ((Th.co U i || Th.dual k (Gd h t k D) N i) = (Th.co S i || Th.dual k (Gd h t k D) N i)) ↔ (¬ D i ≤ mk h t k s → U i = S i) := fun i => by
      show ((!U i || decide (D i ≤ mk h t k ((k - 1 - N : Nat) : Int))) = (!S i || decide (D i ≤ mk h t k ((k - 1 - N : Nat) : Int)))) ↔ _
      rw [show ((k - 1 - N : Nat) : Int) = s by omega]
      by_cases z : D i ≤ mk h t k s
      · rw [decide_eq_true z, Bool.or_true, Bool.or_true]
        exact ⟨fun _ w => absurd z w, fun _ => rfl⟩
      · rw [decide_eq_false z, Bool.or_false, Bool.or_false]
        refine ⟨fun q _ => ?_, fun q => by rw [q z]⟩
        revert q
        cases U i <;> cases S i <;> simp
    exact ⟨fun q i hi => (key i).mp (q.2 i hi), fun q => ⟨b', fun i hi => (key i).mpr (q i hi)⟩⟩
  | top =>
    obtain ⟨e, a⟩ := l
    obtain ⟨_, a'⟩ := l'
    have key : ∀ i, (Gd h t k D (topI h t k).toNat i = false) ↔ ¬ D i ≤ mk h t k s := fun i => by
      unfold Gd
      rw [show (((topI h t k).toNat : Nat) : Int) = s by omega, decide_eq_false_iff_not]
    exact ⟨fun r i hi z => Th.fast_inv tp r i hi ((key i).mpr z), fun q => Th.open_reach tp a.1 a'.1 (fun i hi g => q i hi ((key i).mp g)) ho⟩
theorem LotS.comes (hk : 0 < k) {kd kd' : Kd} {s s' : Int} (l : LotS h t k D S kd s) (l' : LotS h t k D U kd' s') (ho : ∀ i, ¬ i < k → U i = S i) : Th.Reach k (Gd h t k D) S U ↔ (kd = kd' ∧ s = s') ∧ ∀ i, i < k → ¬ D i ≤ mk h t k s → U i = S i := by
  constructor
  · intro r
    obtain ⟨e1, e2⟩ := (l.same hk r).uniq hk l'
    subst e1
    subst e2
    exact ⟨⟨rfl, rfl⟩, (l.reach hk l' ho).mp r⟩
  · rintro ⟨⟨e1, e2⟩, q⟩
    subst e1
    subst e2
    exact (l.reach hk l' ho).mpr q
/-- who ever goes -/
theorem LotS.moves (hk : 0 < k) {kd : Kd} {s : Int} (l : LotS h t k D S kd s) {i : Nat} (hi : i < k) : Th.Moves k (Gd h t k D) S i ↔ 0 ≤ nextS kd s ∧ nextS kd s < (k : Int) ∧ D i ≤ mk h t k (nextS kd s) := by
  have tp := top_D h t D hk
  have t0 := top_lo' h t k
  have t1 := top_hi' h t hk
  cases kd with
  | low =>
    obtain ⟨N, e, a, b⟩ := l
    rw [Th.moves_low b tp a hi]
    show (0 < N ∧ decide (D i ≤ mk h t k ((N - 1 : Nat) : Int)) = true) ↔ 0 ≤ s - 1 ∧ s - 1 < (k : Int) ∧ D i ≤ mk h t k (s - 1)
    rw [decide_eq_true_eq]
    constructor
    · rintro ⟨n0, g⟩
      rw [show ((N - 1 : Nat) : Int) = s - 1 by omega] at g
      exact ⟨by omega, by omega, g⟩
    · rintro ⟨n0, n1, g⟩
      refine ⟨by omega, ?_⟩
      rw [show ((N - 1 : Nat) : Int) = s - 1 by omega]
      exact g
  | high =>
    obtain ⟨N, e, a, b⟩ := l
    rw [Th.moves_high b tp a hi]
    show (0 < N ∧ decide (D i ≤ mk h t k ((k - N : Nat) : Int)) = true) ↔ 0 ≤ s + 1 ∧ s + 1 < (k : Int) ∧ D i ≤ mk h t k (s + 1)
    rw [decide_eq_true_eq]
    constructor
    · rintro ⟨n0, g⟩
      rw [show ((k - N : Nat) : Int) = s + 1 by omega] at g
      exact ⟨by omega, by omega, g⟩
    · rintro ⟨n0, n1, g⟩
      refine ⟨by omega, ?_⟩
      rw [show ((k - N : Nat) : Int) = s + 1 by omega]
      exact g
  | top =>
    obtain ⟨e, a⟩ := l
    rw [Th.moves_open tp a.1 a.2 hi]
    show decide (D i ≤ mk h t k (((topI h t k).toNat : Nat) : Int)) = true ↔ 0 ≤ s ∧ s < (k : Int) ∧ D i ≤ mk h t k s
    rw [decide_eq_true_eq, show (((topI h t k).toNat : Nat) : Int) = s by omega]
    exact ⟨fun g => ⟨by omega, by omega, g⟩, fun g => g.2.2⟩
/-- how few -/
theorem LotS.min (r : Rp ss k D S) (hk : 0 < k) {kd : Kd} {s m : Int} (l : LotS h t k D S kd s) (hm : (kd = .high ∧ m = s + 1) ∨ (kd ≠ .high ∧ LeastI h t ss s m)) : ∃ n : Nat, m = (n : Int) ∧ Th.IsMin k (Gd h t k D) S n := by
  have tp := top_D h t D hk
  have t0 := top_lo' h t k
  have t1 := top_hi' h t hk
  cases kd with
  | low =>
    obtain ⟨N, e, a, b⟩ := l
    rcases hm with ⟨z, _⟩ | ⟨_, L⟩
    · cases z
    · rw [e] at L
      exact least_low r tp a b (fun m' hm' => mk_low (by omega) (by omega)) L
  | high =>
    obtain ⟨N, e, a, b⟩ := l
    rcases hm with ⟨_, z⟩ | ⟨z, _⟩
    · have mx := Th.stuck_min_high tp.dual a b
      refine ⟨k - N, by omega, ?_⟩
      obtain ⟨⟨U, rU, cU⟩, hU⟩ := mx
      refine ⟨⟨Th.co U, ?_, ?_⟩, fun W rW => ?_⟩
      · refine Th.Reach.codual ?_
        rw [Th.co_co]
        exact rU
      · have := Th.cnt_co k U
        omega
      · have := hU _ rW.dual
        have := Th.cnt_co k W
        omega
    · exact absurd rfl z
  | top =>
    obtain ⟨e, a⟩ := l
    rcases hm with ⟨z, _⟩ | ⟨_, L⟩
    · cases z
    · rw [show s = (((topI h t k).toNat : Nat) : Int) by omega] at L
      exact least_open r tp a (fun m' hm' => mk_low (by omega) (by omega)) L
/-- how many, by the turned one -/
theorem LotS.max (r : Rp ss k D S) (hk : 0 < k) {kd : Kd} {s m : Int} (l : LotS h t k D S kd s) (hm : (kd = .low ∧ m = s) ∨ (kd ≠ .low ∧ ∃ m', LeastI t h (turnF ss) ((k : Int) - 1 - s) m' ∧ m = (k : Int) - m')) : ∃ n : Nat, m = (n : Int) ∧ Th.IsMax k (Gd h t k D) S n := by
  have tp := top_D h t D hk
  have t0 := top_lo' h t k
  have t1 := top_hi' h t hk
  have gt : ∀ s i, s < k → Gd t h k D s i = Th.dual k (Gd h t k D) s i := fun s i hs => Gd_turn hs
  have gt' : ∀ s i, s < k → Th.dual k (Gd h t k D) s i = Gd t h k D s i := fun s i hs => (Gd_turn hs).symm
  have tpd : Th.Top k (Gd t h k D) (k - 1 - (topI h t k).toNat) := by
    have q := tp.dual
    refine ⟨q.lt, fun s s' i a b g => ?_, fun s s' i a b c g => ?_⟩
    · rw [gt _ _ (by omega)]
      exact q.up s s' i a b (by rw [← gt _ _ (by omega)]; exact g)
    · rw [gt _ _ (by omega)]
      exact q.dn s s' i a b c (by rw [← gt _ _ (by omega)]; exact g)
  cases kd with
  | low =>
    obtain ⟨N, e, a, b⟩ := l
    rcases hm with ⟨_, z⟩ | ⟨z, _⟩
    · exact ⟨N, by omega, Th.stuck_min_high tp a b⟩
    · exact absurd rfl z
  | high =>
    obtain ⟨N, e, a, b⟩ := l
    rcases hm with ⟨z, _⟩ | ⟨_, m', L, em⟩
    · cases z
    · rw [show (k : Int) - 1 - s = (N : Int) by omega] at L
      obtain ⟨n, en, q⟩ := least_low r.turn tpd a (b.congr (by omega) gt') (fun m' hm' => mk_high (h := h) (t := t) (k := k) (by omega) (by omega)) L
      obtain ⟨q1, q2⟩ := (q.congr gt).co
      exact ⟨k - n, by omega, q2⟩
  | top =>
    obtain ⟨e, a⟩ := l
    rcases hm with ⟨z, _⟩ | ⟨_, m', L, em⟩
    · cases z
    · rw [show (k : Int) - 1 - s = ((k - 1 - (topI h t k).toNat : Nat) : Int) by omega] at L
      have od : Th.Open k (Gd t h k D) (k - 1 - (topI h t k).toNat) (Th.co S) := (a.dual tp).congr tp.dual.lt gt'
      obtain ⟨n, en, q⟩ := least_open r.turn tpd od (fun m' hm' => mk_high (h := h) (t := t) (k := k) (by omega) (by omega)) L
      obtain ⟨q1, q2⟩ := (q.congr gt).co
      exact ⟨k - n, by omega, q2⟩
end
end Sh

namespace Sh
open PySem PySem.Spec PyProof.Rows L2
/-! ### the program: fleets of seas, reach -/
theorem eqv_ints : ∀ ns ms : List Int, PyData.eqv (.list (ns.map .int)) (.list (ms.map .int)) = decide (ns = ms)
  | [], [] => rfl
  | [], _ :: _ => rfl
  | _ :: _, [] => rfl
  | a :: l, b :: m => by
    have e := eqv_ints l m
    show (PyData.eqv (.int a) (.int b) && PyData.eqv (.list (l.map .int)) (.list (m.map .int))) = _
    rw [e]
    show ((a == b) && decide (l = m)) = _
    rw [Bool.eq_iff_iff, Bool.and_eq_true, beq_iff_eq, decide_eq_true_eq, decide_eq_true_eq, List.cons.injEq]
theorem eqv_lot (a b : Str) (i j : Int) : PyData.eqv (.tuple [.str a, .int i]) (.tuple [.str b, .int j]) = (decide (a = b) && decide (i = j)) := by
  show ((a == b) && ((i == j) && true)) = _
  rw [Bool.and_true, Bool.eq_iff_iff, Bool.and_eq_true, Bool.and_eq_true, beq_iff_eq, beq_iff_eq, decide_eq_true_eq, decide_eq_true_eq]
theorem shaped_lot (kd : Kd) (s : Int) : SeqAt.shaped (.tuple [.str kd.str, .int s]) = true := by
  have a : PyData.canLay0 (.str kd.str) = true := by cases kd <;> decide +kernel
  have b : PyData.canLay0 (.tuple [.str kd.str, .int s]) = true := by
    show (PyData.canLay0 (.str kd.str) && (PyData.canLay0 (.int s) && true)) = true
    rw [a]
    rfl
  unfold SeqAt.shaped
  rw [b]
  rfl
def spFleetOf (K : PySem.W.Frag) : Sp := fun vs H Q _ => ∃ (v l : V) (h t : Int) (ds : List Int) (L : List Nat), vs = [v, l] ∧ SeaD K H v h t ds ∧ LotA K H l L ∧ ds.length ≤ 60 ∧ Lot ds.length L ∧
  ∀ (H' : Hp) (z : V) (ss : List Srt), Same H H' → FltA K H' z h t ss → ss.length ≤ 1000 → Rp ss ds.length (fun i => ds.getD i 0) (mem L) → Q z H'
def MaxF (h t : Int) (ss : List Srt) (m : Int) : Prop := ∃ kd s, LotF h t ss kd s ∧ ((kd = .low ∧ m = s) ∨ (kd ≠ .low ∧ ∃ m', LeastI t h (turnF ss) ((mny ss : Int) - 1 - s) m' ∧ m = (mny ss : Int) - m'))
def MinF (h t : Int) (ss : List Srt) (m : Int) : Prop := ∃ kd s, LotF h t ss kd s ∧ ((kd = .high ∧ m = s + 1) ∨ (kd ≠ .high ∧ LeastI h t ss s m))
def spFleetMost (K : PySem.W.Frag) : Sp := fun vs H Q _ => ∃ (v : V) (h t : Int) (ss : List Srt), vs = [v] ∧ FltA K H v h t ss ∧ ss.length ≤ 1000 ∧ ∀ (H' : Hp) (m : Int), Same H H' → MaxF h t ss m → Q (.int m) H'
def spFleetLeast (K : PySem.W.Frag) : Sp := fun vs H Q _ => ∃ (v : V) (h t : Int) (ss : List Srt), vs = [v] ∧ FltA K H v h t ss ∧ ss.length ≤ 1000 ∧ ∀ (H' : Hp) (m : Int), Same H H' → MinF h t ss m → Q (.int m) H'
abbrev s_fleet_of : Stmt := topS 11
theorem sc_fleet_of : FnScope (["sea", "standing", "here", "there", "draughts", "ours", "sorts", "draught", "many", "lying", "ship", "other"] : List Str) (["sea", "standing"] : List Str) (defScope s_fleet_of) := ⟨rfl, rfl, rfl, by decide +kernel, rfl, by decide +kernel, by decide +kernel⟩
theorem b_fleet_of (kV doc pm : Value) (an : Option Addr) (cdv ct : Value) (us : List Value) (hl : us.length = (["sea", "standing"] : List Str).length) : bindArgs (PySem.W.fnOf "fleet_of" "fleet_of" (defArgs s_fleet_of) (defBody s_fleet_of) (defScope s_fleet_of) .none kV doc pm an cdv ct) ⟨us, []⟩ = pure ((["sea", "standing"] : List Str).zip us) :=
  match us, hl with | [_, _], _ => rfl
abbrev s_comes_to : Stmt := topS 24
theorem sc_comes_to : FnScope (["sea", "one", "other", "lot", "mark"] : List Str) (["sea", "one", "other"] : List Str) (defScope s_comes_to) := ⟨rfl, rfl, rfl, by decide +kernel, rfl, by decide +kernel, by decide +kernel⟩
theorem b_comes_to (kV doc pm : Value) (an : Option Addr) (cdv ct : Value) (us : List Value) (hl : us.length = (["sea", "one", "other"] : List Str).length) : bindArgs (PySem.W.fnOf "comes_to" "comes_to" (defArgs s_comes_to) (defBody s_comes_to) (defScope s_comes_to) .none kV doc pm an cdv ct) ⟨us, []⟩ = pure ((["sea", "one", "other"] : List Str).zip us) :=
  match us, hl with | [_, _, _], _ => rfl
abbrev s_fast_ones : Stmt := topS 25
theorem sc_fast_ones : FnScope (["sea", "standing", "mark", "draughts", "ship"] : List Str) (["sea", "standing", "mark"] : List Str) (defScope s_fast_ones) := ⟨rfl, rfl, rfl, by decide +kernel, rfl, by decide +kernel, by decide +kernel⟩
theorem b_fast_ones (kV doc pm : Value) (an : Option Addr) (cdv ct : Value) (us : List Value) (hl : us.length = (["sea", "standing", "mark"] : List Str).length) : bindArgs (PySem.W.fnOf "fast_ones" "fast_ones" (defArgs s_fast_ones) (defBody s_fast_ones) (defScope s_fast_ones) .none kV doc pm an cdv ct) ⟨us, []⟩ = pure ((["sea", "standing", "mark"] : List Str).zip us) :=
  match us, hl with | [_, _, _], _ => rfl
section
variable {P : Program} {w : World} {K : PySem.W.Frag} {mg : Str → Option Value} {base : Heap}
set_option maxHeartbeats 8000000 in
theorem ok_fleet_of {k : Nat} (D : Df K mg "fleet_of" s_fleet_of) (T : Bt mg) : Ok P w K mg base (k + 1) "fleet_of" s_fleet_of ["sea", "standing"] (spFleetOf K) := by
  refine D.ok sc_fleet_of b_fleet_of (fun vs H Q E h => ?_) (fun f cdv A outer s H vs Q E hr h => ?_)
  · obtain ⟨v, l, h, t, ds, L, rfl, _⟩ := h
    rfl
  · obtain ⟨v, l, h, t, ds, L, rfl, ⟨p, q, rfl, hp, hq⟩, ⟨pl, rfl, hl⟩, d1, hL, k⟩ := h
    have ll := hL.len
    refine ⟨_, (pss_cons (ps_asg (pv 0) (pg_seq rfl (pgs_cons (pg_name (i := 2) sc_fleet_of.nd rfl (.inl rfl)) (pgs_cons (pg_name (i := 3) sc_fleet_of.nd rfl (.inl rfl)) (pgs_cons (pg_name (i := 4) sc_fleet_of.nd rfl (.inr rfl)) pgs_nil)))))
      (pss_cons (ps_setLc (i := 5) (own := [("ship", 10)]) (g := (gName 10)) (tt := tYes) (by rfl) sc_fleet_of.nd rfl rfl (sw_true rfl rfl rfl (by decide +kernel)) (pi_seq (pv 1)) (blkOk_by (own := [("ship", 10)]) (N := (["sea", "standing", "here", "there", "draughts", "ours", "sorts", "draught", "many", "lying", "ship", "other"] : List Str)) (sc := defScope s_fleet_of) (by decide +kernel)) (fun _ _ _ _ _ => (pg_name (i := 10) sc_fleet_of.nd rfl (.inl rfl))) (fun _ _ _ _ _ => pts_nil) (fun _ _ _ _ _ => (pe_ix (ix_ltK K) (pv 4) (pv 10) (fun _ _ => rfl))))
      (pss_cons (ps_set (i := 6) sc_fleet_of.nd rfl (.inl rfl) (pe_lst pa_nil))
      (pss_cons (ps_for PassesOwn.never rfl (pi_seq (pe_callB (cr_sortedSetw w rfl) (by rfl) T.sorted_ (by decide +kernel) (pa_cons (pe_callTy (cr_setTw w rfl) (by rfl) T.set_ (by decide +kernel) (pa_cons (pv 4) pa_nil)) pa_nil))) (pg_name (i := 7) sc_fleet_of.nd rfl (.inr rfl))
        (pss_cons (ps_set (i := 8) sc_fleet_of.nd rfl (.inl rfl) (pe_callB call_len_seq (by rfl) T.len_ PySem.boot_len (pa_cons (pe_lc (own := [("other", 11)]) (g := (gName 11)) (by rfl) sc_fleet_of.nd (pi_seq (pv 4)) (blkOk_by (own := [("other", 11)]) (N := (["sea", "standing", "here", "there", "draughts", "ours", "sorts", "draught", "many", "lying", "ship", "other"] : List Str)) (sc := defScope s_fleet_of) (by decide +kernel)) (fun _ _ _ _ _ => (pg_name (i := 11) sc_fleet_of.nd rfl (.inl rfl))) (fun _ _ _ _ _ => (pts_one (pt_cmpR op_eq (pv 11) (pv 7) (nomark _)))) (fun _ _ _ _ _ => (pv 11))) pa_nil)))
          (pss_cons (ps_set (i := 9) sc_fleet_of.nd rfl (.inl rfl) (pe_callB call_len_seq (by rfl) T.len_ PySem.boot_len (pa_cons (pe_lc (own := [("other", 11)]) (g := (gName 11)) (by rfl) sc_fleet_of.nd (pi_seq (pv 5)) (blkOk_by (own := [("other", 11)]) (N := (["sea", "standing", "here", "there", "draughts", "ours", "sorts", "draught", "many", "lying", "ship", "other"] : List Str)) (sc := defScope s_fleet_of) (by decide +kernel)) (fun _ _ _ _ _ => (pg_name (i := 11) sc_fleet_of.nd rfl (.inl rfl))) (fun _ _ _ _ _ => (pts_one (pt_cmpR op_eq (pv 11) (pv 7) (nomark _)))) (fun _ _ _ _ _ => (pv 11))) pa_nil)))
          (pss_one (ps_expr (pe_bm PySem.F.plainAttrs_list PySem.F.slot_list_append PySem.F.type_list_append mt_append (pv 6) (pa_cons (pe_tup (pa_cons (pv 7) (pa_cons (pv 9) (pa_cons (pe_op op_sub (pv 8) (pv 9)) pa_nil)))) pa_nil)))))))
      (pss_one (ps_ret (pe_tup (pa_cons (pv 2) (pa_cons (pv 3) (pa_cons (pe_callTy call_tuple_of (by rfl) T.tuple_ (by decide +kernel) (pa_cons (pv 6) pa_nil)) pa_nil)))))))))), ?_⟩
    refine ⟨_, rfl, p, _, rfl, hp, rfl, _, _, rfl, _, _, rfl, _, _, rfl, rfl, ?_⟩
    -- ours
    refine ⟨_, rfl, pl, _, H, rfl, hl, Kp.refl _ _, fun J hJ C nC => ?_⟩
    obtain ⟨G, g, W⟩ := hJ.walk
    refine lc_it W (fun i H' => Same H H' ∧ H' C = some (.lst (((L.take i).map fun j => ds.getD j 0).map V.int))) ⟨same_new nC, upd_same⟩ (fun i H' _ z => g H' (.ofS z.1)) ?_ ?_
    · rintro i x H1 H2 hi ⟨sm, hC⟩ ⟨rfl, gx⟩
      rw [ni_len] at hi
      obtain rfl : .int ((L[i] : Nat) : Int) = x := Option.some.inj ((ni_get hi).symm.trans gx)
      have hlt := hL.lt L[i] (List.getElem_mem hi)
      refine ⟨rfl, tyes (iteT ⟨_, rfl, _, rfl, q, _, _, .int (ds.getD L[i] 0), rfl, rfl, .inr (Same.tup sm hq), at_nat rfl (by simp [hlt]), _, hC, ?_, same_over sm nC, ?_⟩)⟩
      · rw [List.length_map, List.length_map, List.length_take]
        exact small1000 (by omega)
      · rw [upd_same, take_succ_get hi, List.map_append, List.map_append]
        rfl
    rintro H1 ⟨s1, hC⟩
    rw [ni_len, List.take_length] at hC
    -- sorts
    refine ⟨Nat.zero_le _, fun F nF => ?_⟩
    have s2 : Same H1 (upd H1 F (.lst [])) := same_new nF
    have e2 : upd H1 F (.lst []) F = some (.lst []) := upd_same
    have nF0 : H F = none := s1.free nF
    have CF : C ≠ F := ne_of_none hC nF
    generalize upd H1 F (.lst []) = H2 at s2 e2
    have s02 := s1.trans s2
    refine ⟨_, rfl, q, ds, rfl, Same.tup s02 hq, by omega, fun a c na hc => ?_⟩
    refine ⟨a, _, c, rfl, upd_same, by omega, fun ns b up hm hlen nb => ?_⟩
    have sA : Same H2 (upd H2 a (SetO w a (fun j => decide (j ∈ ds)) c)) := same_new na
    have sB := sA.trans (same_new nb (o := .lst (ns.map V.int)))
    have eb : upd (upd H2 a (SetO w a (fun j => decide (j ∈ ds)) c)) b (.lst (ns.map V.int)) b = some (.lst (ns.map V.int)) := upd_same
    generalize upd (upd H2 a (SetO w a (fun j => decide (j ∈ ds)) c)) b (.lst (ns.map V.int)) = H3 at sB eb
    have s03 := s02.trans sB
    have hC3 := sB _ _ (s2 _ _ hC)
    have hF3 := sB _ _ e2
    have bF : b ≠ F := fun e => by
      subst e
      rw [sA _ _ e2] at nb
      cases nb
    have nn : ns.Nodup := up.imp fun z => by omega
    refine ⟨b, _, H3, rfl, SqA.l eb, Kp.refl _ _, fun J2 hJ2 => ?_⟩
    obtain ⟨G2, g2, W2⟩ := hJ2.walk
    refine for_it W2 (fun i σ H' => ∃ (y7 y8 y9 : Option V) (us : List Addr), σ = [some (.ref p), some (.ref pl), some (.int h), some (.int t), some (.ref q), some (.ref C), some (.ref F), y7, y8, y9, none, none] ∧ Same H H' ∧ H' C = some (.lst ((L.map fun j => ds.getD j 0).map V.int)) ∧ H' b = some (.lst (ns.map V.int)) ∧ H' F = some (.lst (us.map V.ref)) ∧ SrtsN H' us (sortsOf ds L (ns.take i)))
      ⟨none, none, none, [], rfl, s03, hC3, eb, hF3, rfl, fun i r x a _ => by simp at a⟩ (fun i σ H' _ ⟨_, _, _, _, _, _, _, z, _⟩ => g2 H' fun o e => by rw [eb] at e; cases e; exact z) ?_ ?_
    · rintro i x σ H5' H4 hi ⟨y7, y8, y9, us, rfl, s4, hC4, hb4, hF4, hu4⟩ ⟨rfl, gx⟩
      rw [List.length_map] at hi
      obtain rfl : .int ns[i] = x := by
        have g3 : (ns.map V.int)[i]? = some (.int ns[i]) := by simp [hi]
        exact Option.some.inj (g3.symm.trans gx)
      have f : ∀ (xs : List Int) (j : Nat) (hj : j < xs.length), ((xs.take (j + 1)).filter fun o => decide (o = ns[i])) = ((xs.take j).filter fun o => decide (o = ns[i])) ++ (if xs[j] = ns[i] then [xs[j]] else []) := fun xs j hj => by
        rw [take_succ_get hj, List.filter_append]
        congr 1
        by_cases c : xs[j] = ns[i]
        · rw [if_pos c, List.filter_cons_of_pos (by simpa using c)]; rfl
        · rw [if_neg c, List.filter_cons_of_neg (by simpa using c)]; rfl
      have fl : ∀ (xs : List Int) (j : Nat), xs.length ≤ 60 → (((xs.take j).filter fun o => decide (o = ns[i])).map V.int).length < sizeLine := fun xs j hx => by
        have h1 := List.length_filter_le (fun o => decide (o = ns[i])) (xs.take j)
        rw [List.length_take] at h1
        rw [List.length_map]
        exact small1000 (by omega)
      -- many
      refine ⟨_, rfl, q, _, H4, rfl, .inr (Same.tup s4 hq), Kp.refl _ _, fun J3 hJ3 M nM => ?_⟩
      obtain ⟨G3, g3, W3⟩ := hJ3.walk
      refine lc_it W3 (fun j H' => Same H4 H' ∧ H' M = some (.lst (((ds.take j).filter fun o => decide (o = ns[i])).map V.int))) ⟨same_new nM, upd_same⟩ (fun j H' _ z => g3 H' (.ofS z.1)) ?_ ?_
      · rintro j x H5 H6 hj ⟨sm, hM⟩ ⟨rfl, gx2⟩
        rw [List.length_map] at hj
        obtain rfl : .int ds[j] = x := by
          have g4 : (ds.map V.int)[j]? = some (.int ds[j]) := by simp [hj]
          exact Option.some.inj (g4.symm.trans gx2)
        refine ⟨rfl, _, rfl, _, rfl, rfl, _, rfl, ite2 (fun c => ?_) (fun c => ?_)⟩
        · have c0 : ds[j] = ns[i] := V.int.inj (of_decide_eq_true c)
          refine ⟨_, rfl, _, hM, fl ds j d1, same_over sm nM, ?_⟩
          rw [upd_same, f ds j hj, if_pos c0, List.map_append]
          rfl
        · have c0 : ¬ ds[j] = ns[i] := fun z => c (decide_eq_true (by rw [z]))
          refine ⟨sm, ?_⟩
          rw [hM, f ds j hj, if_neg c0, List.append_nil]
      rintro H5 ⟨s5, hM⟩
      rw [List.length_map, List.take_length] at hM
      refine ⟨M, _, rfl, .inl (SqL.of hM), ?_⟩
      -- lying
      refine ⟨_, rfl, C, _, H5, rfl, SqA.l (s5 _ _ hC4), Kp.refl _ _, fun J4 hJ4 N nN => ?_⟩
      obtain ⟨G4, g4, W4⟩ := hJ4.walk
      have lo : (L.map fun j => ds.getD j 0).length ≤ 60 := by rw [List.length_map]; omega
      refine lc_it W4 (fun j H' => Same H5 H' ∧ H' N = some (.lst ((((L.map fun j => ds.getD j 0).take j).filter fun o => decide (o = ns[i])).map V.int))) ⟨same_new nN, upd_same⟩ (fun j H' _ z => g4 H' (.ofS z.1)) ?_ ?_
      · rintro j x H6 H7 hj ⟨sm, hN⟩ ⟨rfl, gx2⟩
        rw [List.length_map] at hj
        obtain rfl : .int (L.map fun j => ds.getD j 0)[j] = x := by
          have g5 : ((L.map fun j => ds.getD j 0).map V.int)[j]? = some (.int (L.map fun j => ds.getD j 0)[j]) := by rw [List.getElem?_map, List.getElem?_eq_getElem hj]; rfl
          exact Option.some.inj (g5.symm.trans gx2)
        refine ⟨rfl, _, rfl, _, rfl, rfl, _, rfl, ite2 (fun c => ?_) (fun c => ?_)⟩
        · have c0 : (L.map fun j => ds.getD j 0)[j] = ns[i] := V.int.inj (of_decide_eq_true c)
          refine ⟨_, rfl, _, hN, fl _ j lo, same_over sm nN, ?_⟩
          rw [upd_same, f _ j hj, if_pos c0, List.map_append]
          rfl
        · have c0 : ¬ (L.map fun j => ds.getD j 0)[j] = ns[i] := fun z => c (decide_eq_true (by rw [z]))
          refine ⟨sm, ?_⟩
          rw [hN, f _ j hj, if_neg c0, List.append_nil]
      rintro H6 ⟨s6, hN⟩
      rw [List.length_map, List.take_length] at hN
      refine ⟨N, _, rfl, .inl (SqL.of hN), ?_⟩
      have s46 := s5.trans s6
      have hF6 := s46 _ _ hF4
      -- sorts.append
      refine ⟨_, rfl, .inl ⟨rfl, _, SqL.of hF6⟩, _, rfl, _, rfl, _, rfl, _, rfl, _, _, rfl, rfl, (by show 3 ≤ sizeLine; decide), fun u nu => ?_⟩
      have lu : us.length = i := by
        rw [hu4.1]
        unfold sortsOf
        rw [List.length_map, List.length_take]
        omega
      refine ⟨F, _, _, rfl, rfl, same_new nu _ _ hF6, ?_, _, _, _, us ++ [u], rfl, same_over ((s4.trans s46).trans (same_new nu)) nF0, ?_, ?_, ?_, ?_⟩
      · rw [List.length_map, lu]
        exact small1000 (by omega)
      · rw [upd_ne CF]
        exact same_new nu _ _ (s46 _ _ hC4)
      · rw [upd_ne bF]
        exact same_new nu _ _ (s46 _ _ hb4)
      · rw [upd_same, List.map_append]
        rfl
      · have e : sortsOf ds L (ns.take (i + 1)) = sortsOf ds L (ns.take i) ++ [(ns[i], ((L.map fun i => ds.getD i 0).filter fun o => decide (o = ns[i])).length, (ds.filter fun o => decide (o = ns[i])).length - ((L.map fun i => ds.getD i 0).filter fun o => decide (o = ns[i])).length)] := by
          unfold sortsOf
          rw [take_succ_get hi, List.map_append]
          rfl
        rw [e]
        refine ((hu4.same s46).push' (x := (ns[i], ((L.map fun i => ds.getD i 0).filter fun o => decide (o = ns[i])).length, (ds.filter fun o => decide (o = ns[i])).length - ((L.map fun i => ds.getD i 0).filter fun o => decide (o = ns[i])).length)) nu ?_).put (same_new nu _ _ hF6)
        have le := lying_le hL ns[i]
        unfold SrtV
        rw [List.length_map, List.length_map]
        dsimp only
        rw [show (((ds.filter fun o => decide (o = ns[i])).length - ((L.map fun i => ds.getD i 0).filter fun o => decide (o = ns[i])).length : Nat) : Int) = ((ds.filter fun o => decide (o = ns[i])).length : Int) - (((L.map fun i => ds.getD i 0).filter fun o => decide (o = ns[i])).length : Int) by omega]
    · rintro σ H4 ⟨y7, y8, y9, us, rfl, s4, hC4, hb4, hF4, hu4⟩
      rw [List.length_map, List.take_length] at hu4
      refine ⟨_, rfl, _, rfl, _, rfl, F, _, rfl, .inl ⟨SqL.of hF4, fun a2 na2 => ⟨(by show 3 ≤ sizeLine; decide), fun b2 nb2 => ?_⟩⟩⟩
      have sa2 : Same H4 (upd H4 a2 (.tup (us.map V.ref))) := same_new na2
      have sb2 := sa2.trans (same_new nb2 (o := .tup [.int h, .int t, .ref a2]))
      refine k _ _ (sortsOf ds L ns) (s4.trans sb2) ⟨b2, a2, us, rfl, SqA.t upd_same, SqA.t (same_new nb2 _ _ upd_same), (hu4.same sb2).a⟩ ?_ (sorts_rp hL nn fun d hd => (hm d).mpr (decide_eq_true hd))
      unfold sortsOf
      rw [List.length_map, hlen]
      omega
def spFast (K : PySem.W.Frag) : Sp := fun vs H Q _ => ∃ (v l : V) (h t m : Int) (ds : List Int) (L : List Nat), vs = [v, l, .int m] ∧ SeaA K H v h t ds ∧ LotA K H l L ∧ ds.length ≤ 1000 ∧ Lot ds.length L ∧ ∀ (H' : Hp) (p : Addr), Same H H' → H p = none → H' p = some (.lst (ni (L.filter fun i => decide (ds.getD i 0 > m)))) → Q (.ref p) H'
theorem ok_fast {k : Nat} (D : Df K mg "fast_ones" s_fast_ones) (T : Bt mg) : Ok P w K mg base (k + 1) "fast_ones" s_fast_ones ["sea", "standing", "mark"] (spFast K) := by
  refine D.ok sc_fast_ones b_fast_ones (fun vs H Q E h => ?_) (fun f cdv A outer s H vs Q E hr h => ?_)
  · obtain ⟨v, l, h, t, m, ds, L, rfl, _⟩ := h
    rfl
  · obtain ⟨v, l, h, t, m, ds, L, rfl, ⟨p, q, rfl, hp, hq⟩, ⟨pl, rfl, hl⟩, d1, hL, k⟩ := h
    have ll := hL.len
    refine ⟨_, (pss_cons (ps_set (i := 3) sc_fast_ones.nd rfl (.inr rfl) (pe_ix ix_lt (pv 0) pe_int (fun _ _ => rfl)))
      (pss_one (ps_ret (pe_lc (own := [("ship", 4)]) (g := (gName 4)) (by rfl) sc_fast_ones.nd (pi_seq (pv 1)) (blkOk_by (own := [("ship", 4)]) (N := (["sea", "standing", "mark", "draughts", "ship"] : List Str)) (sc := defScope s_fast_ones) (by decide +kernel)) (fun _ _ _ _ _ => (pg_name (i := 4) sc_fast_ones.nd rfl (.inl rfl))) (fun _ _ _ _ _ => (pts_one (pt_cmpR op_gt (pe_ix (ix_ltK K) (pv 3) (pv 4) (fun _ _ => rfl)) (pv 2) (nomark _)))) (fun _ _ _ _ _ => (pv 4)))))), ?_⟩
    refine ⟨_, rfl, p, _, 2, .ref q, rfl, rfl, hp, rfl, ?_⟩
    refine ⟨_, rfl, pl, _, H, rfl, hl, Kp.refl _ _, fun J hJ C nC => ?_⟩
    obtain ⟨G, g, W⟩ := hJ.walk
    refine lc_it W (fun j H' => Same H H' ∧ H' C = some (.lst (ni ((L.take j).filter fun i => decide (ds.getD i 0 > m))))) ⟨same_new nC, upd_same⟩ (fun j H' _ z => g H' (.ofS z.1)) ?_ ?_
    · rintro j x H1 H2 hj ⟨sm, hC⟩ ⟨rfl, gx⟩
      rw [ni_len] at hj
      obtain rfl : .int ((L[j] : Nat) : Int) = x := Option.some.inj ((ni_get hj).symm.trans gx)
      have hlt := hL.lt L[j] (List.getElem_mem hj)
      refine ⟨rfl, _, rfl, _, rfl, q, _, _, .int (ds.getD L[j] 0), rfl, rfl, Same.sqA sm hq, at_nat rfl (by simp [hlt]), _, rfl, _, _, rfl, rfl, _, rfl, ite2 (fun c => ?_) (fun c => ?_)⟩
      · refine ⟨_, rfl, _, hC, ?_, same_over sm nC, ?_⟩
        · rw [ni_len]
          have h1 := List.length_filter_le (fun i => decide (ds.getD i 0 > m)) (L.take j)
          rw [List.length_take] at h1
          exact small1000 (by omega)
        · rw [upd_same, take_succ_get hj, List.filter_append, ni_app, List.filter_cons_of_pos (p := fun i => decide (ds.getD i 0 > m)) c]
          rfl
      · refine ⟨sm, ?_⟩
        rw [hC, take_succ_get hj, List.filter_append, List.filter_cons_of_neg (p := fun i => decide (ds.getD i 0 > m)) c]
        simp
    · rintro H1 ⟨sm, hC⟩
      rw [ni_len, List.take_length] at hC
      exact k H1 C sm nC hC
theorem fast_eq {c : Nat} {L M : List Nat} (hL : Lot c L) (hM : Lot c M) (f : Nat → Bool) : (L.filter f).map (fun (i : Nat) => (i : Int)) = (M.filter f).map (fun (i : Nat) => (i : Int)) ↔ ∀ i, i < c → f i = true → mem M i = mem L i := by
  have fm : ∀ (X : List Nat) i, mem (X.filter f) i = (mem X i && f i) := fun X i => by
    unfold mem
    rw [Bool.eq_iff_iff, decide_eq_true_eq, List.mem_filter, Bool.and_eq_true, decide_eq_true_eq]
  constructor
  · intro e i hi hf
    have e2 := congrArg (List.map Int.toNat) e
    rw [List.map_map, List.map_map] at e2
    have e3 : (Int.toNat ∘ fun (i : Nat) => (i : Int)) = id := by
      funext i
      exact Int.toNat_natCast i
    rw [e3, List.map_id, List.map_id] at e2
    have a := fm L i
    have b := fm M i
    rw [e2, b, hf, Bool.and_true, Bool.and_true] at a
    exact a
  · intro q
    congr 1
    refine lot_ext (hL.filter _) (hM.filter _) fun i hi => ?_
    rw [fm, fm]
    cases e : f i with
    | false => rw [Bool.and_false, Bool.and_false]
    | true => rw [q i hi e]
theorem ok_comes {k : Nat} (D : Df K mg "comes_to" s_comes_to) (T : Bt mg) (O_lot_of : Ok P w K mg base k "lot_of" s_lot_of ["fleet"] (spLotOf K)) (O_fleet_of : Ok P w K mg base k "fleet_of" s_fleet_of ["sea", "standing"] (spFleetOf K))
    (O_mark_at : Ok P w K mg base k "mark_at" s_mark_at ["sea", "step"] (spMark K)) (O_fast_ones : Ok P w K mg base k "fast_ones" s_fast_ones ["sea", "standing", "mark"] (spFast K)) : Ok P w K mg base (k + 1) "comes_to" s_comes_to ["sea", "one", "other"] (spComes K) := by
  refine D.ok sc_comes_to b_comes_to (fun vs H Q E h => ?_) (fun f cdv A outer s H vs Q E hr h => ?_)
  · obtain ⟨v, l, m, h, t, ds, L, M, rfl, _⟩ := h
    rfl
  · obtain ⟨v, l, m, h, t, ds, L, M, rfl, hv, hl, hm, d1, d0, hL, hM, k⟩ := h
    have ho : ∀ i, ¬ i < ds.length → mem M i = mem L i := fun i hi => by rw [mem_out hL hi, mem_out hM hi]
    refine ⟨_, (pss_cons (ps_set (i := 3) sc_comes_to.nd rfl (.inl rfl) (pe_fn O_lot_of (hr.mono (by omega)) (pa_cons (pe_fn O_fleet_of (hr.mono (by omega)) (pa_cons (pv 0) (pa_cons (pv 1) pa_nil))) pa_nil)))
      (pss_cons (ps_if (pt_cmpR (op_neD hr.units) (pe_fn O_lot_of (hr.mono (by omega)) (pa_cons (pe_fn O_fleet_of (hr.mono (by omega)) (pa_cons (pv 0) (pa_cons (pv 2) pa_nil))) pa_nil)) (pv 3) (nomark _))
        (pss_one (ps_ret pe_bl))
        pss_nil)
      (pss_cons (ps_set (i := 4) sc_comes_to.nd rfl (.inl rfl) (pe_fn O_mark_at (hr.mono (by omega)) (pa_cons (pv 0) (pa_cons (pe_ix ix_lt (pv 3) pe_int (fun _ _ => rfl)) pa_nil))))
      (pss_one (ps_ret (pe_cmpR (op_eqD hr.units) (pe_fn O_fast_ones (hr.mono (by omega)) (pa_cons (pv 0) (pa_cons (pv 1) (pa_cons (pv 4) pa_nil)))) (pe_fn O_fast_ones (hr.mono (by omega)) (pa_cons (pv 0) (pa_cons (pv 2) (pa_cons (pv 4) pa_nil)))) (nomark _))))))), ?_⟩
    refine ⟨_, rfl, _, rfl, v, l, h, t, ds, L, rfl, hv, hl, d1, hL, fun H1 z ss s1 hz l1 r => ⟨z, h, t, ss, rfl, hz, l1, fun H2 p kd s s2 np hp lf => ?_⟩⟩
    have s02 := s1.trans s2
    have ls := lf.ships r d0
    refine ⟨_, rfl, _, rfl, v, m, h, t, ds, M, rfl, hv.same s02, hm.same s02, d1, hM, fun H3 z' ss' s3 hz' l1' r' => ⟨z', h, t, ss', rfl, hz', l1', fun H4 p' kd' s' s4 np' hp' lf' => ?_⟩⟩
    have s24 := s3.trans s4
    have s04 := s02.trans s24
    have ls' := lf'.ships r' d0
    have cm := ls.comes d0 ls' ho
    refine ⟨_, rfl, .tuple [.str kd'.str, .int s'], .tuple [.str kd.str, .int s], .tup (SqT.of hp') (.cons (.str _) (.cons (.int _) .nil)), .tup (SqT.of (s24 _ _ hp)) (.cons (.str _) (.cons (.int _) .nil)), shaped_lot _ _, shaped_lot _ _, _, rfl, ?_⟩
    rw [eqv_lot]
    by_cases e : kd = kd' ∧ s = s'
    · obtain ⟨e1, e2⟩ := e
      subst e1
      subst e2
      rw [decide_eq_true rfl, decide_eq_true rfl]
      refine iteF ?_
      refine ⟨_, rfl, _, rfl, p, _, 1, .int s, rfl, rfl, SqA.t (s24 _ _ hp), rfl, v, h, t, s, ds, rfl, (hv.same s04).a, ?_⟩
      refine ⟨_, rfl, _, rfl, _, rfl, v, l, h, t, _, ds, L, rfl, (hv.same s04).a, hl.same s04, by omega, hL, fun H5 a1 s5 na1 ha1 => ?_⟩
      have s05 := s04.trans s5
      refine ⟨_, rfl, _, rfl, _, rfl, v, m, h, t, _, ds, M, rfl, (hv.same s05).a, hm.same s05, by omega, hM, fun H6 a2 s6 na2 ha2 => ?_⟩
      refine ⟨_, _, dp_ni (s6 _ _ ha1), dp_ni ha2, shaped_ints _, shaped_ints _, ?_⟩
      rw [eqv_ints]
      refine k H6 _ (s05.trans s6) ?_
      rw [decide_eq_true_eq, fast_eq hL hM]
      refine Iff.trans ?_ cm.symm
      constructor
      · intro q
        exact ⟨⟨rfl, rfl⟩, fun i hi z => q i hi (decide_eq_true (by omega))⟩
      · rintro ⟨_, q⟩ i hi z
        have z' : ds.getD i 0 > mk h t ds.length s := of_decide_eq_true z
        exact q i hi (by show ¬ ds.getD i 0 ≤ _; omega)
    · have no : (decide (kd'.str = kd.str) && decide (s' = s)) = false := by
        rw [Bool.and_eq_false_iff, decide_eq_false_iff_not, decide_eq_false_iff_not]
        by_cases e1 : kd'.str = kd.str
        · exact .inr fun e2 => e ⟨(Kd.str_inj e1).symm, e2.symm⟩
        · exact .inl e1
      rw [no]
      refine iteT (k H4 false s04 ?_)
      exact ⟨fun z => (by cases z), fun z => absurd (cm.mp z).1 e⟩
end
end Sh

namespace Sh
open PySem PySem.Spec PyProof.Rows L2
/-! ### all that a standing comes to, layer by layer: the mathematics -/
def kL (L : List Nat) : List Key := L.map fun (i : Nat) => Sum.inl (i : Int)
theorem kL_ni (L : List Nat) : (kL L).map kV = ni L := by
  unfold kL ni
  rw [List.map_map]
  rfl
theorem kL_inj {L M : List Nat} (h : kL L = kL M) : L = M := by
  have e := congrArg (List.map fun k : Key => match k with | .inl i => i.toNat | .inr _ => 0) h
  unfold kL at e
  rw [List.map_map, List.map_map] at e
  have id' : ((fun k : Key => match k with | .inl i => i.toNat | .inr _ => 0) ∘ fun (i : Nat) => (Sum.inl (i : Int) : Key)) = id := by
    funext i
    exact Int.toNat_natCast i
  rw [id', List.map_id, List.map_id] at e
  exact e
/-- an entry: a standing, how far -/
def ent (p : List Nat × Nat) : List Key × V := (kL p.1, .int (p.2 : Int))
theorem val_none {F : List (List Nat × Nat)} {M : List Nat} : valV (F.map ent) (kL M) = none ↔ ¬ M ∈ F.map (·.1) := by
  induction F with
  | nil => exact ⟨fun _ h => (by cases h), fun _ => rfl⟩
  | cons p F ih =>
    rw [List.map_cons, List.map_cons]
    by_cases e : kL p.1 = kL M
    · rw [valV_pos e]
      exact ⟨fun h => (by cases h), fun h => absurd (by rw [kL_inj e]; exact List.mem_cons_self) h⟩
    · rw [valV_neg e, ih]
      have ne : M ≠ p.1 := fun z => e (by rw [z])
      rw [List.mem_cons]
      exact ⟨fun h z => z.elim ne h, fun h z => h (.inr z)⟩
theorem val_some {F : List (List Nat × Nat)} {M : List Nat} (h : M ∈ F.map (·.1)) : ∃ n : Nat, valV (F.map ent) (kL M) = some (.int (n : Int)) := by
  induction F with
  | nil => cases h
  | cons p F ih =>
    rw [List.map_cons]
    by_cases e : kL p.1 = kL M
    · exact ⟨p.2, by rw [valV_pos e]; rfl⟩
    · rw [valV_neg e]
      rcases List.mem_cons.mp h with z | z
      · exact absurd (by rw [z]) e
      · exact ih z
/-- all lots of so many ships -/
def allLots : Nat → List (List Nat)
  | 0 => [[]]
  | c + 1 => allLots c ++ (allLots c).map fun L => L ++ [c]
theorem allLots_len : ∀ c, (allLots c).length = 2 ^ c
  | 0 => rfl
  | c + 1 => by
    show (allLots c ++ (allLots c).map fun L => L ++ [c]).length = 2 ^ (c + 1)
    rw [List.length_append, List.length_map, allLots_len c, Nat.pow_succ]
    omega
theorem lot_all : ∀ {c : Nat} {L : List Nat}, Lot c L → L ∈ allLots c
  | 0, L, h => by
    cases L with
    | nil => exact List.mem_cons_self
    | cons a r => exact absurd (h.lt a List.mem_cons_self) (by omega)
  | c + 1, L, h => by
    show L ∈ allLots c ++ (allLots c).map fun L => L ++ [c]
    by_cases z : c ∈ L
    · refine List.mem_append.mpr (.inr (List.mem_map.mpr ⟨L.filter (fun i => decide (i < c)), lot_all ⟨h.up.filter _, fun i hi => of_decide_eq_true (List.mem_filter.mp hi).2⟩, ?_⟩))
      refine lot_ext (c := c + 1) ⟨List.pairwise_append.mpr ⟨h.up.filter _, List.pairwise_singleton _ _, fun a ha b hb => ?_⟩, fun i hi => ?_⟩ h fun i hi => ?_
      · rw [List.mem_singleton.mp hb]
        exact of_decide_eq_true (List.mem_filter.mp ha).2
      · rcases List.mem_append.mp hi with q | q
        · exact h.lt i (List.mem_filter.mp q).1
        · rw [List.mem_singleton.mp q]
          omega
      · unfold mem
        rw [decide_eq_decide, List.mem_append, List.mem_filter, List.mem_singleton, decide_eq_true_eq]
        constructor
        · rintro (q | q)
          · exact q.1
          · rw [q]; exact z
        · intro q
          by_cases e : i = c
          · exact .inr e
          · exact .inl ⟨q, by omega⟩
    · refine List.mem_append.mpr (.inl (lot_all ⟨h.up, fun i hi => ?_⟩))
      have := h.lt i hi
      have : i ≠ c := fun e => z (e ▸ hi)
      omega
theorem nodup_len {α : Type} [DecidableEq α] : ∀ {l m : List α}, l.Nodup → (∀ x ∈ l, x ∈ m) → l.length ≤ m.length
  | [], _, _, _ => Nat.zero_le _
  | a :: l, m, nd, h => by
    obtain ⟨n1, n2⟩ := List.nodup_cons.mp nd
    have ha := h a List.mem_cons_self
    have e := nodup_len (l := l) (m := m.erase a) n2 fun x hx => (List.mem_erase_of_ne (fun e : x = a => n1 (e ▸ hx))).mpr (h x (List.mem_cons_of_mem _ hx))
    rw [List.length_erase_of_mem ha] at e
    have : 0 < m.length := List.length_pos_iff.mpr (List.ne_nil_of_mem ha)
    rw [List.length_cons]
    omega
/-- what has been found so far -/
structure Lay (h t : Int) (ds : List Int) (L : List Nat) (F : List (List Nat × Nat)) : Prop where
  lot : ∀ M ∈ F.map (·.1), Lot ds.length M ∧ Rl h t ds L M
  nd : (F.map (·.1)).Nodup
  beg : L ∈ F.map (·.1)
theorem Lay.len {h t : Int} {ds : List Int} {L : List Nat} {F : List (List Nat × Nat)} (y : Lay h t ds L F) : F.length ≤ 2 ^ ds.length := by
  have := nodup_len y.nd (m := allLots ds.length) fun M hM => lot_all (y.lot M hM).1
  rw [List.length_map, allLots_len] at this
  exact this
theorem Lay.one {h t : Int} {ds : List Int} {L : List Nat} (hL : Lot ds.length L) : Lay h t ds L [(L, 0)] := ⟨fun M hM => by
  obtain rfl : M = L := List.mem_singleton.mp hM
  exact ⟨hL, .refl _⟩, by simp, List.mem_cons_self⟩
theorem Lay.add {h t : Int} {ds : List Int} {L : List Nat} {F : List (List Nat × Nat)} (y : Lay h t ds L F) {M : List Nat} {n : Nat} (a : Lot ds.length M) (b : Rl h t ds L M) (c : ¬ M ∈ F.map (·.1)) : Lay h t ds L (F ++ [(M, n)]) := by
  refine ⟨fun X hX => ?_, ?_, ?_⟩
  · rw [List.map_append] at hX
    rcases List.mem_append.mp hX with z | z
    · exact y.lot X z
    · obtain rfl : X = M := List.mem_singleton.mp z
      exact ⟨a, b⟩
  · rw [List.map_append]
    refine List.nodup_append.mpr ⟨y.nd, by simp, fun x hx z hz => ?_⟩
    have e : z = M := List.mem_singleton.mp hz
    exact fun q => c (by rw [← e, ← q]; exact hx)
  · rw [List.map_append]
    exact List.mem_append.mpr (.inl y.beg)
/-- closed under all crossings -/
def Closed (h t : Int) (ds : List Int) (X : List (List Nat)) : Prop := ∀ M ∈ X, ∀ i, i < ds.length → mayB h t ds M i = true → gone M i ∈ X
theorem Lay.all {h t : Int} {ds : List Int} {L : List Nat} {F : List (List Nat × Nat)} (y : Lay h t ds L F) (hL : Lot ds.length L) (c : Closed h t ds (F.map (·.1))) {M : List Nat} (hM : Lot ds.length M) : M ∈ F.map (·.1) ↔ Rl h t ds L M := by
  constructor
  · exact fun h => (y.lot M h).2
  · intro r
    have key : ∀ {U : Nat → Bool}, Th.Reach ds.length (Gof h t ds) (mem L) U → lotOf ds.length U ∈ F.map (·.1) := fun {U} r => by
      induction r with
      | refl =>
        rw [show lotOf ds.length (mem L) = L from lot_ext (lotOf_lot _ _) hL fun i hi => lotOf_mem hi]
        exact y.beg
      | @step B W rB st ih =>
        have eB := lotOf_eq hL rB
        have lB := lotOf_lot ds.length B
        have cB := cnt_mem lB
        rw [eB] at cB
        have fin : ∀ i, i < ds.length → Gof h t ds (if B i = true then Th.cnt ds.length B - 1 else Th.cnt ds.length B) i = true → lotOf ds.length (Th.flip B i) ∈ F.map (·.1) := fun i hi g => by
          have mb : mayB h t ds (lotOf ds.length B) i = true := by
            rw [may_May lB hi, eB]
            exact g
          have e : lotOf ds.length (Th.flip B i) = gone (lotOf ds.length B) i := lot_ext (lotOf_lot _ _) (gone_lot lB hi) fun j hj => by
            rw [lotOf_mem hj, gone_mem, eB]
          rw [e]
          exact c _ ih i hi mb
        cases st with
        | @up i hi hs hg => exact fin i hi (by rw [hs, if_neg Bool.false_ne_true]; exact hg)
        | @dn i hi hs hg => exact fin i hi (by rw [hs, if_pos rfl]; exact hg)
    have := key r
    rw [show lotOf ds.length (mem M) = M from lot_ext (lotOf_lot _ _) hM fun i hi => lotOf_mem hi] at this
    exact this
theorem shaped_lots (Ls : List (List Nat)) : SeqAt.shaped (.list (Ls.map fun M => .tuple ((M.map fun (i : Nat) => (i : Int)).map .int))) = true := by
  have a : PyData.canLayAll0 (Ls.map fun M => .tuple ((M.map fun (i : Nat) => (i : Int)).map .int)) = true ∧ PyData.depthAll (Ls.map fun M => .tuple ((M.map fun (i : Nat) => (i : Int)).map .int)) ≤ 1 := by
    induction Ls with
    | nil => exact ⟨rfl, Nat.zero_le _⟩
    | cons M Ls ih =>
      obtain ⟨l1, l2⟩ := lay_ints (M.map fun (i : Nat) => (i : Int))
      constructor
      · show (PyData.canLayAll0 ((M.map fun (i : Nat) => (i : Int)).map .int) && _) = true
        rw [l1, ih.1]
        rfl
      · show max (PyData.depthAll ((M.map fun (i : Nat) => (i : Int)).map .int) + 1) _ ≤ 1
        rw [l2]
        exact Nat.max_le.mpr ⟨Nat.le_refl _, ih.2⟩
  unfold SeqAt.shaped
  rw [show PyData.canLay0 (.list (Ls.map fun M => .tuple ((M.map fun (i : Nat) => (i : Int)).map .int))) = _ from a.1, show PyData.depth (.list (Ls.map fun M => .tuple ((M.map fun (i : Nat) => (i : Int)).map .int))) = PyData.depthAll (Ls.map fun M => .tuple ((M.map fun (i : Nat) => (i : Int)).map .int)) + 1 from rfl]
  have : PyData.depthAll (Ls.map fun M => .tuple ((M.map fun (i : Nat) => (i : Int)).map .int)) + 1 ≤ 64 := by omega
  simpa using this
theorem dp_lots {K : PySem.W.Frag} {H : Hp} : ∀ {Ls : List (Addr × List Nat)}, (∀ p ∈ Ls, H p.1 = some (.tup (ni p.2))) → DpAll K H (Ls.map fun p => V.ref p.1) ((Ls.map (·.2)).map fun M => .tuple ((M.map fun (i : Nat) => (i : Int)).map .int))
  | [], _ => .nil
  | p :: Ls, h => by
    refine .cons ?_ (dp_lots fun q hq => h q (List.mem_cons_of_mem _ hq))
    have e := h p List.mem_cons_self
    rw [ni_ints] at e
    exact .tup (SqT.of e) (DpAll.ints _)
theorem eqv_lnil (Ls : List PyData) : PyData.eqv (.list Ls) (.list []) = Ls.isEmpty := by cases Ls <;> rfl
end Sh

namespace Sh
open PySem PySem.Spec PyProof.Rows L2
/-! ### comprehensions in short -/
/-- [x for x in xs if test], xs ships: those of whom the test says p -/
theorem lc_filter {σ : L2.St} {H : Hp} {C : Addr} {vs : List Nat} {i : Nat} {tt : TT} {Qd : Hp → Prop} {X : List Nat} {J : It} {G : Hp → Prop} (p : Nat → Bool) (W : Walk J (ni X).length G (YAt (ni X))) (g : ∀ H', Same H H' → G H') (nC : H C = none) (lX : X.length ≤ 1000)
    (hw : ∀ v, wipe ((wipe σ vs).set i (some v)) vs = wipe σ vs) (hv : ∀ v : V, ((wipe σ vs).set i (some v))[i]? = some (some v))
    (ht : ∀ x ∈ X, ∀ H', Same H H' → ∀ Q : Bool → Hp → Prop, Q (p x) H' → tt ((wipe σ vs).set i (some (.int (x : Int)))) H' Q) (hd : ∀ H', Same H H' → H' C = some (.lst (ni (X.filter p))) → Qd H') :
    ∃ W : Nat → Nat → Hp → Prop, (∃ m, W 0 m (upd H C (.lst []))) ∧ ∀ j m H, W j m H →
      (J.stop j H ∧ Qd H) ∨ (J.go j H ∧ ∃ Nx : Hp → Prop, (∀ H', Nx H' → ∃ m', m' < m ∧ W (j + 1) m' H') ∧ ∀ x H', J.yld j H x H' → gName i x (wipe σ vs) H' fun σ2 H2 => wipe σ2 vs = wipe σ vs ∧ tt σ2 H2 fun b H3 =>
        if b = true then tVar i σ2 H3 fun y H4 => ∃ acc, H4 C = some (.lst acc) ∧ acc.length < sizeLine ∧ Nx (upd H4 C (.lst (acc ++ [y]))) else Nx H3) := by
  refine lc_it W (fun j H' => Same H H' ∧ H' C = some (.lst (ni ((X.take j).filter p)))) ⟨same_new nC, upd_same⟩ (fun j H' _ z => g H' z.1) ?_ ?_
  · rintro j x H3 H4 hj ⟨s3, hC⟩ ⟨rfl, gx⟩
    rw [ni_len] at hj
    obtain rfl : .int ((X[j] : Nat) : Int) = x := Option.some.inj ((ni_get hj).symm.trans gx)
    refine ⟨hw _, ht X[j] (List.getElem_mem hj) _ s3 _ ?_⟩
    cases e : p X[j] with
    | true =>
      rw [if_pos rfl]
      refine ⟨_, hv _, _, hC, ?_, same_over s3 nC, ?_⟩
      · rw [ni_len]
        have h1 := List.length_filter_le p (X.take j)
        rw [List.length_take] at h1
        exact small1000 (by omega)
      · rw [upd_same, take_succ_get hj, List.filter_append, ni_app, List.filter_cons_of_pos e]
        rfl
    | false =>
      rw [if_neg Bool.false_ne_true]
      refine ⟨s3, ?_⟩
      rw [hC, take_succ_get hj, List.filter_append, List.filter_cons_of_neg (by rw [e]; exact Bool.false_ne_true)]
      simp
  · rintro H3 ⟨s3, hC⟩
    rw [ni_len, List.take_length] at hC
    exact hd H3 s3 hC
/-- all ships below n, as range walks them -/
theorem walk_rg (n : Nat) : Walk (Itr 0 n) (ni (List.range n)).length (fun _ => True) (YAt (ni (List.range n))) := by
  have e : (ni (List.range n)).length = n := by rw [ni_len, List.length_range]
  rw [e]
  refine ⟨fun _ _ hi _ => hi, fun _ _ => Nat.le_refl _, fun i H x H' hi _ y => ⟨y.1, ?_⟩⟩
  rw [ni_get (by rw [List.length_range]; exact hi), y.2, List.getElem_range, Int.zero_add]
/-- truths, one a ship: all([..]) -/
theorem lc_truths {σ : L2.St} {H : Hp} {C : Addr} {vs : List Nat} {i : Nat} {te : TE} {Qd : Hp → Prop} {X : List Nat} {J : It} {G : Hp → Prop} (W : Walk J (ni X).length G (YAt (ni X))) (g : ∀ H', Same H H' → G H') (nC : H C = none) (lX : X.length ≤ 1000)
    (hw : ∀ v, wipe ((wipe σ vs).set i (some v)) vs = wipe σ vs)
    (ht : ∀ x ∈ X, ∀ H', Same H H' → ∀ Q : V → Hp → Prop, (∀ H2, Same H' H2 → Q (.bl true) H2) → te ((wipe σ vs).set i (some (.int (x : Int)))) H' Q) (hd : ∀ H', Same H H' → H' C = some (.lst ((List.replicate X.length true).map V.bl)) → Qd H') :
    ∃ W : Nat → Nat → Hp → Prop, (∃ m, W 0 m (upd H C (.lst []))) ∧ ∀ j m H, W j m H →
      (J.stop j H ∧ Qd H) ∨ (J.go j H ∧ ∃ Nx : Hp → Prop, (∀ H', Nx H' → ∃ m', m' < m ∧ W (j + 1) m' H') ∧ ∀ x H', J.yld j H x H' → gName i x (wipe σ vs) H' fun σ2 H2 => wipe σ2 vs = wipe σ vs ∧ tYes σ2 H2 fun b H3 =>
        if b = true then te σ2 H3 fun y H4 => ∃ acc, H4 C = some (.lst acc) ∧ acc.length < sizeLine ∧ Nx (upd H4 C (.lst (acc ++ [y]))) else Nx H3) := by
  refine lc_it W (fun j H' => Same H H' ∧ H' C = some (.lst ((List.replicate j true).map V.bl))) ⟨same_new nC, upd_same⟩ (fun j H' _ z => g H' z.1) ?_ ?_
  · rintro j x H3 H4 hj ⟨s3, hC⟩ ⟨rfl, gx⟩
    rw [ni_len] at hj
    obtain rfl : .int ((X[j] : Nat) : Int) = x := Option.some.inj ((ni_get hj).symm.trans gx)
    refine ⟨hw _, tyes (iteT (ht X[j] (List.getElem_mem hj) _ s3 _ fun H5 s5 => ?_))⟩
    refine ⟨_, s5 _ _ hC, ?_, same_over (s3.trans s5) nC, ?_⟩
    · rw [List.length_map, List.length_replicate]
      exact small1000 (by omega)
    · rw [upd_same, List.replicate_succ', List.map_append]
      rfl
  · rintro H3 ⟨s3, hC⟩
    rw [ni_len] at hC
    exact hd H3 s3 hC
theorem all_true (n : Nat) : (List.replicate n true).all id = true := by simp
end Sh

namespace Sh
open PySem PySem.Spec PyProof.Rows L2
/-! ### what is told: seas and standings -/
/-- a standing told: a tuple that is read -/
def LotT (K : PySem.W.Frag) (H : Hp) (v : V) (L : List Nat) : Prop := ∃ p, v = .ref p ∧ SqT K H p (ni L)
theorem LotT.a {K : PySem.W.Frag} {H : Hp} {v : V} {L : List Nat} (h : LotT K H v L) : LotA K H v L := let ⟨p, e, q⟩ := h; ⟨p, e, .inr q⟩
theorem LotT.same {K : PySem.W.Frag} {H H' : Hp} {v : V} {L : List Nat} (h : LotT K H v L) (s : Same H H') : LotT K H' v L := let ⟨p, e, q⟩ := h; ⟨p, e, Same.tup s q⟩
theorem tup_but {K : PySem.W.Frag} {H H' : Hp} {b p : Addr} {n : Nat} {xs : List V} (q : SqT K H p xs) (x : BoxAt H b n) (u : But b H H') : SqT K H' p xs := by
  obtain ⟨ys, hb, _⟩ := x
  rcases q with (q | ⟨o, q⟩) | q
  · exact .inl (.inl (u _ _ (ne_of q hb (by intro z; cases z)) q))
  · exact .inl (.inr ⟨o, u _ _ (ne_of q hb (by intro z; cases z)) q⟩)
  · exact .inr q
theorem LotT.but {K : PySem.W.Frag} {H H' : Hp} {b : Addr} {n : Nat} {v : V} {L : List Nat} (h : LotT K H v L) (x : BoxAt H b n) (u : But b H H') : LotT K H' v L := let ⟨p, e, q⟩ := h; ⟨p, e, tup_but q x u⟩
theorem LotT.dp {K : PySem.W.Frag} {H : Hp} {v : V} {L : List Nat} (h : LotT K H v L) : Dp K H v (.tuple ((L.map fun (i : Nat) => (i : Int)).map .int)) := by
  obtain ⟨p, e, q⟩ := h
  rw [e]
  rw [ni_ints] at q
  exact .tup q (DpAll.ints _)
/-- a sea told -/
def SeaT (K : PySem.W.Frag) (H : Hp) (v : V) (h t : Int) (ds : List Int) : Prop := ∃ p q, v = .ref p ∧ SqT K H p [.int h, .int t, .ref q] ∧ SqT K H q (ds.map V.int)
theorem SeaT.a {K : PySem.W.Frag} {H : Hp} {v : V} {h t : Int} {ds : List Int} (s : SeaT K H v h t ds) : SeaA K H v h t ds := let ⟨p, q, e, a, b⟩ := s; ⟨p, q, e, .inr a, .inr b⟩
theorem SeaT.same {K : PySem.W.Frag} {H H' : Hp} {v : V} {h t : Int} {ds : List Int} (s : SeaT K H v h t ds) (e : Same H H') : SeaT K H' v h t ds := let ⟨p, q, e1, a, b⟩ := s; ⟨p, q, e1, Same.tup e a, Same.tup e b⟩
theorem SeaT.but {K : PySem.W.Frag} {H H' : Hp} {b : Addr} {n : Nat} {v : V} {h t : Int} {ds : List Int} (s : SeaT K H v h t ds) (x : BoxAt H b n) (u : But b H H') : SeaT K H' v h t ds := let ⟨p, q, e1, a, c⟩ := s; ⟨p, q, e1, tup_but a x u, tup_but c x u⟩
theorem SeaT.dp {K : PySem.W.Frag} {H : Hp} {v : V} {h t : Int} {ds : List Int} (s : SeaT K H v h t ds) : Dp K H v (.tuple [.int h, .int t, .tuple (ds.map .int)]) := by
  obtain ⟨p, q, e, a, b⟩ := s
  rw [e]
  exact .tup a (.cons (.int _) (.cons (.int _) (.cons (.tup b (DpAll.ints _)) .nil)))
theorem lv_sea {n : Nat} {h t : Int} {ds : List Int} (l : ds.length ≤ 100000) : Lv (n + 3) (.tuple [.int h, .int t, .tuple (ds.map .int)]) := ⟨by show 3 ≤ 100000; decide, fun e he => by
  rcases List.mem_cons.mp he with z | z
  · rw [z]; exact trivial
  · rcases List.mem_cons.mp z with z | z
    · rw [z]; exact trivial
    · rw [List.mem_singleton.mp z]; exact lv_intsT _ l⟩
theorem lv_lot {n : Nat} {L : List Nat} (l : L.length ≤ 100000) : Lv (n + 2) (.tuple ((L.map fun (i : Nat) => (i : Int)).map .int)) := lv_intsT _ (by rw [List.length_map]; exact l)
end Sh

namespace Sh
open PySem PySem.Spec PyProof.Rows L2
theorem eqv_tup : ∀ ns ms : List Int, PyData.eqv (.tuple (ns.map .int)) (.tuple (ms.map .int)) = decide (ns = ms)
  | [], [] => rfl
  | [], _ :: _ => rfl
  | _ :: _, [] => rfl
  | n :: ns, m :: ms => by
    show ((n == m) && PyData.eqv (.tuple (ns.map .int)) (.tuple (ms.map .int))) = _
    rw [eqv_tup ns ms, Bool.eq_iff_iff, Bool.and_eq_true, beq_iff_eq, decide_eq_true_eq, decide_eq_true_eq]
    exact ⟨fun ⟨a, b⟩ => by rw [a, b], fun e => by injection e with a b; exact ⟨a, b⟩⟩
theorem shaped_tup (ns : List Int) : SeqAt.shaped (.tuple (ns.map .int)) = true := by
  have := shaped_ints ns
  exact this
theorem dp_niT {K : PySem.W.Frag} {H : Hp} {a : Addr} {L : List Nat} (h : SqT K H a (ni L)) : Dp K H (.ref a) (.tuple ((L.map fun (i : Nat) => (i : Int)).map .int)) := .tup h (by rw [ni_ints]; exact DpAll.ints _)
theorem ni_map_inj {L M : List Nat} : (L.map fun (i : Nat) => (i : Int)) = (M.map fun (i : Nat) => (i : Int)) ↔ L = M := by
  constructor
  · intro e
    have := congrArg (List.map Int.toNat) e
    rw [List.map_map, List.map_map, show (Int.toNat ∘ fun (i : Nat) => (i : Int)) = id from rfl, List.map_id, List.map_id] at this
    exact this
  · intro e
    rw [e]
theorem eqv_niT (L M : List Nat) : PyData.eqv (.tuple ((L.map fun (i : Nat) => (i : Int)).map .int)) (.tuple ((M.map fun (i : Nat) => (i : Int)).map .int)) = decide (L = M) := by
  rw [eqv_tup, Bool.eq_iff_iff, decide_eq_true_eq, decide_eq_true_eq]
  exact ni_map_inj
end Sh

namespace Th
/-! ### bars -/
section
variable {k : Nat} {G : Nat → Nat → Bool} {S U : Nat → Bool}
theorem under_stuck {N : Nat} (h0 : cnt k S ≤ N) (h1 : cnt k (fun i => S i || G N i) ≤ N) : ∃ n, n ≤ N ∧ StuckLow k G n S := by
  rcases stuck_or (k := k) (G := G) (S := S) (N + 1) with ⟨n, hn, st⟩ | no
  · exact ⟨n, by omega, st⟩
  · have := no N h0 (by omega)
    omega
/-- it lies under the bar that S is stuck at -/
def Under (k : Nat) (G : Nat → Nat → Bool) (N : Nat) (S U : Nat → Bool) : Prop := cnt k U ≤ N ∧ ∀ i, i < k → (U i || G N i) = (S i || G N i)
theorem Under.cnt {N : Nat} (u : Under k G N S U) : cnt k (fun i => U i || G N i) = cnt k (fun i => S i || G N i) := cnt_congr u.2
theorem low_part {N T : Nat} (t : Top k G T) (hN : N ≤ T) (st : StuckLow k G N S) (ho : ∀ i, ¬ i < k → U i = S i) (no : ¬ Reach k G S U) (u : Under k G N S U) : ∃ n, n < N ∧ StuckLow k G n U ∧ ¬ Under k G n U S := by
  have c := u.cnt
  obtain ⟨n, hn, su⟩ := under_stuck u.1 (by rw [c]; exact st.2.2)
  by_cases e : n = N
  · subst e
    exact absurd ((st.iff t hN ho).mpr ⟨su, u.2⟩) no
  · refine ⟨n, by omega, su, fun v => ?_⟩
    have c2 := v.cnt
    have := st.2.1 n v.1 (by omega)
    have := su.2.2
    omega
theorem StuckLow.self {N : Nat} (st : StuckLow k G N S) : Under k G N S S := ⟨st.1, fun _ _ => rfl⟩
end
end Th
namespace Sh
open PySem PySem.Spec PyProof.Rows L2
def goB (h t : Int) (ds : List Int) (s : Int) (i : Nat) : Bool := decide (ds.getD i 0 ≤ mk h t ds.length s)
def fillL (h t : Int) (ds : List Int) (X : List Nat) (s : Int) : List Nat := lotOf ds.length fun i => mem X i || goB h t ds s i
def emptL (h t : Int) (ds : List Int) (X : List Nat) (s : Int) : List Nat := lotOf ds.length fun i => mem X i && !goB h t ds s i
def underB (h t : Int) (ds : List Int) (s : Int) (F L : List Nat) : Bool := decide ((L.length : Int) ≤ s) && decide (fillL h t ds L s = F)
def aboveB (h t : Int) (ds : List Int) (s : Int) (F L : List Nat) : Bool := decide (s < (L.length : Int)) && decide (emptL h t ds L s = F)
def lowSB (h t : Int) (ds : List Int) (s : Int) (F L M : List Nat) : Bool := (List.range ds.length).all (fun e => !(decide ((e : Int) < s) && decide (mk h t ds.length (e : Int) > mk h t ds.length s))) && (decide ((F.length : Int) = s) && (decide (fillL h t ds F s = F) && (underB h t ds s F L != underB h t ds s F M)))
def highSB (h t : Int) (ds : List Int) (s : Int) (F L M : List Nat) : Bool := (List.range ds.length).all (fun e => !(decide (s < (e : Int)) && decide (mk h t ds.length (e : Int) > mk h t ds.length s))) && (decide ((F.length : Int) = s + 1) && (decide (emptL h t ds F s = F) && (aboveB h t ds s F L != aboveB h t ds s F M)))
def fastSB (h t : Int) (ds : List Int) (g : Nat) (L M : List Nat) : Bool := decide (ds.getD g 0 > mk h t ds.length (topI h t ds.length)) && (mem L g != mem M g)
/-- a bar, as it is told -/
inductive BarV where
  | low (s : Nat) (F : List Nat)
  | high (s : Nat) (F : List Nat)
  | fast (g : Nat)
def BarV.ok (h t : Int) (ds : List Int) (L M : List Nat) : BarV → Bool
  | .low s F => lowSB h t ds s F L M
  | .high s F => highSB h t ds s F L M
  | .fast g => fastSB h t ds g L M
/-- the bars that part a standing's lot from others -/
def barsOf (h t : Int) (ds : List Int) (L : List Nat) : Kd → Int → List BarV
  | .low, s => [.low s.toNat (fillL h t ds L s)]
  | .high, s => [.high s.toNat (emptL h t ds L s)]
  | .top, s => ((List.range ds.length).filter fun g => !goB h t ds s g).map .fast
section
variable {h t : Int} {ds : List Int} {L M F : List Nat}
theorem fill_lot (X : List Nat) (s : Int) : Lot ds.length (fillL h t ds X s) := lotOf_lot _ _
theorem empt_lot (X : List Nat) (s : Int) : Lot ds.length (emptL h t ds X s) := lotOf_lot _ _
theorem fill_mem {X : List Nat} {s : Int} {i : Nat} (hi : i < ds.length) : mem (fillL h t ds X s) i = (mem X i || goB h t ds s i) := lotOf_mem hi
theorem empt_mem {X : List Nat} {s : Int} {i : Nat} (hi : i < ds.length) : mem (emptL h t ds X s) i = (mem X i && !goB h t ds s i) := lotOf_mem hi
theorem fill_eq {X Y : List Nat} {s : Int} : fillL h t ds X s = fillL h t ds Y s ↔ ∀ i, i < ds.length → (mem X i || goB h t ds s i) = (mem Y i || goB h t ds s i) := by
  constructor
  · intro e i hi
    rw [← fill_mem (X := X) hi, ← fill_mem (X := Y) hi, e]
  · intro e
    refine lot_ext (fill_lot _ _) (fill_lot _ _) fun i hi => ?_
    rw [fill_mem hi, fill_mem hi, e i hi]
theorem empt_eq {X Y : List Nat} {s : Int} : emptL h t ds X s = emptL h t ds Y s ↔ ∀ i, i < ds.length → (mem X i && !goB h t ds s i) = (mem Y i && !goB h t ds s i) := by
  constructor
  · intro e i hi
    rw [← empt_mem (X := X) hi, ← empt_mem (X := Y) hi, e]
  · intro e
    refine lot_ext (empt_lot _ _) (empt_lot _ _) fun i hi => ?_
    rw [empt_mem hi, empt_mem hi, e i hi]
theorem fill_len (X : List Nat) (s : Int) : (fillL h t ds X s).length = Th.cnt ds.length (fun i => mem X i || goB h t ds s i) := by
  rw [← cnt_mem (fill_lot X s)]
  exact Th.cnt_congr fun i hi => fill_mem hi
theorem empt_len (X : List Nat) (s : Int) : (emptL h t ds X s).length = Th.cnt ds.length (fun i => mem X i && !goB h t ds s i) := by
  rw [← cnt_mem (empt_lot X s)]
  exact Th.cnt_congr fun i hi => empt_mem hi
theorem fill_fill (X : List Nat) (s : Int) : fillL h t ds (fillL h t ds X s) s = fillL h t ds X s := by
  rw [fill_eq]
  intro i hi
  rw [fill_mem hi]
  cases mem X i <;> cases goB h t ds s i <;> rfl
theorem empt_empt (X : List Nat) (s : Int) : emptL h t ds (emptL h t ds X s) s = emptL h t ds X s := by
  rw [empt_eq]
  intro i hi
  rw [empt_mem hi]
  cases mem X i <;> cases goB h t ds s i <;> rfl
theorem goB_G {N : Nat} : goB h t ds (N : Int) = Gof h t ds N := rfl
theorem under_iff {N : Nat} {X Y : List Nat} (hY : Lot ds.length Y) : underB h t ds (N : Int) (fillL h t ds X N) Y = true ↔ Th.Under ds.length (Gof h t ds) N (mem X) (mem Y) := by
  unfold underB Th.Under
  rw [Bool.and_eq_true, decide_eq_true_eq, decide_eq_true_eq, fill_eq, cnt_mem hY]
  exact ⟨fun z => ⟨by omega, z.2⟩, fun z => ⟨by omega, z.2⟩⟩
theorem above_iff {N : Nat} {X Y : List Nat} (hN : N < ds.length) (hY : Lot ds.length Y) : aboveB h t ds ((ds.length - 1 - N : Nat) : Int) (emptL h t ds X ((ds.length - 1 - N : Nat) : Int)) Y = true ↔ Th.Under ds.length (Th.dual ds.length (Gof h t ds)) N (Th.co (mem X)) (Th.co (mem Y)) := by
  unfold aboveB Th.Under
  rw [Bool.and_eq_true, decide_eq_true_eq, decide_eq_true_eq, empt_eq]
  have c := Th.cnt_co ds.length (mem Y)
  rw [cnt_mem hY] at c
  have e : (∀ i, i < ds.length → (mem Y i && !goB h t ds ((ds.length - 1 - N : Nat) : Int) i) = (mem X i && !goB h t ds ((ds.length - 1 - N : Nat) : Int) i)) ↔ ∀ i, i < ds.length → (Th.co (mem Y) i || Th.dual ds.length (Gof h t ds) N i) = (Th.co (mem X) i || Th.dual ds.length (Gof h t ds) N i) := by
    refine forall_congr' fun i => forall_congr' fun _ => ?_
    show _ ↔ ((!mem Y i) || goB h t ds ((ds.length - 1 - N : Nat) : Int) i) = ((!mem X i) || goB h t ds ((ds.length - 1 - N : Nat) : Int) i)
    cases mem Y i <;> cases mem X i <;> cases goB h t ds ((ds.length - 1 - N : Nat) : Int) i <;> simp
  rw [e]
  exact ⟨fun z => ⟨by omega, z.2⟩, fun z => ⟨by omega, z.2⟩⟩
theorem low_shown {N : Nat} {X : List Nat} (d0 : 0 < ds.length) (st : Th.StuckLow ds.length (Gof h t ds) N (mem X)) (hN : N ≤ (topI h t ds.length).toNat) : lowSB h t ds (N : Int) (fillL h t ds X N) L M = (underB h t ds (N : Int) (fillL h t ds X N) L != underB h t ds (N : Int) (fillL h t ds X N) M) := by
  have t0 := top_lo' h t ds.length
  unfold lowSB
  have e1 : (List.range ds.length).all (fun e => !(decide ((e : Int) < (N : Int)) && decide (mk h t ds.length (e : Int) > mk h t ds.length (N : Int)))) = true := by
    refine List.all_eq_true.mpr fun e he => ?_
    rw [Bool.not_eq_true', Bool.and_eq_false_iff, decide_eq_false_iff_not, decide_eq_false_iff_not]
    by_cases c : (e : Int) < (N : Int)
    · exact .inr (by have := mk_le (h := h) (t := t) (k := ds.length) (s := (e : Int)) (s' := (N : Int)) (by omega) (by omega) (by omega); omega)
    · exact .inl c
  have e2 : ((fillL h t ds X N).length : Int) = (N : Int) := by
    rw [fill_len]
    exact congrArg _ (st.cnt_full (top_of h t ds d0) hN)
  rw [e1, e2, fill_fill, decide_eq_true rfl, decide_eq_true rfl, Bool.true_and, Bool.true_and, Bool.true_and]
theorem high_shown {N : Nat} {X : List Nat} (d0 : 0 < ds.length) (hX : Lot ds.length X) (st : Th.StuckLow ds.length (Th.dual ds.length (Gof h t ds)) N (Th.co (mem X))) (hN : N ≤ ds.length - 1 - (topI h t ds.length).toNat) :
    highSB h t ds ((ds.length - 1 - N : Nat) : Int) (emptL h t ds X ((ds.length - 1 - N : Nat) : Int)) L M = (aboveB h t ds ((ds.length - 1 - N : Nat) : Int) (emptL h t ds X ((ds.length - 1 - N : Nat) : Int)) L != aboveB h t ds ((ds.length - 1 - N : Nat) : Int) (emptL h t ds X ((ds.length - 1 - N : Nat) : Int)) M) := by
  have t0 := top_lo' h t ds.length
  have t1 := top_hi' h t d0
  unfold highSB
  have e1 : (List.range ds.length).all (fun e => !(decide (((ds.length - 1 - N : Nat) : Int) < (e : Int)) && decide (mk h t ds.length (e : Int) > mk h t ds.length ((ds.length - 1 - N : Nat) : Int)))) = true := by
    refine List.all_eq_true.mpr fun e he => ?_
    have he' := List.mem_range.mp he
    rw [Bool.not_eq_true', Bool.and_eq_false_iff, decide_eq_false_iff_not, decide_eq_false_iff_not]
    by_cases c : ((ds.length - 1 - N : Nat) : Int) < (e : Int)
    · exact .inr (by have := mk_dn (h := h) (t := t) (k := ds.length) (s := ((ds.length - 1 - N : Nat) : Int)) (s' := (e : Int)) (by omega) (by omega) (by omega); omega)
    · exact .inl c
  have e2 : ((emptL h t ds X ((ds.length - 1 - N : Nat) : Int)).length : Int) = ((ds.length - 1 - N : Nat) : Int) + 1 := by
    rw [empt_len]
    have f := st.cnt_full (top_of h t ds d0).dual hN
    have e : (fun i => Th.co (mem X) i || Th.dual ds.length (Gof h t ds) N i) = Th.co (fun i => mem X i && !goB h t ds ((ds.length - 1 - N : Nat) : Int) i) := by
      funext i
      show ((!mem X i) || goB h t ds ((ds.length - 1 - N : Nat) : Int) i) = !(mem X i && !goB h t ds ((ds.length - 1 - N : Nat) : Int) i)
      cases mem X i <;> cases goB h t ds ((ds.length - 1 - N : Nat) : Int) i <;> rfl
    rw [e] at f
    have c := Th.cnt_co ds.length (fun i => mem X i && !goB h t ds ((ds.length - 1 - N : Nat) : Int) i)
    omega
  rw [e1, e2, empt_empt, decide_eq_true rfl, decide_eq_true rfl, Bool.true_and, Bool.true_and, Bool.true_and]
theorem gd_gof : Gd h t ds.length (fun i => ds.getD i 0) = Gof h t ds := rfl
/-- where none comes to the other a bar round either is shown -/
theorem bars_ex (d0 : 0 < ds.length) (hL : Lot ds.length L) (hM : Lot ds.length M) {kd kd' : Kd} {s s' : Int} (l : LotS h t ds.length (fun i => ds.getD i 0) (mem L) kd s) (l' : LotS h t ds.length (fun i => ds.getD i 0) (mem M) kd' s') (no : ¬ Rl h t ds L M) :
    ∃ b ∈ barsOf h t ds L kd s ++ barsOf h t ds M kd' s', b.ok h t ds L M = true := by
  have tp := top_of h t ds d0
  have t0 := top_lo' h t ds.length
  have t1 := top_hi' h t d0
  have ho : ∀ i, ¬ i < ds.length → mem M i = mem L i := fun i hi => by rw [mem_out hL hi, mem_out hM hi]
  have neB : ∀ {a b : Bool}, a = true → ¬ b = true → (a != b) = true := fun {a b} x y => by
    subst x
    cases b
    · rfl
    · exact absurd rfl y
  have neB' : ∀ {a b : Bool}, ¬ a = true → b = true → (a != b) = true := fun {a b} x y => by
    subst y
    cases a
    · rfl
    · exact absurd rfl x
  -- a low one of M's that L doesn't lie under, a high one
  have lowM : ∀ {N : Nat}, N ≤ (topI h t ds.length).toNat → Th.StuckLow ds.length (Gof h t ds) N (mem M) → ¬ Th.Under ds.length (Gof h t ds) N (mem M) (mem L) → kd' = .low → s' = (N : Int) → ∃ b ∈ barsOf h t ds L kd s ++ barsOf h t ds M kd' s', b.ok h t ds L M = true := fun {N} hN st nu e1 e2 => by
    subst e1 e2
    refine ⟨.low N (fillL h t ds M N), List.mem_append_right _ (by show _ ∈ [BarV.low ((N : Int)).toNat (fillL h t ds M N)]; rw [Int.toNat_natCast]; exact List.mem_singleton.mpr rfl), ?_⟩
    show lowSB h t ds (N : Int) (fillL h t ds M N) L M = true
    rw [low_shown d0 st hN]
    exact neB' (fun z => nu ((under_iff hL).mp z)) ((under_iff hM).mpr st.self)
  have highM : ∀ {N : Nat}, N ≤ ds.length - 1 - (topI h t ds.length).toNat → Th.StuckLow ds.length (Th.dual ds.length (Gof h t ds)) N (Th.co (mem M)) → ¬ Th.Under ds.length (Th.dual ds.length (Gof h t ds)) N (Th.co (mem M)) (Th.co (mem L)) → kd' = .high → s' = (ds.length : Int) - 1 - (N : Int) → ∃ b ∈ barsOf h t ds L kd s ++ barsOf h t ds M kd' s', b.ok h t ds L M = true := fun {N} hN st nu e1 e2 => by
    have e3 : s' = ((ds.length - 1 - N : Nat) : Int) := by omega
    subst e1 e3
    refine ⟨.high (ds.length - 1 - N) (emptL h t ds M ((ds.length - 1 - N : Nat) : Int)), List.mem_append_right _ (by show _ ∈ [BarV.high (((ds.length - 1 - N : Nat) : Int)).toNat _]; rw [Int.toNat_natCast]; exact List.mem_singleton.mpr rfl), ?_⟩
    show highSB h t ds ((ds.length - 1 - N : Nat) : Int) _ L M = true
    rw [high_shown d0 hM st hN]
    exact neB' (fun z => nu ((above_iff (by omega) hL).mp z)) ((above_iff (by omega) hM).mpr st.self)
  cases kd with
  | low =>
    obtain ⟨N, e, hN, st⟩ := l
    subst e
    by_cases u : Th.Under ds.length (Gof h t ds) N (mem L) (mem M)
    · obtain ⟨n, hn, su, nu⟩ := Th.low_part tp hN st ho no u
      obtain ⟨e1, e2⟩ := LotS.uniq d0 l' (show LotS h t ds.length (fun i => ds.getD i 0) (mem M) .low (n : Int) from ⟨n, rfl, by omega, su⟩)
      exact lowM (by omega) su nu e1 e2
    · refine ⟨.low N (fillL h t ds L N), List.mem_append_left _ (by show _ ∈ [BarV.low ((N : Int)).toNat (fillL h t ds L N)]; rw [Int.toNat_natCast]; exact List.mem_singleton.mpr rfl), ?_⟩
      show lowSB h t ds (N : Int) (fillL h t ds L N) L M = true
      rw [low_shown d0 st hN]
      exact neB ((under_iff hL).mpr st.self) (fun z => u ((under_iff hM).mp z))
  | high =>
    obtain ⟨N, e, hN, st⟩ := l
    have e3 : s = ((ds.length - 1 - N : Nat) : Int) := by omega
    subst e3
    by_cases u : Th.Under ds.length (Th.dual ds.length (Gof h t ds)) N (Th.co (mem L)) (Th.co (mem M))
    · obtain ⟨n, hn, su, nu⟩ := Th.low_part tp.dual hN st (fun i hi => by show (!mem M i) = !mem L i; rw [ho i hi]) (fun z => no (Th.Reach.codual z)) u
      obtain ⟨e1, e2⟩ := LotS.uniq d0 l' (show LotS h t ds.length (fun i => ds.getD i 0) (mem M) .high ((ds.length : Int) - 1 - (n : Int)) from ⟨n, rfl, by omega, su⟩)
      exact highM (by omega) su nu e1 e2
    · refine ⟨.high (ds.length - 1 - N) (emptL h t ds L ((ds.length - 1 - N : Nat) : Int)), List.mem_append_left _ (by show _ ∈ [BarV.high (((ds.length - 1 - N : Nat) : Int)).toNat _]; rw [Int.toNat_natCast]; exact List.mem_singleton.mpr rfl), ?_⟩
      show highSB h t ds ((ds.length - 1 - N : Nat) : Int) _ L M = true
      rw [high_shown d0 hL st hN]
      exact neB ((above_iff (by omega) hL).mpr st.self) (fun z => u ((above_iff (by omega) hM).mp z))
  | top =>
    cases kd' with
    | low =>
      obtain ⟨N, e, hN, st⟩ := id l'
      refine lowM hN st (fun u => ?_) rfl e
      obtain ⟨n, hn, su⟩ := Th.under_stuck u.1 (by rw [u.cnt]; exact st.2.2)
      obtain ⟨e1, _⟩ := LotS.uniq d0 l (show LotS h t ds.length (fun i => ds.getD i 0) (mem L) .low (n : Int) from ⟨n, rfl, by omega, su⟩)
      cases e1
    | high =>
      obtain ⟨N, e, hN, st⟩ := id l'
      refine highM hN st (fun u => ?_) rfl e
      obtain ⟨n, hn, su⟩ := Th.under_stuck u.1 (by rw [u.cnt]; exact st.2.2)
      obtain ⟨e1, _⟩ := LotS.uniq d0 l (show LotS h t ds.length (fun i => ds.getD i 0) (mem L) .high ((ds.length : Int) - 1 - (n : Int)) from ⟨n, rfl, by omega, su⟩)
      cases e1
    | top =>
      have e1 := l.1
      have e2 := l'.1
      subst e1 e2
      have cm := l.comes d0 l' ho
      obtain ⟨g, hg, ng, ne⟩ : ∃ g, g < ds.length ∧ ¬ ds.getD g 0 ≤ mk h t ds.length (topI h t ds.length) ∧ mem M g ≠ mem L g := by
        refine Classical.byContradiction fun z => no (cm.mpr ⟨⟨rfl, rfl⟩, fun i hi c => ?_⟩)
        exact Classical.byContradiction fun y => z ⟨i, hi, c, y⟩
      refine ⟨.fast g, List.mem_append_left _ (List.mem_map.mpr ⟨g, List.mem_filter.mpr ⟨List.mem_range.mpr hg, ?_⟩, rfl⟩), ?_⟩
      · show (!goB h t ds (topI h t ds.length) g) = true
        unfold goB
        rw [decide_eq_false ng]
        rfl
      · show fastSB h t ds g L M = true
        unfold fastSB
        rw [decide_eq_true (by omega), Bool.true_and, bne_iff_ne]
        exact fun z => ne z.symm
end
end Sh

namespace Sh
open PySem PySem.Spec PyProof.Rows L2
/-! ### bars: the program -/
theorem rise_lot {c : Nat} {ns : List Int} {U : Nat → Bool} (up : ns.Pairwise (· < ·)) (lt : ∀ k ∈ ns, 0 ≤ k ∧ k < (c : Int)) (m : ∀ i : Nat, i < c → ((i : Int) ∈ ns ↔ U i = true)) : ns = (lotOf c U).map fun (i : Nat) => (i : Int) := by
  obtain ⟨L, rfl, hL⟩ := nat_list (c := c) (ns := ns) fun z hz => ⟨(lt z hz).1, (lt z hz).2⟩
  have pl : Lot c L := ⟨(List.pairwise_map.mp up).imp fun {a b} z => by omega, hL⟩
  congr 1
  refine lot_ext pl (lotOf_lot _ _) fun i hi => ?_
  rw [lotOf_mem hi, Bool.eq_iff_iff, ← m i hi]
  show decide (i ∈ L) = true ↔ _
  rw [decide_eq_true_eq, List.mem_map]
  exact ⟨fun z => ⟨i, z, rfl⟩, fun ⟨j, hj, e⟩ => by
    have : j = i := by omega
    exact this ▸ hj⟩
def spFillB (K : PySem.W.Frag) : Sp := fun vs H Q _ => ∃ (v l : V) (h t s : Int) (ds : List Int) (L : List Nat), vs = [v, l, .int s] ∧ SeaA K H v h t ds ∧ LotA K H l L ∧ ds.length ≤ 24 ∧ Lot ds.length L ∧
  ∀ (H' : Hp) (p : Addr), Same H H' → H p = none → H' p = some (.tup (ni (fillL h t ds L s))) → Q (.ref p) H'
def spEmptB (K : PySem.W.Frag) : Sp := fun vs H Q _ => ∃ (v l : V) (h t s : Int) (ds : List Int) (L : List Nat), vs = [v, l, .int s] ∧ SeaA K H v h t ds ∧ LotA K H l L ∧ ds.length ≤ 24 ∧ Lot ds.length L ∧
  ∀ (H' : Hp) (p : Addr), Same H H' → H p = none → H' p = some (.tup (ni (emptL h t ds L s))) → Q (.ref p) H'
theorem keys_few {c : Nat} {ks ns : List Int} {X : List Nat} (e : ns = X.map fun (i : Nat) => (i : Int)) (lt : ∀ i ∈ X, i < c) (nd : ks.Nodup) (m : ∀ k, k ∈ ks ↔ k ∈ ns) (hc : c ≤ 24) : ks.length ≤ 24 := by
  have := nodup_len nd (m := (List.range c).map fun (i : Nat) => (i : Int)) fun k hk => by
    obtain ⟨i, hi, e2⟩ := List.mem_map.mp (e ▸ (m k).mp hk)
    exact List.mem_map.mpr ⟨i, List.mem_range.mpr (lt i hi), e2⟩
  rw [List.length_map, List.length_range] at this
  omega
theorem small_keys {c : Nat} {ns : List Int} {X : List Nat} (e : ns = X.map fun (i : Nat) => (i : Int)) (lt : ∀ i ∈ X, i < c) (hc : c ≤ 24) : ∀ k : Int, decide (k ∈ ns) = true → 0 ≤ k ∧ k < 32 := fun k hk => by
  rw [decide_eq_true_eq, e] at hk
  obtain ⟨i, hi, rfl⟩ := List.mem_map.mp hk
  have := lt i hi
  omega
theorem gs_mem {m : Int} {ds : List Int} {i : Nat} (hi : i < ds.length) : i ∈ gs m ds ds.length ↔ ds.getD i 0 ≤ m := by
  unfold gs
  rw [List.mem_filter, List.mem_range, decide_eq_true_eq]
  exact ⟨fun z => z.2, fun z => ⟨hi, z⟩⟩
theorem gs_lt {m : Int} {ds : List Int} : ∀ i ∈ gs m ds ds.length, i < ds.length := fun i hi => by
  unfold gs at hi
  exact List.mem_range.mp (List.mem_filter.mp hi).1
theorem in_map {X : List Nat} {i : Nat} : ((i : Int) ∈ X.map fun (j : Nat) => (j : Int)) ↔ i ∈ X := by
  rw [List.mem_map]
  exact ⟨fun ⟨j, hj, e⟩ => by
    have : j = i := by omega
    exact this ▸ hj, fun z => ⟨i, z, rfl⟩⟩
abbrev s_filled : Stmt := topS 30
theorem sc_filled : FnScope (["sea", "standing", "step"] : List Str) (["sea", "standing", "step"] : List Str) (defScope s_filled) := ⟨rfl, rfl, rfl, by decide +kernel, rfl, by decide +kernel, by decide +kernel⟩
theorem b_filled (kV doc pm : Value) (an : Option Addr) (cdv ct : Value) (us : List Value) (hl : us.length = (["sea", "standing", "step"] : List Str).length) : bindArgs (PySem.W.fnOf "filled" "filled" (defArgs s_filled) (defBody s_filled) (defScope s_filled) .none kV doc pm an cdv ct) ⟨us, []⟩ = pure ((["sea", "standing", "step"] : List Str).zip us) :=
  match us, hl with | [_, _, _], _ => rfl
abbrev s_emptied : Stmt := topS 31
theorem sc_emptied : FnScope (["sea", "standing", "step"] : List Str) (["sea", "standing", "step"] : List Str) (defScope s_emptied) := ⟨rfl, rfl, rfl, by decide +kernel, rfl, by decide +kernel, by decide +kernel⟩
theorem b_emptied (kV doc pm : Value) (an : Option Addr) (cdv ct : Value) (us : List Value) (hl : us.length = (["sea", "standing", "step"] : List Str).length) : bindArgs (PySem.W.fnOf "emptied" "emptied" (defArgs s_emptied) (defBody s_emptied) (defScope s_emptied) .none kV doc pm an cdv ct) ⟨us, []⟩ = pure ((["sea", "standing", "step"] : List Str).zip us) :=
  match us, hl with | [_, _, _], _ => rfl
section
variable {P : Program} {w : World} {K : PySem.W.Frag} {mg : Str → Option Value} {base : Heap}
theorem ok_filled_s {k : Nat} (D : Df K mg "filled" s_filled) (T : Bt mg) (O_goers_at : Ok P w K mg base k "goers_at" s_goers_at ["sea", "step"] (spGoers K)) : Ok P w K mg base (k + 1) "filled" s_filled ["sea", "standing", "step"] (spFillB K) := by
  refine D.ok sc_filled b_filled (fun vs H Q E h => ?_) (fun f cdv A outer s H vs Q E hr h => ?_)
  · obtain ⟨v, l, h, t, s, ds, L, rfl, _⟩ := h
    rfl
  · obtain ⟨v, l, h, t, st, ds, L, rfl, hv, ⟨pl, rfl, hl⟩, d24, hL, q⟩ := h
    refine ⟨_, (pss_one (ps_ret (pe_callTy call_tuple_of (by rfl) T.tuple_ (by decide +kernel) (pa_cons (pe_callB (cr_sortedSetw w rfl) (by rfl) T.sorted_ (by decide +kernel) (pa_cons (pe_op (op_orS w rfl) (pe_callTy (cr_setAw w rfl) (by rfl) T.set_ (by decide +kernel) (pa_cons (pv 1) pa_nil)) (pe_callTy (cr_setAw w rfl) (by rfl) T.set_ (by decide +kernel) (pa_cons (pe_fn O_goers_at (hr.mono (by omega)) (pa_cons (pv 0) (pa_cons (pv 2) pa_nil))) pa_nil))) pa_nil)) pa_nil)))), ?_⟩
    refine ⟨_, rfl, pl, L.map fun (i : Nat) => (i : Int), rfl, by rw [← ni_ints]; exact hl, by rw [List.length_map]; have := hL.len; omega, fun a ks na nd kk => ?_⟩
    have s1 : Same H (upd H a (SetO w a (fun j => decide (j ∈ L.map fun (i : Nat) => (i : Int))) ks.length)) := same_new na
    have e1 : upd H a (SetO w a (fun j => decide (j ∈ L.map fun (i : Nat) => (i : Int))) ks.length) a = some (SetO w a (fun j => decide (j ∈ L.map fun (i : Nat) => (i : Int))) ks.length) := upd_same
    generalize upd H a (SetO w a (fun j => decide (j ∈ L.map fun (i : Nat) => (i : Int))) ks.length) = H1 at s1 e1
    refine ⟨_, rfl, _, rfl, v, h, t, st, ds, rfl, hv.same s1, by omega, fun H2 g s2 ng hg => ?_⟩
    refine ⟨g, (gs (mk h t ds.length st) ds ds.length).map fun (i : Nat) => (i : Int), rfl, SqA.l hg, by rw [List.length_map]; have := gs_len (m := mk h t ds.length st) (ds := ds) (n := ds.length); omega, fun a2 ks2 na2 nd2 kk2 => ?_⟩
    have e2 := s2 _ _ e1
    have ne : a ≠ a2 := ne_of_none e2 na2
    refine ⟨a, a2, _, _, _, _, rfl, rfl, ne, by rw [upd_ne ne]; exact e2, upd_same, keys_few rfl hL.lt nd kk d24, keys_few rfl gs_lt nd2 kk2 d24, small_keys rfl hL.lt d24, small_keys rfl gs_lt d24, fun p n np ln => ?_⟩
    have s3 := (s1.trans s2).trans (same_new (o := SetO w a2 (fun j => decide (j ∈ (gs (mk h t ds.length st) ds ds.length).map fun (i : Nat) => (i : Int))) ks2.length) na2)
    refine ⟨p, _, n, rfl, upd_same, by omega, fun ns3 p3 up3 m3 l3 np3 => ?_⟩
    have e3 : ns3 = (fillL h t ds L st).map fun (i : Nat) => (i : Int) := rise_lot up3 (fun z hz => ?_) (fun i hi => ?_)
    · subst e3
      refine ⟨p3, _, rfl, .inl ⟨SqL.of upd_same, fun r nr => ?_⟩⟩
      refine q _ r (s3.trans ((same_new np).trans ((same_new np3).trans (same_new nr)))) ?_ ?_
      · exact (s3.trans ((same_new np).trans (same_new np3))).free nr
      · rw [upd_same, ni_ints]
    · have z1 := (m3 z).mp hz
      rw [Bool.or_eq_true] at z1
      rcases z1 with y | y
      · obtain ⟨i, hi, rfl⟩ := List.mem_map.mp (of_decide_eq_true y)
        have := hL.lt i hi
        omega
      · obtain ⟨i, hi, rfl⟩ := List.mem_map.mp (of_decide_eq_true y)
        have := gs_lt i hi
        omega
    · rw [m3, Bool.or_eq_true, decide_eq_true_eq, decide_eq_true_eq, in_map, in_map, gs_mem hi]
      show _ ↔ (mem L i || goB h t ds st i) = true
      unfold mem goB
      rw [Bool.or_eq_true, decide_eq_true_eq, decide_eq_true_eq]
theorem ok_emptied_s {k : Nat} (D : Df K mg "emptied" s_emptied) (T : Bt mg) (O_goers_at : Ok P w K mg base k "goers_at" s_goers_at ["sea", "step"] (spGoers K)) : Ok P w K mg base (k + 1) "emptied" s_emptied ["sea", "standing", "step"] (spEmptB K) := by
  refine D.ok sc_emptied b_emptied (fun vs H Q E h => ?_) (fun f cdv A outer s H vs Q E hr h => ?_)
  · obtain ⟨v, l, h, t, s, ds, L, rfl, _⟩ := h
    rfl
  · obtain ⟨v, l, h, t, st, ds, L, rfl, hv, ⟨pl, rfl, hl⟩, d24, hL, q⟩ := h
    refine ⟨_, (pss_one (ps_ret (pe_callTy call_tuple_of (by rfl) T.tuple_ (by decide +kernel) (pa_cons (pe_callB (cr_sortedSetw w rfl) (by rfl) T.sorted_ (by decide +kernel) (pa_cons (pe_op (op_subS w rfl) (pe_callTy (cr_setAw w rfl) (by rfl) T.set_ (by decide +kernel) (pa_cons (pv 1) pa_nil)) (pe_callTy (cr_setAw w rfl) (by rfl) T.set_ (by decide +kernel) (pa_cons (pe_fn O_goers_at (hr.mono (by omega)) (pa_cons (pv 0) (pa_cons (pv 2) pa_nil))) pa_nil))) pa_nil)) pa_nil)))), ?_⟩
    refine ⟨_, rfl, pl, L.map fun (i : Nat) => (i : Int), rfl, by rw [← ni_ints]; exact hl, by rw [List.length_map]; have := hL.len; omega, fun a ks na nd kk => ?_⟩
    have s1 : Same H (upd H a (SetO w a (fun j => decide (j ∈ L.map fun (i : Nat) => (i : Int))) ks.length)) := same_new na
    have e1 : upd H a (SetO w a (fun j => decide (j ∈ L.map fun (i : Nat) => (i : Int))) ks.length) a = some (SetO w a (fun j => decide (j ∈ L.map fun (i : Nat) => (i : Int))) ks.length) := upd_same
    generalize upd H a (SetO w a (fun j => decide (j ∈ L.map fun (i : Nat) => (i : Int))) ks.length) = H1 at s1 e1
    refine ⟨_, rfl, _, rfl, v, h, t, st, ds, rfl, hv.same s1, by omega, fun H2 g s2 ng hg => ?_⟩
    refine ⟨g, (gs (mk h t ds.length st) ds ds.length).map fun (i : Nat) => (i : Int), rfl, SqA.l hg, by rw [List.length_map]; have := gs_len (m := mk h t ds.length st) (ds := ds) (n := ds.length); omega, fun a2 ks2 na2 nd2 kk2 => ?_⟩
    have e2 := s2 _ _ e1
    have ne : a ≠ a2 := ne_of_none e2 na2
    refine ⟨a, a2, _, _, _, _, rfl, rfl, ne, by rw [upd_ne ne]; exact e2, upd_same, keys_few rfl hL.lt nd kk d24, keys_few rfl gs_lt nd2 kk2 d24, small_keys rfl hL.lt d24, small_keys rfl gs_lt d24, fun p n np ln => ?_⟩
    have s3 := (s1.trans s2).trans (same_new (o := SetO w a2 (fun j => decide (j ∈ (gs (mk h t ds.length st) ds ds.length).map fun (i : Nat) => (i : Int))) ks2.length) na2)
    refine ⟨p, _, n, rfl, upd_same, by omega, fun ns3 p3 up3 m3 l3 np3 => ?_⟩
    have e3 : ns3 = (emptL h t ds L st).map fun (i : Nat) => (i : Int) := rise_lot up3 (fun z hz => ?_) (fun i hi => ?_)
    · subst e3
      refine ⟨p3, _, rfl, .inl ⟨SqL.of upd_same, fun r nr => ?_⟩⟩
      refine q _ r (s3.trans ((same_new np).trans ((same_new np3).trans (same_new nr)))) ?_ ?_
      · exact (s3.trans ((same_new np).trans (same_new np3))).free nr
      · rw [upd_same, ni_ints]
    · have z1 := (m3 z).mp hz
      rw [Bool.and_eq_true] at z1
      obtain ⟨i, hi, rfl⟩ := List.mem_map.mp (of_decide_eq_true z1.1)
      have := hL.lt i hi
      omega
    · rw [m3, Bool.and_eq_true, Bool.not_eq_true', decide_eq_true_eq, decide_eq_false_iff_not, in_map, in_map, gs_mem hi]
      show _ ↔ (mem L i && !goB h t ds st i) = true
      unfold mem goB
      rw [Bool.and_eq_true, Bool.not_eq_true', decide_eq_true_eq, decide_eq_false_iff_not]
end
end Sh

namespace Sh
open PySem PySem.Spec PyProof.Rows L2
def spUnder (K : PySem.W.Frag) : Sp := fun vs H Q _ => ∃ (v l : V) (pf : Addr) (h t s : Int) (ds : List Int) (L F : List Nat), vs = [v, l, .int s, .ref pf] ∧ SeaA K H v h t ds ∧ LotA K H l L ∧ ds.length ≤ 24 ∧ Lot ds.length L ∧ SqT K H pf (ni F) ∧
  ∀ H' : Hp, Same H H' → Q (.bl (underB h t ds s F L)) H'
def spAbove (K : PySem.W.Frag) : Sp := fun vs H Q _ => ∃ (v l : V) (pf : Addr) (h t s : Int) (ds : List Int) (L F : List Nat), vs = [v, l, .int s, .ref pf] ∧ SeaA K H v h t ds ∧ LotA K H l L ∧ ds.length ≤ 24 ∧ Lot ds.length L ∧ SqT K H pf (ni F) ∧
  ∀ H' : Hp, Same H H' → Q (.bl (aboveB h t ds s F L)) H'
abbrev s_lies_under : Stmt := topS 32
theorem sc_lies_under : FnScope (["sea", "standing", "step", "full"] : List Str) (["sea", "standing", "step", "full"] : List Str) (defScope s_lies_under) := ⟨rfl, rfl, rfl, by decide +kernel, rfl, by decide +kernel, by decide +kernel⟩
theorem b_lies_under (kV doc pm : Value) (an : Option Addr) (cdv ct : Value) (us : List Value) (hl : us.length = (["sea", "standing", "step", "full"] : List Str).length) : bindArgs (PySem.W.fnOf "lies_under" "lies_under" (defArgs s_lies_under) (defBody s_lies_under) (defScope s_lies_under) .none kV doc pm an cdv ct) ⟨us, []⟩ = pure ((["sea", "standing", "step", "full"] : List Str).zip us) :=
  match us, hl with | [_, _, _, _], _ => rfl
abbrev s_lies_above : Stmt := topS 33
theorem sc_lies_above : FnScope (["sea", "standing", "step", "left"] : List Str) (["sea", "standing", "step", "left"] : List Str) (defScope s_lies_above) := ⟨rfl, rfl, rfl, by decide +kernel, rfl, by decide +kernel, by decide +kernel⟩
theorem b_lies_above (kV doc pm : Value) (an : Option Addr) (cdv ct : Value) (us : List Value) (hl : us.length = (["sea", "standing", "step", "left"] : List Str).length) : bindArgs (PySem.W.fnOf "lies_above" "lies_above" (defArgs s_lies_above) (defBody s_lies_above) (defScope s_lies_above) .none kV doc pm an cdv ct) ⟨us, []⟩ = pure ((["sea", "standing", "step", "left"] : List Str).zip us) :=
  match us, hl with | [_, _, _, _], _ => rfl
section
variable {P : Program} {w : World} {K : PySem.W.Frag} {mg : Str → Option Value} {base : Heap}
theorem ok_under {k : Nat} (D : Df K mg "lies_under" s_lies_under) (T : Bt mg) (O_filled : Ok P w K mg base k "filled" s_filled ["sea", "standing", "step"] (spFillB K)) : Ok P w K mg base (k + 1) "lies_under" s_lies_under ["sea", "standing", "step", "full"] (spUnder K) := by
  refine D.ok sc_lies_under b_lies_under (fun vs H Q E h => ?_) (fun f cdv A outer s H vs Q E hr h => ?_)
  · obtain ⟨v, l, pf, h, t, s, ds, L, F, rfl, _⟩ := h
    rfl
  · obtain ⟨v, l, pf, h, t, st, ds, L, F, rfl, hv, ⟨pl, rfl, hl⟩, d24, hL, hf, q⟩ := h
    refine ⟨_, (pss_one (ps_ret (pe_and (pe_cmpR op_le (pe_callB call_len_seq (by rfl) T.len_ PySem.boot_len (pa_cons (pv 1) pa_nil)) (pv 2) (nomark _)) (pe_one (pe_cmpR (op_eqD hr.units) (pe_fn O_filled (hr.mono (by omega)) (pa_cons (pv 0) (pa_cons (pv 1) (pa_cons (pv 2) pa_nil)))) (pv 3) (nomark _)))))), ?_⟩
    refine ⟨_, rfl, pl, _, rfl, hl, _, rfl, _, st, rfl, rfl, _, rfl, ?_⟩
    rw [ni_len]
    unfold underB at q
    cases c : decide ((L.length : Int) ≤ st) with
    | false =>
      rw [c] at q
      exact q H (Same.refl _)
    | true =>
      rw [c] at q
      refine ⟨_, rfl, _, rfl, _, rfl, v, .ref pl, h, t, st, ds, L, rfl, hv, ⟨pl, rfl, hl⟩, d24, hL, fun H1 p s1 np hp => ?_⟩
      refine ⟨_, rfl, _, _, dp_niT (SqT.of hp), dp_niT (Same.tup s1 hf), shaped_tup _, shaped_tup _, ?_⟩
      rw [eqv_niT]
      exact q H1 s1
theorem ok_above {k : Nat} (D : Df K mg "lies_above" s_lies_above) (T : Bt mg) (O_emptied : Ok P w K mg base k "emptied" s_emptied ["sea", "standing", "step"] (spEmptB K)) : Ok P w K mg base (k + 1) "lies_above" s_lies_above ["sea", "standing", "step", "left"] (spAbove K) := by
  refine D.ok sc_lies_above b_lies_above (fun vs H Q E h => ?_) (fun f cdv A outer s H vs Q E hr h => ?_)
  · obtain ⟨v, l, pf, h, t, s, ds, L, F, rfl, _⟩ := h
    rfl
  · obtain ⟨v, l, pf, h, t, st, ds, L, F, rfl, hv, ⟨pl, rfl, hl⟩, d24, hL, hf, q⟩ := h
    refine ⟨_, (pss_one (ps_ret (pe_and (pe_cmpR op_gt (pe_callB call_len_seq (by rfl) T.len_ PySem.boot_len (pa_cons (pv 1) pa_nil)) (pv 2) (nomark _)) (pe_one (pe_cmpR (op_eqD hr.units) (pe_fn O_emptied (hr.mono (by omega)) (pa_cons (pv 0) (pa_cons (pv 1) (pa_cons (pv 2) pa_nil)))) (pv 3) (nomark _)))))), ?_⟩
    refine ⟨_, rfl, pl, _, rfl, hl, _, rfl, _, st, rfl, rfl, _, rfl, ?_⟩
    rw [ni_len]
    unfold aboveB at q
    cases c : decide ((L.length : Int) > st) with
    | false =>
      rw [show decide (st < (L.length : Int)) = false from c] at q
      exact q H (Same.refl _)
    | true =>
      rw [show decide (st < (L.length : Int)) = true from c] at q
      refine ⟨_, rfl, _, rfl, _, rfl, v, .ref pl, h, t, st, ds, L, rfl, hv, ⟨pl, rfl, hl⟩, d24, hL, fun H1 p s1 np hp => ?_⟩
      refine ⟨_, rfl, _, _, dp_niT (SqT.of hp), dp_niT (Same.tup s1 hf), shaped_tup _, shaped_tup _, ?_⟩
      rw [eqv_niT]
      exact q H1 s1
end
end Sh

namespace Sh
open PySem PySem.Spec PyProof.Rows L2
/-! ### the program: kinds of things, of any data -/
def isNumD : PyData → Bool
  | .int i => decide (0 ≤ i)
  | _ => false
def isTupD (n : Nat) : PyData → Bool
  | .tuple ds => decide (ds.length = n)
  | _ => false
def spIsNum (K : PySem.W.Frag) : Sp := fun vs H Q _ => ∃ (v : V) (d : PyData), vs = [v] ∧ Dp K H v d ∧ Q (.bl (isNumD d)) H
def spIsTup (K : PySem.W.Frag) : Sp := fun vs H Q _ => ∃ (v : V) (d : PyData) (n : Nat), vs = [v, .int (n : Int)] ∧ Dp K H v d ∧ Q (.bl (isTupD n d)) H
theorem dec_int (a b : Nat) : decide (V.int (a : Int) = V.int (b : Int)) = decide (a = b) := by
  by_cases z : a = b
  · rw [z, decide_eq_true rfl, decide_eq_true rfl]
  · rw [decide_eq_false z, decide_eq_false fun e => z (by have := V.int.inj e; omega)]
abbrev s_is_number : Stmt := topS 1
theorem sc_is_number : FnScope (["thing"] : List Str) (["thing"] : List Str) (defScope s_is_number) := ⟨rfl, rfl, rfl, by decide +kernel, rfl, by decide +kernel, by decide +kernel⟩
theorem b_is_number (kV doc pm : Value) (an : Option Addr) (cdv ct : Value) (us : List Value) (hl : us.length = (["thing"] : List Str).length) : bindArgs (PySem.W.fnOf "is_number" "is_number" (defArgs s_is_number) (defBody s_is_number) (defScope s_is_number) .none kV doc pm an cdv ct) ⟨us, []⟩ = pure ((["thing"] : List Str).zip us) :=
  match us, hl with | [_], _ => rfl
abbrev s_is_tuple_of : Stmt := topS 2
theorem sc_is_tuple_of : FnScope (["thing", "many"] : List Str) (["thing", "many"] : List Str) (defScope s_is_tuple_of) := ⟨rfl, rfl, rfl, by decide +kernel, rfl, by decide +kernel, by decide +kernel⟩
theorem b_is_tuple_of (kV doc pm : Value) (an : Option Addr) (cdv ct : Value) (us : List Value) (hl : us.length = (["thing", "many"] : List Str).length) : bindArgs (PySem.W.fnOf "is_tuple_of" "is_tuple_of" (defArgs s_is_tuple_of) (defBody s_is_tuple_of) (defScope s_is_tuple_of) .none kV doc pm an cdv ct) ⟨us, []⟩ = pure ((["thing", "many"] : List Str).zip us) :=
  match us, hl with | [_, _], _ => rfl
section
variable {P : Program} {w : World} {K : PySem.W.Frag} {mg : Str → Option Value} {base : Heap}
theorem ok_is_number {k : Nat} (D : Df K mg "is_number" s_is_number) (T : Bt mg) : Ok P w K mg base (k + 1) "is_number" s_is_number ["thing"] (spIsNum K) := by
  refine D.ok sc_is_number b_is_number (fun vs H Q E h => ?_) (fun f cdv A outer s H vs Q E hr h => ?_)
  · obtain ⟨v, d, rfl, _⟩ := h
    rfl
  · obtain ⟨v, d, rfl, hv, q⟩ := h
    refine ⟨_, (pss_one (ps_ret (pe_and (pe_callB call_isi (by rfl) T.isinstance_ (by decide +kernel) (pa_cons (pv 0) (pa_cons (pe_bltn (v := .ty "int") (by rfl) T.int_ (by decide +kernel) rfl) pa_nil))) (pe_and (pe_not (pe_callB call_isi (by rfl) T.isinstance_ (by decide +kernel) (pa_cons (pv 0) (pa_cons (pe_bltn (v := .ty "bool") (by rfl) T.bool_ (by decide +kernel) rfl) pa_nil)))) (pe_one (pe_cmpR op_ge (pv 0) pe_int (nomark _))))))), ?_⟩
    have ht := ty_of hv
    cases hv with
    | non => exact ⟨_, rfl, _, .ty "int", .type "NoneType", .type "int", false, rfl, .ty _, ht, kit_ty (by decide +kernel), _, rfl, q⟩
    | bl b =>
      refine ⟨_, rfl, _, .ty "int", .type "bool", .type "int", true, rfl, .ty _, ht, kit_ty (by decide +kernel), _, rfl, ?_⟩
      refine ⟨_, rfl, _, .ty "bool", .type "bool", .type "bool", true, rfl, .ty _, ht, kit_ty (by decide +kernel), _, rfl, _, rfl, ?_⟩
      exact q
    | int i =>
      refine ⟨_, rfl, _, .ty "int", .type "int", .type "int", true, rfl, .ty _, ht, kit_ty (by decide +kernel), _, rfl, ?_⟩
      refine ⟨_, rfl, _, .ty "bool", .type "int", .type "bool", false, rfl, .ty _, ht, kit_ty (by decide +kernel), _, rfl, _, rfl, ?_⟩
      exact ⟨_, rfl, i, 0, rfl, rfl, q⟩
    | str x => exact ⟨_, rfl, _, .ty "int", .type "str", .type "int", false, rfl, .ty _, ht, kit_ty (by decide +kernel), _, rfl, q⟩
    | lst h a => exact ⟨_, rfl, _, .ty "int", .type "list", .type "int", false, rfl, .ty _, ht, kit_ty (by decide +kernel), _, rfl, q⟩
    | tup h a => exact ⟨_, rfl, _, .ty "int", .type "tuple", .type "int", false, rfl, .ty _, ht, kit_ty (by decide +kernel), _, rfl, q⟩
theorem ok_is_tuple {k : Nat} (D : Df K mg "is_tuple_of" s_is_tuple_of) (T : Bt mg) : Ok P w K mg base (k + 1) "is_tuple_of" s_is_tuple_of ["thing", "many"] (spIsTup K) := by
  refine D.ok sc_is_tuple_of b_is_tuple_of (fun vs H Q E h => ?_) (fun f cdv A outer s H vs Q E hr h => ?_)
  · obtain ⟨v, d, n, rfl, _⟩ := h
    rfl
  · obtain ⟨v, d, n, rfl, hv, q⟩ := h
    refine ⟨_, (pss_one (ps_ret (pe_and (pe_callB call_isi (by rfl) T.isinstance_ (by decide +kernel) (pa_cons (pv 0) (pa_cons (pe_bltn (v := .ty "tuple") (by rfl) T.tuple_ (by decide +kernel) rfl) pa_nil))) (pe_one (pe_cmpR op_eq (pe_callB call_len_seq (by rfl) T.len_ PySem.boot_len (pa_cons (pv 0) pa_nil)) (pv 1) (nomark _)))))), ?_⟩
    have ht := ty_of hv
    cases hv with
    | non => exact ⟨_, rfl, _, .ty "tuple", .type "NoneType", .type "tuple", false, rfl, .ty _, ht, kit_ty (by decide +kernel), _, rfl, q⟩
    | bl b => exact ⟨_, rfl, _, .ty "tuple", .type "bool", .type "tuple", false, rfl, .ty _, ht, kit_ty (by decide +kernel), _, rfl, q⟩
    | int i => exact ⟨_, rfl, _, .ty "tuple", .type "int", .type "tuple", false, rfl, .ty _, ht, kit_ty (by decide +kernel), _, rfl, q⟩
    | str x => exact ⟨_, rfl, _, .ty "tuple", .type "str", .type "tuple", false, rfl, .ty _, ht, kit_ty (by decide +kernel), _, rfl, q⟩
    | lst h a => exact ⟨_, rfl, _, .ty "tuple", .type "list", .type "tuple", false, rfl, .ty _, ht, kit_ty (by decide +kernel), _, rfl, q⟩
    | tup h a =>
      refine ⟨_, rfl, _, .ty "tuple", .type "tuple", .type "tuple", true, rfl, .ty _, ht, kit_ty (by decide +kernel), _, rfl, ?_⟩
      refine ⟨_, rfl, _, _, rfl, .inr h, _, rfl, rfl, ?_⟩
      have l := DpAll.len a
      rw [dec_int, l]
      exact q
end
end Sh

namespace Sh
open PySem PySem.Spec PyProof.Rows L2
/-! ### rising numbers, seas, places, standings: of any data -/
def risesAt (ns : List Int) (i : Nat) : Bool := decide (ns.getD i 0 < ns.getD (i + 1) 0)
theorem getD_ix {ns : List Int} {i : Nat} (h : i < ns.length) : ns.getD i 0 = ns[i] := by
  rw [List.getD_eq_getElem?_getD, List.getElem?_eq_getElem h]
  rfl
theorem rises_lt {ns : List Int} {i : Nat} (h : i + 1 < ns.length) : risesAt ns i = decide (ns[i] < ns[i + 1]) := by
  unfold risesAt
  rw [getD_ix h, getD_ix (Nat.lt_of_succ_lt h)]
theorem rises_step : ∀ (ns : List Int), (∀ i, i + 1 < ns.length → risesAt ns i = true) ↔ ns.Pairwise (· < ·)
  | [] => ⟨fun _ => List.Pairwise.nil, fun _ i hi => absurd hi (Nat.not_lt_zero _)⟩
  | [a] => ⟨fun _ => List.pairwise_singleton _ _, fun _ i hi => by simp at hi⟩
  | a :: b :: ns => by
    have ih := rises_step (b :: ns)
    constructor
    · intro h
      have h2 : (b :: ns).Pairwise (· < ·) := ih.mp fun i hi => h (i + 1) (by simpa using hi)
      refine List.pairwise_cons.mpr ⟨fun x hx => ?_, h2⟩
      have ab : a < b := of_decide_eq_true (h 0 (by simp))
      rcases List.mem_cons.mp hx with z | z
      · rw [z]; exact ab
      · exact Int.lt_trans ab ((List.pairwise_cons.mp h2).1 x z)
    · intro h i hi
      obtain ⟨h1, h2⟩ := List.pairwise_cons.mp h
      cases i with
      | zero => exact decide_eq_true (h1 b List.mem_cons_self)
      | succ i => exact ih.mpr h2 i (by simpa using hi)
def risingB (ns : List Int) : Bool := decide (ns.Pairwise (· < ·))
theorem rises_all {ns : List Int} : ((List.range (ns.length - 1)).map (risesAt ns)).all id = risingB ns := by
  unfold risingB
  rw [Bool.eq_iff_iff, List.all_eq_true, decide_eq_true_eq, ← rises_step]
  constructor
  · intro h i hi
    exact h _ (List.mem_map.mpr ⟨i, List.mem_range.mpr (by omega), rfl⟩)
  · intro h x hx
    obtain ⟨i, hi, rfl⟩ := List.mem_map.mp hx
    exact h i (by have := List.mem_range.mp hi; omega)
theorem cut_one (ns : List Int) : cutV (ns.map V.int) (some 1) none = (ns.drop 1).map V.int := by
  unfold cutV
  rw [HT.sIx_none, show (1 : Int) = ((1 : Nat) : Int) from rfl, HT.sIx_nat, List.length_map]
  by_cases c : 1 ≤ ns.length
  · rw [Nat.min_eq_left c, List.map_drop, List.take_of_length_le]
    rw [List.length_drop, List.length_map]
    exact Nat.le_refl _
  · have e : ns = [] := List.length_eq_zero_iff.mp (by omega)
    subst e
    rfl
def spRising (K : PySem.W.Frag) : Sp := fun vs H Q _ => ∃ (p : Addr) (ns : List Int), vs = [.ref p] ∧ SqA K H p (ns.map V.int) ∧ ns.length ≤ 100000 ∧ ∀ H' : Hp, Same H H' → Q (.bl (risingB ns)) H'
abbrev s_are_rising : Stmt := topS 3
theorem sc_are_rising : FnScope (["numbers", "low", "high"] : List Str) (["numbers"] : List Str) (defScope s_are_rising) := ⟨rfl, rfl, rfl, by decide +kernel, rfl, by decide +kernel, by decide +kernel⟩
theorem b_are_rising (kV doc pm : Value) (an : Option Addr) (cdv ct : Value) (us : List Value) (hl : us.length = (["numbers"] : List Str).length) : bindArgs (PySem.W.fnOf "are_rising" "are_rising" (defArgs s_are_rising) (defBody s_are_rising) (defScope s_are_rising) .none kV doc pm an cdv ct) ⟨us, []⟩ = pure ((["numbers"] : List Str).zip us) :=
  match us, hl with | [_], _ => rfl
section
variable {P : Program} {w : World} {K : PySem.W.Frag} {mg : Str → Option Value} {base : Heap}
set_option maxHeartbeats 4000000 in
theorem ok_rising {k : Nat} (D : Df K mg "are_rising" s_are_rising) (T : Bt mg) : Ok P w K mg base (k + 1) "are_rising" s_are_rising ["numbers"] (spRising K) := by
  refine D.ok sc_are_rising b_are_rising (fun vs H Q E h => ?_) (fun f cdv A outer s H vs Q E hr h => ?_)
  · obtain ⟨p, ns, rfl, _⟩ := h
    rfl
  · obtain ⟨p, ns, rfl, hp, l0, q⟩ := h
    refine ⟨_, (pss_one (ps_ret (pe_callB (cr_all rfl) (by rfl) T.all_ (by decide +kernel) (pa_cons (pe_lc (own := [("low", 1), ("high", 2)]) (g := (gSeq K 2 (gCons (gName 1) (gCons (gName 2) gNil)))) (tt := tYes) (by rfl) sc_are_rising.nd (RZ.pi_zipA (by rfl) T.zip_ (pa_cons (pv 0) (pa_cons (pe_slice (SlR.or sl_list sl_tupA) (pv 0) (po_some pe_int) po_none) pa_nil))) (blkOk_by (own := [("low", 1), ("high", 2)]) (N := (["numbers", "low", "high"] : List Str)) (sc := defScope s_are_rising) (by decide +kernel)) (fun _ _ _ _ _ => (pg_seq rfl (pgs_cons (pg_name (i := 1) sc_are_rising.nd rfl (.inl rfl)) (pgs_cons (pg_name (i := 2) sc_are_rising.nd rfl (.inl rfl)) pgs_nil)))) (fun _ _ _ _ _ => pts_nil) (fun _ _ _ _ _ => (pe_cmpR op_lt (pv 1) (pv 2) (nomark _)))) pa_nil)))), ?_⟩
    rcases hp with hp | hp
    · refine ⟨_, rfl, _, rfl, 1, rfl, .inl ⟨p, _, rfl, hp, fun b nb => ?_⟩⟩
      rw [cut_one]
      have s1 : Same H (upd H b (.lst ((ns.drop 1).map V.int))) := same_new nb
      have e1 : upd H b (.lst ((ns.drop 1).map V.int)) b = some (.lst ((ns.drop 1).map V.int)) := upd_same
      generalize upd H b (.lst ((ns.drop 1).map V.int)) = H1 at s1 e1
      replace hp := s1.seq hp
      refine ⟨p, b, _, _, rfl, .inl ⟨hp, SqL.of e1, fun C nC => ?_⟩⟩
      refine lc_it (walk_zip (n := ns.length - 1) (by rw [List.length_map, List.length_map, List.length_drop]; omega)) (fun i H' => Same H1 H' ∧ H' C = some (.lst (((List.range i).map (risesAt ns)).map V.bl))) ⟨same_new nC, upd_same⟩ (fun i H' _ p => ⟨p.1.seq hp, SqL.of (p.1 _ _ e1)⟩) ?_ ?_
      · rintro i z H2 H3 hi ⟨sm, hC⟩ ⟨t, u, v, rfl, nt, rfl, gu, gv⟩
        obtain ⟨a1, rfl⟩ : ∃ a1, u = .int ns[i] := ⟨0, by
          have g3 : (ns.map V.int)[i]? = some (.int ns[i]) := by rw [List.getElem?_map, List.getElem?_eq_getElem (by omega)]; rfl
          exact Option.some.inj (gu.symm.trans g3)⟩
        obtain ⟨a2, rfl⟩ : ∃ a2, v = .int ns[i + 1] := ⟨0, by
          have g3 : ((ns.drop 1).map V.int)[i]? = some (.int ns[i + 1]) := by
            rw [List.getElem?_map, List.getElem?_drop, Nat.add_comm 1 i, List.getElem?_eq_getElem (by omega)]
            rfl
          exact Option.some.inj (gv.symm.trans g3)⟩
        have sm2 : Same H1 (upd H2 t (.tup [.int ns[i], .int ns[i + 1]])) := sm.trans (same_new nt)
        have hC2 : upd H2 t (.tup [.int ns[i], .int ns[i + 1]]) C = _ := same_new nt _ _ hC
        refine ⟨t, _, rfl, SqA.t upd_same, rfl, _, _, rfl, _, _, rfl, rfl, rfl, tyes (iteT ?_)⟩
        refine ⟨_, rfl, _, rfl, _, _, rfl, rfl, _, hC2, ?_, same_over sm2 nC, ?_⟩
        · rw [List.length_map, List.length_map, List.length_range]
          exact Nat.lt_of_lt_of_le (show i < 100000 by omega) (by decide)
        · rw [upd_same, List.range_succ, List.map_append, List.map_append]
          show _ = some (HO.lst (_ ++ [V.bl (risesAt ns i)]))
          rw [rises_lt (by omega)]
      · rintro H2 ⟨sm, hC⟩
        refine ⟨C, _, rfl, SqL.of hC, ?_⟩
        rw [rises_all]
        exact q _ (s1.trans sm)
    · refine ⟨_, rfl, _, rfl, 1, rfl, .inr ⟨p, _, rfl, hp, fun whole => ?_, fun _ b nb => ?_⟩⟩
      · have e : ns = [] := by
          have := whole.1
          rw [show (some (1 : Int)) = some ((1 : Nat) : Int) from rfl, HT.sIx_nat, List.length_map] at this
          exact List.length_eq_zero_iff.mp (by omega)
        subst e
        refine ⟨p, p, _, _, rfl, .inr ⟨hp, hp, fun C nC => ?_⟩⟩
        refine lc_it (walk_zipT (n := 0) rfl) (fun i H' => Same H H' ∧ H' C = some (.lst [])) ⟨same_new nC, upd_same⟩ (fun i H' _ p => ⟨Same.tup p.1 hp, Same.tup p.1 hp⟩) ?_ ?_
        · intro i z H2 H3 hi
          exact absurd hi (Nat.not_lt_zero _)
        · rintro H2 ⟨sm, hC⟩
          refine ⟨C, [], rfl, SqL.of hC, ?_⟩
          exact q _ sm
      rw [cut_one]
      have s1 : Same H (upd H b (.tup ((ns.drop 1).map V.int))) := same_new nb
      have e1 : upd H b (.tup ((ns.drop 1).map V.int)) b = some (.tup ((ns.drop 1).map V.int)) := upd_same
      generalize upd H b (.tup ((ns.drop 1).map V.int)) = H1 at s1 e1
      replace hp := Same.tup s1 hp
      refine ⟨p, b, _, _, rfl, .inr ⟨hp, SqT.of e1, fun C nC => ?_⟩⟩
      refine lc_it (walk_zipT (n := ns.length - 1) (by rw [List.length_map, List.length_map, List.length_drop]; omega)) (fun i H' => Same H1 H' ∧ H' C = some (.lst (((List.range i).map (risesAt ns)).map V.bl))) ⟨same_new nC, upd_same⟩ (fun i H' _ p => ⟨Same.tup p.1 hp, SqT.of (p.1 _ _ e1)⟩) ?_ ?_
      · rintro i z H2 H3 hi ⟨sm, hC⟩ ⟨t, u, v, rfl, nt, rfl, gu, gv⟩
        obtain ⟨a1, rfl⟩ : ∃ a1, u = .int ns[i] := ⟨0, by
          have g3 : (ns.map V.int)[i]? = some (.int ns[i]) := by rw [List.getElem?_map, List.getElem?_eq_getElem (by omega)]; rfl
          exact Option.some.inj (gu.symm.trans g3)⟩
        obtain ⟨a2, rfl⟩ : ∃ a2, v = .int ns[i + 1] := ⟨0, by
          have g3 : ((ns.drop 1).map V.int)[i]? = some (.int ns[i + 1]) := by
            rw [List.getElem?_map, List.getElem?_drop, Nat.add_comm 1 i, List.getElem?_eq_getElem (by omega)]
            rfl
          exact Option.some.inj (gv.symm.trans g3)⟩
        have sm2 : Same H1 (upd H2 t (.tup [.int ns[i], .int ns[i + 1]])) := sm.trans (same_new nt)
        have hC2 : upd H2 t (.tup [.int ns[i], .int ns[i + 1]]) C = _ := same_new nt _ _ hC
        refine ⟨t, _, rfl, SqA.t upd_same, rfl, _, _, rfl, _, _, rfl, rfl, rfl, tyes (iteT ?_)⟩
        refine ⟨_, rfl, _, rfl, _, _, rfl, rfl, _, hC2, ?_, same_over sm2 nC, ?_⟩
        · rw [List.length_map, List.length_map, List.length_range]
          exact Nat.lt_of_lt_of_le (show i < 100000 by omega) (by decide)
        · rw [upd_same, List.range_succ, List.map_append, List.map_append]
          show _ = some (HO.lst (_ ++ [V.bl (risesAt ns i)]))
          rw [rises_lt (by omega)]
      · rintro H2 ⟨sm, hC⟩
        refine ⟨C, _, rfl, SqL.of hC, ?_⟩
        rw [rises_all]
        exact q _ (s1.trans sm)
end
end Sh

namespace Sh
open PySem PySem.Spec PyProof.Rows L2
/-! ### places, seas, standings: of any data -/
def isPlD (c : Nat) : PyData → Bool
  | .int i => decide (0 ≤ i) && decide (i < (c : Int))
  | _ => false
def isTuD : PyData → Bool
  | .tuple _ => true
  | _ => false
def drD : PyData → Bool
  | .tuple ds => decide (0 < ds.length) && ds.all isNumD
  | _ => false
def isSea3 : List PyData → Bool
  | [a, b, c] => isNumD a && (isNumD b && (isTuD c && drD c))
  | _ => false
def isSeaD : PyData → Bool
  | .tuple ds => isSea3 ds
  | _ => false
def intD : PyData → Int
  | .int i => i
  | _ => 0
def isStD (c : Nat) : PyData → Bool
  | .tuple ds => ds.all (isPlD c) && risingB (ds.map intD)
  | _ => false
theorem dp_num {K : PySem.W.Frag} {H : Hp} {v : V} {d : PyData} (h : Dp K H v d) (n : isNumD d = true) : ∃ i : Int, v = .int i ∧ d = .int i ∧ 0 ≤ i := by
  cases h with
  | int i => exact ⟨i, rfl, rfl, of_decide_eq_true n⟩
  | _ => cases n
theorem pl_num {c : Nat} {d : PyData} (n : isNumD d = false) : isPlD c d = false := by
  cases d with
  | int i =>
    show (decide (0 ≤ i) && _) = false
    rw [show decide (0 ≤ i) = false from n, Bool.false_and]
  | _ => rfl
theorem dps_ints {K : PySem.W.Frag} {H : Hp} {c : Nat} : ∀ {vs : List V} {ds : List PyData}, DpAll K H vs ds → ds.all (isPlD c) = true → vs = (ds.map intD).map V.int
  | _, _, .nil, _ => rfl
  | _, _, .cons x a, h => by
    rw [List.all_cons, Bool.and_eq_true] at h
    have ih := dps_ints a h.2
    cases x with
    | int i => rw [List.map_cons, List.map_cons, ← ih]; rfl
    | _ => cases h.1
theorem three_of {α : Type} {l : List α} (h : l.length = 3) : ∃ a b c, l = [a, b, c] := by
  match l, h with
  | [a, b, c], _ => exact ⟨a, b, c, rfl⟩
theorem sea_tup {d : PyData} (n : isTupD 3 d = false) : isSeaD d = false := by
  cases d with
  | tuple ds =>
    have h : ds.length ≠ 3 := of_decide_eq_false n
    show isSea3 ds = false
    match ds, h with
    | [], _ => rfl
    | [_], _ => rfl
    | [_, _], _ => rfl
    | [_, _, _], h => exact absurd rfl h
    | _ :: _ :: _ :: _ :: _, _ => rfl
  | _ => rfl
theorem dp_three {K : PySem.W.Frag} {H : Hp} {v : V} {d : PyData} (h : Dp K H v d) (n : isTupD 3 d = true) : ∃ (p : Addr) (x y z : V) (a b c : PyData), v = .ref p ∧ d = .tuple [a, b, c] ∧ SqT K H p [x, y, z] ∧ Dp K H x a ∧ Dp K H y b ∧ Dp K H z c := by
  cases h with
  | tup h all =>
    rename_i p xs ds
    have l : ds.length = 3 := of_decide_eq_true n
    obtain ⟨a, b, c, rfl⟩ := three_of l
    cases all with
    | cons x all =>
      cases all with
      | cons y all =>
        cases all with
        | cons z all =>
          cases all
          exact ⟨p, _, _, _, a, b, c, rfl, rfl, h, x, y, z⟩
  | non => cases n
  | bl b => cases n
  | int i => cases n
  | str x => cases n
  | lst h a => cases n
theorem dp_tup {K : PySem.W.Frag} {H : Hp} {v : V} {d : PyData} (h : Dp K H v d) (n : isTuD d = true) : ∃ (p : Addr) (xs : List V) (ds : List PyData), v = .ref p ∧ d = .tuple ds ∧ SqT K H p xs ∧ DpAll K H xs ds := by
  cases h with
  | tup h all => exact ⟨_, _, _, rfl, rfl, h, all⟩
  | _ => cases n
theorem kit_tup {d : PyData} : kitB (tyS d) "tuple" = some (isTuD d) := by
  cases d with
  | none => exact (by decide +kernel : kitB "NoneType" "tuple" = some false)
  | bool b => exact (by decide +kernel : kitB "bool" "tuple" = some false)
  | int i => exact (by decide +kernel : kitB "int" "tuple" = some false)
  | str s => exact (by decide +kernel : kitB "str" "tuple" = some false)
  | list xs => exact (by decide +kernel : kitB "list" "tuple" = some false)
  | tuple xs => exact (by decide +kernel : kitB "tuple" "tuple" = some true)
  | dict kvs => exact (by decide +kernel : kitB "dict" "tuple" = some false)
theorem sea_three (a b c : PyData) : isSeaD (.tuple [a, b, c]) = (isNumD a && (isNumD b && (isTuD c && drD c))) := rfl
def spIsPlace (K : PySem.W.Frag) : Sp := fun vs H Q _ => ∃ (v z : V) (h t : Int) (ds : List Int) (d : PyData), vs = [v, z] ∧ SeaA K H v h t ds ∧ Dp K H z d ∧ Q (.bl (isPlD ds.length d)) H
def spIsSea (K : PySem.W.Frag) : Sp := fun vs H Q _ => ∃ (n : Nat) (v : V) (d : PyData), vs = [v] ∧ Dp K H v d ∧ Lv n d ∧ ∀ H', Same H H' → Q (.bl (isSeaD d)) H'
def spIsStand (K : PySem.W.Frag) : Sp := fun vs H Q _ => ∃ (n : Nat) (v z : V) (h t : Int) (ds : List Int) (d : PyData), vs = [v, z] ∧ SeaA K H v h t ds ∧ Dp K H z d ∧ Lv n d ∧ ∀ H', Same H H' → Q (.bl (isStD ds.length d)) H'
abbrev s_is_place : Stmt := topS 27
theorem sc_is_place : FnScope (["sea", "thing"] : List Str) (["sea", "thing"] : List Str) (defScope s_is_place) := ⟨rfl, rfl, rfl, by decide +kernel, rfl, by decide +kernel, by decide +kernel⟩
theorem b_is_place (kV doc pm : Value) (an : Option Addr) (cdv ct : Value) (us : List Value) (hl : us.length = (["sea", "thing"] : List Str).length) : bindArgs (PySem.W.fnOf "is_place" "is_place" (defArgs s_is_place) (defBody s_is_place) (defScope s_is_place) .none kV doc pm an cdv ct) ⟨us, []⟩ = pure ((["sea", "thing"] : List Str).zip us) :=
  match us, hl with | [_, _], _ => rfl
abbrev s_is_standing : Stmt := topS 28
theorem sc_is_standing : FnScope (["sea", "thing", "ship"] : List Str) (["sea", "thing"] : List Str) (defScope s_is_standing) := ⟨rfl, rfl, rfl, by decide +kernel, rfl, by decide +kernel, by decide +kernel⟩
theorem b_is_standing (kV doc pm : Value) (an : Option Addr) (cdv ct : Value) (us : List Value) (hl : us.length = (["sea", "thing"] : List Str).length) : bindArgs (PySem.W.fnOf "is_standing" "is_standing" (defArgs s_is_standing) (defBody s_is_standing) (defScope s_is_standing) .none kV doc pm an cdv ct) ⟨us, []⟩ = pure ((["sea", "thing"] : List Str).zip us) :=
  match us, hl with | [_, _], _ => rfl
section
variable {P : Program} {w : World} {K : PySem.W.Frag} {mg : Str → Option Value} {base : Heap}
theorem ok_is_place {k : Nat} (D : Df K mg "is_place" s_is_place) (T : Bt mg) (O_is_number : Ok P w K mg base k "is_number" s_is_number ["thing"] (spIsNum K)) : Ok P w K mg base (k + 1) "is_place" s_is_place ["sea", "thing"] (spIsPlace K) := by
  refine D.ok sc_is_place b_is_place (fun vs H Q E h => ?_) (fun f cdv A outer s H vs Q E hr h => ?_)
  · obtain ⟨v, z, h, t, ds, d, rfl, _⟩ := h
    rfl
  · obtain ⟨v, z, h, t, ds, d, rfl, ⟨p, q', rfl, hp, hq⟩, hz, q⟩ := h
    refine ⟨_, (pss_one (ps_ret (pe_and (pe_fn O_is_number (hr.mono (by omega)) (pa_cons (pv 1) pa_nil)) (pe_one (pe_cmpR op_lt (pv 1) (pe_callB call_len_seq (by rfl) T.len_ PySem.boot_len (pa_cons (pe_ix ix_lt (pv 0) pe_int (fun _ _ => rfl)) pa_nil)) (nomark _)))))), ?_⟩
    refine ⟨_, rfl, z, d, rfl, hz, _, rfl, ?_⟩
    cases e : isNumD d with
    | false =>
      rw [pl_num e] at q
      exact q
    | true =>
      obtain ⟨i, rfl, rfl, i0⟩ := dp_num hz e
      refine ⟨_, rfl, _, rfl, p, _, 2, .ref q', rfl, rfl, hp, rfl, q', _, rfl, hq, _, _, rfl, rfl, ?_⟩
      rw [List.length_map]
      have : isPlD ds.length (.int i) = decide (i < (ds.length : Int)) := by
        show (decide (0 ≤ i) && _) = _
        rw [decide_eq_true i0, Bool.true_and]
      rw [this] at q
      exact q
set_option maxHeartbeats 4000000 in
theorem ok_is_stand {k : Nat} (D : Df K mg "is_standing" s_is_standing) (T : Bt mg) (O_is_place : Ok P w K mg base k "is_place" s_is_place ["sea", "thing"] (spIsPlace K)) (O_are_rising : Ok P w K mg base k "are_rising" s_are_rising ["numbers"] (spRising K)) : Ok P w K mg base (k + 1) "is_standing" s_is_standing ["sea", "thing"] (spIsStand K) := by
  refine D.ok sc_is_standing b_is_standing (fun vs H Q E h => ?_) (fun f cdv A outer s H vs Q E hr h => ?_)
  · obtain ⟨n, v, z, h, t, ds, d, rfl, _⟩ := h
    rfl
  · obtain ⟨n, v, z, h, t, ds, d, rfl, hv, hz, lv, q⟩ := h
    refine ⟨_, (pss_cons (ps_if (pt_not (pt_val (pe_callB call_isi (by rfl) T.isinstance_ (by decide +kernel) (pa_cons (pv 1) (pa_cons (pe_bltn (v := .ty "tuple") (by rfl) T.tuple_ (by decide +kernel) rfl) pa_nil)))))
        (pss_one (ps_ret pe_bl))
        pss_nil)
      (pss_one (ps_ret (pe_and (pe_callB (cr_all rfl) (by rfl) T.all_ (by decide +kernel) (pa_cons (pe_lc (own := [("ship", 2)]) (g := (gName 2)) (tt := tYes) (by rfl) sc_is_standing.nd (pi_seq (pv 1)) (blkOk_by (own := [("ship", 2)]) (N := (["sea", "thing", "ship"] : List Str)) (sc := defScope s_is_standing) (by decide +kernel)) (fun _ _ _ _ _ => (pg_name (i := 2) sc_is_standing.nd rfl (.inl rfl))) (fun _ _ _ _ _ => pts_nil) (fun _ _ _ _ _ => (pe_fn O_is_place (hr.mono (by omega)) (pa_cons (pv 0) (pa_cons (pv 2) pa_nil))))) pa_nil)) (pe_one (pe_fn O_are_rising (hr.mono (by omega)) (pa_cons (pv 1) pa_nil))))))), ?_⟩
    refine ⟨_, rfl, z, .ty "tuple", _, .type "tuple", isTuD d, rfl, .ty _, ty_of hz, kit_ty kit_tup, _, rfl, ?_⟩
    cases ec : isTuD d with
    | false =>
      have : isStD ds.length d = false := by cases d <;> first | rfl | cases ec
      rw [this] at q
      exact iteT (q _ (Same.refl _))
    | true =>
      obtain ⟨pc, xs, cs, rfl, rfl, hc, al⟩ := dp_tup hz ec
      have lx := DpAll.len al
      have lc : cs.length ≤ 100000 := by
        cases n with
        | zero => exact lv.elim
        | succ n => exact lv.1
      refine iteF ?_
      refine ⟨_, rfl, pc, _, H, rfl, .inr hc, Kp.refl _ _, fun J hJ C nC => ?_⟩
      obtain ⟨G, g, W⟩ := hJ.walk
      refine lc_it W (fun i H' => Same H H' ∧ H' C = some (.lst (((cs.take i).map (isPlD ds.length)).map V.bl))) ⟨same_new nC, upd_same⟩ (fun i H' _ z => g H' (.ofS z.1)) ?_ ?_
      · rintro i x' Ha Hb hi ⟨sm, hC⟩ ⟨rfl, gx⟩
        rw [lx] at hi
        obtain ⟨d, gd, hd⟩ := DpAll.get al gx
        obtain rfl : cs[i] = d := by
          rw [List.getElem?_eq_getElem hi] at gd
          exact Option.some.inj gd
        refine ⟨rfl, tyes (iteT ?_)⟩
        refine ⟨_, rfl, _, rfl, v, x', h, t, ds, cs[i], rfl, hv.same sm, Dp.same sm hd, _, hC, ?_, same_over sm nC, ?_⟩
        · rw [List.length_map, List.length_map, List.length_take]
          exact Nat.lt_of_lt_of_le (show min i cs.length < 100000 by omega) (by decide)
        · rw [upd_same, take_succ_get hi, List.map_append, List.map_append]
          rfl
      · rintro Ha ⟨sm, hC⟩
        rw [lx, List.take_length] at hC
        refine ⟨C, _, rfl, SqL.of hC, _, rfl, ?_⟩
        have : (cs.map (isPlD ds.length)).all id = cs.all (isPlD ds.length) := by rw [List.all_map]; rfl
        rw [this]
        have eq : isStD ds.length (.tuple cs) = (cs.all (isPlD ds.length) && risingB (cs.map intD)) := rfl
        rw [eq] at q
        cases ea : cs.all (isPlD ds.length) with
        | false =>
          rw [ea] at q
          exact q _ sm
        | true =>
          rw [ea, Bool.true_and] at q
          have xe := dps_ints al ea
          rw [xe] at hc
          exact ⟨_, rfl, pc, cs.map intD, rfl, .inr (Same.tup sm hc), by rw [List.length_map]; exact lc, fun H' s' => q _ (sm.trans s')⟩
end
end Sh

namespace Sh
open PySem PySem.Spec PyProof.Rows L2
theorem iteNN {c A B : Prop} [Decidable c] (hc : ¬ c) (h : A) : if (!decide c) = true then A else B := by
  rw [decide_eq_false hc]
  exact iteT h
theorem bl_ne (a b : Bool) : (!decide (V.bl a = V.bl b)) = (a != b) := by cases a <;> cases b <;> rfl
def lotD : PyData → List Nat
  | .tuple ds => ds.map fun d => (intD d).toNat
  | _ => []
def lowD (h t : Int) (ds : List Int) (L M : List Nat) (dS dF : PyData) : Bool := isPlD ds.length dS && (isStD ds.length dF && lowSB h t ds (intD dS) (lotD dF) L M)
def highD (h t : Int) (ds : List Int) (L M : List Nat) (dS dF : PyData) : Bool := isPlD ds.length dS && (isStD ds.length dF && highSB h t ds (intD dS) (lotD dF) L M)
def fastD (h t : Int) (ds : List Int) (L M : List Nat) (dS : PyData) : Bool := isPlD ds.length dS && fastSB h t ds (intD dS).toNat L M
theorem pl_nat {K : PySem.W.Frag} {H : Hp} {c : Nat} {v : V} {d : PyData} (h : Dp K H v d) (p : isPlD c d = true) : ∃ s : Nat, v = .int (s : Int) ∧ d = .int (s : Int) ∧ s < c := by
  cases h with
  | int i =>
    have p' : (decide (0 ≤ i) && decide (i < (c : Int))) = true := p
    rw [Bool.and_eq_true, decide_eq_true_eq, decide_eq_true_eq] at p'
    have e : i = ((i.toNat : Nat) : Int) := by omega
    exact ⟨i.toNat, congrArg V.int e, congrArg PyData.int e, by omega⟩
  | _ => cases p
theorem st_lot {K : PySem.W.Frag} {H : Hp} {c : Nat} {v : V} {d : PyData} (h : Dp K H v d) (p : isStD c d = true) : ∃ (a : Addr) (F : List Nat), v = .ref a ∧ lotD d = F ∧ SqT K H a (ni F) ∧ Lot c F := by
  cases h with
  | tup h all =>
    rename_i a vs ds
    have p' : (ds.all (isPlD c) && risingB (ds.map intD)) = true := p
    rw [Bool.and_eq_true] at p'
    have e := dps_ints all p'.1
    have up : (ds.map intD).Pairwise (· < ·) := of_decide_eq_true p'.2
    obtain ⟨F, e2, hF⟩ := nat_list (c := c) (ns := ds.map intD) fun z hz => by
      obtain ⟨d, hd, rfl⟩ := List.mem_map.mp hz
      have := List.all_eq_true.mp p'.1 d hd
      cases d with
      | int i =>
        have q : (decide (0 ≤ i) && decide (i < (c : Int))) = true := this
        rw [Bool.and_eq_true, decide_eq_true_eq, decide_eq_true_eq] at q
        exact q
      | _ => cases this
    refine ⟨a, F, rfl, ?_, ?_, ⟨?_, hF⟩⟩
    · show ds.map (fun d => (intD d).toNat) = F
      have := congrArg (List.map Int.toNat) e2
      rw [List.map_map, List.map_map] at this
      rw [show (fun d => (intD d).toNat) = Int.toNat ∘ intD from rfl, this, show (Int.toNat ∘ fun (i : Nat) => (i : Int)) = id from rfl, List.map_id]
    · rw [ni_ints, ← e2, ← e]
      exact h
    · rw [e2] at up
      exact (List.pairwise_map.mp up).imp fun {a b} z => by omega
  | _ => cases p
theorem any_low {k : Nat} {s : Nat} (hs : s < k) (f : Nat → Bool) : (List.range k).all (fun e => !(decide ((e : Int) < (s : Int)) && f e)) = !((List.range s).map f).any id := by
  rw [Bool.eq_iff_iff, Bool.not_eq_true', List.all_eq_true, ← Bool.not_eq_true, List.any_eq_true]
  constructor
  · rintro a ⟨x, hx, e⟩
    obtain ⟨i, hi, rfl⟩ := List.mem_map.mp hx
    have hi := List.mem_range.mp hi
    have := a i (List.mem_range.mpr (by omega))
    rw [decide_eq_true (by omega : (i : Int) < (s : Int)), show f i = true from e] at this
    cases this
  · intro a i hi
    rw [Bool.not_eq_true', Bool.and_eq_false_iff, decide_eq_false_iff_not]
    by_cases c : (i : Int) < (s : Int)
    · right
      cases e : f i with
      | false => rfl
      | true => exact absurd ⟨true, List.mem_map.mpr ⟨i, List.mem_range.mpr (by omega), e⟩, rfl⟩ a
    · exact .inl c
theorem any_high {k : Nat} {s : Nat} (hs : s < k) (f : Nat → Bool) : (List.range k).all (fun e => !(decide ((s : Int) < (e : Int)) && f e)) = !((List.range (k - (s + 1))).map fun i => f (s + 1 + i)).any id := by
  rw [Bool.eq_iff_iff, Bool.not_eq_true', List.all_eq_true, ← Bool.not_eq_true, List.any_eq_true]
  constructor
  · rintro a ⟨x, hx, e⟩
    obtain ⟨i, hi, rfl⟩ := List.mem_map.mp hx
    have hi := List.mem_range.mp hi
    have := a (s + 1 + i) (List.mem_range.mpr (by omega))
    rw [decide_eq_true (by omega : (s : Int) < ((s + 1 + i : Nat) : Int)), show f (s + 1 + i) = true from e] at this
    cases this
  · intro a i hi
    have hi := List.mem_range.mp hi
    rw [Bool.not_eq_true', Bool.and_eq_false_iff, decide_eq_false_iff_not]
    by_cases c : (s : Int) < (i : Int)
    · right
      cases e : f i with
      | false => rfl
      | true => exact absurd ⟨true, List.mem_map.mpr ⟨i - (s + 1), List.mem_range.mpr (by omega), by rw [show s + 1 + (i - (s + 1)) = i by omega]; exact e⟩, rfl⟩ a
    · exact .inl c
def spShowsLow (K : PySem.W.Frag) : Sp := fun vs H Q _ => ∃ (n : Nat) (v l m x y : V) (h t : Int) (ds : List Int) (L M : List Nat) (dS dF : PyData), vs = [v, l, m, x, y] ∧ SeaA K H v h t ds ∧ LotA K H l L ∧ LotA K H m M ∧ ds.length ≤ 24 ∧ 0 < ds.length ∧ Lot ds.length L ∧ Lot ds.length M ∧ Dp K H x dS ∧ Dp K H y dF ∧ Lv n dF ∧
  ∀ H' : Hp, Same H H' → Q (.bl (lowD h t ds L M dS dF)) H'
def spShowsHigh (K : PySem.W.Frag) : Sp := fun vs H Q _ => ∃ (n : Nat) (v l m x y : V) (h t : Int) (ds : List Int) (L M : List Nat) (dS dF : PyData), vs = [v, l, m, x, y] ∧ SeaA K H v h t ds ∧ LotA K H l L ∧ LotA K H m M ∧ ds.length ≤ 24 ∧ 0 < ds.length ∧ Lot ds.length L ∧ Lot ds.length M ∧ Dp K H x dS ∧ Dp K H y dF ∧ Lv n dF ∧
  ∀ H' : Hp, Same H H' → Q (.bl (highD h t ds L M dS dF)) H'
def spShowsFast (K : PySem.W.Frag) : Sp := fun vs H Q _ => ∃ (v l m x : V) (h t : Int) (ds : List Int) (L M : List Nat) (dS : PyData), vs = [v, l, m, x] ∧ SeaA K H v h t ds ∧ LotA K H l L ∧ LotA K H m M ∧ ds.length ≤ 24 ∧ 0 < ds.length ∧ Lot ds.length L ∧ Lot ds.length M ∧ Dp K H x dS ∧
  ∀ H' : Hp, Same H H' → Q (.bl (fastD h t ds L M dS)) H'
abbrev s_shows_low : Stmt := topS 34
theorem sc_shows_low : FnScope (["sea", "one", "other", "step", "full", "mark", "earlier"] : List Str) (["sea", "one", "other", "step", "full"] : List Str) (defScope s_shows_low) := ⟨rfl, rfl, rfl, by decide +kernel, rfl, by decide +kernel, by decide +kernel⟩
theorem b_shows_low (kV doc pm : Value) (an : Option Addr) (cdv ct : Value) (us : List Value) (hl : us.length = (["sea", "one", "other", "step", "full"] : List Str).length) : bindArgs (PySem.W.fnOf "shows_low" "shows_low" (defArgs s_shows_low) (defBody s_shows_low) (defScope s_shows_low) .none kV doc pm an cdv ct) ⟨us, []⟩ = pure ((["sea", "one", "other", "step", "full"] : List Str).zip us) :=
  match us, hl with | [_, _, _, _, _], _ => rfl
abbrev s_shows_high : Stmt := topS 35
theorem sc_shows_high : FnScope (["sea", "one", "other", "step", "left", "mark", "later"] : List Str) (["sea", "one", "other", "step", "left"] : List Str) (defScope s_shows_high) := ⟨rfl, rfl, rfl, by decide +kernel, rfl, by decide +kernel, by decide +kernel⟩
theorem b_shows_high (kV doc pm : Value) (an : Option Addr) (cdv ct : Value) (us : List Value) (hl : us.length = (["sea", "one", "other", "step", "left"] : List Str).length) : bindArgs (PySem.W.fnOf "shows_high" "shows_high" (defArgs s_shows_high) (defBody s_shows_high) (defScope s_shows_high) .none kV doc pm an cdv ct) ⟨us, []⟩ = pure ((["sea", "one", "other", "step", "left"] : List Str).zip us) :=
  match us, hl with | [_, _, _, _, _], _ => rfl
abbrev s_shows_fast : Stmt := topS 36
theorem sc_shows_fast : FnScope (["sea", "one", "other", "ship", "too_deep"] : List Str) (["sea", "one", "other", "ship"] : List Str) (defScope s_shows_fast) := ⟨rfl, rfl, rfl, by decide +kernel, rfl, by decide +kernel, by decide +kernel⟩
theorem b_shows_fast (kV doc pm : Value) (an : Option Addr) (cdv ct : Value) (us : List Value) (hl : us.length = (["sea", "one", "other", "ship"] : List Str).length) : bindArgs (PySem.W.fnOf "shows_fast" "shows_fast" (defArgs s_shows_fast) (defBody s_shows_fast) (defScope s_shows_fast) .none kV doc pm an cdv ct) ⟨us, []⟩ = pure ((["sea", "one", "other", "ship"] : List Str).zip us) :=
  match us, hl with | [_, _, _, _], _ => rfl
section
variable {P : Program} {w : World} {K : PySem.W.Frag} {mg : Str → Option Value} {base : Heap}
theorem ok_shows_low {k : Nat} (D : Df K mg "shows_low" s_shows_low) (T : Bt mg) (O_is_place : Ok P w K mg base k "is_place" s_is_place ["sea", "thing"] (spIsPlace K)) (O_is_standing : Ok P w K mg base k "is_standing" s_is_standing ["sea", "thing"] (spIsStand K)) (O_mark_at : Ok P w K mg base k "mark_at" s_mark_at ["sea", "step"] (spMark K))
    (O_filled : Ok P w K mg base k "filled" s_filled ["sea", "standing", "step"] (spFillB K)) (O_lies_under : Ok P w K mg base k "lies_under" s_lies_under ["sea", "standing", "step", "full"] (spUnder K)) : Ok P w K mg base (k + 1) "shows_low" s_shows_low ["sea", "one", "other", "step", "full"] (spShowsLow K) := by
  refine D.ok sc_shows_low b_shows_low (fun vs H Q E h => ?_) (fun f cdv A outer s H vs Q E hr h => ?_)
  · obtain ⟨n, v, l, m, x, y, h, t, ds, L, M, dS, dF, rfl, _⟩ := h
    rfl
  · obtain ⟨n, v, l, m, x, y, h, t, ds, L, M, dS, dF, rfl, hv, hl, hm, d24, d0, hL, hM, hx, hy, lv, q⟩ := h
    refine ⟨_, (pss_cons (ps_if (pt_not (PW.pt (pw_and (pt_val (pe_fn O_is_place (hr.mono (by omega)) (pa_cons (pv 0) (pa_cons (pv 3) pa_nil)))) (pw_and1 (pt_val (pe_fn O_is_standing (hr.mono (by omega)) (pa_cons (pv 0) (pa_cons (pv 4) pa_nil))))))))
        (pss_one (ps_ret pe_bl))
        pss_nil)
      (pss_cons (ps_set (i := 5) sc_shows_low.nd rfl (.inr rfl) (pe_fn O_mark_at (hr.mono (by omega)) (pa_cons (pv 0) (pa_cons (pv 3) pa_nil))))
      (pss_cons (ps_if (pt_val (pe_callB (cr_any rfl) (by rfl) T.any_ (by decide +kernel) (pa_cons (pe_lc (own := [("earlier", 6)]) (g := (gName 6)) (tt := tYes) (by rfl) sc_shows_low.nd (pi_range1 (by rfl) T.range_ (pa_cons (pv 3) pa_nil)) (blkOk_by (own := [("earlier", 6)]) (N := (["sea", "one", "other", "step", "full", "mark", "earlier"] : List Str)) (sc := defScope s_shows_low) (by decide +kernel)) (fun _ _ _ _ _ => (pg_name (i := 6) sc_shows_low.nd rfl (.inl rfl))) (fun _ _ _ _ _ => pts_nil) (fun _ _ _ _ _ => (pe_cmpR op_gt (pe_fn O_mark_at (hr.mono (by omega)) (pa_cons (pv 0) (pa_cons (pv 6) pa_nil))) (pv 5) (nomark _)))) pa_nil)))
        (pss_one (ps_ret pe_bl))
        pss_nil)
      (pss_cons (ps_if (PW.pt (pw_or (pt_cmpR op_ne (pe_callB call_len_seq (by rfl) T.len_ PySem.boot_len (pa_cons (pv 4) pa_nil)) (pv 3) (nomark _)) (pw_or1 (pt_cmpR (op_neD hr.units) (pe_fn O_filled (hr.mono (by omega)) (pa_cons (pv 0) (pa_cons (pv 4) (pa_cons (pv 3) pa_nil)))) (pv 4) (nomark _)))))
        (pss_one (ps_ret pe_bl))
        pss_nil)
      (pss_one (ps_ret (pe_cmpR op_ne (pe_fn O_lies_under (hr.mono (by omega)) (pa_cons (pv 0) (pa_cons (pv 1) (pa_cons (pv 3) (pa_cons (pv 4) pa_nil))))) (pe_fn O_lies_under (hr.mono (by omega)) (pa_cons (pv 0) (pa_cons (pv 2) (pa_cons (pv 3) (pa_cons (pv 4) pa_nil))))) (nomark _)))))))), ?_⟩
    refine ⟨_, rfl, _, rfl, v, x, h, t, ds, dS, rfl, hv, hx, ?_⟩
    unfold lowD at q
    cases eP : isPlD ds.length dS with
    | false =>
      rw [eP] at q
      exact ⟨_, rfl, iteF (iteT (q H (Same.refl _)))⟩
    | true =>
    rw [eP] at q
    obtain ⟨st, rfl, rfl, hs⟩ := pl_nat hx eP
    refine ⟨_, rfl, iteT ⟨_, rfl, _, rfl, n, v, y, h, t, ds, dF, rfl, hv, hy, lv, fun H1 s1 => ⟨_, rfl, ?_⟩⟩⟩
    cases eS : isStD ds.length dF with
    | false =>
      rw [eS] at q
      exact iteT (q H1 s1)
    | true =>
    rw [eS] at q
    obtain ⟨pf, F, rfl, eF, hF, lF⟩ := st_lot hy eS
    rw [eF] at q
    refine iteF ?_
    replace hv := hv.same s1
    replace hl := hl.same s1
    replace hm := hm.same s1
    replace hF := Same.tup s1 hF
    refine ⟨_, rfl, _, rfl, v, h, t, (st : Int), ds, rfl, hv, ?_⟩
    refine ⟨_, rfl, (st : Int), rfl, by omega, by omega, fun C nC => ?_⟩
    refine lc_range (fun i H' => Same H1 H' ∧ H' C = some (.lst (((List.range i).map (fun e : Nat => decide (mk h t ds.length (e : Int) > mk h t ds.length (st : Int)))).map V.bl))) ⟨same_new nC, upd_same⟩ ?_ ?_
    · rintro i Ha hi ⟨sa, hC⟩
      have i0 : (0 : Int) + (i : Int) = ((i : Nat) : Int) := Int.zero_add _
      rw [i0]
      refine ⟨rfl, tyes (iteT ?_)⟩
      refine ⟨_, rfl, _, rfl, _, h, t, _, ds, rfl, hv.same sa, _, rfl, _, _, rfl, rfl, _, hC, ?_, same_over sa nC, ?_⟩
      · rw [List.length_map, List.length_map, List.length_range]
        exact small1000 (by omega)
      · rw [upd_same, List.range_succ, List.map_append, List.map_append]
        rfl
    rintro H2 ⟨s2, hC⟩
    rw [show ((st : Int)).toNat = st from Int.toNat_natCast st] at hC
    refine ⟨C, _, rfl, SqL.of hC, ?_⟩
    have eA : (List.range ds.length).all (fun e => !(decide ((e : Int) < (st : Int)) && decide (mk h t ds.length (e : Int) > mk h t ds.length (st : Int)))) = !((List.range st).map (fun e : Nat => decide (mk h t ds.length (e : Int) > mk h t ds.length (st : Int)))).any id := any_low hs (fun e => decide (mk h t ds.length (e : Int) > mk h t ds.length (st : Int)))
    have eQ : lowSB h t ds (intD (.int (st : Int))) F L M = (!((List.range st).map (fun e : Nat => decide (mk h t ds.length (e : Int) > mk h t ds.length (st : Int)))).any id && (decide ((F.length : Int) = (st : Int)) && (decide (fillL h t ds F (st : Int) = F) && (underB h t ds (st : Int) F L != underB h t ds (st : Int) F M)))) := by
      unfold lowSB
      rw [← eA]
      rfl
    rw [eQ] at q
    replace hv := hv.same s2
    replace hl := hl.same s2
    replace hm := hm.same s2
    replace hF := Same.tup s2 hF
    replace s1 := s1.trans s2
    refine ⟨_, rfl, ?_⟩
    generalize (List.map _ _).any id = an at q ⊢
    cases an with
    | true => exact iteT (q H2 s1)
    | false =>
    refine iteF ?_
    refine ⟨_, rfl, pf, _, rfl, .inr hF, ?_⟩
    rw [ni_len]
    have vI : ∀ a b : Int, (V.int a = V.int b) ↔ a = b := fun a b => ⟨fun z => V.int.inj z, fun z => congrArg V.int z⟩
    refine ⟨_, rfl, rfl, _, rfl, ?_⟩
    cases c1 : decide ((F.length : Int) = (st : Int)) with
    | false =>
      rw [c1] at q
      have c2 := of_decide_eq_false c1
      exact iteNN (fun z => c2 ((vI _ _).mp z)) (iteT (q H2 s1))
    | true =>
    rw [c1] at q
    refine iteNS (congrArg V.int (of_decide_eq_true c1)) ?_
    refine ⟨_, rfl, _, rfl, _, rfl, _, .ref pf, h, t, (st : Int), ds, F, rfl, hv, ⟨pf, rfl, .inr hF⟩, d24, lF, fun H3 p3 s3 np hp => ?_⟩
    refine ⟨_, rfl, _, _, dp_niT (SqT.of hp), dp_niT (Same.tup s3 hF), shaped_tup _, shaped_tup _, _, rfl, ?_⟩
    rw [eqv_niT]
    cases c3 : decide (fillL h t ds F (st : Int) = F) with
    | false =>
      rw [c3] at q
      exact iteT (q H3 (s1.trans s3))
    | true =>
    rw [c3] at q
    refine iteF ?_
    refine ⟨_, rfl, _, rfl, _, rfl, _, rfl, _, l, pf, h, t, (st : Int), ds, L, F, rfl, hv.same s3, hl.same s3, d24, hL, Same.tup s3 hF, fun H4 s4 => ?_⟩
    have s34 := s3.trans s4
    refine ⟨_, rfl, _, rfl, _, rfl, _, rfl, _, m, pf, h, t, (st : Int), ds, M, F, rfl, hv.same s34, hm.same s34, d24, hM, Same.tup s34 hF, fun H5 s5 => ⟨rfl, ?_⟩⟩
    rw [bl_ne]
    exact q H5 (s1.trans (s34.trans s5))
theorem ok_shows_high {k : Nat} (D : Df K mg "shows_high" s_shows_high) (T : Bt mg) (O_is_place : Ok P w K mg base k "is_place" s_is_place ["sea", "thing"] (spIsPlace K)) (O_is_standing : Ok P w K mg base k "is_standing" s_is_standing ["sea", "thing"] (spIsStand K)) (O_mark_at : Ok P w K mg base k "mark_at" s_mark_at ["sea", "step"] (spMark K))
    (O_emptied : Ok P w K mg base k "emptied" s_emptied ["sea", "standing", "step"] (spEmptB K)) (O_lies_above : Ok P w K mg base k "lies_above" s_lies_above ["sea", "standing", "step", "left"] (spAbove K)) : Ok P w K mg base (k + 1) "shows_high" s_shows_high ["sea", "one", "other", "step", "left"] (spShowsHigh K) := by
  refine D.ok sc_shows_high b_shows_high (fun vs H Q E h => ?_) (fun f cdv A outer s H vs Q E hr h => ?_)
  · obtain ⟨n, v, l, m, x, y, h, t, ds, L, M, dS, dF, rfl, _⟩ := h
    rfl
  · obtain ⟨n, v, l, m, x, y, h, t, ds, L, M, dS, dF, rfl, hv, hl, hm, d24, d0, hL, hM, hx, hy, lv, q⟩ := h
    refine ⟨_, (pss_cons (ps_if (pt_not (PW.pt (pw_and (pt_val (pe_fn O_is_place (hr.mono (by omega)) (pa_cons (pv 0) (pa_cons (pv 3) pa_nil)))) (pw_and1 (pt_val (pe_fn O_is_standing (hr.mono (by omega)) (pa_cons (pv 0) (pa_cons (pv 4) pa_nil))))))))
        (pss_one (ps_ret pe_bl))
        pss_nil)
      (pss_cons (ps_set (i := 5) sc_shows_high.nd rfl (.inr rfl) (pe_fn O_mark_at (hr.mono (by omega)) (pa_cons (pv 0) (pa_cons (pv 3) pa_nil))))
      (pss_cons (ps_if (pt_val (pe_callB (cr_any rfl) (by rfl) T.any_ (by decide +kernel) (pa_cons (pe_lc (own := [("later", 6)]) (g := (gName 6)) (tt := tYes) (by rfl) sc_shows_high.nd (pi_range2 (by rfl) T.range_ (pa_cons (pe_op op_add (pv 3) pe_int) (pa_cons (pe_callB call_len_seq (by rfl) T.len_ PySem.boot_len (pa_cons (pe_ix ix_lt (pv 0) pe_int (fun _ _ => rfl)) pa_nil)) pa_nil))) (blkOk_by (own := [("later", 6)]) (N := (["sea", "one", "other", "step", "left", "mark", "later"] : List Str)) (sc := defScope s_shows_high) (by decide +kernel)) (fun _ _ _ _ _ => (pg_name (i := 6) sc_shows_high.nd rfl (.inl rfl))) (fun _ _ _ _ _ => pts_nil) (fun _ _ _ _ _ => (pe_cmpR op_gt (pe_fn O_mark_at (hr.mono (by omega)) (pa_cons (pv 0) (pa_cons (pv 6) pa_nil))) (pv 5) (nomark _)))) pa_nil)))
        (pss_one (ps_ret pe_bl))
        pss_nil)
      (pss_cons (ps_if (PW.pt (pw_or (pt_cmpR op_ne (pe_callB call_len_seq (by rfl) T.len_ PySem.boot_len (pa_cons (pv 4) pa_nil)) (pe_op op_add (pv 3) pe_int) (nomark _)) (pw_or1 (pt_cmpR (op_neD hr.units) (pe_fn O_emptied (hr.mono (by omega)) (pa_cons (pv 0) (pa_cons (pv 4) (pa_cons (pv 3) pa_nil)))) (pv 4) (nomark _)))))
        (pss_one (ps_ret pe_bl))
        pss_nil)
      (pss_one (ps_ret (pe_cmpR op_ne (pe_fn O_lies_above (hr.mono (by omega)) (pa_cons (pv 0) (pa_cons (pv 1) (pa_cons (pv 3) (pa_cons (pv 4) pa_nil))))) (pe_fn O_lies_above (hr.mono (by omega)) (pa_cons (pv 0) (pa_cons (pv 2) (pa_cons (pv 3) (pa_cons (pv 4) pa_nil))))) (nomark _)))))))), ?_⟩
    refine ⟨_, rfl, _, rfl, v, x, h, t, ds, dS, rfl, hv, hx, ?_⟩
    unfold highD at q
    cases eP : isPlD ds.length dS with
    | false =>
      rw [eP] at q
      exact ⟨_, rfl, iteF (iteT (q H (Same.refl _)))⟩
    | true =>
    rw [eP] at q
    obtain ⟨st, rfl, rfl, hs⟩ := pl_nat hx eP
    refine ⟨_, rfl, iteT ⟨_, rfl, _, rfl, n, v, y, h, t, ds, dF, rfl, hv, hy, lv, fun H1 s1 => ⟨_, rfl, ?_⟩⟩⟩
    cases eS : isStD ds.length dF with
    | false =>
      rw [eS] at q
      exact iteT (q H1 s1)
    | true =>
    rw [eS] at q
    obtain ⟨pf, F, rfl, eF, hF, lF⟩ := st_lot hy eS
    rw [eF] at q
    refine iteF ?_
    replace hv := hv.same s1
    replace hl := hl.same s1
    replace hm := hm.same s1
    replace hF := Same.tup s1 hF
    refine ⟨_, rfl, _, rfl, v, h, t, (st : Int), ds, rfl, hv, ?_⟩
    obtain ⟨pv, pq, rfl, hp, hq⟩ := id hv
    refine ⟨_, rfl, _, 1, rfl, rfl, _, rfl, pv, _, 2, .ref pq, rfl, rfl, hp, rfl, pq, _, rfl, hq, (st : Int) + 1, ((ds.length : Nat) : Int), by rw [List.length_map], ⟨by omega, by omega, by omega, by omega⟩, fun C nC => ?_⟩
    refine lc_range (fun i H' => Same H1 H' ∧ H' C = some (.lst (((List.range i).map (fun e : Nat => decide (mk h t ds.length ((st + 1 + e : Nat) : Int) > mk h t ds.length (st : Int)))).map V.bl))) ⟨same_new nC, upd_same⟩ ?_ ?_
    · rintro i Ha hi ⟨sa, hC⟩
      have i0 : ((st : Int) + 1) + (i : Int) = ((st + 1 + i : Nat) : Int) := by omega
      rw [i0]
      refine ⟨rfl, tyes (iteT ?_)⟩
      refine ⟨_, rfl, _, rfl, _, h, t, _, ds, rfl, hv.same sa, _, rfl, _, _, rfl, rfl, _, hC, ?_, same_over sa nC, ?_⟩
      · rw [List.length_map, List.length_map, List.length_range]
        exact small1000 (by omega)
      · rw [upd_same, List.range_succ, List.map_append, List.map_append]
        rfl
    rintro H2 ⟨s2, hC⟩
    rw [show (((ds.length : Nat) : Int) - ((st : Int) + 1)).toNat = ds.length - (st + 1) by omega] at hC
    refine ⟨C, _, rfl, SqL.of hC, ?_⟩
    have eA : (List.range ds.length).all (fun e => !(decide ((st : Int) < (e : Int)) && decide (mk h t ds.length (e : Int) > mk h t ds.length (st : Int)))) = !((List.range (ds.length - (st + 1))).map (fun e : Nat => decide (mk h t ds.length ((st + 1 + e : Nat) : Int) > mk h t ds.length (st : Int)))).any id := any_high hs (fun e => decide (mk h t ds.length (e : Int) > mk h t ds.length (st : Int)))
    have eQ : highSB h t ds (intD (.int (st : Int))) F L M = (!((List.range (ds.length - (st + 1))).map (fun e : Nat => decide (mk h t ds.length ((st + 1 + e : Nat) : Int) > mk h t ds.length (st : Int)))).any id && (decide ((F.length : Int) = (st : Int) + 1) && (decide (emptL h t ds F (st : Int) = F) && (aboveB h t ds (st : Int) F L != aboveB h t ds (st : Int) F M)))) := by
      unfold highSB
      rw [← eA]
      rfl
    rw [eQ] at q
    replace hv := hv.same s2
    replace hl := hl.same s2
    replace hm := hm.same s2
    replace hF := Same.tup s2 hF
    replace s1 := s1.trans s2
    refine ⟨_, rfl, ?_⟩
    generalize (List.map _ _).any id = an at q ⊢
    cases an with
    | true => exact iteT (q H2 s1)
    | false =>
    refine iteF ?_
    refine ⟨_, rfl, pf, _, rfl, .inr hF, ?_⟩
    rw [ni_len]
    have vI : ∀ a b : Int, (V.int a = V.int b) ↔ a = b := fun a b => ⟨fun z => V.int.inj z, fun z => congrArg V.int z⟩
    refine ⟨_, rfl, _, 1, rfl, rfl, rfl, _, rfl, ?_⟩
    cases c1 : decide ((F.length : Int) = (st : Int) + 1) with
    | false =>
      rw [c1] at q
      have c2 := of_decide_eq_false c1
      exact iteNN (fun z => c2 ((vI _ _).mp z)) (iteT (q H2 s1))
    | true =>
    rw [c1] at q
    refine iteNS (congrArg V.int (of_decide_eq_true c1)) ?_
    refine ⟨_, rfl, _, rfl, _, rfl, _, .ref pf, h, t, (st : Int), ds, F, rfl, hv, ⟨pf, rfl, .inr hF⟩, d24, lF, fun H3 p3 s3 np hp => ?_⟩
    refine ⟨_, rfl, _, _, dp_niT (SqT.of hp), dp_niT (Same.tup s3 hF), shaped_tup _, shaped_tup _, _, rfl, ?_⟩
    rw [eqv_niT]
    cases c3 : decide (emptL h t ds F (st : Int) = F) with
    | false =>
      rw [c3] at q
      exact iteT (q H3 (s1.trans s3))
    | true =>
    rw [c3] at q
    refine iteF ?_
    refine ⟨_, rfl, _, rfl, _, rfl, _, rfl, _, l, pf, h, t, (st : Int), ds, L, F, rfl, hv.same s3, hl.same s3, d24, hL, Same.tup s3 hF, fun H4 s4 => ?_⟩
    have s34 := s3.trans s4
    refine ⟨_, rfl, _, rfl, _, rfl, _, rfl, _, m, pf, h, t, (st : Int), ds, M, F, rfl, hv.same s34, hm.same s34, d24, hM, Same.tup s34 hF, fun H5 s5 => ⟨rfl, ?_⟩⟩
    rw [bl_ne]
    exact q H5 (s1.trans (s34.trans s5))
theorem ok_shows_fast {k : Nat} (D : Df K mg "shows_fast" s_shows_fast) (T : Bt mg) (O_is_place : Ok P w K mg base k "is_place" s_is_place ["sea", "thing"] (spIsPlace K)) (O_mark_at : Ok P w K mg base k "mark_at" s_mark_at ["sea", "step"] (spMark K)) (O_top_step : Ok P w K mg base k "top_step" s_top_step ["sea"] (spTop K)) : Ok P w K mg base (k + 1) "shows_fast" s_shows_fast ["sea", "one", "other", "ship"] (spShowsFast K) := by
  refine D.ok sc_shows_fast b_shows_fast (fun vs H Q E h => ?_) (fun f cdv A outer s H vs Q E hr h => ?_)
  · obtain ⟨v, l, m, x, h, t, ds, L, M, dS, rfl, _⟩ := h
    rfl
  · obtain ⟨v, l, m, x, h, t, ds, L, M, dS, rfl, hv, hl, hm, d24, d0, hL, hM, hx, q⟩ := h
    refine ⟨_, (pss_cons (ps_if (pt_not (pt_val (pe_fn O_is_place (hr.mono (by omega)) (pa_cons (pv 0) (pa_cons (pv 3) pa_nil)))))
        (pss_one (ps_ret pe_bl))
        pss_nil)
      (pss_cons (ps_set (i := 4) sc_shows_fast.nd rfl (.inl rfl) (pe_cmpR op_gt (pe_ix ix_lt (pe_ix ix_lt (pv 0) pe_int (fun _ _ => rfl)) (pv 3) (fun _ _ => rfl)) (pe_fn O_mark_at (hr.mono (by omega)) (pa_cons (pv 0) (pa_cons (pe_fn O_top_step (hr.mono (by omega)) (pa_cons (pv 0) pa_nil)) pa_nil))) (nomark _)))
      (pss_one (ps_ret (pe_and (pv 4) (pe_one (pe_cmpR op_ne (pe_cmpR op_in_seq (pv 3) (pv 1) (by rfl)) (pe_cmpR op_in_seq (pv 3) (pv 2) (by rfl)) (nomark _)))))))), ?_⟩
    refine ⟨_, rfl, _, rfl, v, x, h, t, ds, dS, rfl, hv, hx, ?_⟩
    unfold fastD at q
    cases eP : isPlD ds.length dS with
    | false =>
      rw [eP] at q
      exact ⟨_, rfl, iteT (q H (Same.refl _))⟩
    | true =>
    rw [eP] at q
    obtain ⟨g, rfl, rfl, hg⟩ := pl_nat hx eP
    obtain ⟨pv, pq, rfl, hp, hq⟩ := id hv
    obtain ⟨pl, rfl, hl'⟩ := id hl
    obtain ⟨pm, rfl, hm'⟩ := id hm
    have q1 := q H (Same.refl _)
    unfold fastSB at q1
    refine ⟨_, rfl, iteF ?_⟩
    refine ⟨_, rfl, pv, _, 2, .ref pq, rfl, rfl, hp, rfl, _, rfl, pq, _, (g : Int), _, rfl, rfl, hq, at_nat (v := .int (ds.getD g 0)) rfl (by simp [hg]), _, rfl, _, rfl, _, h, t, ds, rfl, hv, ?_⟩
    refine ⟨_, h, t, topI h t ds.length, ds, rfl, hv, _, _, rfl, rfl, ?_⟩
    refine ⟨_, rfl, _, rfl, ?_⟩
    cases c : decide (ds.getD g 0 > mk h t ds.length (topI h t ds.length)) with
    | false =>
      refine iteF ?_
      rw [show (intD (.int (g : Int))).toNat = g from Int.toNat_natCast g, c] at q1
      exact q1
    | true =>
    refine iteT ?_
    rw [show (intD (.int (g : Int))).toNat = g from Int.toNat_natCast g, c] at q1
    refine ⟨_, rfl, _, rfl, pl, _, rfl, hl', rfl, ni_flat L, _, rfl, _, rfl, pm, _, rfl, hm', rfl, ni_flat M, rfl, ?_⟩
    rw [in_ni, in_ni, bl_ne]
    exact q1
end
end Sh

namespace Sh
open PySem PySem.Spec PyProof.Rows L2
/-- what of any thing is a bar -/
def showsD (h t : Int) (ds : List Int) (L M : List Nat) : PyData → Bool
  | .tuple [.str w, x] => decide (w = "fast") && fastD h t ds L M x
  | .tuple [.str w, x, y] => if w = "low" then lowD h t ds L M x y else if w = "high" then highD h t ds L M x y else false
  | _ => false
theorem eqv_word (d : PyData) (x : Str) : PyData.eqv d (.str x) = (match d with | .str w => decide (w = x) | _ => false) := by
  cases d with
  | str w =>
    show (w == x) = decide (w = x)
    rw [Bool.eq_iff_iff, beq_iff_eq, decide_eq_true_eq]
  | _ => rfl
theorem dp_two {K : PySem.W.Frag} {H : Hp} {v : V} {d : PyData} (h : Dp K H v d) (n : isTupD 2 d = true) : ∃ (p : Addr) (x y : V) (a b : PyData), v = .ref p ∧ d = .tuple [a, b] ∧ SqT K H p [x, y] ∧ Dp K H x a ∧ Dp K H y b := by
  cases h with
  | tup h all =>
    rename_i p xs ds
    have l : ds.length = 2 := of_decide_eq_true n
    match ds, l with
    | [a, b], _ =>
      cases all with
      | cons x all =>
        cases all with
        | cons y all =>
          cases all
          exact ⟨p, _, _, a, b, rfl, rfl, h, x, y⟩
  | non => cases n
  | bl b => cases n
  | int i => cases n
  | str x => cases n
  | lst h a => cases n
theorem shaped_el {e : PyData} : ∀ {ds : List PyData}, SeqAt.shaped (.tuple ds) = true → e ∈ ds → SeqAt.shaped e = true := fun {ds} h m => by
  unfold SeqAt.shaped at h ⊢
  rw [show PyData.canLay0 (.tuple ds) = PyData.canLayAll0 ds from rfl, show PyData.depth (.tuple ds) = PyData.depthAll ds + 1 from rfl, Bool.and_eq_true, decide_eq_true_eq] at h
  rw [Bool.and_eq_true, decide_eq_true_eq]
  obtain ⟨h1, h2⟩ := h
  have key : ∀ (ds : List PyData), PyData.canLayAll0 ds = true → PyData.depthAll ds + 1 ≤ 64 → e ∈ ds → e.canLay0 = true ∧ e.depth ≤ 64 := by
    intro ds
    induction ds with
    | nil => intro _ _ m; cases m
    | cons x xs ih =>
      intro a b m
      have a' : (PyData.canLay0 x && PyData.canLayAll0 xs) = true := a
      have b' : max (PyData.depth x) (PyData.depthAll xs) + 1 ≤ 64 := b
      rw [Bool.and_eq_true] at a'
      rcases List.mem_cons.mp m with rfl | m
      · exact ⟨a'.1, by omega⟩
      · exact ih a'.2 (by omega) m
  exact key ds h1 h2 m
theorem shows_none {h t : Int} {ds : List Int} {L M : List Nat} {d : PyData} (n2 : isTupD 2 d = false) (n3 : isTupD 3 d = false) : showsD h t ds L M d = false := by
  cases d with
  | tuple ds =>
    have l2 : ds.length ≠ 2 := of_decide_eq_false n2
    have l3 : ds.length ≠ 3 := of_decide_eq_false n3
    match ds, l2, l3 with
    | [], _, _ => rfl
    | [a], _, _ => cases a <;> rfl
    | [_, _], l2, _ => exact absurd rfl l2
    | [_, _, _], _, l3 => exact absurd rfl l3
    | a :: _ :: _ :: _ :: _, _, _ => cases a <;> rfl
  | _ => rfl
def spShows (K : PySem.W.Frag) : Sp := fun vs H Q _ => ∃ (n : Nat) (v l m z : V) (h t : Int) (ds : List Int) (L M : List Nat) (d : PyData), vs = [v, l, m, z] ∧ SeaA K H v h t ds ∧ LotA K H l L ∧ LotA K H m M ∧ ds.length ≤ 24 ∧ 0 < ds.length ∧ Lot ds.length L ∧ Lot ds.length M ∧ Dp K H z d ∧ Lv n d ∧ SeqAt.shaped d = true ∧
  ∀ H' : Hp, Same H H' → Q (.bl (showsD h t ds L M d)) H'
abbrev s_shows_bar : Stmt := topS 37
theorem sc_shows_bar : FnScope (["sea", "one", "other", "thing", "word", "ship", "step", "ships"] : List Str) (["sea", "one", "other", "thing"] : List Str) (defScope s_shows_bar) := ⟨rfl, rfl, rfl, by decide +kernel, rfl, by decide +kernel, by decide +kernel⟩
theorem b_shows_bar (kV doc pm : Value) (an : Option Addr) (cdv ct : Value) (us : List Value) (hl : us.length = (["sea", "one", "other", "thing"] : List Str).length) : bindArgs (PySem.W.fnOf "shows_bar" "shows_bar" (defArgs s_shows_bar) (defBody s_shows_bar) (defScope s_shows_bar) .none kV doc pm an cdv ct) ⟨us, []⟩ = pure ((["sea", "one", "other", "thing"] : List Str).zip us) :=
  match us, hl with | [_, _, _, _], _ => rfl
section
variable {P : Program} {w : World} {K : PySem.W.Frag} {mg : Str → Option Value} {base : Heap}
theorem ok_shows_bar {k : Nat} (D : Df K mg "shows_bar" s_shows_bar) (T : Bt mg) (O_is_tuple_of : Ok P w K mg base k "is_tuple_of" s_is_tuple_of ["thing", "many"] (spIsTup K)) (O_shows_fast : Ok P w K mg base k "shows_fast" s_shows_fast ["sea", "one", "other", "ship"] (spShowsFast K)) (O_shows_low : Ok P w K mg base k "shows_low" s_shows_low ["sea", "one", "other", "step", "full"] (spShowsLow K)) (O_shows_high : Ok P w K mg base k "shows_high" s_shows_high ["sea", "one", "other", "step", "left"] (spShowsHigh K)) : Ok P w K mg base (k + 1) "shows_bar" s_shows_bar ["sea", "one", "other", "thing"] (spShows K) := by
  refine D.ok sc_shows_bar b_shows_bar (fun vs H Q E h => ?_) (fun f cdv A outer s H vs Q E hr h => ?_)
  · obtain ⟨n, v, l, m, z, h, t, ds, L, M, d, rfl, _⟩ := h
    rfl
  · obtain ⟨n, v, l, m, z, h, t, ds, L, M, d, rfl, hv, hl, hm, d24, d0, hL, hM, hz, lv, sh, q⟩ := h
    refine ⟨_, (pss_cons (ps_if (pt_val (pe_fn O_is_tuple_of (hr.mono (by omega)) (pa_cons (pv 3) (pa_cons pe_int pa_nil))))
        (pss_cons (ps_asg (pv 3) (pg_seq rfl (pgs_cons (pg_name (i := 4) sc_shows_bar.nd rfl (.inl rfl)) (pgs_cons (pg_name (i := 5) sc_shows_bar.nd rfl (.inl rfl)) pgs_nil))))
          (pss_one (ps_ret (pe_and (pe_cmpR (op_eqD hr.units) (pv 4) pe_str (nomark _)) (pe_one (pe_fn O_shows_fast (hr.mono (by omega)) (pa_cons (pv 0) (pa_cons (pv 1) (pa_cons (pv 2) (pa_cons (pv 5) pa_nil))))))))))
        pss_nil)
      (pss_cons (ps_if (pt_not (pt_val (pe_fn O_is_tuple_of (hr.mono (by omega)) (pa_cons (pv 3) (pa_cons pe_int pa_nil)))))
        (pss_one (ps_ret pe_bl))
        pss_nil)
      (pss_cons (ps_asg (pv 3) (pg_seq rfl (pgs_cons (pg_name (i := 4) sc_shows_bar.nd rfl (.inl rfl)) (pgs_cons (pg_name (i := 6) sc_shows_bar.nd rfl (.inl rfl)) (pgs_cons (pg_name (i := 7) sc_shows_bar.nd rfl (.inl rfl)) pgs_nil)))))
      (pss_cons (ps_if (pt_cmpR (op_eqD hr.units) (pv 4) pe_str (nomark _))
        (pss_one (ps_ret (pe_fn O_shows_low (hr.mono (by omega)) (pa_cons (pv 0) (pa_cons (pv 1) (pa_cons (pv 2) (pa_cons (pv 6) (pa_cons (pv 7) pa_nil))))))))
        pss_nil)
      (pss_cons (ps_if (pt_cmpR (op_eqD hr.units) (pv 4) pe_str (nomark _))
        (pss_one (ps_ret (pe_fn O_shows_high (hr.mono (by omega)) (pa_cons (pv 0) (pa_cons (pv 1) (pa_cons (pv 2) (pa_cons (pv 6) (pa_cons (pv 7) pa_nil))))))))
        pss_nil)
      (pss_one (ps_ret pe_bl))))))), ?_⟩
    refine ⟨_, rfl, z, d, 2, rfl, hz, ?_⟩
    refine ⟨_, rfl, ?_⟩
    cases e2 : isTupD 2 d with
    | true =>
      obtain ⟨p, x, y, a, b, rfl, rfl, hp, ha, hb⟩ := dp_two hz e2
      have sa := shaped_el sh (List.mem_cons_self (a := a))
      refine iteT ⟨_, rfl, p, _, rfl, .inr hp, rfl, _, _, rfl, _, _, rfl, rfl, ?_⟩
      refine ⟨_, rfl, a, .str "fast", ha, .str _, sa, by decide +kernel, _, rfl, ?_⟩
      rw [eqv_word]
      cases a with
      | str wd =>
        have eD : showsD h t ds L M (.tuple [.str wd, b]) = (decide (wd = "fast") && fastD h t ds L M b) := rfl
        rw [eD] at q
        show if decide (wd = "fast") = true then _ else _
        cases c : decide (wd = "fast") with
        | false =>
          rw [c] at q
          exact iteF (q H (Same.refl _))
        | true =>
          rw [c] at q
          refine iteT ⟨_, rfl, _, rfl, _, rfl, _, rfl, v, l, m, y, h, t, ds, L, M, b, rfl, hv, hl, hm, d24, d0, hL, hM, hb, fun H1 s1 => q H1 s1⟩
      | _ => exact iteF (q H (Same.refl _))
    | false =>
      refine iteF ⟨_, rfl, z, d, 3, rfl, hz, _, rfl, ?_⟩
      cases e3 : isTupD 3 d with
      | false =>
        have q1 := q H (Same.refl _)
        rw [shows_none e2 e3] at q1
        exact iteT q1
      | true =>
        obtain ⟨p, x, y, z', a, b, c, rfl, rfl, hp, ha, hb, hc⟩ := dp_three hz e3
        have sa := shaped_el sh (List.mem_cons_self (a := a))
        obtain ⟨n', lc⟩ : ∃ n', Lv n' c := by
          cases n with
          | zero => exact lv.elim
          | succ n => exact ⟨n, lv.2 c (by simp)⟩
        refine iteF ⟨_, rfl, p, _, rfl, .inr hp, rfl, _, _, rfl, _, _, rfl, _, _, rfl, rfl, ?_⟩
        refine ⟨_, rfl, a, .str "low", ha, .str _, sa, by decide +kernel, _, rfl, ?_⟩
        rw [eqv_word]
        cases a with
        | str wd =>
          have eD : showsD h t ds L M (.tuple [.str wd, b, c]) = (if wd = "low" then lowD h t ds L M b c else if wd = "high" then highD h t ds L M b c else false) := rfl
          rw [eD] at q
          show if decide (wd = "low") = true then _ else _
          by_cases c1 : wd = "low"
          · rw [decide_eq_true c1]
            rw [if_pos c1] at q
            exact iteT ⟨_, rfl, _, rfl, _, rfl, _, rfl, _, rfl, n', v, l, m, y, z', h, t, ds, L, M, b, c, rfl, hv, hl, hm, d24, d0, hL, hM, hb, hc, lc, fun H1 s1 => q H1 s1⟩
          · rw [decide_eq_false c1]
            rw [if_neg c1] at q
            refine iteF ⟨_, rfl, .str wd, .str "high", ha, .str _, sa, by decide +kernel, _, rfl, ?_⟩
            rw [eqv_word]
            show if decide (wd = "high") = true then _ else _
            by_cases c2 : wd = "high"
            · rw [decide_eq_true c2]
              rw [if_pos c2] at q
              exact iteT ⟨_, rfl, _, rfl, _, rfl, _, rfl, _, rfl, n', v, l, m, y, z', h, t, ds, L, M, b, c, rfl, hv, hl, hm, d24, d0, hL, hM, hb, hc, lc, fun H1 s1 => q H1 s1⟩
            · rw [decide_eq_false c2]
              rw [if_neg c2] at q
              exact iteF (q H (Same.refl _))
        | _ =>
          refine iteF ⟨_, rfl, _, .str "high", ha, .str _, sa, by decide +kernel, _, rfl, iteF (q H (Same.refl _))⟩
end
end Sh

namespace Sh
open PySem PySem.Spec PyProof.Rows L2
/-! ### the bars that are told -/
def BarAt (H : Hp) (v : V) : BarV → Prop
  | .low s F => ∃ p q, v = .ref p ∧ H p = some (.tup [.str "low", .int (s : Int), .ref q]) ∧ H q = some (.tup (ni F))
  | .high s F => ∃ p q, v = .ref p ∧ H p = some (.tup [.str "high", .int (s : Int), .ref q]) ∧ H q = some (.tup (ni F))
  | .fast g => ∃ p, v = .ref p ∧ H p = some (.tup [.str "fast", .int (g : Int)])
def barD : BarV → PyData
  | .low s F => .tuple [.str "low", .int (s : Int), .tuple ((F.map fun (i : Nat) => (i : Int)).map .int)]
  | .high s F => .tuple [.str "high", .int (s : Int), .tuple ((F.map fun (i : Nat) => (i : Int)).map .int)]
  | .fast g => .tuple [.str "fast", .int (g : Int)]
def BarOk (c : Nat) : BarV → Prop
  | .low s F => s < c ∧ Lot c F
  | .high s F => s < c ∧ Lot c F
  | .fast g => g < c
theorem BarAt.same {H H' : Hp} {v : V} {b : BarV} (x : BarAt H v b) (e : Same H H') : BarAt H' v b := by
  cases b with
  | low s F => obtain ⟨p, q, a, b, c⟩ := x; exact ⟨p, q, a, e _ _ b, e _ _ c⟩
  | high s F => obtain ⟨p, q, a, b, c⟩ := x; exact ⟨p, q, a, e _ _ b, e _ _ c⟩
  | fast g => obtain ⟨p, a, b⟩ := x; exact ⟨p, a, e _ _ b⟩
theorem BarAt.put {H : Hp} {v : V} {b : BarV} {C : Addr} {us : List V} {o : HO} (x : BarAt H v b) (e : H C = some (.lst us)) : BarAt (upd H C o) v b := by
  have ne : ∀ {p : Addr} {xs : List V}, H p = some (.tup xs) → upd H C o p = some (.tup xs) := fun {p xs} y => by
    rw [upd_ne (ne_of y e (by intro z; cases z))]
    exact y
  cases b with
  | low s F => obtain ⟨p, q, a, b, c⟩ := x; exact ⟨p, q, a, ne b, ne c⟩
  | high s F => obtain ⟨p, q, a, b, c⟩ := x; exact ⟨p, q, a, ne b, ne c⟩
  | fast g => obtain ⟨p, a, b⟩ := x; exact ⟨p, a, ne b⟩
theorem BarAt.dp {K : PySem.W.Frag} {H : Hp} {v : V} {b : BarV} (x : BarAt H v b) : Dp K H v (barD b) := by
  cases b with
  | low s F => obtain ⟨p, q, rfl, b, c⟩ := x; exact .tup (SqT.of b) (.cons (.str _) (.cons (.int _) (.cons (dp_niT (SqT.of c)) .nil)))
  | high s F => obtain ⟨p, q, rfl, b, c⟩ := x; exact .tup (SqT.of b) (.cons (.str _) (.cons (.int _) (.cons (dp_niT (SqT.of c)) .nil)))
  | fast g => obtain ⟨p, rfl, b⟩ := x; exact .tup (SqT.of b) (.cons (.str _) (.cons (.int _) .nil))
theorem lv_word3 {w : Str} {a : Int} {F : List Nat} (l : F.length ≤ 100000) : Lv 3 (.tuple [.str w, .int a, .tuple ((F.map fun (i : Nat) => (i : Int)).map .int)]) := ⟨by show 3 ≤ 100000; decide, fun e he => by
  have e3 : e = .str w ∨ e = .int a ∨ e = .tuple ((F.map fun (i : Nat) => (i : Int)).map .int) := by simpa using he
  rcases e3 with rfl | rfl | rfl
  · exact trivial
  · exact trivial
  · exact lv_intsT (n := 0) _ (by rw [List.length_map]; exact l)⟩
theorem bar_lv {c : Nat} {b : BarV} (o : BarOk c b) (hc : c ≤ 100000) : Lv 3 (barD b) := by
  cases b with
  | low s F => exact lv_word3 (Nat.le_trans o.2.len hc)
  | high s F => exact lv_word3 (Nat.le_trans o.2.len hc)
  | fast g => exact ⟨by show 2 ≤ 100000; decide, fun e he => by
      have e3 : e = .str "fast" ∨ e = .int (g : Int) := by simpa using he
      rcases e3 with rfl | rfl <;> exact trivial⟩
theorem ints_lay : ∀ ns : List Int, PyData.canLayAll0 (ns.map .int) = true ∧ PyData.depthAll (ns.map .int) = 0
  | [] => ⟨rfl, rfl⟩
  | n :: ns => by
    obtain ⟨a, b⟩ := ints_lay ns
    constructor
    · show (true && PyData.canLayAll0 (ns.map .int)) = true
      rw [a]
      rfl
    · show max 0 (PyData.depthAll (ns.map .int)) = 0
      rw [b]
      rfl
theorem shaped_word3 {w : Str} (hw : PyData.canLay0 (.str w) = true) (a : Int) (ns : List Int) : SeqAt.shaped (.tuple [.str w, .int a, .tuple (ns.map .int)]) = true := by
  obtain ⟨x, y⟩ := ints_lay ns
  unfold SeqAt.shaped
  rw [show PyData.canLay0 (.tuple [.str w, .int a, .tuple (ns.map .int)]) = (PyData.canLay0 (.str w) && (true && (PyData.canLayAll0 (ns.map .int) && true))) from rfl, show PyData.depth (.tuple [.str w, .int a, .tuple (ns.map .int)]) = max 0 (max 0 (max (PyData.depthAll (ns.map .int) + 1) 0)) + 1 from rfl, hw, x, y]
  rfl
theorem bar_shaped (b : BarV) : SeqAt.shaped (barD b) = true := by
  cases b with
  | low s F => exact shaped_word3 (by decide +kernel) _ _
  | high s F => exact shaped_word3 (by decide +kernel) _ _
  | fast g =>
    unfold SeqAt.shaped
    rw [show PyData.canLay0 (barD (.fast g)) = (PyData.canLay0 (.str "fast") && (true && true)) from rfl, show PyData.canLay0 (.str "fast") = true by decide +kernel]
    rfl
theorem st_ni {c : Nat} {F : List Nat} (l : Lot c F) : isStD c (.tuple ((F.map fun (i : Nat) => (i : Int)).map .int)) = true := by
  show ((List.map PyData.int (F.map fun (i : Nat) => (i : Int))).all (isPlD c) && risingB (List.map intD (List.map PyData.int (F.map fun (i : Nat) => (i : Int))))) = true
  rw [Bool.and_eq_true]
  constructor
  · refine List.all_eq_true.mpr fun d hd => ?_
    rw [List.map_map] at hd
    obtain ⟨i, hi, rfl⟩ := List.mem_map.mp hd
    have := l.lt i hi
    show (decide ((0 : Int) ≤ (i : Int)) && decide ((i : Int) < (c : Int))) = true
    rw [decide_eq_true (by omega), decide_eq_true (by omega)]
    rfl
  · have e : List.map intD (List.map PyData.int (F.map fun (i : Nat) => (i : Int))) = F.map fun (i : Nat) => (i : Int) := by
      rw [List.map_map, show intD ∘ PyData.int = id from rfl, List.map_id]
    rw [e]
    exact decide_eq_true (List.pairwise_map.mpr (l.up.imp fun {a b} z => by omega))
theorem lotD_ni (F : List Nat) : lotD (.tuple ((F.map fun (i : Nat) => (i : Int)).map .int)) = F := by
  show List.map (fun d => (intD d).toNat) (List.map PyData.int (F.map fun (i : Nat) => (i : Int))) = F
  rw [List.map_map, List.map_map, show ((fun d => (intD d).toNat) ∘ PyData.int) ∘ (fun (i : Nat) => (i : Int)) = id from rfl, List.map_id]
theorem pl_int {c s : Nat} (hs : s < c) : isPlD c (.int (s : Int)) = true := by
  show (decide ((0 : Int) ≤ (s : Int)) && decide ((s : Int) < (c : Int))) = true
  rw [decide_eq_true (by omega), decide_eq_true (by omega)]
  rfl
theorem shows_ok {h t : Int} {ds : List Int} {L M : List Nat} {b : BarV} (o : BarOk ds.length b) : showsD h t ds L M (barD b) = b.ok h t ds L M := by
  cases b with
  | low s F =>
    show (if ("low" : Str) = "low" then lowD h t ds L M _ _ else if ("low" : Str) = "high" then highD h t ds L M (.int (s : Int)) (.tuple ((F.map fun (i : Nat) => (i : Int)).map .int)) else false) = lowSB h t ds s F L M
    rw [if_pos rfl]
    unfold lowD
    rw [pl_int o.1, st_ni o.2, lotD_ni]
    rfl
  | high s F =>
    show (if ("high" : Str) = "low" then lowD h t ds L M (.int (s : Int)) (.tuple ((F.map fun (i : Nat) => (i : Int)).map .int)) else if ("high" : Str) = "high" then highD h t ds L M _ _ else false) = highSB h t ds s F L M
    rw [if_neg (by decide), if_pos rfl]
    unfold highD
    rw [pl_int o.1, st_ni o.2, lotD_ni]
    rfl
  | fast g =>
    show (decide (("fast" : Str) = "fast") && fastD h t ds L M _) = fastSB h t ds g L M
    unfold fastD
    rw [pl_int o, decide_eq_true rfl, show (intD (.int (g : Int))).toNat = g from Int.toNat_natCast g]
    rfl
theorem bars_ok {h t : Int} {ds : List Int} {L : List Nat} (d0 : 0 < ds.length) {kd : Kd} {s : Int} (l : LotS h t ds.length (fun i => ds.getD i 0) (mem L) kd s) : ∀ b ∈ barsOf h t ds L kd s, BarOk ds.length b := by
  have t0 := top_lo' h t ds.length
  have t1 := top_hi' h t d0
  cases kd with
  | low =>
    obtain ⟨N, rfl, hN, _⟩ := l
    intro b hb
    rw [List.mem_singleton.mp hb]
    exact ⟨by omega, fill_lot _ _⟩
  | high =>
    obtain ⟨N, rfl, hN, _⟩ := l
    intro b hb
    rw [List.mem_singleton.mp hb]
    exact ⟨by omega, empt_lot _ _⟩
  | top =>
    intro b hb
    obtain ⟨g, hg, rfl⟩ := List.mem_map.mp hb
    exact List.mem_range.mp (List.mem_filter.mp hg).1
/-- lists of bars -/
def BarsAt (H : Hp) (vs : List V) (bs : List BarV) : Prop := vs.length = bs.length ∧ ∀ (i : Nat) (v : V) (b : BarV), vs[i]? = some v → bs[i]? = some b → BarAt H v b
theorem BarsAt.same {H H' : Hp} {vs : List V} {bs : List BarV} (x : BarsAt H vs bs) (e : Same H H') : BarsAt H' vs bs := ⟨x.1, fun i v b a c => (x.2 i v b a c).same e⟩
theorem BarsAt.one {H : Hp} {v : V} {b : BarV} (x : BarAt H v b) : BarsAt H [v] [b] := ⟨rfl, fun i v' b' a c => by
  cases i with
  | zero =>
    obtain rfl : v = v' := Option.some.inj a
    obtain rfl : b = b' := Option.some.inj c
    exact x
  | succ i => cases a⟩
theorem BarsAt.app {H : Hp} {vs vs' : List V} {bs bs' : List BarV} (x : BarsAt H vs bs) (y : BarsAt H vs' bs') : BarsAt H (vs ++ vs') (bs ++ bs') := ⟨by rw [List.length_append, List.length_append, x.1, y.1], fun i v b a c => by
  by_cases z : i < vs.length
  · rw [List.getElem?_append_left z] at a
    rw [List.getElem?_append_left (by rw [← x.1]; exact z)] at c
    exact x.2 i v b a c
  · rw [List.getElem?_append_right (by omega)] at a
    rw [List.getElem?_append_right (by rw [← x.1]; omega), ← x.1] at c
    exact y.2 _ v b a c⟩
theorem BarsAt.put {H : Hp} {vs : List V} {bs : List BarV} {C : Addr} {us : List V} {o : HO} (x : BarsAt H vs bs) (e : H C = some (.lst us)) : BarsAt (upd H C o) vs bs := ⟨x.1, fun i v b a c => (x.2 i v b a c).put e⟩
def spRound (K : PySem.W.Frag) : Sp := fun vs H Q _ => ∃ (v l : V) (h t : Int) (ds : List Int) (L : List Nat), vs = [v, l] ∧ SeaD K H v h t ds ∧ LotA K H l L ∧ ds.length ≤ 24 ∧ 0 < ds.length ∧ Lot ds.length L ∧
  ∀ (H' : Hp) (p : Addr) (us : List V) (kd : Kd) (s : Int), Same H H' → H p = none → H' p = some (.lst us) → LotS h t ds.length (fun i => ds.getD i 0) (mem L) kd s → BarsAt H' us (barsOf h t ds L kd s) → Q (.ref p) H'
abbrev s_bars_round : Stmt := topS 38
theorem sc_bars_round : FnScope (["sea", "standing", "kind", "step", "goers", "ship"] : List Str) (["sea", "standing"] : List Str) (defScope s_bars_round) := ⟨rfl, rfl, rfl, by decide +kernel, rfl, by decide +kernel, by decide +kernel⟩
theorem b_bars_round (kV doc pm : Value) (an : Option Addr) (cdv ct : Value) (us : List Value) (hl : us.length = (["sea", "standing"] : List Str).length) : bindArgs (PySem.W.fnOf "bars_round" "bars_round" (defArgs s_bars_round) (defBody s_bars_round) (defScope s_bars_round) .none kV doc pm an cdv ct) ⟨us, []⟩ = pure ((["sea", "standing"] : List Str).zip us) :=
  match us, hl with | [_, _], _ => rfl
section
variable {P : Program} {w : World} {K : PySem.W.Frag} {mg : Str → Option Value} {base : Heap}
theorem ok_round {k : Nat} (D : Df K mg "bars_round" s_bars_round) (T : Bt mg) (C : Cn mg) (O_lot_of : Ok P w K mg base k "lot_of" s_lot_of ["fleet"] (spLotOf K)) (O_fleet_of : Ok P w K mg base k "fleet_of" s_fleet_of ["sea", "standing"] (spFleetOf K)) (O_filled : Ok P w K mg base k "filled" s_filled ["sea", "standing", "step"] (spFillB K)) (O_emptied : Ok P w K mg base k "emptied" s_emptied ["sea", "standing", "step"] (spEmptB K)) (O_goers_at : Ok P w K mg base k "goers_at" s_goers_at ["sea", "step"] (spGoers K)) :
    Ok P w K mg base (k + 1) "bars_round" s_bars_round ["sea", "standing"] (spRound K) := by
  obtain ⟨_, g_LOW⟩ := C.low
  obtain ⟨_, g_HIGH⟩ := C.high
  refine D.ok sc_bars_round b_bars_round (fun vs H Q E h => ?_) (fun f cdv A outer s H vs Q E hr h => ?_)
  · obtain ⟨v, l, h, t, ds, L, rfl, _⟩ := h
    rfl
  · obtain ⟨v, l, h, t, ds, L, rfl, hv, hl, d24, d0, hL, q⟩ := h
    refine ⟨_, (pss_cons (ps_asg (pe_fn O_lot_of (hr.mono (by omega)) (pa_cons (pe_fn O_fleet_of (hr.mono (by omega)) (pa_cons (pv 0) (pa_cons (pv 1) pa_nil))) pa_nil)) (pg_seq rfl (pgs_cons (pg_name (i := 2) sc_bars_round.nd rfl (.inl rfl)) (pgs_cons (pg_name (i := 3) sc_bars_round.nd rfl (.inl rfl)) pgs_nil))))
      (pss_cons (ps_if (pt_cmpR op_eq (pv 2) (pe_glob (v := .str "low") (by rfl) g_LOW ⟨_, rfl⟩) (nomark _))
        (pss_one (ps_ret (pe_lst (pa_cons (pe_tup (pa_cons pe_str (pa_cons (pv 3) (pa_cons (pe_fn O_filled (hr.mono (by omega)) (pa_cons (pv 0) (pa_cons (pv 1) (pa_cons (pv 3) pa_nil)))) pa_nil)))) pa_nil))))
        pss_nil)
      (pss_cons (ps_if (pt_cmpR op_eq (pv 2) (pe_glob (v := .str "high") (by rfl) g_HIGH ⟨_, rfl⟩) (nomark _))
        (pss_one (ps_ret (pe_lst (pa_cons (pe_tup (pa_cons pe_str (pa_cons (pv 3) (pa_cons (pe_fn O_emptied (hr.mono (by omega)) (pa_cons (pv 0) (pa_cons (pv 1) (pa_cons (pv 3) pa_nil)))) pa_nil)))) pa_nil))))
        pss_nil)
      (pss_cons (ps_set (i := 4) sc_bars_round.nd rfl (.inr rfl) (pe_fn O_goers_at (hr.mono (by omega)) (pa_cons (pv 0) (pa_cons (pv 3) pa_nil))))
      (pss_one (ps_ret (pe_lc (own := [("ship", 5)]) (g := (gName 5)) (by rfl) sc_bars_round.nd (pi_range1 (by rfl) T.range_ (pa_cons (pe_callB call_len_seq (by rfl) T.len_ PySem.boot_len (pa_cons (pe_ix ix_lt (pv 0) pe_int (fun _ _ => rfl)) pa_nil)) pa_nil)) (blkOk_by (own := [("ship", 5)]) (N := (["sea", "standing", "kind", "step", "goers", "ship"] : List Str)) (sc := defScope s_bars_round) (by decide +kernel)) (fun _ _ _ _ _ => (pg_name (i := 5) sc_bars_round.nd rfl (.inl rfl))) (fun _ _ _ _ _ => (pts_one (pt_cmpR (op_notInK K) (pv 5) (pv 4) (by rfl)))) (fun _ _ _ _ _ => (pe_tup (pa_cons pe_str (pa_cons (pv 5) pa_nil))))))))))), ?_⟩
    refine ⟨_, rfl, _, rfl, v, l, h, t, ds, L, rfl, hv, hl, by omega, hL, fun H1 z ss s1 hz l1 r => ⟨z, h, t, ss, rfl, hz, l1, fun H2 p kd st s2 np hp lf => ?_⟩⟩
    have s02 := s1.trans s2
    have ls := lf.ships r d0
    replace hv := hv.same s02
    replace hl := hl.same s02
    refine ⟨p, _, rfl, SqA.t hp, rfl, _, _, rfl, _, _, rfl, rfl, ?_⟩
    have t1 := top_hi' h t d0
    have t0 := top_lo' h t ds.length
    refine ⟨_, rfl, rfl, _, rfl, ?_⟩
    cases kd with
    | low =>
      rw [show decide (V.str Kd.low.str = V.str "low") = true by decide +kernel]
      obtain ⟨N, e, hN, _⟩ := id ls
      refine iteT ⟨_, rfl, _, rfl, _, rfl, _, rfl, v, l, h, t, _, ds, L, rfl, hv.a, hl, d24, hL, fun H3 pf s3 npf hpf => ?_⟩
      refine ⟨(by show 3 ≤ sizeLine; decide), fun tp ntp => ?_⟩
      have s4 : Same H3 (upd H3 tp (.tup [.str "low", .int st, .ref pf])) := same_new ntp
      have e4 : upd H3 tp (.tup [.str "low", .int st, .ref pf]) tp = some (.tup [.str "low", .int st, .ref pf]) := upd_same
      generalize upd H3 tp (.tup [.str "low", .int st, .ref pf]) = H4 at s4 e4
      refine ⟨(by show 1 ≤ sizeLine; decide), fun lp nlp => ?_⟩
      have s5 := s02.trans (s3.trans s4)
      have en : ((st.toNat : Nat) : Int) = st := by omega
      refine q _ lp _ .low st (s5.trans (same_new nlp)) (s5.free nlp) upd_same ls (BarsAt.one ?_)
      have s6 : Same H4 (upd H4 lp (.lst [.ref tp])) := same_new nlp
      exact ⟨tp, pf, rfl, by rw [en]; exact s6 _ _ e4, s6 _ _ (s4 _ _ hpf)⟩
    | high =>
      rw [show decide (V.str Kd.high.str = V.str "low") = false by decide +kernel]
      refine iteF ⟨_, rfl, rfl, _, rfl, ?_⟩
      rw [show decide (V.str Kd.high.str = V.str "high") = true by decide +kernel]
      obtain ⟨N, e, hN, _⟩ := id ls
      refine iteT ⟨_, rfl, _, rfl, _, rfl, _, rfl, v, l, h, t, _, ds, L, rfl, hv.a, hl, d24, hL, fun H3 pf s3 npf hpf => ?_⟩
      refine ⟨(by show 3 ≤ sizeLine; decide), fun tp ntp => ?_⟩
      have s4 : Same H3 (upd H3 tp (.tup [.str "high", .int st, .ref pf])) := same_new ntp
      have e4 : upd H3 tp (.tup [.str "high", .int st, .ref pf]) tp = some (.tup [.str "high", .int st, .ref pf]) := upd_same
      generalize upd H3 tp (.tup [.str "high", .int st, .ref pf]) = H4 at s4 e4
      refine ⟨(by show 1 ≤ sizeLine; decide), fun lp nlp => ?_⟩
      have s5 := s02.trans (s3.trans s4)
      have en : ((st.toNat : Nat) : Int) = st := by omega
      refine q _ lp _ .high st (s5.trans (same_new nlp)) (s5.free nlp) upd_same ls (BarsAt.one ?_)
      have s6 : Same H4 (upd H4 lp (.lst [.ref tp])) := same_new nlp
      exact ⟨tp, pf, rfl, by rw [en]; exact s6 _ _ e4, s6 _ _ (s4 _ _ hpf)⟩
    | top =>
      rw [show decide (V.str Kd.top.str = V.str "low") = false by decide +kernel]
      refine iteF ⟨_, rfl, rfl, _, rfl, ?_⟩
      rw [show decide (V.str Kd.top.str = V.str "high") = false by decide +kernel]
      refine iteF ?_
      refine ⟨_, rfl, _, rfl, v, h, t, st, ds, rfl, hv.a, by omega, fun H3 g s3 ng hg => ?_⟩
      rw [← ni_ints] at hg
      obtain ⟨pv, pq, rfl, hp', hq'⟩ := hv.same s3
      refine ⟨_, rfl, pv, _, 2, .ref pq, rfl, rfl, hp', rfl, pq, _, rfl, .inr hq', ((ds.length : Nat) : Int), by rw [List.length_map], by omega, by omega, fun C nC => ?_⟩
      refine lc_range (fun i H' => Same H3 H' ∧ ∃ us, H' C = some (.lst us) ∧ us.length ≤ i ∧ BarsAt H' us (((List.range i).filter fun g => !goB h t ds st g).map .fast)) ⟨same_new nC, [], upd_same, Nat.le_refl _, rfl, fun i v b a => by cases a⟩ ?_ ?_
      · rintro i Ha hi ⟨sa, us, hC, lu, ba⟩
        rw [Int.toNat_natCast] at hi
        have i0 : (0 : Int) + (i : Int) = ((i : Nat) : Int) := Int.zero_add _
        rw [i0]
        refine ⟨rfl, _, rfl, _, rfl, g, _, rfl, .inl (SqL.of (sa _ _ hg)), rfl, ni_flat _, _, rfl, ?_⟩
        rw [in_ni, List.range_succ, List.filter_append, List.map_append]
        have em : decide (i ∈ gs (mk h t ds.length st) ds ds.length) = goB h t ds st i := by
          rw [Bool.eq_iff_iff, decide_eq_true_eq, gs_mem hi]
          unfold goB
          rw [decide_eq_true_eq]
        rw [em]
        cases c : goB h t ds st i with
        | true =>
          rw [List.filter_cons_of_neg (by simp [c])]
          refine ⟨sa, us, hC, by omega, ?_⟩
          have := ba
          simpa using this
        | false =>
          rw [List.filter_cons_of_pos (by simp [c])]
          refine ⟨_, rfl, (by show 2 ≤ sizeLine; decide), fun tp ntp => ?_⟩
          have nt : C ≠ tp := ne_of_none hC ntp
          have s4 : Same Ha (upd Ha tp (.tup [.str "fast", .int (i : Int)])) := same_new ntp
          refine ⟨us, by rw [upd_ne nt]; exact hC, small1000 (by omega), same_over (sa.trans s4) nC, us ++ [.ref tp], upd_same, by rw [List.length_append]; exact Nat.succ_le_succ lu, ?_⟩
          have hC4 : upd Ha tp (.tup [.str "fast", .int (i : Int)]) C = some (.lst us) := by rw [upd_ne nt]; exact hC
          exact ((ba.same s4).put hC4).app (BarsAt.one ⟨tp, rfl, by rw [upd_ne (Ne.symm nt)]; exact upd_same⟩)
      · rintro Ha ⟨sa, us, hC, lu, ba⟩
        rw [Int.toNat_natCast] at ba
        exact q Ha C us .top st (s02.trans (s3.trans sa)) ((s02.trans s3).free nC) hC ls ba
end
end Sh

namespace Sh
open PySem PySem.Spec PyProof.Rows L2
/-- the bar that is told: the first one shown of both's -/
def IsFirst (h t : Int) (ds : List Int) (L M : List Nat) (b : BarV) : Prop := ∃ kd s kd' s', LotS h t ds.length (fun i => ds.getD i 0) (mem L) kd s ∧ LotS h t ds.length (fun i => ds.getD i 0) (mem M) kd' s' ∧ ((barsOf h t ds L kd s ++ barsOf h t ds M kd' s').filter fun b => b.ok h t ds L M).head? = some b
theorem IsFirst.uniq {h t : Int} {ds : List Int} {L M : List Nat} {b b' : BarV} (d0 : 0 < ds.length) (x : IsFirst h t ds L M b) (y : IsFirst h t ds L M b') : b = b' := by
  obtain ⟨kd, s, kd', s', l, l', e⟩ := x
  obtain ⟨kd1, s1, kd1', s1', m, m', e'⟩ := y
  obtain ⟨rfl, rfl⟩ := LotS.uniq d0 l m
  obtain ⟨rfl, rfl⟩ := LotS.uniq d0 l' m'
  rw [e] at e'
  exact Option.some.inj e'
theorem IsFirst.ok {h t : Int} {ds : List Int} {L M : List Nat} {b : BarV} (d0 : 0 < ds.length) (x : IsFirst h t ds L M b) : b.ok h t ds L M = true ∧ BarOk ds.length b := by
  obtain ⟨kd, s, kd', s', l, l', e⟩ := x
  have hb := List.mem_of_mem_head? e
  rw [List.mem_filter] at hb
  refine ⟨hb.2, ?_⟩
  rcases List.mem_append.mp hb.1 with z | z
  · exact bars_ok d0 l b z
  · exact bars_ok d0 l' b z
def spBarOf (K : PySem.W.Frag) : Sp := fun vs H Q _ => ∃ (v l m : V) (h t : Int) (ds : List Int) (L M : List Nat), vs = [v, l, m] ∧ SeaD K H v h t ds ∧ LotA K H l L ∧ LotA K H m M ∧ ds.length ≤ 24 ∧ 0 < ds.length ∧ Lot ds.length L ∧ Lot ds.length M ∧
  (Rl h t ds L M → ∀ H' : Hp, Same H H' → Q .non H') ∧ (¬ Rl h t ds L M → ∀ (H' : Hp) (u : V) (b : BarV), Same H H' → BarAt H' u b → IsFirst h t ds L M b → Q u H')
abbrev s_bar_of : Stmt := topS 39
theorem sc_bar_of : FnScope (["sea", "one", "other", "bars", "shown", "bar"] : List Str) (["sea", "one", "other"] : List Str) (defScope s_bar_of) := ⟨rfl, rfl, rfl, by decide +kernel, rfl, by decide +kernel, by decide +kernel⟩
theorem b_bar_of (kV doc pm : Value) (an : Option Addr) (cdv ct : Value) (us : List Value) (hl : us.length = (["sea", "one", "other"] : List Str).length) : bindArgs (PySem.W.fnOf "bar_of" "bar_of" (defArgs s_bar_of) (defBody s_bar_of) (defScope s_bar_of) .none kV doc pm an cdv ct) ⟨us, []⟩ = pure ((["sea", "one", "other"] : List Str).zip us) :=
  match us, hl with | [_, _, _], _ => rfl
section
variable {P : Program} {w : World} {K : PySem.W.Frag} {mg : Str → Option Value} {base : Heap}
theorem ok_bar_of {k : Nat} (D : Df K mg "bar_of" s_bar_of) (T : Bt mg) (O_comes_to : Ok P w K mg base k "comes_to" s_comes_to ["sea", "one", "other"] (spComes K)) (O_bars_round : Ok P w K mg base k "bars_round" s_bars_round ["sea", "standing"] (spRound K)) (O_shows_bar : Ok P w K mg base k "shows_bar" s_shows_bar ["sea", "one", "other", "thing"] (spShows K)) :
    Ok P w K mg base (k + 1) "bar_of" s_bar_of ["sea", "one", "other"] (spBarOf K) := by
  refine D.ok sc_bar_of b_bar_of (fun vs H Q E h => ?_) (fun f cdv A outer s H vs Q E hr h => ?_)
  · obtain ⟨v, l, m, h, t, ds, L, M, rfl, _⟩ := h
    rfl
  · obtain ⟨v, l, m, h, t, ds, L, M, rfl, hv, hl, hm, d24, d0, hL, hM, q1, q2⟩ := h
    refine ⟨_, (pss_cons (ps_if (pt_val (pe_fn O_comes_to (hr.mono (by omega)) (pa_cons (pv 0) (pa_cons (pv 1) (pa_cons (pv 2) pa_nil)))))
        (pss_one (ps_ret pe_non))
        pss_nil)
      (pss_cons (ps_set (i := 3) sc_bar_of.nd rfl (.inl rfl) (pe_op op_cat (pe_fn O_bars_round (hr.mono (by omega)) (pa_cons (pv 0) (pa_cons (pv 1) pa_nil))) (pe_fn O_bars_round (hr.mono (by omega)) (pa_cons (pv 0) (pa_cons (pv 2) pa_nil)))))
      (pss_cons (ps_setLc (i := 4) (own := [("bar", 5)]) (g := (gName 5)) (by rfl) sc_bar_of.nd rfl rfl (sw_true rfl rfl rfl (by decide +kernel)) (pi_seq (pv 3)) (blkOk_by (own := [("bar", 5)]) (N := (["sea", "one", "other", "bars", "shown", "bar"] : List Str)) (sc := defScope s_bar_of) (by decide +kernel)) (fun _ _ _ _ _ => (pg_name (i := 5) sc_bar_of.nd rfl (.inl rfl))) (fun _ _ _ _ _ => (pts_one (pt_val (pe_fn O_shows_bar (hr.mono (by omega)) (pa_cons (pv 0) (pa_cons (pv 1) (pa_cons (pv 2) (pa_cons (pv 5) pa_nil)))))))) (fun _ _ _ _ _ => (pv 5)))
      (pss_one (ps_ret (pe_ix ix_lt (pv 4) pe_int (fun _ _ => rfl))))))), ?_⟩
    refine ⟨_, rfl, _, rfl, _, rfl, v, l, m, h, t, ds, L, M, rfl, hv, hl, hm, by omega, d0, hL, hM, fun H1 b s1 eb => ⟨_, rfl, ?_⟩⟩
    cases b with
    | true => exact iteT (q1 (eb.mp rfl) H1 s1)
    | false =>
    have no : ¬ Rl h t ds L M := fun z => by cases eb.mpr z
    refine iteF ?_
    refine ⟨_, rfl, _, rfl, v, l, h, t, ds, L, rfl, hv.same s1, hl.same s1, d24, d0, hL, fun H2 p1 us1 kd st s2 np1 hp1 l1 b1 => ?_⟩
    have s12 := s1.trans s2
    refine ⟨_, rfl, _, rfl, v, m, h, t, ds, M, rfl, hv.same s12, hm.same s12, d24, d0, hM, fun H3 p2 us2 kd' st' s3 np2 hp2 l2 b2 => ?_⟩
    have s13 := s12.trans s3
    have ba := (b1.same s3).app b2
    have bk : ∀ b ∈ barsOf h t ds L kd st ++ barsOf h t ds M kd' st', BarOk ds.length b := fun b hb => by
      rcases List.mem_append.mp hb with z | z
      · exact bars_ok d0 l1 b z
      · exact bars_ok d0 l2 b z
    have ex := bars_ex d0 hL hM l1 l2 no
    have fi : ∀ b, ((barsOf h t ds L kd st ++ barsOf h t ds M kd' st').filter fun b => b.ok h t ds L M).head? = some b → IsFirst h t ds L M b := fun b e => ⟨kd, st, kd', st', l1, l2, e⟩
    have len1 : us1.length ≤ 24 := by
      rw [b1.1]
      cases kd with
      | low => show 1 ≤ 24; decide
      | high => show 1 ≤ 24; decide
      | top =>
        show (((List.range ds.length).filter fun g => !goB h t ds st g).map BarV.fast).length ≤ 24
        rw [List.length_map]
        have := List.length_filter_le (fun g => !goB h t ds st g) (List.range ds.length)
        rw [List.length_range] at this
        omega
    have len2 : us2.length ≤ 24 := by
      rw [b2.1]
      cases kd' with
      | low => show 1 ≤ 24; decide
      | high => show 1 ≤ 24; decide
      | top =>
        show (((List.range ds.length).filter fun g => !goB h t ds st' g).map BarV.fast).length ≤ 24
        rw [List.length_map]
        have := List.length_filter_le (fun g => !goB h t ds st' g) (List.range ds.length)
        rw [List.length_range] at this
        omega
    refine ⟨p1, p2, _, _, rfl, rfl, s3 _ _ hp1, hp2, by rw [sizeLine_eq]; omega, fun p3 np3 => ?_⟩
    have s4 : Same H3 (upd H3 p3 (.lst (us1 ++ us2))) := same_new np3
    have e4 : upd H3 p3 (.lst (us1 ++ us2)) p3 = some (.lst (us1 ++ us2)) := upd_same
    generalize upd H3 p3 (.lst (us1 ++ us2)) = H4 at s4 e4
    replace ba := ba.same s4
    have s14 := s13.trans s4
    generalize barsOf h t ds L kd st ++ barsOf h t ds M kd' st' = bs at ba bk ex fi
    have lu : (us1 ++ us2).length ≤ 48 := by rw [List.length_append]; omega
    generalize us1 ++ us2 = us at ba lu e4
    refine ⟨_, rfl, p3, us, H4, rfl, SqA.l e4, Kp.refl _ _, fun J hJ C nC => ?_⟩
    obtain ⟨G, g, W⟩ := hJ.walk
    refine lc_it W (fun i H' => Same H4 H' ∧ ∃ xs, H' C = some (.lst xs) ∧ xs.length ≤ i ∧ BarsAt H' xs ((bs.take i).filter fun b => b.ok h t ds L M)) ⟨same_new nC, [], upd_same, Nat.le_refl _, rfl, fun i v b a => by cases a⟩ (fun i H' _ z => g H' (.ofS z.1)) ?_ ?_
    · rintro i x Ha Hb hi ⟨sa, xs, hC, lx, bx⟩ ⟨rfl, gx⟩
      have hib : i < bs.length := by rw [← ba.1]; exact hi
      have gb : bs[i]? = some bs[i] := List.getElem?_eq_getElem hib
      have bx0 := (ba.2 i x bs[i] gx gb).same sa
      have ob := bk bs[i] (List.getElem_mem hib)
      have s1a := s14.trans sa
      refine ⟨rfl, _, rfl, _, rfl, _, rfl, _, rfl, 3, v, l, m, x, h, t, ds, L, M, barD bs[i], rfl, (hv.same s1a).a, hl.same s1a, hm.same s1a, d24, d0, hL, hM, bx0.dp, bar_lv ob (by omega), bar_shaped _, fun Hc sc => ?_⟩
      rw [shows_ok ob]
      refine ⟨_, rfl, ?_⟩
      have hC' := sc _ _ hC
      have tk : bs.take (i + 1) = bs.take i ++ [bs[i]] := by rw [List.take_add_one, gb]; rfl
      cases c : bs[i].ok h t ds L M with
      | true =>
        refine iteT ⟨_, rfl, xs, hC', small1000 (by omega), same_over (sa.trans sc) nC, xs ++ [x], upd_same, by rw [List.length_append]; exact Nat.succ_le_succ lx, ?_⟩
        rw [tk, List.filter_append, List.filter_cons_of_pos (by exact c)]
        exact ((bx.same sc).put hC').app (BarsAt.one ((bx0.same sc).put hC'))
      | false =>
        refine iteF ⟨sa.trans sc, xs, hC', by omega, ?_⟩
        rw [tk, List.filter_append, List.filter_cons_of_neg (by rw [c]; exact Bool.false_ne_true), List.filter_nil, List.append_nil]
        exact bx.same sc
    rintro H5 ⟨s5, xs, hC, lx, bx⟩
    rw [List.take_of_length_le (by rw [← ba.1]; exact Nat.le_refl _)] at bx
    obtain ⟨b, hb, hok⟩ := ex
    cases eF : bs.filter fun b => b.ok h t ds L M with
    | nil =>
      have : b ∈ bs.filter fun b => b.ok h t ds L M := List.mem_filter.mpr ⟨hb, hok⟩
      rw [eF] at this
      cases this
    | cons b0 rest =>
      rw [eF] at bx
      cases xs with
      | nil => exact absurd bx.1 (by simp)
      | cons x xs =>
        have b0at := bx.2 0 x b0 rfl rfl
        refine ⟨_, rfl, C, _, 0, x, rfl, rfl, SqA.l hC, show atI (x :: xs) ((0 : Nat) : Int) = some x from atI_nat rfl, ?_⟩
        exact q2 no H5 x b0 (s14.trans s5) b0at (fi b0 (by rw [eF]; rfl))
end
end Sh

namespace Sh
open PySem PySem.Spec PyProof.Rows L2
def spGoL (K : PySem.W.Frag) : Sp := fun vs H Q _ => ∃ (v : V) (h t s : Int) (ds : List Int), vs = [v, .int s] ∧ SeaA K H v h t ds ∧ ds.length ≤ 60 ∧ ∀ (H' : Hp) (p : Addr), Same H H' → H p = none → H' p = some (.lst (ni (gs (mk h t ds.length s) ds ds.length))) → Q (.ref p) H'
abbrev s__law_goers : Stmt := topS 49
theorem sc__law_goers : FnScope (["_law_pool", "_law_at", "_law_mark", "_law_whom", "_law_deep"] : List Str) (["_law_pool", "_law_at"] : List Str) (defScope s__law_goers) := ⟨rfl, rfl, rfl, by decide +kernel, rfl, by decide +kernel, by decide +kernel⟩
theorem b__law_goers (kV doc pm : Value) (an : Option Addr) (cdv ct : Value) (us : List Value) (hl : us.length = (["_law_pool", "_law_at"] : List Str).length) : bindArgs (PySem.W.fnOf "_law_goers" "_law_goers" (defArgs s__law_goers) (defBody s__law_goers) (defScope s__law_goers) .none kV doc pm an cdv ct) ⟨us, []⟩ = pure ((["_law_pool", "_law_at"] : List Str).zip us) :=
  match us, hl with | [_, _], _ => rfl
section
variable {P : Program} {w : World} {K : PySem.W.Frag} {mg : Str → Option Value} {base : Heap}
theorem ok_lgo {k : Nat} (D : Df K mg "_law_goers" s__law_goers) (T : Bt mg) : Ok P w K mg base (k + 1) "_law_goers" s__law_goers ["_law_pool", "_law_at"] (spGoL K) := by
  refine D.ok sc__law_goers b__law_goers (fun vs H Q E h => ?_) (fun f cdv A outer s H vs Q E hr h => ?_)
  · obtain ⟨v, h, t, s, ds, rfl, _⟩ := h
    rfl
  · obtain ⟨v, h, t, s, ds, rfl, hv, hl, k⟩ := h
    obtain ⟨p, q, rfl, hp, hq⟩ := id hv
    refine ⟨_, (pss_cons (ps_set (i := 2) sc__law_goers.nd rfl (.inr rfl) (pe_callB (call_min2 rfl) (by rfl) T.min_ (by decide +kernel) (pa_cons (pe_op op_add (pe_ix ix_lt (pv 0) pe_int (fun _ _ => rfl)) (pv 1)) (pa_cons (pe_op op_sub (pe_op op_sub (pe_op op_add (pe_ix ix_lt (pv 0) pe_int (fun _ _ => rfl)) (pe_callB call_len_seq (by rfl) T.len_ PySem.boot_len (pa_cons (pe_ix ix_lt (pv 0) pe_int (fun _ _ => rfl)) pa_nil))) pe_int) (pv 1)) pa_nil))))
      (pss_one (ps_ret (pe_lc (own := [("_law_whom", 3), ("_law_deep", 4)]) (g := (gSeq K 2 (gCons (gName 3) (gCons (gName 4) gNil)))) (by rfl) sc__law_goers.nd (pi_enumA (by rfl) T.enumerate_ (pa_cons (pe_ix ix_lt (pv 0) pe_int (fun _ _ => rfl)) pa_nil)) (blkOk_by (own := [("_law_whom", 3), ("_law_deep", 4)]) (N := (["_law_pool", "_law_at", "_law_mark", "_law_whom", "_law_deep"] : List Str)) (sc := defScope s__law_goers) (by decide +kernel)) (fun _ _ _ _ _ => (pg_seq rfl (pgs_cons (pg_name (i := 3) sc__law_goers.nd rfl (.inl rfl)) (pgs_cons (pg_name (i := 4) sc__law_goers.nd rfl (.inl rfl)) pgs_nil)))) (fun _ _ _ _ _ => (pts_one (pt_cmpR op_le (pv 4) (pv 2) (nomark _)))) (fun _ _ _ _ _ => (pv 3)))))), ?_⟩
    refine ⟨_, rfl, p, _, 0, .int h, rfl, rfl, hp, rfl, _, rfl, h, s, rfl, rfl, _, rfl, p, _, 1, .int t, rfl, rfl, hp, rfl, _, rfl, p, _, 2, .ref q, rfl, rfl, hp, rfl, q, _, rfl, hq, ?_⟩
    rw [List.length_map]
    refine ⟨t, _, rfl, rfl, _, 1, rfl, rfl, _, rfl, _, s, rfl, rfl, _, _, rfl, ?_⟩
    dsimp only
    rw [mk_alt]
    generalize mk h t ds.length s = m at k
    refine ⟨_, rfl, p, _, 2, .ref q, rfl, rfl, hp, rfl, q, _, H, rfl, hq, Kp.refl _ _, fun J hJ C nC => ?_⟩
    obtain ⟨G, g, W⟩ := hJ.walk
    refine lc_it W (fun i H' => Same H H' ∧ H' C = some (.lst (ni (gs m ds i)))) ⟨same_new nC, upd_same⟩ (fun i H' _ z => g H' (.ofS z.1)) ?_ ?_
    · rintro i x H1 H2 hi ⟨sm, hC⟩ ⟨u, x1, x2, rfl, nu, rfl, g1, g2⟩
      rw [List.length_map] at hi
      obtain rfl : .int (i : Nat) = x1 := Option.some.inj g1
      obtain rfl : .int ds[i] = x2 := by
        have g3 : (ds.map V.int)[i]? = some (.int ds[i]) := by simp [hi]
        exact Option.some.inj (g3.symm.trans g2)
      have ed : ds.getD i 0 = ds[i] := by simp [hi]
      have nuC : C ≠ u := ne_of_none hC nu
      have hC' : upd H1 u (.tup [.int (i : Nat), .int ds[i]]) C = some (.lst (ni (gs m ds i))) := by rw [upd_ne nuC]; exact hC
      refine ⟨u, _, rfl, SqA.t upd_same, rfl, _, _, rfl, _, _, rfl, rfl, rfl, ?_⟩
      refine ⟨_, rfl, _, rfl, ds[i], m, rfl, rfl, _, rfl, ite2 (fun c => ?_) (fun c => ?_)⟩
      · have c0 : ds[i] ≤ m := of_decide_eq_true c
        refine ⟨_, rfl, _, hC', ?_, fun a o e => ?_, ?_⟩
        · rw [ni_len]
          exact Nat.lt_of_le_of_lt gs_len (small1000 (by omega))
        · rw [upd_ne (ne_of_none e nC)]
          exact same_new nu _ _ (sm _ _ e)
        · rw [upd_same, gs_succ, ed, if_pos c0, ni_app]
          rfl
      · have c0 : ¬ ds[i] ≤ m := fun z => c (decide_eq_true z)
        refine ⟨fun a o e => same_new nu _ _ (sm _ _ e), ?_⟩
        rw [hC', gs_succ, ed, if_neg c0, List.append_nil]
    · rintro H1 ⟨sm, hC⟩
      rw [List.length_map] at hC
      exact k H1 C sm nC hC
end
end Sh

namespace Sh
open PySem PySem.Spec PyProof.Rows L2
/-! ### the law's own look at a sea: marks, in one row -/
def spMarks (K : PySem.W.Frag) : Sp := fun vs H Q _ => ∃ (v : V) (h t : Int) (ds : List Int), vs = [v] ∧ SeaA K H v h t ds ∧ ds.length ≤ 60 ∧ ∀ (H' : Hp) (p : Addr), Same H H' → H p = none → H' p = some (.lst ((ml h t ds.length ds.length).map V.int)) → Q (.ref p) H'
abbrev s__law_marks : Stmt := topS 48
theorem sc__law_marks : FnScope (["_law_pool", "_law_at"] : List Str) (["_law_pool"] : List Str) (defScope s__law_marks) := ⟨rfl, rfl, rfl, by decide +kernel, rfl, by decide +kernel, by decide +kernel⟩
theorem b__law_marks (kV doc pm : Value) (an : Option Addr) (cdv ct : Value) (us : List Value) (hl : us.length = (["_law_pool"] : List Str).length) : bindArgs (PySem.W.fnOf "_law_marks" "_law_marks" (defArgs s__law_marks) (defBody s__law_marks) (defScope s__law_marks) .none kV doc pm an cdv ct) ⟨us, []⟩ = pure ((["_law_pool"] : List Str).zip us) :=
  match us, hl with | [_], _ => rfl
section
variable {P : Program} {w : World} {K : PySem.W.Frag} {mg : Str → Option Value} {base : Heap}
theorem ok_lmarks {k : Nat} (D : Df K mg "_law_marks" s__law_marks) (T : Bt mg) : Ok P w K mg base (k + 1) "_law_marks" s__law_marks ["_law_pool"] (spMarks K) := by
  refine D.ok sc__law_marks b__law_marks (fun vs H Q E h => ?_) (fun f cdv A outer s H vs Q E hr h => ?_)
  · obtain ⟨v, h, t, ds, rfl, _⟩ := h
    rfl
  · obtain ⟨v, h, t, ds, rfl, ⟨p, q, rfl, hp, hq⟩, d60, k1⟩ := h
    refine ⟨_, (pss_one (ps_ret (pe_lc (own := [("_law_at", 1)]) (g := (gName 1)) (tt := tYes) (by rfl) sc__law_marks.nd (pi_range1 (by rfl) T.range_ (pa_cons (pe_callB call_len_seq (by rfl) T.len_ PySem.boot_len (pa_cons (pe_ix ix_lt (pv 0) pe_int (fun _ _ => rfl)) pa_nil)) pa_nil)) (blkOk_by (own := [("_law_at", 1)]) (N := (["_law_pool", "_law_at"] : List Str)) (sc := defScope s__law_marks) (by decide +kernel)) (fun _ _ _ _ _ => (pg_name (i := 1) sc__law_marks.nd rfl (.inl rfl))) (fun _ _ _ _ _ => pts_nil) (fun _ _ _ _ _ => (pe_callB (call_min2 rfl) (by rfl) T.min_ (by decide +kernel) (pa_cons (pe_op op_add (pe_ix (ix_ltK K) (pv 0) pe_int (fun _ _ => rfl)) (pv 1)) (pa_cons (pe_op op_sub (pe_op op_sub (pe_op op_add (pe_ix (ix_ltK K) (pv 0) pe_int (fun _ _ => rfl)) (pe_callB (call_lenK K) (by rfl) T.len_ PySem.boot_len (pa_cons (pe_ix (ix_ltK K) (pv 0) pe_int (fun _ _ => rfl)) pa_nil))) pe_int) (pv 1)) pa_nil))))))), ?_⟩
    refine ⟨_, rfl, p, _, 2, .ref q, rfl, rfl, hp, rfl, q, _, rfl, hq, ((ds.length : Nat) : Int), by rw [List.length_map], by omega, by omega, fun C nC => ?_⟩
    refine lc_range (fun j H3 => Same H H3 ∧ H3 C = some (.lst ((ml h t ds.length j).map V.int))) ⟨same_new nC, upd_same⟩ ?_ ?_
    · rintro j H3 hj ⟨sm, hC⟩
      rw [Int.toNat_natCast] at hj
      refine ⟨rfl, tyes (iteT ?_)⟩
      refine ⟨_, rfl, p, _, 0, .int h, rfl, rfl, Same.sqA sm hp, rfl, _, rfl, h, _, rfl, rfl, _, rfl, p, _, 1, .int t, rfl, rfl, Same.sqA sm hp, rfl, _, rfl, p, _, 2, .ref q, rfl, rfl, Same.sqA sm hp, rfl, q, _, rfl, Same.sqA sm hq, ?_⟩
      rw [List.length_map]
      refine ⟨t, _, rfl, rfl, _, 1, rfl, rfl, _, rfl, _, _, rfl, rfl, _, _, rfl, ?_⟩
      refine ⟨_, hC, ?_, same_over sm nC, ?_⟩
      · rw [List.length_map, ml_len]
        exact small1000 (by omega)
      · rw [upd_same, ml_succ, List.map_append]
        have e := (mk_alt h t ds.length (0 + (j : Int))).trans (congrArg (mk h t ds.length) (Int.zero_add (j : Int)))
        exact congrArg (fun z => some (HO.lst ((ml h t ds.length j).map V.int ++ [V.int z]))) e
    · rintro H3 ⟨sm, hC⟩
      rw [Int.toNat_natCast] at hC
      exact k1 H3 C sm nC hC
end
end Sh

namespace Sh
open PySem PySem.Spec PyProof.Rows L2
/-! ### tuples put together, cut: one way out, whatever is empty -/
def rCatS (K : PySem.W.Frag) : R2 := fun x y H Q => ∃ a b xs ys, x = .ref a ∧ y = .ref b ∧ SqT K H a xs ∧ SqT K H b ys ∧ xs.length + ys.length ≤ sizeLine ∧ ∀ (r : Addr) (H' : Hp), Same H H' → SqT K H' r (xs ++ ys) → Q (.ref r) H'
theorem op_catS {X : Cx} : OpR X (binaryOp .Add) (rCatS X.K) := by
  intro pins s σ H x y v u Q I rx ry h
  obtain ⟨a, b, xs, ys, e1, e2, hx, hy, l, q⟩ := h
  refine op_catA pins s σ H x y v u Q I rx ry ⟨a, b, xs, ys, e1, e2, hx, hy, l, fun z => ?_, fun _ z => ?_, fun _ _ p np => q p _ (same_new np) (SqT.of upd_same)⟩
  · subst z
    exact q b H (Same.refl _) hy
  · subst z
    refine q a H (Same.refl _) ?_
    rw [List.append_nil]
    exact hx
theorem op_catSK (K : PySem.W.Frag) {X : Cx} (hK : X.K = K := by rfl) : OpR X (binaryOp .Add) (rCatS K) := hK ▸ op_catS
def rSlS (K : PySem.W.Frag) : V → Option Int → Option Int → Hp → VK → Prop := fun x lo hi H Q => ∃ a xs, x = .ref a ∧ SqT K H a xs ∧ ∀ (r : Addr) (H' : Hp), Same H H' → SqT K H' r (cutV xs lo hi) → Q (.ref r) H'
theorem sl_tupS {X : Cx} : SlR X (rSlS X.K) := by
  intro pins s σ H x v vl vu lo hi sl Q I rx hs pl pu h
  obtain ⟨a, xs, e, hx, q⟩ := h
  refine sl_tupA pins s σ H x v vl vu lo hi sl Q I rx hs pl pu ⟨a, xs, e, hx, fun w => q a H (Same.refl _) ?_, fun _ p np => q p _ (same_new np) (SqT.of upd_same)⟩
  unfold cutV
  rw [w.1, w.2, List.drop_zero, Nat.sub_zero, List.take_length]
  exact hx
theorem cut_drop (xs : List V) (l : Nat) : cutV xs (some (l : Int)) none = xs.drop l := by
  unfold cutV
  rw [HT.sIx_none, HT.sIx_nat]
  by_cases c : l ≤ xs.length
  · rw [Nat.min_eq_left c, List.take_of_length_le (by rw [List.length_drop]; exact Nat.le_refl _)]
  · rw [Nat.min_eq_right (by omega), List.drop_length, List.drop_of_length_le (by omega), List.take_nil]
/-- [x for x in xs if test], the test may lay new things -/
theorem lc_filterS {σ : L2.St} {H : Hp} {C : Addr} {vs : List Nat} {i : Nat} {tt : TT} {Qd : Hp → Prop} {X : List Nat} {J : It} {G : Hp → Prop} (p : Nat → Bool) (W : Walk J (ni X).length G (YAt (ni X))) (g : ∀ H', Same H H' → G H') (nC : H C = none) (lX : X.length ≤ 1000)
    (hw : ∀ v, wipe ((wipe σ vs).set i (some v)) vs = wipe σ vs) (hv : ∀ v : V, ((wipe σ vs).set i (some v))[i]? = some (some v))
    (ht : ∀ x ∈ X, ∀ H', Same H H' → ∀ Q : Bool → Hp → Prop, (∀ H2, Same H' H2 → Q (p x) H2) → tt ((wipe σ vs).set i (some (.int (x : Int)))) H' Q) (hd : ∀ H', Same H H' → H' C = some (.lst (ni (X.filter p))) → Qd H') :
    ∃ W : Nat → Nat → Hp → Prop, (∃ m, W 0 m (upd H C (.lst []))) ∧ ∀ j m H, W j m H →
      (J.stop j H ∧ Qd H) ∨ (J.go j H ∧ ∃ Nx : Hp → Prop, (∀ H', Nx H' → ∃ m', m' < m ∧ W (j + 1) m' H') ∧ ∀ x H', J.yld j H x H' → gName i x (wipe σ vs) H' fun σ2 H2 => wipe σ2 vs = wipe σ vs ∧ tt σ2 H2 fun b H3 =>
        if b = true then tVar i σ2 H3 fun y H4 => ∃ acc, H4 C = some (.lst acc) ∧ acc.length < sizeLine ∧ Nx (upd H4 C (.lst (acc ++ [y]))) else Nx H3) := by
  refine lc_it W (fun j H' => Same H H' ∧ H' C = some (.lst (ni ((X.take j).filter p)))) ⟨same_new nC, upd_same⟩ (fun j H' _ z => g H' z.1) ?_ ?_
  · rintro j x H3 H4 hj ⟨s3, hC⟩ ⟨rfl, gx⟩
    rw [ni_len] at hj
    obtain rfl : .int ((X[j] : Nat) : Int) = x := Option.some.inj ((ni_get hj).symm.trans gx)
    refine ⟨hw _, ht X[j] (List.getElem_mem hj) _ s3 _ fun H5 s5 => ?_⟩
    cases e : p X[j] with
    | true =>
      rw [if_pos rfl]
      refine ⟨_, hv _, _, s5 _ _ hC, ?_, same_over (s3.trans s5) nC, ?_⟩
      · rw [ni_len]
        have h1 := List.length_filter_le p (X.take j)
        rw [List.length_take] at h1
        exact small1000 (by omega)
      · rw [upd_same, take_succ_get hj, List.filter_append, ni_app, List.filter_cons_of_pos e]
        rfl
    | false =>
      rw [if_neg Bool.false_ne_true]
      refine ⟨s3.trans s5, ?_⟩
      rw [s5 _ _ hC, take_succ_get hj, List.filter_append, List.filter_cons_of_neg (by rw [e]; exact Bool.false_ne_true)]
      simp
  · rintro H3 ⟨s3, hC⟩
    rw [ni_len, List.take_length] at hC
    exact hd H3 s3 hC
end Sh

namespace Sh
open PySem PySem.Spec PyProof.Rows L2
/-! ### what is filled and emptied, by members -/
theorem fill_key {h t s : Int} {ds : List Int} {X : List Nat} {a : Nat} (lX : Lot ds.length X) : a ∈ fillL h t ds X s ↔ a ∈ X ∨ (a < ds.length ∧ goB h t ds s a = true) := by
  have fm : ∀ (ha : a < ds.length), decide (a ∈ fillL h t ds X s) = (decide (a ∈ X) || goB h t ds s a) := fun ha => fill_mem ha
  constructor
  · intro y
    have ha := (fill_lot (h := h) (t := t) (ds := ds) X s).lt a y
    have e := fm ha
    rw [decide_eq_true y] at e
    cases g : goB h t ds s a with
    | true => exact .inr ⟨ha, rfl⟩
    | false =>
      rw [g, Bool.or_false] at e
      exact .inl (of_decide_eq_true e.symm)
  · intro y
    have ha : a < ds.length := by
      rcases y with y | y
      · exact lX.lt a y
      · exact y.1
    refine of_decide_eq_true ((fm ha).trans ?_)
    rcases y with y | y
    · rw [decide_eq_true y, Bool.true_or]
    · rw [y.2, Bool.or_true]
theorem empt_key {h t s : Int} {ds : List Int} {X Gs : List Nat} (lX : Lot ds.length X) (gm : ∀ j, j ∈ Gs ↔ j < ds.length ∧ goB h t ds s j = true) : X.filter (fun w => !decide (w ∈ Gs)) = emptL h t ds X s := by
  refine lot_ext ⟨lX.up.filter _, fun j hj => lX.lt j (List.mem_filter.mp hj).1⟩ (empt_lot _ _) fun i hi => ?_
  rw [empt_mem hi]
  unfold mem
  rw [Bool.eq_iff_iff, decide_eq_true_eq, List.mem_filter, Bool.and_eq_true, decide_eq_true_eq]
  refine and_congr_right fun _ => ?_
  cases g : goB h t ds s i with
  | true => rw [decide_eq_true ((gm i).mpr ⟨hi, g⟩)]
  | false => rw [decide_eq_false fun z => by have := ((gm i).mp z).2; rw [g] at this; cases this]
theorem rising_lot {c : Nat} {ns : List Int} {F : List Nat} (up : ns.Pairwise (· < ·)) (lF : Lot c F) (m : ∀ z : Int, z ∈ ns ↔ ∃ i, i ∈ F ∧ z = (i : Int)) : ns = F.map fun (i : Nat) => (i : Int) := by
  obtain ⟨ms, rfl⟩ : ∃ ms : List Nat, ns = ms.map fun (i : Nat) => (i : Int) := by
    refine ⟨ns.map Int.toNat, ?_⟩
    rw [List.map_map]
    have : ∀ l : List Int, (∀ z ∈ l, 0 ≤ z) → l = l.map ((fun (i : Nat) => (i : Int)) ∘ Int.toNat) := fun l => by
      induction l with
      | nil => intro _; rfl
      | cons a l ih =>
        intro hl
        rw [List.map_cons, ← ih fun z hz => hl z (List.mem_cons_of_mem _ hz)]
        congr 1
        have := hl a List.mem_cons_self
        show a = ((a.toNat : Nat) : Int)
        omega
    refine this ns fun z hz => ?_
    obtain ⟨i, _, rfl⟩ := (m z).mp hz
    omega
  have mm : ∀ i, i ∈ ms ↔ i ∈ F := fun i => by
    have := m (i : Int)
    rw [List.mem_map] at this
    constructor
    · intro h
      obtain ⟨j, hj, e⟩ := this.mp ⟨i, h, rfl⟩
      rw [show i = j by omega]
      exact hj
    · intro h
      obtain ⟨j, hj, e⟩ := this.mpr ⟨i, h, rfl⟩
      rw [show i = j by omega]
      exact hj
  have lm : Lot c ms := by
    refine ⟨?_, fun j hj => lF.lt j ((mm j).mp hj)⟩
    rw [List.pairwise_map] at up
    exact up.imp fun z => by omega
  rw [lot_ext lm lF fun i _ => by unfold mem; rw [decide_eq_decide]; exact mm i]
end Sh

namespace Sh
open PySem PySem.Spec PyProof.Rows L2
/-! ### k08: a bar's parts by the law's own look -/
theorem fill_fix {h t s : Int} {ds : List Int} {F Gs : List Nat} (lF : Lot ds.length F) (gm : ∀ j, j ∈ Gs ↔ j < ds.length ∧ goB h t ds s j = true) : decide (fillL h t ds F s = F) = Gs.all (fun g => decide (g ∈ F)) := by
  rw [Bool.eq_iff_iff, decide_eq_true_eq, List.all_eq_true]
  constructor
  · intro e g hg
    have := (fill_key (h := h) (t := t) (s := s) (a := g) lF).mpr (.inr ((gm g).mp hg))
    rw [e] at this
    exact decide_eq_true this
  · intro a
    refine lot_ext (fill_lot _ _) lF fun i hi => ?_
    rw [fill_mem hi]
    cases g : goB h t ds s i with
    | false => rw [Bool.or_false]
    | true =>
      have := of_decide_eq_true (a i ((gm i).mpr ⟨hi, g⟩))
      unfold mem
      rw [decide_eq_true this]
      rfl
theorem empt_fix {h t s : Int} {ds : List Int} {F Gs : List Nat} (lF : Lot ds.length F) (gm : ∀ j, j ∈ Gs ↔ j < ds.length ∧ goB h t ds s j = true) : decide (emptL h t ds F s = F) = Gs.all (fun g => !decide (g ∈ F)) := by
  rw [Bool.eq_iff_iff, decide_eq_true_eq, List.all_eq_true]
  constructor
  · intro e g hg
    obtain ⟨gi, gg⟩ := (gm g).mp hg
    have := empt_mem (h := h) (t := t) (X := F) (s := s) gi
    rw [e, gg, Bool.not_true, Bool.and_false] at this
    show (!mem F g) = true
    rw [this]
    rfl
  · intro a
    refine lot_ext (empt_lot _ _) lF fun i hi => ?_
    rw [empt_mem hi]
    cases g : goB h t ds s i with
    | false => rw [Bool.not_false, Bool.and_true]
    | true =>
      have : (!mem F i) = true := a i ((gm i).mpr ⟨hi, g⟩)
      rw [Bool.not_eq_true'] at this
      rw [this]
      rfl
theorem low_near {h t : Int} {ds : List Int} {s : Nat} (hs : s < ds.length) : (List.range ds.length).all (fun e => !(decide ((e : Int) < (s : Int)) && decide (mk h t ds.length (e : Int) > mk h t ds.length (s : Int)))) = !(((ml h t ds.length ds.length).take s).map fun m => decide (m > mk h t ds.length (s : Int))).any id := by
  rw [any_low hs (fun e => decide (mk h t ds.length (e : Int) > mk h t ds.length (s : Int)))]
  congr 2
  unfold ml
  rw [← List.map_take, List.take_range, Nat.min_eq_left (by omega), List.map_map]
  rfl
theorem high_near {h t : Int} {ds : List Int} {s : Nat} (hs : s < ds.length) : (List.range ds.length).all (fun e => !(decide ((s : Int) < (e : Int)) && decide (mk h t ds.length (e : Int) > mk h t ds.length (s : Int)))) = !(((ml h t ds.length ds.length).drop (s + 1)).map fun m => decide (m > mk h t ds.length (s : Int))).any id := by
  rw [any_high hs (fun e => decide (mk h t ds.length (e : Int) > mk h t ds.length (s : Int)))]
  congr 2
  unfold ml
  rw [← List.map_drop, List.map_map]
  refine List.ext_getElem (by simp) fun i h1 h2 => ?_
  simp
end Sh

namespace Sh
open PySem PySem.Spec PyProof.Rows L2
/-! ### k08: the law's own look at bars: ships, lots -/
def spIsShipL (K : PySem.W.Frag) : Sp := fun vs H Q _ => ∃ (v : V) (d : PyData) (c : Nat), vs = [.int (c : Int), v] ∧ Dp K H v d ∧ Q (.bl (isPlD c d)) H
def spIsLotL (K : PySem.W.Frag) : Sp := fun vs H Q _ => ∃ (c : Nat) (v : V) (d : PyData), vs = [.int (c : Int), v] ∧ Dp K H v d ∧ (∀ ds, d = .tuple ds → ds.length ≤ 60) ∧ ∀ H', Same H H' → Q (.bl (isStD c d)) H'
theorem up_eqI : ∀ {L M : List Int}, L.Pairwise (· < ·) → M.Pairwise (· < ·) → (∀ i, i ∈ L ↔ i ∈ M) → L = M
  | [], [], _, _, _ => rfl
  | [], b :: M, _, _, h => absurd ((h b).mpr List.mem_cons_self) List.not_mem_nil
  | a :: L, [], _, _, h => absurd ((h a).mp List.mem_cons_self) List.not_mem_nil
  | a :: L, b :: M, hL, hM, h => by
    obtain ⟨a1, a2⟩ := List.pairwise_cons.mp hL
    obtain ⟨b1, b2⟩ := List.pairwise_cons.mp hM
    have e : a = b := by
      rcases List.mem_cons.mp ((h a).mp List.mem_cons_self) with z | z
      · exact z
      · rcases List.mem_cons.mp ((h b).mpr List.mem_cons_self) with y | y
        · exact y.symm
        · have := a1 b y
          have := b1 a z
          omega
    subst e
    rw [up_eqI a2 b2 fun i => ⟨fun z => ?_, fun z => ?_⟩]
    · have := a1 i z
      rcases List.mem_cons.mp ((h i).mp (List.mem_cons_of_mem _ z)) with y | y
      · omega
      · exact y
    · have := b1 i z
      rcases List.mem_cons.mp ((h i).mpr (List.mem_cons_of_mem _ z)) with y | y
      · omega
      · exact y
theorem eqv_intsL : ∀ ns ms : List Int, PyData.eqv (.list (ns.map .int)) (.list (ms.map .int)) = decide (ns = ms)
  | [], [] => by simp [PyData.eqv, PyData.eqvAll]
  | [], _ :: _ => by simp [PyData.eqv, PyData.eqvAll]
  | _ :: _, [] => by simp [PyData.eqv, PyData.eqvAll]
  | a :: ns, b :: ms => by
    have ih := eqv_intsL ns ms
    simp [PyData.eqv, PyData.eqvAll] at ih ⊢
    by_cases e : a = b
    · subst e
      simpa using ih
    · simp [e]
abbrev s__law_is_ship : Stmt := topS 50
theorem sc__law_is_ship : FnScope (["_law_count", "_law_part"] : List Str) (["_law_count", "_law_part"] : List Str) (defScope s__law_is_ship) := ⟨rfl, rfl, rfl, by decide +kernel, rfl, by decide +kernel, by decide +kernel⟩
theorem b__law_is_ship (kV doc pm : Value) (an : Option Addr) (cdv ct : Value) (us : List Value) (hl : us.length = (["_law_count", "_law_part"] : List Str).length) : bindArgs (PySem.W.fnOf "_law_is_ship" "_law_is_ship" (defArgs s__law_is_ship) (defBody s__law_is_ship) (defScope s__law_is_ship) .none kV doc pm an cdv ct) ⟨us, []⟩ = pure ((["_law_count", "_law_part"] : List Str).zip us) :=
  match us, hl with | [_, _], _ => rfl
abbrev s__law_is_lot : Stmt := topS 51
theorem sc__law_is_lot : FnScope (["_law_count", "_law_matter", "_law_part"] : List Str) (["_law_count", "_law_matter"] : List Str) (defScope s__law_is_lot) := ⟨rfl, rfl, rfl, by decide +kernel, rfl, by decide +kernel, by decide +kernel⟩
theorem b__law_is_lot (kV doc pm : Value) (an : Option Addr) (cdv ct : Value) (us : List Value) (hl : us.length = (["_law_count", "_law_matter"] : List Str).length) : bindArgs (PySem.W.fnOf "_law_is_lot" "_law_is_lot" (defArgs s__law_is_lot) (defBody s__law_is_lot) (defScope s__law_is_lot) .none kV doc pm an cdv ct) ⟨us, []⟩ = pure ((["_law_count", "_law_matter"] : List Str).zip us) :=
  match us, hl with | [_, _], _ => rfl
section
variable {P : Program} {w : World} {K : PySem.W.Frag} {mg : Str → Option Value} {base : Heap}
theorem ok_is_ship {k : Nat} (D : Df K mg "_law_is_ship" s__law_is_ship) (T : Bt mg) : Ok P w K mg base (k + 1) "_law_is_ship" s__law_is_ship ["_law_count", "_law_part"] (spIsShipL K) := by
  refine D.ok sc__law_is_ship b__law_is_ship (fun vs H Q E h => ?_) (fun f cdv A outer s H vs Q E hr h => ?_)
  · obtain ⟨v, d, c, rfl, _⟩ := h
    rfl
  · obtain ⟨v, d, c, rfl, hv, q⟩ := h
    refine ⟨_, (pss_one (ps_ret (pe_and (pe_callB call_isi (by rfl) T.isinstance_ (by decide +kernel) (pa_cons (pv 1) (pa_cons (pe_bltn (v := .ty "int") (by rfl) T.int_ (by decide +kernel) rfl) pa_nil))) (pe_and (pe_not (pe_callB call_isi (by rfl) T.isinstance_ (by decide +kernel) (pa_cons (pv 1) (pa_cons (pe_bltn (v := .ty "bool") (by rfl) T.bool_ (by decide +kernel) rfl) pa_nil)))) (pe_one (pe_chain op_le op_lt pe_int (pv 1) (pv 0))))))), ?_⟩
    have ht := ty_of hv
    cases hv with
    | non => exact ⟨_, rfl, _, .ty "int", .type "NoneType", .type "int", false, rfl, .ty _, ht, kit_ty (by decide +kernel), _, rfl, q⟩
    | bl b =>
      refine ⟨_, rfl, _, .ty "int", .type "bool", .type "int", true, rfl, .ty _, ht, kit_ty (by decide +kernel), _, rfl, ?_⟩
      refine ⟨_, rfl, _, .ty "bool", .type "bool", .type "bool", true, rfl, .ty _, ht, kit_ty (by decide +kernel), _, rfl, _, rfl, ?_⟩
      exact q
    | int i =>
      refine ⟨_, rfl, _, .ty "int", .type "int", .type "int", true, rfl, .ty _, ht, kit_ty (by decide +kernel), _, rfl, ?_⟩
      refine ⟨_, rfl, _, .ty "bool", .type "int", .type "bool", false, rfl, .ty _, ht, kit_ty (by decide +kernel), _, rfl, _, rfl, ?_⟩
      have e : isPlD c (.int i) = (decide (0 ≤ i) && decide (i < (c : Int))) := rfl
      rw [e] at q
      refine iteT ⟨_, rfl, 0, i, rfl, rfl, _, rfl, ite2 (fun c1 => ?_) (fun c1 => ?_)⟩
      · rw [c1, Bool.true_and] at q
        exact ⟨_, rfl, i, (c : Int), rfl, rfl, q⟩
      · rw [Bool.eq_false_iff.mpr c1, Bool.false_and] at q
        exact q
    | str x => exact ⟨_, rfl, _, .ty "int", .type "str", .type "int", false, rfl, .ty _, ht, kit_ty (by decide +kernel), _, rfl, q⟩
    | lst h a => exact ⟨_, rfl, _, .ty "int", .type "list", .type "int", false, rfl, .ty _, ht, kit_ty (by decide +kernel), _, rfl, q⟩
    | tup h a => exact ⟨_, rfl, _, .ty "int", .type "tuple", .type "int", false, rfl, .ty _, ht, kit_ty (by decide +kernel), _, rfl, q⟩
set_option maxHeartbeats 8000000 in
theorem ok_is_lot {k : Nat} (D : Df K mg "_law_is_lot" s__law_is_lot) (T : Bt mg) (O__law_is_ship : Ok P w K mg base k "_law_is_ship" s__law_is_ship ["_law_count", "_law_part"] (spIsShipL K)) : Ok P w K mg base (k + 1) "_law_is_lot" s__law_is_lot ["_law_count", "_law_matter"] (spIsLotL K) := by
  refine D.ok sc__law_is_lot b__law_is_lot (fun vs H Q E h => ?_) (fun f cdv A outer s H vs Q E hr h => ?_)
  · obtain ⟨c, v, d, rfl, _⟩ := h
    rfl
  · obtain ⟨c, v, d, rfl, hv, l60, q⟩ := h
    refine ⟨_, (pss_cons (ps_if (PW.pt (pw_or (pt_not (pt_val (pe_callB call_isi (by rfl) T.isinstance_ (by decide +kernel) (pa_cons (pv 1) (pa_cons (pe_bltn (v := .ty "tuple") (by rfl) T.tuple_ (by decide +kernel) rfl) pa_nil))))) (pw_or1 (pt_not (pt_val (pe_callB (cr_all rfl) (by rfl) T.all_ (by decide +kernel) (pa_cons (pe_lc (own := [("_law_part", 2)]) (g := (gName 2)) (tt := tYes) (by rfl) sc__law_is_lot.nd (pi_seq (pv 1)) (blkOk_by (own := [("_law_part", 2)]) (N := (["_law_count", "_law_matter", "_law_part"] : List Str)) (sc := defScope s__law_is_lot) (by decide +kernel)) (fun _ _ _ _ _ => (pg_name (i := 2) sc__law_is_lot.nd rfl (.inl rfl))) (fun _ _ _ _ _ => pts_nil) (fun _ _ _ _ _ => (pe_fn O__law_is_ship (hr.mono (by omega)) (pa_cons (pv 0) (pa_cons (pv 2) pa_nil))))) pa_nil)))))))
        (pss_one (ps_ret pe_bl))
        pss_nil)
      (pss_one (ps_ret (pe_cmpR (op_eqD hr.units) (pe_callTy call_list_of (by rfl) T.list_ (by decide +kernel) (pa_cons (pv 1) pa_nil)) (pe_callB (cr_sortedSetw w rfl) (by rfl) T.sorted_ (by decide +kernel) (pa_cons (pe_callTy (cr_setTw w rfl) (by rfl) T.set_ (by decide +kernel) (pa_cons (pv 1) pa_nil)) pa_nil)) (nomark _))))), ?_⟩
    refine ⟨_, rfl, v, .ty "tuple", _, .type "tuple", isTuD d, rfl, .ty _, ty_of hv, kit_ty kit_tup, _, rfl, ?_⟩
    cases e1 : isTuD d with
    | false =>
      have : isStD c d = false := by cases d <;> first | rfl | cases e1
      rw [this] at q
      exact iteT (q _ (Same.refl _))
    | true =>
      obtain ⟨p, xs, cs, rfl, rfl, hp, al⟩ := dp_tup hv e1
      have lx := DpAll.len al
      have lc : cs.length ≤ 60 := l60 _ rfl
      refine iteF ?_
      refine ⟨_, rfl, p, _, H, rfl, .inr hp, Kp.refl _ _, fun J hJ C nC => ?_⟩
      obtain ⟨G, g, W⟩ := hJ.walk
      refine lc_it W (fun i H' => Same H H' ∧ H' C = some (.lst (((cs.take i).map (isPlD c)).map V.bl))) ⟨same_new nC, upd_same⟩ (fun i H' _ z => g H' (.ofS z.1)) ?_ ?_
      · rintro i x' Ha Hb hi ⟨sm, hC⟩ ⟨rfl, gx⟩
        rw [lx] at hi
        obtain ⟨d, gd, hd⟩ := DpAll.get al gx
        obtain rfl : cs[i] = d := by
          rw [List.getElem?_eq_getElem hi] at gd
          exact Option.some.inj gd
        refine ⟨rfl, tyes (iteT ?_)⟩
        refine ⟨_, rfl, _, rfl, x', cs[i], c, rfl, Dp.same sm hd, _, hC, ?_, same_over sm nC, ?_⟩
        · rw [List.length_map, List.length_map, List.length_take]
          exact small1000 (by omega)
        · rw [upd_same, take_succ_get hi, List.map_append, List.map_append]
          rfl
      · rintro H1 ⟨s1, hC⟩
        rw [lx, List.take_length] at hC
        refine ⟨C, _, rfl, SqL.of hC, _, rfl, ?_⟩
        have : (cs.map (isPlD c)).all id = cs.all (isPlD c) := by rw [List.all_map]; rfl
        rw [this]
        have eq : isStD c (.tuple cs) = (cs.all (isPlD c) && risingB (cs.map intD)) := rfl
        rw [eq] at q
        cases ea : cs.all (isPlD c) with
        | false =>
          rw [ea] at q
          exact iteT (q _ s1)
        | true =>
          rw [ea, Bool.true_and] at q
          refine iteF ?_
          have xe := dps_ints al ea
          have ln : (cs.map intD).length ≤ 60 := by rw [List.length_map]; exact lc
          rw [xe] at hp
          generalize cs.map intD = ns at hp ln q
          have hp1 := Same.tup s1 hp
          refine ⟨_, rfl, p, _, rfl, .inr hp1, fun l1 nl1 => ?_⟩
          have s2 : Same H1 (upd H1 l1 (.lst (ns.map V.int))) := same_new nl1
          have e2 : upd H1 l1 (.lst (ns.map V.int)) l1 = some (.lst (ns.map V.int)) := upd_same
          generalize upd H1 l1 (.lst (ns.map V.int)) = H2 at s2 e2
          refine ⟨_, rfl, p, ns, rfl, Same.tup s2 hp1, by omega, fun sa cn nsa hcn => ?_⟩
          refine ⟨sa, _, cn, rfl, upd_same, by omega, fun ms sb up hm _ nsb => ?_⟩
          have s3 : Same H2 (upd (upd H2 sa (SetO w sa (fun j => decide (j ∈ ns)) cn)) sb (.lst (ms.map V.int))) := (same_new nsa).trans (same_new nsb)
          have e3 : upd (upd H2 sa (SetO w sa (fun j => decide (j ∈ ns)) cn)) sb (.lst (ms.map V.int)) sb = some (.lst (ms.map V.int)) := upd_same
          generalize upd (upd H2 sa (SetO w sa (fun j => decide (j ∈ ns)) cn)) sb (.lst (ms.map V.int)) = H3 at s3 e3
          refine ⟨.list (ns.map .int), .list (ms.map .int), .lst (SqL.of (s3 _ _ e2)) (DpAll.ints ns), .lst (SqL.of e3) (DpAll.ints ms), shaped_ints _, shaped_ints _, ?_⟩
          rw [eqv_intsL]
          have er : decide (ns = ms) = risingB ns := by
            unfold risingB
            refine decide_eq_decide.mpr ⟨fun z => by rw [z]; exact up, fun z => up_eqI z up fun i => ?_⟩
            rw [hm]
            exact decide_eq_true_iff.symm
          rw [er]
          exact q _ (s1.trans (s2.trans s3))
end
end Sh

namespace Sh
open PySem PySem.Spec PyProof.Rows L2
/-! ### k08: whether a standing lies under, above -/
theorem shapedNT (L : List Nat) : SeqAt.shaped (.tuple ((L.map fun (i : Nat) => (i : Int)).map .int)) = true := by
  have := shaped_ints (L.map fun (i : Nat) => (i : Int))
  unfold SeqAt.shaped at this ⊢
  exact this
def spLiesL (K : PySem.W.Frag) : Sp := fun vs H Q _ => ∃ (v l : V) (wd : Str) (ps : Addr) (h t : Int) (ds : List Int) (s : Nat) (F L : List Nat), vs = [v, .str wd, .int (s : Int), .ref ps, l] ∧ (wd = "low" ∨ wd = "high") ∧ SeaA K H v h t ds ∧ SqT K H ps (ni F) ∧ LotT K H l L ∧ ds.length ≤ 24 ∧ Lot ds.length L ∧ ∀ H', Same H H' → Q (.bl (if wd = "low" then underB h t ds (s : Int) F L else aboveB h t ds (s : Int) F L)) H'
abbrev s__law_lies : Stmt := topS 52
theorem sc__law_lies : FnScope (["_law_pool", "_law_word", "_law_at", "_law_ships", "_law_lot_here", "_law_goers_here", "_law_whom"] : List Str) (["_law_pool", "_law_word", "_law_at", "_law_ships", "_law_lot_here"] : List Str) (defScope s__law_lies) := ⟨rfl, rfl, rfl, by decide +kernel, rfl, by decide +kernel, by decide +kernel⟩
theorem b__law_lies (kV doc pm : Value) (an : Option Addr) (cdv ct : Value) (us : List Value) (hl : us.length = (["_law_pool", "_law_word", "_law_at", "_law_ships", "_law_lot_here"] : List Str).length) : bindArgs (PySem.W.fnOf "_law_lies" "_law_lies" (defArgs s__law_lies) (defBody s__law_lies) (defScope s__law_lies) .none kV doc pm an cdv ct) ⟨us, []⟩ = pure ((["_law_pool", "_law_word", "_law_at", "_law_ships", "_law_lot_here"] : List Str).zip us) :=
  match us, hl with | [_, _, _, _, _], _ => rfl
section
variable {P : Program} {w : World} {K : PySem.W.Frag} {mg : Str → Option Value} {base : Heap}
set_option maxHeartbeats 4000000 in
theorem ok_lies {k : Nat} (D : Df K mg "_law_lies" s__law_lies) (T : Bt mg) (O__law_goers : Ok P w K mg base k "_law_goers" s__law_goers ["_law_pool", "_law_at"] (spGoL K)) :
    Ok P w K mg base (k + 1) "_law_lies" s__law_lies ["_law_pool", "_law_word", "_law_at", "_law_ships", "_law_lot_here"] (spLiesL K) := by
  refine D.ok sc__law_lies b__law_lies (fun vs H Q E h => ?_) (fun f cdv A outer s H vs Q E hr h => ?_)
  · obtain ⟨v, l, wd, ps, h, t, ds, s, F, L, rfl, _⟩ := h
    rfl
  · obtain ⟨v, l, wd, ps, h, t, ds, sN, F, L, rfl, hw, hv, hF, hl, d24, hL, q⟩ := h
    refine ⟨_, (pss_cons (ps_set (i := 5) sc__law_lies.nd rfl (.inr rfl) (pe_fn O__law_goers (hr.mono (by omega)) (pa_cons (pv 0) (pa_cons (pv 2) pa_nil))))
      (pss_cons (ps_if (pt_cmpR op_eq (pv 1) pe_str (nomark _))
        (pss_one (ps_ret (pe_and (pe_cmpR op_le (pe_callB call_len_seq (by rfl) T.len_ PySem.boot_len (pa_cons (pv 4) pa_nil)) (pv 2) (nomark _)) (pe_one (pe_cmpR (op_eqD hr.units) (pe_callTy call_tuple_of (by rfl) T.tuple_ (by decide +kernel) (pa_cons (pe_callB (cr_sortedSetw w rfl) (by rfl) T.sorted_ (by decide +kernel) (pa_cons (pe_callTy (cr_setAw w rfl) (by rfl) T.set_ (by decide +kernel) (pa_cons (pe_op op_cat (pe_callTy call_list_of (by rfl) T.list_ (by decide +kernel) (pa_cons (pv 4) pa_nil)) (pv 5)) pa_nil)) pa_nil)) pa_nil)) (pv 3) (nomark _))))))
        pss_nil)
      (pss_one (ps_ret (pe_and (pe_cmpR op_gt (pe_callB call_len_seq (by rfl) T.len_ PySem.boot_len (pa_cons (pv 4) pa_nil)) (pv 2) (nomark _)) (pe_one (pe_cmpR (op_eqD hr.units) (pe_callTy call_tuple_of (by rfl) T.tuple_ (by decide +kernel) (pa_cons (pe_lc (own := [("_law_whom", 6)]) (g := (gName 6)) (by rfl) sc__law_lies.nd (pi_seq (pv 4)) (blkOk_by (own := [("_law_whom", 6)]) (N := (["_law_pool", "_law_word", "_law_at", "_law_ships", "_law_lot_here", "_law_goers_here", "_law_whom"] : List Str)) (sc := defScope s__law_lies) (by decide +kernel)) (fun _ _ _ _ _ => (pg_name (i := 6) sc__law_lies.nd rfl (.inl rfl))) (fun _ _ _ _ _ => (pts_one (pt_cmpR (op_notInK K) (pv 6) (pv 5) (by rfl)))) (fun _ _ _ _ _ => (pv 6))) pa_nil)) (pv 3) (nomark _)))))))), ?_⟩
    refine ⟨_, rfl, _, rfl, v, h, t, (sN : Int), ds, rfl, hv, by omega, fun H1 pg s1 npg hpg => ?_⟩
    have lL := hL.len
    have gl := gs_len (m := mk h t ds.length (sN : Int)) (ds := ds) (n := ds.length)
    have gm : ∀ j, j ∈ gs (mk h t ds.length (sN : Int)) ds ds.length ↔ j < ds.length ∧ goB h t ds (sN : Int) j = true := fun j => by
      unfold gs goB
      rw [List.mem_filter, List.mem_range]
    obtain ⟨pl, rfl, hpl⟩ := id (hl.same s1)
    have hF1 := Same.tup s1 hF
    have hsame := q
    rcases hw with rfl | rfl
    · refine ⟨_, rfl, rfl, _, rfl, ite2 (fun _ => ?_) (fun c => absurd (decide_eq_true rfl) c)⟩
      refine ⟨_, rfl, pl, _, rfl, .inr hpl, _, rfl, _, _, rfl, rfl, _, rfl, ?_⟩
      rw [ni_len]
      replace q : ∀ H', Same H H' → Q (.bl (underB h t ds (sN : Int) F L)) H' := fun H' s => by
        have := q H' s
        rw [if_pos rfl] at this
        exact this
      unfold underB at q
      refine ite2 (fun c1 => ?_) (fun c1 => ?_)
      · rw [c1, Bool.true_and] at q
        refine ⟨_, rfl, pl, _, rfl, .inr hpl, fun q1 nq1 => ?_⟩
        have s2 : Same H1 (upd H1 q1 (.lst (ni L))) := same_new nq1
        have e2 : upd H1 q1 (.lst (ni L)) q1 = some (.lst (ni L)) := upd_same
        generalize upd H1 q1 (.lst (ni L)) = H2 at s2 e2
        refine ⟨_, rfl, q1, pg, _, _, rfl, rfl, e2, s2 _ _ hpg, ?_, fun q2 nq2 => ?_⟩
        · rw [ni_len, ni_len]
          exact Nat.le_trans (show L.length + _ ≤ 100 by omega) (by decide)
        rw [← ni_app]
        have s3 : Same H2 (upd H2 q2 (.lst (ni (L ++ gs (mk h t ds.length (sN : Int)) ds ds.length)))) := same_new nq2
        have e3 : upd H2 q2 (.lst (ni (L ++ gs (mk h t ds.length (sN : Int)) ds ds.length))) q2 = some (.lst (ni (L ++ gs (mk h t ds.length (sN : Int)) ds ds.length))) := upd_same
        generalize upd H2 q2 (.lst (ni (L ++ gs (mk h t ds.length (sN : Int)) ds ds.length))) = H3 at s3 e3
        rw [ni_ints] at e3
        refine ⟨q2, _, rfl, SqA.l e3, by rw [List.length_map, List.length_append]; omega, fun sa ks nsa kn km => ?_⟩
        have k24 : ks.length < 64 := by
          have sub : ∀ z ∈ ks, z ∈ (List.range ds.length).map fun (i : Nat) => (i : Int) := fun z hz => by
            obtain ⟨a, ha, rfl⟩ := List.mem_map.mp ((km z).mp hz)
            refine List.mem_map.mpr ⟨a, List.mem_range.mpr ?_, rfl⟩
            rcases List.mem_append.mp ha with y | y
            · exact hL.lt a y
            · exact ((gm a).mp y).1
          have := nodup_len kn sub
          rw [List.length_map, List.length_range] at this
          omega
        refine ⟨sa, _, ks.length, rfl, upd_same, k24, fun ns sb up hm _ nsb => ?_⟩
        have mF : ∀ z : Int, z ∈ ns ↔ ∃ a, a ∈ fillL h t ds L (sN : Int) ∧ z = (a : Int) := fun z => by
          rw [hm, decide_eq_true_eq, List.mem_map]
          have key : ∀ a : Nat, a ∈ L ++ gs (mk h t ds.length (sN : Int)) ds ds.length ↔ a ∈ fillL h t ds L (sN : Int) := fun a => by
            rw [List.mem_append, gm, fill_key hL]
          constructor
          · rintro ⟨a, ha, rfl⟩
            exact ⟨a, (key a).mp ha, rfl⟩
          · rintro ⟨a, ha, rfl⟩
            exact ⟨a, (key a).mpr ha, rfl⟩
        have lF := fill_lot (h := h) (t := t) (ds := ds) L (sN : Int)
        obtain rfl := rising_lot up lF mF
        have s4 : Same H3 (upd (upd H3 sa (SetO w sa (fun j => decide (j ∈ (L ++ gs (mk h t ds.length (sN : Int)) ds ds.length).map fun (i : Nat) => (i : Int))) ks.length)) sb (.lst (((fillL h t ds L (sN : Int)).map fun (i : Nat) => (i : Int)).map V.int))) := (same_new nsa).trans (same_new nsb)
        have e4 : upd (upd H3 sa (SetO w sa (fun j => decide (j ∈ (L ++ gs (mk h t ds.length (sN : Int)) ds ds.length).map fun (i : Nat) => (i : Int))) ks.length)) sb (.lst (((fillL h t ds L (sN : Int)).map fun (i : Nat) => (i : Int)).map V.int)) sb = some (.lst (ni (fillL h t ds L (sN : Int)))) := by rw [upd_same, ni_ints]
        generalize upd (upd H3 sa (SetO w sa (fun j => decide (j ∈ (L ++ gs (mk h t ds.length (sN : Int)) ds ds.length).map fun (i : Nat) => (i : Int))) ks.length)) sb (.lst (((fillL h t ds L (sN : Int)).map fun (i : Nat) => (i : Int)).map V.int)) = H4 at s4 e4
        refine ⟨sb, _, rfl, .inl ⟨SqL.of e4, fun q3 nq3 => ?_⟩⟩
        have s5 : Same H4 (upd H4 q3 (.tup (ni (fillL h t ds L (sN : Int))))) := same_new nq3
        have e5 : upd H4 q3 (.tup (ni (fillL h t ds L (sN : Int)))) q3 = some (.tup (ni (fillL h t ds L (sN : Int)))) := upd_same
        generalize upd H4 q3 (.tup (ni (fillL h t ds L (sN : Int)))) = H5 at s5 e5
        have s15 := s2.trans (s3.trans (s4.trans s5))
        refine ⟨_, rfl, _, _, dp_niT (SqT.of e5), dp_niT (Same.tup s15 hF1), shapedNT _, shapedNT _, ?_⟩
        rw [eqv_niT]
        exact q _ (s1.trans s15)
      · rw [Bool.eq_false_iff.mpr c1, Bool.false_and] at q
        exact q _ s1
    · refine ⟨_, rfl, rfl, _, rfl, ite2 (fun c => absurd (V.str.inj (of_decide_eq_true c)) (by decide)) (fun _ => ?_)⟩
      refine ⟨_, rfl, pl, _, rfl, .inr hpl, _, rfl, _, _, rfl, rfl, _, rfl, ?_⟩
      rw [ni_len]
      replace q : ∀ H', Same H H' → Q (.bl (aboveB h t ds (sN : Int) F L)) H' := fun H' s => by
        have := q H' s
        rw [if_neg (by decide)] at this
        exact this
      unfold aboveB at q
      refine ite2 (fun c1 => ?_) (fun c1 => ?_)
      · rw [c1, Bool.true_and] at q
        refine ⟨_, rfl, pl, _, H1, rfl, .inr hpl, Kp.refl _ _, fun J2 hJ2 D nD => ?_⟩
        obtain ⟨G2, g2, W2⟩ := hJ2.walk
        refine lc_filter (X := L) (fun w => !decide (w ∈ gs (mk h t ds.length (sN : Int)) ds ds.length)) W2 (fun H' s => g2 H' (.ofS s)) nD (by omega) (fun _ => rfl) (fun _ => rfl) (fun y hy H' s' Q' k' => ?_) (fun H7 s7 hD => ?_)
        · refine ⟨_, rfl, _, rfl, pg, _, rfl, .inl (SqL.of (s' _ _ hpg)), rfl, ni_flat _, _, rfl, ?_⟩
          rw [if_pos rfl, in_ni]
          exact k'
        rw [empt_key hL gm] at hD
        refine ⟨D, _, rfl, .inl ⟨SqL.of hD, fun q7 nq7 => ?_⟩⟩
        have s8 : Same H7 (upd H7 q7 (.tup (ni (emptL h t ds L (sN : Int))))) := same_new nq7
        have e8 : upd H7 q7 (.tup (ni (emptL h t ds L (sN : Int)))) q7 = some (.tup (ni (emptL h t ds L (sN : Int)))) := upd_same
        generalize upd H7 q7 (.tup (ni (emptL h t ds L (sN : Int)))) = H8 at s8 e8
        have s15 := s7.trans s8
        refine ⟨_, rfl, _, _, dp_niT (SqT.of e8), dp_niT (Same.tup s15 hF1), shapedNT _, shapedNT _, ?_⟩
        rw [eqv_niT]
        exact q _ (s1.trans s15)
      · rw [Bool.eq_false_iff.mpr c1, Bool.false_and] at q
        exact q _ s1
end
end Sh

namespace Sh
open PySem PySem.Spec PyProof.Rows L2
/-- truths, one a thing walked, told by the thing -/
theorem lc_boolf {σ : L2.St} {H : Hp} {C : Addr} {vs : List Nat} {i : Nat} {te : TE} {Qd : Hp → Prop} {xs : List Int} {J : It} {G : Hp → Prop} (f : Int → Bool) (W : Walk J (xs.map V.int).length G (YAt (xs.map V.int))) (g : ∀ H', Same H H' → G H') (nC : H C = none) (lX : xs.length ≤ 1000)
    (hw : ∀ v, wipe ((wipe σ vs).set i (some v)) vs = wipe σ vs)
    (ht : ∀ x ∈ xs, ∀ H', Same H H' → ∀ Q : V → Hp → Prop, (∀ H2, Same H' H2 → Q (.bl (f x)) H2) → te ((wipe σ vs).set i (some (.int x))) H' Q) (hd : ∀ H', Same H H' → H' C = some (.lst (xs.map fun x => V.bl (f x))) → Qd H') :
    ∃ W : Nat → Nat → Hp → Prop, (∃ m, W 0 m (upd H C (.lst []))) ∧ ∀ j m H, W j m H →
      (J.stop j H ∧ Qd H) ∨ (J.go j H ∧ ∃ Nx : Hp → Prop, (∀ H', Nx H' → ∃ m', m' < m ∧ W (j + 1) m' H') ∧ ∀ x H', J.yld j H x H' → gName i x (wipe σ vs) H' fun σ2 H2 => wipe σ2 vs = wipe σ vs ∧ tYes σ2 H2 fun b H3 =>
        if b = true then te σ2 H3 fun y H4 => ∃ acc, H4 C = some (.lst acc) ∧ acc.length < sizeLine ∧ Nx (upd H4 C (.lst (acc ++ [y]))) else Nx H3) := by
  refine lc_it W (fun j H' => Same H H' ∧ H' C = some (.lst ((xs.take j).map fun x => V.bl (f x)))) ⟨same_new nC, upd_same⟩ (fun j H' _ z => g H' z.1) ?_ ?_
  · rintro j x H3 H4 hj ⟨s3, hC⟩ ⟨rfl, gx⟩
    rw [List.length_map] at hj
    have gj : xs[j]? = some xs[j] := List.getElem?_eq_getElem hj
    obtain rfl : V.int xs[j] = x := by
      rw [List.getElem?_map, gj] at gx
      exact Option.some.inj gx
    refine ⟨hw _, tyes (iteT (ht xs[j] (List.getElem_mem hj) _ s3 _ fun H5 s5 => ?_))⟩
    refine ⟨_, s5 _ _ hC, ?_, same_over (s3.trans s5) nC, ?_⟩
    · rw [List.length_map, List.length_take]
      exact small1000 (by omega)
    · rw [upd_same, List.take_add_one, gj, List.map_append]
      rfl
  · rintro H3 ⟨s3, hC⟩
    rw [List.length_map, List.take_length] at hC
    exact hd H3 s3 hC
end Sh

namespace Sh
open PySem PySem.Spec PyProof.Rows L2
theorem units65 {k : Nat} {A : Around} (r : Room k A) : A.units + 65 < cLine := by have := r.un; omega
theorem cut_two (x y : V) (l : List V) : cutV (x :: y :: l) none (some 2) = [x, y] := by
  unfold cutV
  rw [HT.sIx_none, show (2 : Int) = ((2 : Nat) : Int) from rfl, HT.sIx_nat]
  simp
theorem not_in23 (n : Nat) : (!([PyData.int 2, .int 3].any fun z => PyData.eqv z (.int (n : Int)))) = (!(decide (n = 2) || decide (n = 3))) := by
  have e : ∀ k : Nat, PyData.eqv (.int (k : Int)) (.int (n : Int)) = decide (n = k) := fun k => by
    rw [Bool.eq_iff_iff, decide_eq_true_eq]
    simp [PyData.eqv]
    omega
  have e2 := e 2
  have e3 := e 3
  show (!(PyData.eqv (.int ((2 : Nat) : Int)) (.int (n : Int)) || (PyData.eqv (.int ((3 : Nat) : Int)) (.int (n : Int)) || false))) = _
  rw [e2, e3, Bool.or_false]
theorem not_ship2 {h t : Int} {ds : List Int} {L M : List Nat} {a b : PyData} (e : isPlD ds.length b = false) : showsD h t ds L M (.tuple [a, b]) = false := by
  cases a <;> simp [showsD, fastD, e]
theorem not_ship3 {h t : Int} {ds : List Int} {L M : List Nat} {a b c : PyData} (e : isPlD ds.length b = false) : showsD h t ds L M (.tuple [a, b, c]) = false := by
  cases a <;> simp [showsD, lowD, highD, e]
theorem word_in (a : PyData) : (!([PyData.str "low", .str "high"].any fun z => PyData.eqv z a)) = (match a with | .str w => !(decide (w = "low") || decide (w = "high")) | _ => true) := by
  have e : ∀ (x : Str) (w : Str), PyData.eqv (.str x) (.str w) = decide (w = x) := fun x w => by
    show (x == w) = decide (w = x)
    rw [Bool.eq_iff_iff, beq_iff_eq, decide_eq_true_eq]
    exact eq_comm
  cases a with
  | str w =>
    show (!(PyData.eqv (.str "low") (.str w) || (PyData.eqv (.str "high") (.str w) || false))) = _
    rw [e, e, Bool.or_false]
  | _ => rfl
theorem cut_lo (ps : List Int) (j : Nat) (hj : j ≤ ps.length) : cutV (ps.map V.int) none (some (j : Int)) = (ps.take j).map V.int := by
  unfold cutV
  rw [HT.sIx_nat, HT.sIx_none, List.drop_zero, Nat.sub_zero, List.length_map, Nat.min_eq_left hj, List.map_take]
theorem cut_hi (ps : List Int) (j : Nat) (hj : j + 1 ≤ ps.length) : cutV (ps.map V.int) (some ((j : Int) + 1)) none = (ps.drop (j + 1)).map V.int := by
  rw [show ((j : Int) + 1) = ((j + 1 : Nat) : Int) from rfl]
  unfold cutV
  rw [HT.sIx_nat, HT.sIx_none, List.length_map, Nat.min_eq_left hj, List.map_drop, List.take_of_length_le (by rw [List.length_drop, List.length_map]; exact Nat.le_refl _)]
theorem beq_tt (a : Bool) : decide (V.bl a = V.bl (decide (V.str ("low" : Str) = V.str "low"))) = a := by
  rw [decide_eq_true rfl]
  cases a <;> rfl
theorem beq_ft (a : Bool) : decide (V.bl a = V.bl (decide (V.str ("high" : Str) = V.str "low"))) = !a := by
  rw [decide_eq_false (show ¬ (V.str ("high" : Str) = V.str "low") from fun z => absurd (V.str.inj z) (by decide))]
  cases a <;> rfl
def spDueB (K : PySem.W.Frag) : Sp := fun vs H Q _ => ∃ (n : Nat) (v l m z : V) (pl : Addr) (h t : Int) (ds : List Int) (L M : List Nat) (d : PyData), vs = [v, .ref pl, z] ∧ SeaT K H v h t ds ∧ SqL K H pl [l, m] ∧ LotT K H l L ∧ LotT K H m M ∧ ds.length ≤ 24 ∧ 0 < ds.length ∧ Lot ds.length L ∧ Lot ds.length M ∧ Dp K H z d ∧ Lv n d ∧ SeqAt.shaped d = true ∧ (∀ e f g, d = .tuple [e, f, .tuple g] → g.length ≤ 60) ∧
  ∀ H' : Hp, Same H H' → Q (.bl (showsD h t ds L M d)) H'
abbrev s__law_due : Stmt := topS 53
theorem sc__law_due : FnScope (["_law_pool", "_law_lots", "_law_matter", "_law_count", "_law_marks_here", "_law_word", "_law_at", "_law_ships", "_law_goers_here", "_law_near", "_law_mark", "_law_whom"] : List Str) (["_law_pool", "_law_lots", "_law_matter"] : List Str) (defScope s__law_due) := ⟨rfl, rfl, rfl, by decide +kernel, rfl, by decide +kernel, by decide +kernel⟩
theorem b__law_due (kV doc pm : Value) (an : Option Addr) (cdv ct : Value) (us : List Value) (hl : us.length = (["_law_pool", "_law_lots", "_law_matter"] : List Str).length) : bindArgs (PySem.W.fnOf "_law_due" "_law_due" (defArgs s__law_due) (defBody s__law_due) (defScope s__law_due) .none kV doc pm an cdv ct) ⟨us, []⟩ = pure ((["_law_pool", "_law_lots", "_law_matter"] : List Str).zip us) :=
  match us, hl with | [_, _, _], _ => rfl
section
variable {P : Program} {w : World} {K : PySem.W.Frag} {mg : Str → Option Value} {base : Heap}
set_option maxHeartbeats 8000000 in
theorem ok_dueB {k : Nat} (D : Df K mg "_law_due" s__law_due) (T : Bt mg) (O__law_marks : Ok P w K mg base k "_law_marks" s__law_marks ["_law_pool"] (spMarks K)) (O__law_goers : Ok P w K mg base k "_law_goers" s__law_goers ["_law_pool", "_law_at"] (spGoL K)) (O__law_is_ship : Ok P w K mg base k "_law_is_ship" s__law_is_ship ["_law_count", "_law_part"] (spIsShipL K)) (O__law_is_lot : Ok P w K mg base k "_law_is_lot" s__law_is_lot ["_law_count", "_law_matter"] (spIsLotL K)) (O__law_lies : Ok P w K mg base k "_law_lies" s__law_lies ["_law_pool", "_law_word", "_law_at", "_law_ships", "_law_lot_here"] (spLiesL K)) :
    Ok P w K mg base (k + 1) "_law_due" s__law_due ["_law_pool", "_law_lots", "_law_matter"] (spDueB K) := by
  refine D.ok sc__law_due b__law_due (fun vs H Q E h => ?_) (fun f cdv A outer s H vs Q E hr h => ?_)
  · obtain ⟨n, v, l, m, z, pl, h, t, ds, L, M, d, rfl, _⟩ := h
    rfl
  · obtain ⟨n, v, l, m, z, pl, h, t, ds, L, M, d, rfl, hv, hpl, hl, hm, d24, d0, hL, hM, hd, lv, sh, l60, q⟩ := h
    refine ⟨_, (pss_cons (ps_asg (pe_tup (pa_cons (pe_callB call_len_seq (by rfl) T.len_ PySem.boot_len (pa_cons (pe_ix ix_lt (pv 0) pe_int (fun _ _ => rfl)) pa_nil)) (pa_cons (pe_fn O__law_marks (hr.mono (by omega)) (pa_cons (pv 0) pa_nil)) pa_nil))) (pg_seq rfl (pgs_cons (pg_name (i := 3) sc__law_due.nd rfl (.inl rfl)) (pgs_cons (pg_name (i := 4) sc__law_due.nd rfl (.inr rfl)) pgs_nil))))
      (pss_cons (ps_if (PW.pt (pw_or (pt_not (pt_val (pe_callB call_isi (by rfl) T.isinstance_ (by decide +kernel) (pa_cons (pv 2) (pa_cons (pe_bltn (v := .ty "tuple") (by rfl) T.tuple_ (by decide +kernel) rfl) pa_nil))))) (pw_or (pt_cmpR (op_notInDT (units65 hr)) (pe_callB call_len_seq (by rfl) T.len_ PySem.boot_len (pa_cons (pv 2) pa_nil)) (pe_tup (pa_cons pe_int (pa_cons pe_int pa_nil))) (by rfl)) (pw_or1 (pt_not (pt_val (pe_fn O__law_is_ship (hr.mono (by omega)) (pa_cons (pv 3) (pa_cons (pe_ix ix_lt (pv 2) pe_int (fun _ _ => rfl)) pa_nil)))))))))
        (pss_one (ps_ret pe_bl))
        pss_nil)
      (pss_cons (ps_asg (pe_slice sl_tupS (pv 2) po_none (po_some pe_int)) (pg_seq rfl (pgs_cons (pg_name (i := 5) sc__law_due.nd rfl (.inr rfl)) (pgs_cons (pg_name (i := 6) sc__law_due.nd rfl (.inr rfl)) pgs_nil))))
      (pss_cons (ps_if (pt_cmpR op_eq (pe_callB call_len_seq (by rfl) T.len_ PySem.boot_len (pa_cons (pv 2) pa_nil)) pe_int (nomark _))
        (pss_one (ps_ret (pe_and (pe_cmpR (op_eqD hr.units) (pv 5) pe_str (nomark _)) (pe_and (pe_cmpR op_gt (pe_ix ix_lt (pe_ix ix_lt (pv 0) pe_int (fun _ _ => rfl)) (pv 6) (fun _ _ => rfl)) (pe_callB (cr_max rfl) (by rfl) T.max_ (by decide +kernel) (pa_cons (pv 4) pa_nil)) (nomark _)) (pe_one (pe_cmpR op_ne (pe_cmpR op_in_seq (pv 6) (pe_ix ix_lt (pv 1) pe_int (fun _ _ => rfl)) (by rfl)) (pe_cmpR op_in_seq (pv 6) (pe_ix ix_lt (pv 1) pe_int (fun _ _ => rfl)) (by rfl)) (nomark _)))))))
        pss_nil)
      (pss_cons (ps_set (i := 7) sc__law_due.nd rfl (.inr rfl) (pe_ix ix_lt (pv 2) pe_int (fun _ _ => rfl)))
      (pss_cons (ps_if (PW.pt (pw_or (pt_cmpR (op_notInDT (units65 hr)) (pv 5) (pe_tup (pa_cons pe_str (pa_cons pe_str pa_nil))) (by rfl)) (pw_or (pt_not (pt_val (pe_fn O__law_is_lot (hr.mono (by omega)) (pa_cons (pv 3) (pa_cons (pv 7) pa_nil))))) (pw_or1 (pt_cmpR op_ne (pe_callB call_len_seq (by rfl) T.len_ PySem.boot_len (pa_cons (pv 7) pa_nil)) (pe_op op_add (pv 6) (pe_callTy call_int1 (by rfl) T.int_ (by decide +kernel) (pa_cons (pe_cmpR op_eq (pv 5) pe_str (nomark _)) pa_nil))) (nomark _))))))
        (pss_one (ps_ret pe_bl))
        pss_nil)
      (pss_cons (ps_par (i := 8) (j := 9) (by rfl) sc__law_due.nd rfl rfl (by decide) rfl rfl (pa_cons (pe_fn O__law_goers (hr.mono (by omega)) (pa_cons (pv 0) (pa_cons (pv 6) pa_nil))) (pa_cons (pe_ifExp (pt_cmpR op_eq (pv 5) pe_str (nomark _)) (pe_slice sl_list (pv 4) po_none (po_some (pv 6))) (pe_slice sl_list (pv 4) (po_some (pe_op op_add (pv 6) pe_int)) po_none)) pa_nil)) (by rfl))
      (pss_cons (ps_if (pt_val (pe_callB (cr_any rfl) (by rfl) T.any_ (by decide +kernel) (pa_cons (pe_lc (own := [("_law_mark", 10)]) (g := (gName 10)) (tt := tYes) (by rfl) sc__law_due.nd (pi_seq (pv 9)) (blkOk_by (own := [("_law_mark", 10)]) (N := (["_law_pool", "_law_lots", "_law_matter", "_law_count", "_law_marks_here", "_law_word", "_law_at", "_law_ships", "_law_goers_here", "_law_near", "_law_mark", "_law_whom"] : List Str)) (sc := defScope s__law_due) (by decide +kernel)) (fun _ _ _ _ _ => (pg_name (i := 10) sc__law_due.nd rfl (.inl rfl))) (fun _ _ _ _ _ => pts_nil) (fun _ _ _ _ _ => (pe_cmpR op_gt (pv 10) (pe_ix (ix_ltK K) (pv 4) (pv 6) (fun _ _ => rfl)) (nomark _)))) pa_nil)))
        (pss_one (ps_ret pe_bl))
        pss_nil)
      (pss_cons (ps_if (pt_not (pt_val (pe_callB (cr_all rfl) (by rfl) T.all_ (by decide +kernel) (pa_cons (pe_lc (own := [("_law_whom", 11)]) (g := (gName 11)) (tt := tYes) (by rfl) sc__law_due.nd (pi_seq (pv 8)) (blkOk_by (own := [("_law_whom", 11)]) (N := (["_law_pool", "_law_lots", "_law_matter", "_law_count", "_law_marks_here", "_law_word", "_law_at", "_law_ships", "_law_goers_here", "_law_near", "_law_mark", "_law_whom"] : List Str)) (sc := defScope s__law_due) (by decide +kernel)) (fun _ _ _ _ _ => (pg_name (i := 11) sc__law_due.nd rfl (.inl rfl))) (fun _ _ _ _ _ => pts_nil) (fun _ _ _ _ _ => (pe_cmpR op_eq (pe_cmpR (op_inK K) (pv 11) (pv 7) (by rfl)) (pe_cmpR op_eq (pv 5) pe_str (nomark _)) (nomark _)))) pa_nil))))
        (pss_one (ps_ret pe_bl))
        pss_nil)
      (pss_one (ps_ret (pe_cmpR op_ne (pe_fn O__law_lies (hr.mono (by omega)) (pa_cons (pv 0) (pa_cons (pv 5) (pa_cons (pv 6) (pa_cons (pv 7) (pa_cons (pe_ix ix_lt (pv 1) pe_int (fun _ _ => rfl)) pa_nil)))))) (pe_fn O__law_lies (hr.mono (by omega)) (pa_cons (pv 0) (pa_cons (pv 5) (pa_cons (pv 6) (pa_cons (pv 7) (pa_cons (pe_ix ix_lt (pv 1) pe_int (fun _ _ => rfl)) pa_nil)))))) (nomark _))))))))))))), ?_⟩
    obtain ⟨p, pd, rfl, hp, hq⟩ := id hv
    refine ⟨_, rfl, p, _, 2, .ref pd, rfl, rfl, .inr hp, rfl, pd, _, rfl, .inr hq, ?_⟩
    rw [List.length_map]
    refine ⟨_, rfl, .ref p, h, t, ds, rfl, hv.a, by omega, fun H1 pm s1 npm hpm => ?_⟩
    refine ⟨(by show 2 ≤ sizeLine; decide), fun tp ntp => ?_⟩
    have s2 : Same H1 (upd H1 tp (.tup [.int (ds.length : Int), .ref pm])) := same_new ntp
    have e2 : upd H1 tp (.tup [.int (ds.length : Int), .ref pm]) tp = some (.tup [.int (ds.length : Int), .ref pm]) := upd_same
    generalize upd H1 tp (.tup [.int (ds.length : Int), .ref pm]) = H2 at s2 e2
    have s12 := s1.trans s2
    have hpm2 := s2 _ _ hpm
    refine ⟨tp, _, rfl, SqA.t e2, rfl, _, _, rfl, _, _, rfl, rfl, ?_⟩
    have hd2 := Dp.same s12 hd
    -- tuple, length, ship
    refine ⟨_, rfl, z, .ty "tuple", _, .type "tuple", isTuD d, rfl, .ty _, ty_of hd2, kit_ty kit_tup, _, rfl, ?_⟩
    cases e1 : isTuD d with
    | false =>
      have : showsD h t ds L M d = false := by cases d <;> first | rfl | cases e1
      rw [this] at q
      exact iteT (q _ s12)
    | true =>
    obtain ⟨pz, xs, cs, rfl, rfl, hz, al⟩ := dp_tup hd2 e1
    have lx := DpAll.len al
    refine iteF ?_
    refine ⟨_, rfl, pz, _, rfl, .inr hz, ?_⟩
    refine ⟨(by show 2 ≤ sizeLine; decide), fun tq ntq => ?_⟩
    have s3 : Same H2 (upd H2 tq (.tup [.int 2, .int 3])) := same_new ntq
    have e3 : upd H2 tq (.tup [.int 2, .int 3]) tq = some (.tup [.int 2, .int 3]) := upd_same
    generalize upd H2 tq (.tup [.int 2, .int 3]) = H3 at s3 e3
    refine ⟨.int (xs.length : Int), [.int 2, .int 3], .int _, .tup (SqT.of e3) (.cons (.int 2) (.cons (.int 3) .nil)), rfl, rfl, ?_⟩
    rw [not_in23]
    refine ⟨_, rfl, ?_⟩
    have s13 := s12.trans s3
    by_cases c23 : ¬ (xs.length = 2 ∨ xs.length = 3)
    · rw [decide_eq_false fun z => c23 (.inl z), decide_eq_false fun z => c23 (.inr z)]
      rw [shows_none (d := .tuple cs) (show decide (cs.length = 2) = false from decide_eq_false (by rw [← lx]; exact fun z => c23 (.inl z))) (show decide (cs.length = 3) = false from decide_eq_false (by rw [← lx]; exact fun z => c23 (.inr z)))] at q
      exact iteT (q _ s13)
    replace c23 := Classical.not_not.mp c23
    have ee : (!(decide (xs.length = 2) || decide (xs.length = 3))) = false := by
      rcases c23 with z | z
      · rw [decide_eq_true z]
        rfl
      · rw [decide_eq_true z, Bool.or_true]
        rfl
    rw [ee]
    refine iteF ?_
    have hz3 := Same.tup s3 hz
    have al3 := DpAll.same s3 al
    have hpm3 := s3 _ _ hpm2
    have hp3 := Same.tup s13 hp
    have hq3 := Same.tup s13 hq
    have hv3 := hv.same s13
    have hpl3 := s13.seq hpl
    have hl3 := hl.same s13
    have hm3 := hm.same s13
    obtain ⟨x, y, xr, a, c, cr, rfl, rfl, dx, dy, alr⟩ : ∃ (x y : V) (xr : List V) (a c : PyData) (cr : List PyData), xs = x :: y :: xr ∧ cs = a :: c :: cr ∧ Dp K H3 x a ∧ Dp K H3 y c ∧ DpAll K H3 xr cr := by
      cases al3 with
      | nil => rcases c23 with z | z <;> cases z
      | cons dx al4 =>
        cases al4 with
        | nil => rcases c23 with z | z <;> cases z
        | cons dy al5 => exact ⟨_, _, _, _, _, _, rfl, rfl, dx, dy, al5⟩
    refine ⟨_, rfl, _, rfl, pz, _, 1, y, rfl, rfl, .inr hz3, at_nat (j := 1) rfl rfl, y, c, ds.length, rfl, dy, ?_⟩
    refine ⟨_, rfl, ?_⟩
    cases eP : isPlD ds.length c with
    | false =>
      have e0 : showsD h t ds L M (.tuple (a :: c :: cr)) = false := by
        have l3 : (a :: c :: cr).length = 2 ∨ (a :: c :: cr).length = 3 := by rw [← lx]; exact c23
        match cr, l3 with
        | [], _ => exact not_ship2 eP
        | [_], _ => exact not_ship3 eP
        | _ :: _ :: _, l3 => exact absurd l3 (by simp)
      rw [e0] at q
      exact iteT (q _ s13)
    | true =>
    refine iteF ?_
    obtain ⟨sN, rfl, rfl, hs⟩ := pl_nat dy eP
    refine ⟨_, rfl, 2, rfl, pz, _, rfl, hz3, fun rs H4 s4 hr4 => ?_⟩
    rw [cut_two] at hr4
    refine ⟨rs, _, rfl, .inr hr4, rfl, _, _, rfl, _, _, rfl, rfl, ?_⟩
    have s14 := s13.trans s4
    have hz4 := Same.tup s4 hz3
    have dx4 := Dp.same s4 dx
    have al4 := DpAll.same s4 alr
    have hpm4 := s4 _ _ hpm3
    have hp4 := Same.tup s4 hp3
    have hq4 := Same.tup s4 hq3
    have hv4 := hv3.same s4
    have hpl4 := s4.seq hpl3
    have hl4 := hl3.same s4
    have hm4 := hm3.same s4
    refine ⟨_, rfl, pz, _, rfl, .inr hz4, ?_⟩
    have l3 : (a :: PyData.int (sN : Int) :: cr).length = 2 ∨ (a :: PyData.int (sN : Int) :: cr).length = 3 := by rw [← lx]; exact c23
    have sa := shaped_el sh (List.mem_cons_self (a := a))
    cases al4 with
    | nil =>
      refine ⟨rfl, _, rfl, ite2 (fun _ => ?_) (fun c => absurd (decide_eq_true rfl) c)⟩
      refine ⟨_, rfl, a, .str "fast", dx4, .str _, sa, by decide +kernel, ?_⟩
      rw [eqv_word]
      have q1 := fun H' s' => q H' (s14.trans s')
      clear q
      cases a with
      | str wd =>
        have eD : showsD h t ds L M (.tuple [.str wd, .int (sN : Int)]) = (decide (wd = "fast") && fastSB h t ds sN L M) := by
          show (decide (wd = "fast") && (isPlD ds.length (.int (sN : Int)) && fastSB h t ds (intD (.int (sN : Int))).toNat L M)) = _
          rw [pl_int hs, Bool.true_and, show (intD (.int (sN : Int))).toNat = sN from Int.toNat_natCast sN]
        rw [eD] at q1
        refine ⟨_, rfl, ?_⟩
        show if decide (wd = "fast") = true then _ else _
        cases c : decide (wd = "fast") with
        | false =>
          rw [c] at q1
          exact iteF (q1 _ (Same.refl _))
        | true =>
          rw [c, Bool.true_and] at q1
          unfold fastSB at q1
          have lm0 : 0 < (ml h t ds.length ds.length).length := by rw [ml_len]; exact d0
          have tl := top_lo' h t ds.length
          have th := top_hi' h t d0
          refine iteT ?_
          refine ⟨_, rfl, p, _, 2, .ref pd, rfl, rfl, .inr hp4, rfl, _, rfl, pd, _, (sN : Int), _, rfl, rfl, .inr hq4, at_nat (v := .int (ds.getD sN 0)) rfl (by simp [hs]), _, rfl, pm, _, rfl, SqL.of hpm4, lm0, fun mx mm mle => ?_⟩
          have em : mx = mk h t ds.length (topI h t ds.length) := by
            obtain ⟨tp, etp⟩ : ∃ tp : Nat, topI h t ds.length = (tp : Int) := ⟨(topI h t ds.length).toNat, by omega⟩
            have tg : (ml h t ds.length ds.length)[tp]? = some (mk h t ds.length (topI h t ds.length)) := by
              rw [ml_get (by omega), etp]
            have a1 := mle _ (List.mem_of_getElem? tg)
            obtain ⟨i0, hi0, e0⟩ := List.mem_map.mp (show mx ∈ (List.range ds.length).map fun (i : Nat) => mk h t ds.length (i : Int) from mm)
            have a2 := top_max h t (List.mem_range.mp hi0)
            omega
          subst em
          refine ⟨_, _, rfl, rfl, _, rfl, ?_⟩
          cases c2 : decide (ds.getD sN 0 > mk h t ds.length (topI h t ds.length)) with
          | false =>
            rw [c2] at q1
            exact iteF (q1 _ (Same.refl _))
          | true =>
            rw [c2, Bool.true_and] at q1
            refine iteT ?_
            obtain ⟨pL, rfl, hL4⟩ := id hl4
            obtain ⟨pM, rfl, hM4⟩ := id hm4
            refine ⟨_, rfl, _, rfl, pl, _, 0, .ref pL, rfl, rfl, .inl hpl4, rfl, pL, _, rfl, .inr hL4, rfl, ni_flat L, _, rfl, _, rfl, pl, _, 1, .ref pM, rfl, rfl, .inl hpl4, rfl, pM, _, rfl, .inr hM4, rfl, ni_flat M, rfl, ?_⟩
            rw [in_ni, in_ni, bl_ne]
            exact q1 _ (Same.refl _)
      | _ => exact ⟨_, rfl, iteF (q1 _ (Same.refl _))⟩
    | cons d3 al5 =>
    cases al5 with
    | cons _ _ => exact absurd l3 (by simp)
    | nil =>
    rename_i z3 c3
    refine ⟨rfl, _, rfl, ite2 (fun c => absurd (V.int.inj (of_decide_eq_true c)) (by show ¬ ((3 : Nat) : Int) = 2; decide)) (fun _ => ?_)⟩
    refine ⟨_, rfl, pz, _, 2, z3, rfl, rfl, .inr hz4, at_nat (j := 2) rfl rfl, ?_⟩
    refine ⟨_, rfl, ?_⟩
    refine ⟨(by show 2 ≤ sizeLine; decide), fun tw ntw => ?_⟩
    have s5 : Same H4 (upd H4 tw (.tup [.str "low", .str "high"])) := same_new ntw
    have e5 : upd H4 tw (.tup [.str "low", .str "high"]) tw = some (.tup [.str "low", .str "high"]) := upd_same
    generalize upd H4 tw (.tup [.str "low", .str "high"]) = H5 at s5 e5
    refine ⟨a, [.str "low", .str "high"], Dp.same s5 dx4, .tup (SqT.of e5) (.cons (.str _) (.cons (.str _) .nil)), sa, by decide +kernel, ?_⟩
    rw [word_in]
    refine ⟨_, rfl, ?_⟩
    have s15 := s14.trans s5
    have q1 := fun H' s' => q H' (s15.trans s')
    clear q
    cases a with
    | str wd =>
      have eD : showsD h t ds L M (.tuple [.str wd, .int (sN : Int), c3]) = (if wd = "low" then lowD h t ds L M (.int (sN : Int)) c3 else if wd = "high" then highD h t ds L M (.int (sN : Int)) c3 else false) := rfl
      rw [eD] at q1
      by_cases hw : ¬ (wd = "low" ∨ wd = "high")
      · show if (!(decide (wd = "low") || decide (wd = "high"))) = true then _ else _
        rw [decide_eq_false (fun z => hw (.inl z)), decide_eq_false (fun z => hw (.inr z))]
        rw [if_neg (fun z => hw (.inl z)), if_neg (fun z => hw (.inr z))] at q1
        exact iteT (q1 _ (Same.refl _))
      replace hw := Classical.not_not.mp hw
      have ew : (!(decide (wd = "low") || decide (wd = "high"))) = false := by
        rcases hw with z | z
        · rw [decide_eq_true z]
          rfl
        · rw [decide_eq_true z, Bool.or_true]
          rfl
      show if (!(decide (wd = "low") || decide (wd = "high"))) = true then _ else _
      rw [ew]
      refine iteF ?_
      have eL : (if wd = "low" then lowD h t ds L M (.int (sN : Int)) c3 else if wd = "high" then highD h t ds L M (.int (sN : Int)) c3 else false) = (isStD ds.length c3 && (if wd = "low" then lowSB h t ds sN (lotD c3) L M else highSB h t ds sN (lotD c3) L M)) := by
        rcases hw with z | z
        · subst z
          rw [if_pos rfl, if_pos rfl]
          unfold lowD
          rw [pl_int hs, Bool.true_and]
          rfl
        · subst z
          rw [if_neg (by decide), if_pos rfl, if_neg (by decide)]
          unfold highD
          rw [pl_int hs, Bool.true_and]
          rfl
      rw [eL] at q1
      clear eL eD
      refine ⟨_, rfl, _, rfl, ds.length, z3, c3, rfl, Dp.same s5 d3, fun g eg => l60 _ _ g (by rw [eg]), fun H6 s6 => ?_⟩
      refine ⟨_, rfl, ?_⟩
      cases eS : isStD ds.length c3 with
      | false =>
        rw [eS] at q1
        exact iteT (q1 _ s6)
      | true =>
      rw [eS, Bool.true_and] at q1
      refine iteF ?_
      obtain ⟨pf, F, rfl, eF, hF, lF⟩ := st_lot (Dp.same (s5.trans s6) d3) eS
      rw [eF] at q1
      have s56 := s5.trans s6
      have s16 := s15.trans s6
      replace q1 := fun H' s' => q1 H' (s6.trans s')
      have hpm6 := s56 _ _ hpm4
      have hv6 := hv4.same s56
      have hpl6 := s56.seq hpl4
      have hl6 := hl4.same s56
      have hm6 := hm4.same s56
      refine ⟨_, rfl, pf, _, rfl, .inr hF, ?_⟩
      rw [ni_len]
      obtain rfl : x = .str wd := by
        cases dx4
        rfl
      rcases hw with rfl | rfl
      · rw [if_pos rfl] at q1
        refine ⟨_, rfl, _, rfl, rfl, .inr ⟨_, rfl, _, _, rfl, rfl, rfl, _, rfl, ?_⟩⟩
        have ev : (!decide (V.int (F.length : Int) = V.int ((sN : Int) + if decide (V.str ("low" : Str) = V.str "high") = true then 1 else 0))) = !decide ((F.length : Int) = (sN : Int)) := by rw [decide_eq_false (show ¬ (V.str ("low" : Str) = V.str "high") from fun z => absurd (V.str.inj z) (by decide)), if_neg Bool.false_ne_true, Int.add_zero]; rw [show decide (V.int (F.length : Int) = V.int (sN : Int)) = decide ((F.length : Int) = (sN : Int)) from decide_eq_decide.mpr ⟨fun z => V.int.inj z, fun z => by rw [z]⟩]
        show if (!decide (V.int (F.length : Int) = V.int ((sN : Int) + if decide (V.str ("low" : Str) = V.str "high") = true then 1 else 0))) = true then _ else _
        rw [ev]
        have gm : ∀ j, j ∈ gs (mk h t ds.length (sN : Int)) ds ds.length ↔ j < ds.length ∧ goB h t ds (sN : Int) j = true := fun j => by
          unfold gs goB
          rw [List.mem_filter, List.mem_range]
        have gl := gs_len (m := mk h t ds.length (sN : Int)) (ds := ds) (n := ds.length)
        have eQ : lowSB h t ds (sN : Int) F L M = (!((((ml h t ds.length ds.length).take sN).map fun m => decide (m > mk h t ds.length (sN : Int))).any id) && (decide ((F.length : Int) = (sN : Int)) && ((gs (mk h t ds.length (sN : Int)) ds ds.length).all (fun g => decide (g ∈ F)) && (underB h t ds (sN : Int) F L != underB h t ds (sN : Int) F M)))) := by
          unfold lowSB
          rw [low_near hs, fill_fix lF gm]
        rw [eQ] at q1
        cases cl : decide ((F.length : Int) = (sN : Int)) with
        | false =>
          rw [cl, Bool.false_and, Bool.and_false] at q1
          exact iteT (q1 _ (Same.refl _))
        | true =>
        rw [cl, Bool.true_and] at q1
        refine iteF ?_
        refine ⟨_, rfl, _, rfl, .ref p, h, t, (sN : Int), ds, rfl, hv6.a, by omega, fun H7 pg s7 npg hpg => ?_⟩
        have hpm7 := s7 _ _ hpm6
        refine ⟨_, rfl, rfl, _, rfl, ite2 (fun _ => ?_) (fun c => absurd (decide_eq_true rfl) c)⟩
        refine ⟨_, rfl, _, rfl, (sN : Int), rfl, pm, _, rfl, SqL.of hpm7, fun pn npn => ?_⟩
        rw [cut_lo (ml h t ds.length ds.length) _ (by rw [ml_len]; omega)]
        have s8 : Same H7 (upd H7 pn (.lst (((ml h t ds.length ds.length).take sN).map V.int))) := same_new npn
        have e8 : upd H7 pn (.lst (((ml h t ds.length ds.length).take sN).map V.int)) pn = some (.lst (((ml h t ds.length ds.length).take sN).map V.int)) := upd_same
        generalize upd H7 pn (.lst (((ml h t ds.length ds.length).take sN).map V.int)) = H8 at s8 e8
        have hpm8 := s8 _ _ hpm7
        refine ⟨_, _, rfl, _, rfl, pn, _, _, rfl, .inl (SqL.of e8), Kp.refl _ _, fun J hJ C nC => ?_⟩
        obtain ⟨G, g, W⟩ := hJ.walk
        have lN : ((ml h t ds.length ds.length).take sN).length ≤ 1000 := by
          have := (List.take_sublist sN (ml h t ds.length ds.length)).length_le
          rw [ml_len] at this
          omega
        refine lc_boolf (fun m => decide (m > mk h t ds.length (sN : Int))) W (fun H' s => g H' (.ofS s)) nC lN (fun _ => rfl) (fun y hy H' s' Q' k' => ?_) (fun H9 s9 hC => ?_)
        · refine ⟨_, rfl, _, rfl, _, rfl, pm, _, (sN : Int), _, rfl, rfl, .inl (SqL.of (s' _ _ hpm8)), at_nat (v := .int (mk h t ds.length (sN : Int))) rfl (by rw [List.getElem?_map, ml_get (by omega)]; rfl), _, _, rfl, rfl, ?_⟩
          exact k' _ (Same.refl _)
        have hCb : H9 C = some (.lst ((((ml h t ds.length ds.length).take sN).map fun m => decide (m > mk h t ds.length (sN : Int))).map V.bl)) := by
          rw [hC, List.map_map]
          rfl
        refine ⟨C, _, rfl, SqL.of hCb, ?_⟩
        refine ⟨_, rfl, ?_⟩
        cases ca : ((((ml h t ds.length ds.length).take sN).map fun m => decide (m > mk h t ds.length (sN : Int))).any id) with
        | true =>
          rw [ca] at q1
          exact iteT (q1 _ (s7.trans (s8.trans s9)))
        | false =>
        rw [ca, Bool.not_false, Bool.true_and] at q1
        refine iteF ?_
        have s79 := s7.trans (s8.trans s9)
        have hpg9 := (s8.trans s9) _ _ hpg
        rw [ni_ints] at hpg9
        have hF9 := Same.tup s79 hF
        refine ⟨_, rfl, pg, _, _, rfl, .inl (SqL.of hpg9), Kp.refl _ _, fun J hJ C2 nC2 => ?_⟩
        obtain ⟨G, g, W⟩ := hJ.walk
        refine lc_boolf (fun z => decide (z.toNat ∈ F)) W (fun H' s => g H' (.ofS s)) nC2 (by rw [List.length_map]; omega) (fun _ => rfl) (fun y hy H' s' Q' k' => ?_) (fun H10 s10 hC2 => ?_)
        · obtain ⟨yn, hyn, rfl⟩ := List.mem_map.mp hy
          refine ⟨_, rfl, _, rfl, pf, _, rfl, .inr (Same.tup s' hF9), rfl, ni_flat F, _, rfl, rfl, rfl, ?_⟩
          rw [in_ni, beq_tt]
          exact k' _ (Same.refl _)
        have hC2b : H10 C2 = some (.lst (((gs (mk h t ds.length (sN : Int)) ds ds.length).map fun g => decide (g ∈ F)).map V.bl)) := by
          rw [hC2, List.map_map, List.map_map]
          rfl
        refine ⟨C2, _, rfl, SqL.of hC2b, ?_⟩
        refine ⟨_, rfl, ?_⟩
        rw [show (((gs (mk h t ds.length (sN : Int)) ds ds.length).map fun g => decide (g ∈ F)).all id) = (gs (mk h t ds.length (sN : Int)) ds ds.length).all (fun g => decide (g ∈ F)) from by rw [List.all_map]; rfl]
        cases cg : (gs (mk h t ds.length (sN : Int)) ds ds.length).all (fun g => decide (g ∈ F)) with
        | false =>
          rw [cg, Bool.false_and] at q1
          exact iteT (q1 _ (s79.trans s10))
        | true =>
        rw [cg, Bool.true_and] at q1
        refine iteF ?_
        have s6t := s79.trans s10
        have hv10 := hv6.same s6t
        have hpl10 := s6t.seq hpl6
        have hl10 := hl6.same s6t
        have hm10 := hm6.same s6t
        have hF10 := Same.tup s6t hF
        refine ⟨_, rfl, _, rfl, _, rfl, _, rfl, _, rfl, pl, _, 0, l, rfl, rfl, .inl hpl10, rfl, .ref p, l, "low", pf, h, t, ds, sN, F, L, rfl, .inl rfl, hv10.a, hF10, hl10, d24, hL, fun H11 s11 => ?_⟩
        refine ⟨_, rfl, _, rfl, _, rfl, _, rfl, _, rfl, pl, _, 1, m, rfl, rfl, .inl (s11.seq hpl10), rfl, .ref p, m, "low", pf, h, t, ds, sN, F, M, rfl, .inl rfl, (hv10.same s11).a, Same.tup s11 hF10, hm10.same s11, d24, hM, fun H12 s12 => ?_⟩
        rw [if_pos rfl, if_pos rfl]
        refine ⟨rfl, ?_⟩
        rw [bl_ne]
        exact q1 _ (s6t.trans (s11.trans s12))
      · rw [if_neg (show ¬ (("high" : Str) = "low") by decide)] at q1
        refine ⟨_, rfl, _, rfl, rfl, .inr ⟨_, rfl, _, _, rfl, rfl, rfl, _, rfl, ?_⟩⟩
        have ev : (!decide (V.int (F.length : Int) = V.int ((sN : Int) + if decide (V.str ("high" : Str) = V.str "high") = true then 1 else 0))) = !decide ((F.length : Int) = (sN : Int) + 1) := by rw [decide_eq_true rfl, if_pos rfl]; rw [show decide (V.int (F.length : Int) = V.int ((sN : Int) + 1)) = decide ((F.length : Int) = (sN : Int) + 1) from decide_eq_decide.mpr ⟨fun z => V.int.inj z, fun z => by rw [z]⟩]
        show if (!decide (V.int (F.length : Int) = V.int ((sN : Int) + if decide (V.str ("high" : Str) = V.str "high") = true then 1 else 0))) = true then _ else _
        rw [ev]
        have gm : ∀ j, j ∈ gs (mk h t ds.length (sN : Int)) ds ds.length ↔ j < ds.length ∧ goB h t ds (sN : Int) j = true := fun j => by
          unfold gs goB
          rw [List.mem_filter, List.mem_range]
        have gl := gs_len (m := mk h t ds.length (sN : Int)) (ds := ds) (n := ds.length)
        have eQ : highSB h t ds (sN : Int) F L M = (!((((ml h t ds.length ds.length).drop (sN + 1)).map fun m => decide (m > mk h t ds.length (sN : Int))).any id) && (decide ((F.length : Int) = (sN : Int) + 1) && ((gs (mk h t ds.length (sN : Int)) ds ds.length).all (fun g => !decide (g ∈ F)) && (aboveB h t ds (sN : Int) F L != aboveB h t ds (sN : Int) F M)))) := by
          unfold highSB
          rw [high_near hs, empt_fix lF gm]
        rw [eQ] at q1
        cases cl : decide ((F.length : Int) = (sN : Int) + 1) with
        | false =>
          rw [cl, Bool.false_and, Bool.and_false] at q1
          exact iteT (q1 _ (Same.refl _))
        | true =>
        rw [cl, Bool.true_and] at q1
        refine iteF ?_
        refine ⟨_, rfl, _, rfl, .ref p, h, t, (sN : Int), ds, rfl, hv6.a, by omega, fun H7 pg s7 npg hpg => ?_⟩
        have hpm7 := s7 _ _ hpm6
        refine ⟨_, rfl, rfl, _, rfl, ite2 (fun c => absurd (V.str.inj (of_decide_eq_true c)) (by decide)) (fun _ => ?_)⟩
        refine ⟨_, rfl, _, rfl, _, _, rfl, rfl, (sN : Int) + 1, rfl, pm, _, rfl, SqL.of hpm7, fun pn npn => ?_⟩
        rw [cut_hi (ml h t ds.length ds.length) _ (by rw [ml_len]; omega)]
        have s8 : Same H7 (upd H7 pn (.lst (((ml h t ds.length ds.length).drop (sN + 1)).map V.int))) := same_new npn
        have e8 : upd H7 pn (.lst (((ml h t ds.length ds.length).drop (sN + 1)).map V.int)) pn = some (.lst (((ml h t ds.length ds.length).drop (sN + 1)).map V.int)) := upd_same
        generalize upd H7 pn (.lst (((ml h t ds.length ds.length).drop (sN + 1)).map V.int)) = H8 at s8 e8
        have hpm8 := s8 _ _ hpm7
        refine ⟨_, _, rfl, _, rfl, pn, _, _, rfl, .inl (SqL.of e8), Kp.refl _ _, fun J hJ C nC => ?_⟩
        obtain ⟨G, g, W⟩ := hJ.walk
        have lN : ((ml h t ds.length ds.length).drop (sN + 1)).length ≤ 1000 := by
          have := (List.drop_sublist (sN + 1) (ml h t ds.length ds.length)).length_le
          rw [ml_len] at this
          omega
        refine lc_boolf (fun m => decide (m > mk h t ds.length (sN : Int))) W (fun H' s => g H' (.ofS s)) nC lN (fun _ => rfl) (fun y hy H' s' Q' k' => ?_) (fun H9 s9 hC => ?_)
        · refine ⟨_, rfl, _, rfl, _, rfl, pm, _, (sN : Int), _, rfl, rfl, .inl (SqL.of (s' _ _ hpm8)), at_nat (v := .int (mk h t ds.length (sN : Int))) rfl (by rw [List.getElem?_map, ml_get (by omega)]; rfl), _, _, rfl, rfl, ?_⟩
          exact k' _ (Same.refl _)
        have hCb : H9 C = some (.lst ((((ml h t ds.length ds.length).drop (sN + 1)).map fun m => decide (m > mk h t ds.length (sN : Int))).map V.bl)) := by
          rw [hC, List.map_map]
          rfl
        refine ⟨C, _, rfl, SqL.of hCb, ?_⟩
        refine ⟨_, rfl, ?_⟩
        cases ca : ((((ml h t ds.length ds.length).drop (sN + 1)).map fun m => decide (m > mk h t ds.length (sN : Int))).any id) with
        | true =>
          rw [ca] at q1
          exact iteT (q1 _ (s7.trans (s8.trans s9)))
        | false =>
        rw [ca, Bool.not_false, Bool.true_and] at q1
        refine iteF ?_
        have s79 := s7.trans (s8.trans s9)
        have hpg9 := (s8.trans s9) _ _ hpg
        rw [ni_ints] at hpg9
        have hF9 := Same.tup s79 hF
        refine ⟨_, rfl, pg, _, _, rfl, .inl (SqL.of hpg9), Kp.refl _ _, fun J hJ C2 nC2 => ?_⟩
        obtain ⟨G, g, W⟩ := hJ.walk
        refine lc_boolf (fun z => !decide (z.toNat ∈ F)) W (fun H' s => g H' (.ofS s)) nC2 (by rw [List.length_map]; omega) (fun _ => rfl) (fun y hy H' s' Q' k' => ?_) (fun H10 s10 hC2 => ?_)
        · obtain ⟨yn, hyn, rfl⟩ := List.mem_map.mp hy
          refine ⟨_, rfl, _, rfl, pf, _, rfl, .inr (Same.tup s' hF9), rfl, ni_flat F, _, rfl, rfl, rfl, ?_⟩
          rw [in_ni, beq_ft]
          exact k' _ (Same.refl _)
        have hC2b : H10 C2 = some (.lst (((gs (mk h t ds.length (sN : Int)) ds ds.length).map fun g => !decide (g ∈ F)).map V.bl)) := by
          rw [hC2, List.map_map, List.map_map]
          rfl
        refine ⟨C2, _, rfl, SqL.of hC2b, ?_⟩
        refine ⟨_, rfl, ?_⟩
        rw [show (((gs (mk h t ds.length (sN : Int)) ds ds.length).map fun g => !decide (g ∈ F)).all id) = (gs (mk h t ds.length (sN : Int)) ds ds.length).all (fun g => !decide (g ∈ F)) from by rw [List.all_map]; rfl]
        cases cg : (gs (mk h t ds.length (sN : Int)) ds ds.length).all (fun g => !decide (g ∈ F)) with
        | false =>
          rw [cg, Bool.false_and] at q1
          exact iteT (q1 _ (s79.trans s10))
        | true =>
        rw [cg, Bool.true_and] at q1
        refine iteF ?_
        have s6t := s79.trans s10
        have hv10 := hv6.same s6t
        have hpl10 := s6t.seq hpl6
        have hl10 := hl6.same s6t
        have hm10 := hm6.same s6t
        have hF10 := Same.tup s6t hF
        refine ⟨_, rfl, _, rfl, _, rfl, _, rfl, _, rfl, pl, _, 0, l, rfl, rfl, .inl hpl10, rfl, .ref p, l, "high", pf, h, t, ds, sN, F, L, rfl, .inr rfl, hv10.a, hF10, hl10, d24, hL, fun H11 s11 => ?_⟩
        refine ⟨_, rfl, _, rfl, _, rfl, _, rfl, _, rfl, pl, _, 1, m, rfl, rfl, .inl (s11.seq hpl10), rfl, .ref p, m, "high", pf, h, t, ds, sN, F, M, rfl, .inr rfl, (hv10.same s11).a, Same.tup s11 hF10, hm10.same s11, d24, hM, fun H12 s12 => ?_⟩
        rw [if_neg (show ¬ (("high" : Str) = "low") by decide), if_neg (show ¬ (("high" : Str) = "low") by decide)]
        refine ⟨rfl, ?_⟩
        rw [bl_ne]
        exact q1 _ (s6t.trans (s11.trans s12))
    | _ => exact iteT (q1 _ (Same.refl _))
end
end Sh

namespace Sh
open PySem PySem.Spec PyProof.Rows L2
/-! ### k08: what may be a bar, by draws; one thing otherwise -/
theorem BarAt.but {H H' : Hp} {b : Addr} {n : Nat} {v : V} {x : BarV} (w : BarAt H v x) (hb : BoxAt H b n) (u : But b H H') : BarAt H' v x := by
  obtain ⟨xs, hx, _⟩ := hb
  have ne : ∀ {a : Addr} {l : List V}, H a = some (.tup l) → a ≠ b := fun e => ne_of e hx (by intro w; cases w)
  cases x with
  | low s F =>
    obtain ⟨p, q, rfl, e1, e2⟩ := w
    exact ⟨p, q, rfl, u _ _ (ne e1) e1, u _ _ (ne e2) e2⟩
  | high s F =>
    obtain ⟨p, q, rfl, e1, e2⟩ := w
    exact ⟨p, q, rfl, u _ _ (ne e1) e1, u _ _ (ne e2) e2⟩
  | fast g =>
    obtain ⟨p, rfl, e1⟩ := w
    exact ⟨p, rfl, u _ _ (ne e1) e1⟩
def spDrawn (K : PySem.W.Frag) : Sp := fun vs H Q _ => ∃ (b pl : Addr) (n : Nat) (v l m : V) (h t : Int) (ds : List Int) (L M : List Nat), vs = [.ref b, v, .ref pl] ∧ BoxAt H b (n + 3) ∧ SeaT K H v h t ds ∧ pl ≠ b ∧ H pl = some (.lst [l, m]) ∧ LotT K H l L ∧ LotT K H m M ∧ ds.length ≤ 24 ∧ 0 < ds.length ∧ Lot ds.length L ∧ Lot ds.length M ∧
  ∀ (H' : Hp) (z : V) (x : BarV), But b H H' → BoxAt H' b n → BarAt H' z x → BarOk ds.length x → Q z H'
abbrev s__law_drawn : Stmt := topS 54
theorem sc__law_drawn : FnScope (["_law_box_here", "_law_pool", "_law_lots", "_law_at", "_law_lot_here", "_law_goers_here", "_law_some", "_law_w"] : List Str) (["_law_box_here", "_law_pool", "_law_lots"] : List Str) (defScope s__law_drawn) := ⟨rfl, rfl, rfl, by decide +kernel, rfl, by decide +kernel, by decide +kernel⟩
theorem b__law_drawn (kV doc pm : Value) (an : Option Addr) (cdv ct : Value) (us : List Value) (hl : us.length = (["_law_box_here", "_law_pool", "_law_lots"] : List Str).length) : bindArgs (PySem.W.fnOf "_law_drawn" "_law_drawn" (defArgs s__law_drawn) (defBody s__law_drawn) (defScope s__law_drawn) .none kV doc pm an cdv ct) ⟨us, []⟩ = pure ((["_law_box_here", "_law_pool", "_law_lots"] : List Str).zip us) :=
  match us, hl with | [_, _, _], _ => rfl
section
variable {P : Program} {w : World} {K : PySem.W.Frag} {mg : Str → Option Value} {base : Heap}
set_option maxHeartbeats 8000000 in
theorem ok_drawn {k : Nat} (D : Df K mg "_law_drawn" s__law_drawn) (T : Bt mg) (O__law_take : Ok P w K mg base k "_law_take" s__law_take ["_law_box_here", "_law_span"] spTake) (O__law_of : Ok P w K mg base k "_law_of" s__law_of ["_law_box_here", "_law_some"] (spOf K)) (O__law_goers : Ok P w K mg base k "_law_goers" s__law_goers ["_law_pool", "_law_at"] (spGoL K)) :
    Ok P w K mg base (k + 1) "_law_drawn" s__law_drawn ["_law_box_here", "_law_pool", "_law_lots"] (spDrawn K) := by
  refine D.ok sc__law_drawn b__law_drawn (fun vs H Q E h => ?_) (fun f cdv A outer s H vs Q E hr h => ?_)
  · obtain ⟨b, pl, n, v, l, m, h, t, ds, L, M, rfl, _⟩ := h
    rfl
  · obtain ⟨b, pl, n, v, l, m, h, t, ds, L, M, rfl, hb, hv, plb, hpl, hl, hm, d24, d0, hL, hM, q⟩ := h
    refine ⟨_, (pss_cons (ps_par (i := 3) (j := 4) (by rfl) sc__law_drawn.nd rfl rfl (by decide) rfl rfl (pa_cons (pe_fn O__law_take (hr.mono (by omega)) (pa_cons (pv 0) (pa_cons (pe_callB call_len_seq (by rfl) T.len_ PySem.boot_len (pa_cons (pe_ix ix_lt (pv 1) pe_int (fun _ _ => rfl)) pa_nil)) pa_nil))) (pa_cons (pe_ix ix_lt (pv 2) (pe_fn O__law_take (hr.mono (by omega)) (pa_cons (pv 0) (pa_cons pe_int pa_nil))) (fun _ _ => rfl)) pa_nil)) (by rfl))
      (pss_cons (ps_set (i := 5) sc__law_drawn.nd rfl (.inr rfl) (pe_fn O__law_goers (hr.mono (by omega)) (pa_cons (pv 1) (pa_cons (pv 3) pa_nil))))
      (pss_cons (ps_set (i := 6) sc__law_drawn.nd rfl (.inl rfl) (pe_lst (pa_cons (pe_tup (pa_cons pe_str (pa_cons (pv 3) (pa_cons (pe_callTy call_tuple_of (by rfl) T.tuple_ (by decide +kernel) (pa_cons (pe_callB (cr_sortedSetw w rfl) (by rfl) T.sorted_ (by decide +kernel) (pa_cons (pe_callTy (cr_setAw w rfl) (by rfl) T.set_ (by decide +kernel) (pa_cons (pe_op op_cat (pe_callTy call_list_of (by rfl) T.list_ (by decide +kernel) (pa_cons (pv 4) pa_nil)) (pv 5)) pa_nil)) pa_nil)) pa_nil)) pa_nil)))) (pa_cons (pe_tup (pa_cons pe_str (pa_cons (pv 3) (pa_cons (pe_callTy call_tuple_of (by rfl) T.tuple_ (by decide +kernel) (pa_cons (pe_lc (own := [("_law_w", 7)]) (g := (gName 7)) (by rfl) sc__law_drawn.nd (pi_seq (pv 4)) (blkOk_by (own := [("_law_w", 7)]) (N := (["_law_box_here", "_law_pool", "_law_lots", "_law_at", "_law_lot_here", "_law_goers_here", "_law_some", "_law_w"] : List Str)) (sc := defScope s__law_drawn) (by decide +kernel)) (fun _ _ _ _ _ => (pg_name (i := 7) sc__law_drawn.nd rfl (.inl rfl))) (fun _ _ _ _ _ => (pts_one (pt_cmpR (op_notInK K) (pv 7) (pv 5) (by rfl)))) (fun _ _ _ _ _ => (pv 7))) pa_nil)) pa_nil)))) pa_nil))))
      (pss_one (ps_ret (pe_fn O__law_of (hr.mono (by omega)) (pa_cons (pv 0) (pa_cons (pe_op op_cat (pv 6) (pe_lst (pa_cons (pe_tup (pa_cons pe_str (pa_cons (pv 3) pa_nil))) pa_nil))) pa_nil)))))))), ?_⟩
    obtain ⟨p, pd, rfl, hp, hq⟩ := id hv
    refine ⟨_, rfl, _, rfl, p, _, 2, .ref pd, rfl, rfl, .inr hp, rfl, pd, _, rfl, .inr hq, ?_⟩
    rw [List.length_map]
    refine ⟨b, n + 2, (ds.length : Int), rfl, by omega, by omega, hb, fun at0 xs a0 a1 ok1 => ?_⟩
    obtain ⟨sN, rfl⟩ := Int.eq_ofNat_of_zero_le a0
    have hs : sN < ds.length := by omega
    have u1 : But b H (upd H b (.lst xs)) := But.ups
    have x1 : BoxAt (upd H b (.lst xs)) b (n + 2) := .put ok1
    have hv1 := hv.but hb u1
    have hl1 := hl.but hb u1
    have hm1 := hm.but hb u1
    have hpl1 := u1 _ _ plb hpl
    generalize upd H b (.lst xs) = H1 at u1 x1 hv1 hl1 hm1 hpl1
    refine ⟨_, rfl, _, rfl, b, n + 1, 2, rfl, by decide, by decide, x1, fun j ys j0 j1 ok2 => ?_⟩
    have u2 : But b H1 (upd H1 b (.lst ys)) := But.ups
    have x2 : BoxAt (upd H1 b (.lst ys)) b (n + 1) := .put ok2
    have hv2 := hv1.but x1 u2
    have hl2 := hl1.but x1 u2
    have hm2 := hm1.but x1 u2
    have hpl2 := u2 _ _ plb hpl1
    replace u2 := u1.trans u2
    generalize upd H1 b (.lst ys) = H2 at u2 x2 hv2 hl2 hm2 hpl2
    obtain ⟨z, Z, gz, hz, hZ⟩ : ∃ (z : V) (Z : List Nat), atI [l, m] j = some z ∧ LotT K H2 z Z ∧ Lot ds.length Z := by
      rcases (by omega : j = 0 ∨ j = 1) with rfl | rfl
      · exact ⟨l, L, rfl, hl2, hL⟩
      · exact ⟨m, M, rfl, hm2, hM⟩
    refine ⟨pl, _, j, z, rfl, rfl, SqA.l hpl2, gz, _, _, rfl, ?_⟩
    refine ⟨_, rfl, _, rfl, .ref p, h, t, (sN : Int), ds, rfl, hv2.a, by omega, fun H3 pg s3 npg hpg => ?_⟩
    have gl := gs_len (m := mk h t ds.length (sN : Int)) (ds := ds) (n := ds.length)
    have gm : ∀ j, j ∈ gs (mk h t ds.length (sN : Int)) ds ds.length ↔ j < ds.length ∧ goB h t ds (sN : Int) j = true := fun j => by
      unfold gs goB
      rw [List.mem_filter, List.mem_range]
    have lZ := hZ.len
    obtain ⟨pz, rfl, hpz⟩ := id (hz.same s3)
    refine ⟨_, rfl, _, rfl, pz, _, rfl, .inr hpz, fun q1 nq1 => ?_⟩
    have s4 : Same H3 (upd H3 q1 (.lst (ni Z))) := same_new nq1
    have e4 : upd H3 q1 (.lst (ni Z)) q1 = some (.lst (ni Z)) := upd_same
    generalize upd H3 q1 (.lst (ni Z)) = H4 at s4 e4
    refine ⟨_, rfl, q1, pg, _, _, rfl, rfl, e4, s4 _ _ hpg, ?_, fun q2 nq2 => ?_⟩
    · rw [ni_len, ni_len]
      exact Nat.le_trans (show Z.length + _ ≤ 100 by omega) (by decide)
    rw [← ni_app]
    have s5 : Same H4 (upd H4 q2 (.lst (ni (Z ++ gs (mk h t ds.length (sN : Int)) ds ds.length)))) := same_new nq2
    have e5 : upd H4 q2 (.lst (ni (Z ++ gs (mk h t ds.length (sN : Int)) ds ds.length))) q2 = some (.lst (ni (Z ++ gs (mk h t ds.length (sN : Int)) ds ds.length))) := upd_same
    generalize upd H4 q2 (.lst (ni (Z ++ gs (mk h t ds.length (sN : Int)) ds ds.length))) = H5 at s5 e5
    rw [ni_ints] at e5
    refine ⟨q2, _, rfl, SqA.l e5, by rw [List.length_map, List.length_append]; omega, fun sa ks nsa kn km => ?_⟩
    have k24 : ks.length < 64 := by
      have sub : ∀ z ∈ ks, z ∈ (List.range ds.length).map fun (i : Nat) => (i : Int) := fun z hz => by
        obtain ⟨a, ha, rfl⟩ := List.mem_map.mp ((km z).mp hz)
        refine List.mem_map.mpr ⟨a, List.mem_range.mpr ?_, rfl⟩
        rcases List.mem_append.mp ha with y | y
        · exact hZ.lt a y
        · exact ((gm a).mp y).1
      have := nodup_len kn sub
      rw [List.length_map, List.length_range] at this
      omega
    refine ⟨sa, _, ks.length, rfl, upd_same, k24, fun ns sb up hmm _ nsb => ?_⟩
    have mF : ∀ z : Int, z ∈ ns ↔ ∃ a, a ∈ fillL h t ds Z (sN : Int) ∧ z = (a : Int) := fun z => by
      rw [hmm, decide_eq_true_eq, List.mem_map]
      have key : ∀ a : Nat, a ∈ Z ++ gs (mk h t ds.length (sN : Int)) ds ds.length ↔ a ∈ fillL h t ds Z (sN : Int) := fun a => by
        rw [List.mem_append, gm, fill_key hZ]
      constructor
      · rintro ⟨a, ha, rfl⟩
        exact ⟨a, (key a).mp ha, rfl⟩
      · rintro ⟨a, ha, rfl⟩
        exact ⟨a, (key a).mpr ha, rfl⟩
    have lF := fill_lot (h := h) (t := t) (ds := ds) Z (sN : Int)
    obtain rfl := rising_lot up lF mF
    have s6 : Same H5 (upd (upd H5 sa (SetO w sa (fun j => decide (j ∈ (Z ++ gs (mk h t ds.length (sN : Int)) ds ds.length).map fun (i : Nat) => (i : Int))) ks.length)) sb (.lst (((fillL h t ds Z (sN : Int)).map fun (i : Nat) => (i : Int)).map V.int))) := (same_new nsa).trans (same_new nsb)
    have e6 : upd (upd H5 sa (SetO w sa (fun j => decide (j ∈ (Z ++ gs (mk h t ds.length (sN : Int)) ds ds.length).map fun (i : Nat) => (i : Int))) ks.length)) sb (.lst (((fillL h t ds Z (sN : Int)).map fun (i : Nat) => (i : Int)).map V.int)) sb = some (.lst (ni (fillL h t ds Z (sN : Int)))) := by rw [upd_same, ni_ints]
    generalize upd (upd H5 sa (SetO w sa (fun j => decide (j ∈ (Z ++ gs (mk h t ds.length (sN : Int)) ds ds.length).map fun (i : Nat) => (i : Int))) ks.length)) sb (.lst (((fillL h t ds Z (sN : Int)).map fun (i : Nat) => (i : Int)).map V.int)) = H6 at s6 e6
    refine ⟨sb, _, rfl, .inl ⟨SqL.of e6, fun q3 nq3 => ?_⟩⟩
    have s7 : Same H6 (upd H6 q3 (.tup (ni (fillL h t ds Z (sN : Int))))) := same_new nq3
    have e7 : upd H6 q3 (.tup (ni (fillL h t ds Z (sN : Int)))) q3 = some (.tup (ni (fillL h t ds Z (sN : Int)))) := upd_same
    generalize upd H6 q3 (.tup (ni (fillL h t ds Z (sN : Int)))) = H7 at s7 e7
    refine ⟨(by show 3 ≤ sizeLine; decide), fun t1 nt1 => ?_⟩
    have s8 : Same H7 (upd H7 t1 (.tup [.str "low", .int (sN : Int), .ref q3])) := same_new nt1
    have e8 : upd H7 t1 (.tup [.str "low", .int (sN : Int), .ref q3]) t1 = some (.tup [.str "low", .int (sN : Int), .ref q3]) := upd_same
    generalize upd H7 t1 (.tup [.str "low", .int (sN : Int), .ref q3]) = H8 at s8 e8
    have s38 := s4.trans (s5.trans (s6.trans (s7.trans s8)))
    have b1 : BarAt H8 (.ref t1) (.low sN (fillL h t ds Z (sN : Int))) := ⟨t1, q3, rfl, e8, s8 _ _ e7⟩
    have hpz8 := Same.tup s38 hpz
    have hpg8 := s38 _ _ hpg
    refine ⟨_, rfl, _, rfl, pz, _, H8, rfl, .inr hpz8, Kp.refl _ _, fun J2 hJ2 D nD => ?_⟩
    obtain ⟨G2, g2, W2⟩ := hJ2.walk
    refine lc_filter (X := Z) (fun w => !decide (w ∈ gs (mk h t ds.length (sN : Int)) ds ds.length)) W2 (fun H' s => g2 H' (.ofS s)) nD (by omega) (fun _ => rfl) (fun _ => rfl) (fun y hy H' s' Q' k' => ?_) (fun H9 s9 hD => ?_)
    · refine ⟨_, rfl, _, rfl, pg, _, rfl, .inl (SqL.of (s' _ _ hpg8)), rfl, ni_flat _, _, rfl, ?_⟩
      rw [if_pos rfl, in_ni]
      exact k'
    rw [empt_key hZ gm] at hD
    refine ⟨D, _, rfl, .inl ⟨SqL.of hD, fun q4 nq4 => ?_⟩⟩
    have s10 : Same H9 (upd H9 q4 (.tup (ni (emptL h t ds Z (sN : Int))))) := same_new nq4
    have e10 : upd H9 q4 (.tup (ni (emptL h t ds Z (sN : Int)))) q4 = some (.tup (ni (emptL h t ds Z (sN : Int)))) := upd_same
    generalize upd H9 q4 (.tup (ni (emptL h t ds Z (sN : Int)))) = H10 at s10 e10
    refine ⟨(by show 3 ≤ sizeLine; decide), fun t2 nt2 => ?_⟩
    have s11 : Same H10 (upd H10 t2 (.tup [.str "high", .int (sN : Int), .ref q4])) := same_new nt2
    have e11 : upd H10 t2 (.tup [.str "high", .int (sN : Int), .ref q4]) t2 = some (.tup [.str "high", .int (sN : Int), .ref q4]) := upd_same
    generalize upd H10 t2 (.tup [.str "high", .int (sN : Int), .ref q4]) = H11 at s11 e11
    have b2 : BarAt H11 (.ref t2) (.high sN (emptL h t ds Z (sN : Int))) := ⟨t2, q4, rfl, e11, s11 _ _ e10⟩
    replace b1 := b1.same (s9.trans (s10.trans s11))
    refine ⟨(by show 2 ≤ sizeLine; decide), fun li nli => ?_⟩
    have s12 : Same H11 (upd H11 li (.lst [.ref t1, .ref t2])) := same_new nli
    have e12 : upd H11 li (.lst [.ref t1, .ref t2]) li = some (.lst [.ref t1, .ref t2]) := upd_same
    generalize upd H11 li (.lst [.ref t1, .ref t2]) = H12 at s12 e12
    refine ⟨_, rfl, _, rfl, _, rfl, (by show 2 ≤ sizeLine; decide), fun t3 nt3 => ?_⟩
    have s13 : Same H12 (upd H12 t3 (.tup [.str "fast", .int (sN : Int)])) := same_new nt3
    have e13 : upd H12 t3 (.tup [.str "fast", .int (sN : Int)]) t3 = some (.tup [.str "fast", .int (sN : Int)]) := upd_same
    generalize upd H12 t3 (.tup [.str "fast", .int (sN : Int)]) = H13 at s13 e13
    have b3 : BarAt H13 (.ref t3) (.fast sN) := ⟨t3, rfl, e13⟩
    refine ⟨(by show 1 ≤ sizeLine; decide), fun l2 nl2 => ?_⟩
    have s14 : Same H13 (upd H13 l2 (.lst [.ref t3])) := same_new nl2
    have e14 : upd H13 l2 (.lst [.ref t3]) l2 = some (.lst [.ref t3]) := upd_same
    generalize upd H13 l2 (.lst [.ref t3]) = H14 at s14 e14
    refine ⟨li, l2, _, _, rfl, rfl, (s13.trans s14) _ _ e12, e14, (by show 3 ≤ sizeLine; decide), fun l3 nl3 => ?_⟩
    have s15 : Same H14 (upd H14 l3 (.lst ([.ref t1, .ref t2] ++ [.ref t3]))) := same_new nl3
    have e15 : upd H14 l3 (.lst ([.ref t1, .ref t2] ++ [.ref t3])) l3 = some (.lst [.ref t1, .ref t2, .ref t3]) := upd_same
    generalize upd H14 l3 (.lst ([.ref t1, .ref t2] ++ [.ref t3])) = H15 at s15 e15
    have sB := s12.trans (s13.trans (s14.trans s15))
    replace b1 := b1.same sB
    replace b2 := b2.same sB
    replace b3 := b3.same (s14.trans s15)
    have sA := s3.trans (s38.trans (s9.trans (s10.trans (s11.trans sB))))
    have x15 := x2.same sA
    have ne3 : l3 ≠ b := ((x2.same (s3.trans (s38.trans (s9.trans (s10.trans (s11.trans (s12.trans (s13.trans s14))))))) ).ne nl3).symm
    refine ⟨b, l3, n, _, rfl, SqA.l e15, ne3, (by show 0 < 3; decide), (by show 3 < 1000000; decide), x15, fun v ys hv' ok3 => ?_⟩
    have u3 : But b H15 (upd H15 b (.lst ys)) := But.ups
    have x3 : BoxAt (upd H15 b (.lst ys)) b n := .put ok3
    have uA := (u2.trans (Same.but (b := b) sA)).trans u3
    rcases List.mem_cons.mp hv' with rfl | hv'
    · exact q _ _ _ uA x3 (b1.but x15 u3) ⟨hs, lF⟩
    rcases List.mem_cons.mp hv' with rfl | hv'
    · exact q _ _ _ uA x3 (b2.but x15 u3) ⟨hs, empt_lot _ _⟩
    rcases List.mem_cons.mp hv' with rfl | hv'
    · exact q _ _ _ uA x3 (b3.but x15 u3) hs
    · cases hv'
end
end Sh

namespace Sh
open PySem PySem.Spec PyProof.Rows L2
/-! ### texts of data: no longer than so much -/
structure Fit (n m : Nat) (d : PyData) : Prop where
  len : d.shown.length ≤ n
  sh : d.showable = true
  lay : d.canLay0 = true
  dp : d.depth ≤ m
structure FitAll (n m : Nat) (ds : List PyData) : Prop where
  len : ((PyData.shownAll ds).map (·.length)).sum + 2 * ds.length ≤ n
  sh : PyData.showableAll ds = true
  lay : PyData.canLayAll0 ds = true
  dp : PyData.depthAll ds ≤ m
theorem shownAll_len : ∀ ds : List PyData, (PyData.shownAll ds).length = ds.length
  | [] => rfl
  | d :: ds => by
    show (PyData.shown d :: PyData.shownAll ds).length = _
    rw [List.length_cons, List.length_cons, shownAll_len ds]
theorem Fit.mono {n m n' m' : Nat} {d : PyData} (f : Fit n m d) (h : n ≤ n') (h' : m ≤ m') : Fit n' m' d := ⟨Nat.le_trans f.len h, f.sh, f.lay, Nat.le_trans f.dp h'⟩
theorem FitAll.mono {n m n' m' : Nat} {ds : List PyData} (f : FitAll n m ds) (h : n ≤ n') (h' : m ≤ m') : FitAll n' m' ds := ⟨Nat.le_trans f.len h, f.sh, f.lay, Nat.le_trans f.dp h'⟩
theorem fit_int {i : Int} (h : i.natAbs < 10 ^ 14) : Fit 15 0 (.int i) := by
  refine ⟨?_, ?_, rfl, Nat.le_refl 0⟩
  · show (Str.ofString (toString i)).length ≤ 15
    rw [PySem.ofString_length]
    exact int_text_length_le10 (k := 14) (by decide) h
  · show decide (i.natAbs.log2 < 1920) = true
    refine decide_eq_true ?_
    by_cases z : i.natAbs = 0
    · rw [z]
      decide
    · exact (Nat.log2_lt z).mpr (Nat.lt_trans h (by decide +kernel))
theorem FitAll.nil (m : Nat) : FitAll 0 m [] := ⟨Nat.le_refl 0, rfl, rfl, Nat.zero_le m⟩
theorem FitAll.cons {a b m : Nat} {d : PyData} {ds : List PyData} (f : Fit a m d) (g : FitAll b m ds) : FitAll (a + 2 + b) m (d :: ds) := by
  refine ⟨?_, ?_, ?_, ?_⟩
  · show ((PyData.shown d :: PyData.shownAll ds).map (·.length)).sum + 2 * (d :: ds).length ≤ _
    rw [List.map_cons, List.sum_cons, List.length_cons]
    have := f.len
    have := g.len
    omega
  · show (PyData.showable d && PyData.showableAll ds) = true
    rw [f.sh, g.sh]
    rfl
  · show (PyData.canLay0 d && PyData.canLayAll0 ds) = true
    rw [f.lay, g.lay]
    rfl
  · show max (PyData.depth d) (PyData.depthAll ds) ≤ m
    exact Nat.max_le.mpr ⟨f.dp, g.dp⟩
theorem FitAll.ints : ∀ {ns : List Int}, (∀ i ∈ ns, i.natAbs < 10 ^ 14) → FitAll (17 * ns.length) 0 (ns.map .int)
  | [], _ => FitAll.nil 0
  | i :: ns, h => by
    have g := FitAll.ints (ns := ns) fun j hj => h j (List.mem_cons_of_mem _ hj)
    have f := fit_int (h i List.mem_cons_self)
    refine (FitAll.cons f g).mono ?_ (Nat.le_refl 0)
    rw [List.length_cons]
    omega
theorem Fit.list {n m : Nat} {ds : List PyData} (f : FitAll n m ds) : Fit (n + 3) (m + 1) (.list ds) := by
  refine ⟨?_, f.sh, f.lay, ?_⟩
  · show (listText (PyData.shownAll ds)).length ≤ _
    have a := listText_len_le (PyData.shownAll ds)
    rw [shownAll_len] at a
    have := f.len
    omega
  · show PyData.depthAll ds + 1 ≤ m + 1
    exact Nat.succ_le_succ f.dp
theorem Fit.tup {n m : Nat} {ds : List PyData} (f : FitAll n m ds) : Fit (n + 3) (m + 1) (.tuple ds) := by
  refine ⟨?_, f.sh, f.lay, ?_⟩
  · show (tupleText (PyData.shownAll ds)).length ≤ _
    have a := tupleText_len_le (PyData.shownAll ds)
    rw [shownAll_len] at a
    have := f.len
    omega
  · show PyData.depthAll ds + 1 ≤ m + 1
    exact Nat.succ_le_succ f.dp
theorem Fit.shaped {n m : Nat} {d : PyData} (f : Fit n m d) (h : m ≤ 64) : SeqAt.shaped d = true := by
  unfold SeqAt.shaped
  rw [f.lay, decide_eq_true (Nat.le_trans f.dp h)]
  rfl
theorem Fit.sz {n m : Nat} {d : PyData} (f : Fit n m d) (h : n ≤ 1000000) : d.shown.length ≤ sizeLine := by
  rw [sizeLine_eq]
  have := f.len
  omega
/-- a sea, a standing -/
theorem fit_lot {L : List Nat} (c : L.length ≤ 100) (h : ∀ i ∈ L, i < 100000) : FitAll 1700 0 ((L.map fun (i : Nat) => (i : Int)).map .int) := by
  refine (FitAll.ints fun i hi => ?_).mono (by rw [List.length_map]; omega) (Nat.le_refl 0)
  obtain ⟨j, hj, rfl⟩ := List.mem_map.mp hi
  have := h j hj
  show ((j : Int)).natAbs < 100000000000000
  omega
theorem fit_sea {h t : Int} {ds : List Int} {m : Nat} (so : SeaOk m h t ds) (c : m ≤ 100) : Fit 2000 2 (.tuple [.int h, .int t, .tuple (ds.map .int)]) := by
  have f : FitAll 1700 0 (ds.map .int) := by
    refine (FitAll.ints fun i hi => ?_).mono (by have := so.l1; omega) (Nat.le_refl 0)
    have := so.d0 i hi
    show i.natAbs < 100000000000000
    omega
  have fh : h.natAbs < 10 ^ 14 := by
    have := so.h0
    have := so.h1
    show h.natAbs < 100000000000000
    omega
  have ft : t.natAbs < 10 ^ 14 := by
    have := so.t0
    have := so.t1
    show t.natAbs < 100000000000000
    omega
  exact (Fit.tup (.cons ((fit_int fh).mono (Nat.le_refl _) (Nat.zero_le 1)) (.cons ((fit_int ft).mono (Nat.le_refl _) (Nat.zero_le 1)) (.cons (Fit.tup f) (.nil 1))))).mono (by omega) (Nat.le_refl 2)
end Sh

namespace Sh
open PySem PySem.Spec PyProof.Rows L2
/-! ### data of any kind: hidden objects, bounds -/
/-- the heap without those of Z -/
def hide (Z : Addr → Bool) (H : Hp) : Hp := fun a => if Z a = true then none else H a
section
variable {Z : Addr → Bool} {H H' : Hp} {b p : Addr} {o : HO}
theorem hide_some {a : Addr} (h : hide Z H a = some o) : Z a = false ∧ H a = some o := by
  unfold hide at h
  by_cases z : Z a = true
  · rw [if_pos z] at h
    cases h
  · rw [if_neg z] at h
    exact ⟨by simpa using z, h⟩
theorem hide_at {a : Addr} (z : Z a = false) (h : H a = some o) : hide Z H a = some o := by
  unfold hide
  rw [if_neg (by rw [z]; exact Bool.false_ne_true)]
  exact h
theorem hide_same : Same (hide Z H) H := fun a o h => (hide_some h).2
theorem hide_but (zb : Z b = true) (u : But b H H') : Same (hide Z H) (hide Z H') := fun a o h => by
  obtain ⟨z, e⟩ := hide_some h
  exact hide_at z (u a o (fun q => by rw [q, zb] at z; cases z) e)
theorem hide_of (s : Same H H') : Same (hide Z H) (hide Z H') := fun a o h => by
  obtain ⟨z, e⟩ := hide_some h
  exact hide_at z (s a o e)
/-- what is hidden stands -/
def Hid (Z : Addr → Bool) (H : Hp) : Prop := ∀ a, Z a = true → H a ≠ none
theorem Hid.new (hz : Hid Z H) (np : H p = none) : Z p = false := by
  cases e : Z p with
  | false => rfl
  | true => exact absurd np (hz p e)
theorem Hid.same (hz : Hid Z H) (s : Same H H') : Hid Z H' := fun a z e => by
  cases q : H a with
  | none => exact hz a z q
  | some o => rw [s a o q] at e; cases e
theorem Hid.but {n : Nat} (hz : Hid Z H) (u : But b H H') (x : BoxAt H' b n) : Hid Z H' := fun a z e => by
  by_cases y : a = b
  · subst y
    exact x.some e
  · cases q : H a with
    | none => exact hz a z q
    | some o => rw [u a o y q] at e; cases e
end
theorem dpall_mem {K : PySem.W.Frag} {H : Hp} : ∀ {vs : List V} {ds : List PyData} {v : V}, DpAll K H vs ds → v ∈ vs → ∃ d ∈ ds, Dp K H v d
  | _, _, _, .nil, h => by cases h
  | _, _, _, .cons x a, h => by
    rcases List.mem_cons.mp h with z | z
    · subst z
      exact ⟨_, List.mem_cons_self, x⟩
    · obtain ⟨d, hd, q⟩ := dpall_mem a z
      exact ⟨d, List.mem_cons_of_mem _ hd, q⟩
theorem dpall_app {K : PySem.W.Frag} {H : Hp} : ∀ {vs ws : List V} {ds es : List PyData}, DpAll K H vs ds → DpAll K H ws es → DpAll K H (vs ++ ws) (ds ++ es)
  | _, _, _, _, .nil, h => h
  | _, _, _, _, .cons x a, h => .cons x (dpall_app a h)
theorem dpall_take {K : PySem.W.Frag} {H : Hp} : ∀ {vs : List V} {ds : List PyData} (n : Nat), DpAll K H vs ds → DpAll K H (vs.take n) (ds.take n)
  | _, _, 0, _ => by simpa using DpAll.nil
  | _, _, n + 1, .nil => by simpa using DpAll.nil
  | _, _, n + 1, .cons x a => by simpa using DpAll.cons x (dpall_take n a)
theorem dpall_drop {K : PySem.W.Frag} {H : Hp} : ∀ {vs : List V} {ds : List PyData} (n : Nat), DpAll K H vs ds → DpAll K H (vs.drop n) (ds.drop n)
  | _, _, 0, a => by simpa using a
  | _, _, n + 1, .nil => by simpa using DpAll.nil
  | _, _, n + 1, .cons x a => by simpa using dpall_drop n a
theorem dpall_rev {K : PySem.W.Frag} {H : Hp} : ∀ {vs : List V} {ds : List PyData}, DpAll K H vs ds → DpAll K H vs.reverse ds.reverse
  | _, _, .nil => by simpa using DpAll.nil
  | _, _, .cons x a => by
    rw [List.reverse_cons, List.reverse_cons]
    exact dpall_app (dpall_rev a) (.cons x .nil)
theorem dpall_set {K : PySem.W.Frag} {H : Hp} {v : V} {d : PyData} (h : Dp K H v d) : ∀ {vs : List V} {ds : List PyData} (n : Nat), DpAll K H vs ds → DpAll K H (vs.set n v) (ds.set n d)
  | _, _, _, .nil => by simpa using DpAll.nil
  | _, _, 0, .cons x a => by simpa using DpAll.cons h a
  | _, _, n + 1, .cons x a => by simpa using DpAll.cons x (dpall_set h n a)
/-- so deep at most, so long at most, numbers no greater than B -/
def Bd (n : Nat) (B : Int) : Nat → PyData → Prop
  | 0, _ => False
  | _ + 1, .none => True
  | _ + 1, .bool _ => True
  | _ + 1, .int i => -B ≤ i ∧ i ≤ B
  | _ + 1, .str s => s.length ≤ 20 ∧ PySem.PyData.strOk s = true
  | m + 1, .list ds => ds.length ≤ n ∧ ∀ e ∈ ds, Bd n B m e
  | m + 1, .tuple ds => ds.length ≤ n ∧ ∀ e ∈ ds, Bd n B m e
  | _ + 1, .dict _ => False
theorem Bd.mono {n n' : Nat} {B B' : Int} (hn : n ≤ n') (hB : B ≤ B') : ∀ {m m' : Nat} {d : PyData}, m ≤ m' → Bd n B m d → Bd n' B' m' d
  | 0, _, _, _, h => h.elim
  | m + 1, 0, _, l, _ => absurd l (by omega)
  | m + 1, m' + 1, d, l, h => by
    cases d with
    | none => trivial
    | bool b => trivial
    | int i => exact ⟨by have := h.1; omega, by have := h.2; omega⟩
    | str s => exact h
    | list ds => exact ⟨Nat.le_trans h.1 hn, fun e he => Bd.mono hn hB (by omega) (h.2 e he)⟩
    | tuple ds => exact ⟨Nat.le_trans h.1 hn, fun e he => Bd.mono hn hB (by omega) (h.2 e he)⟩
    | dict k => exact h.elim
theorem Bd.lv {n : Nat} {B : Int} (hn : n ≤ 100000) : ∀ {m : Nat} {d : PyData}, Bd n B m d → Lv m d
  | 0, _, h => h.elim
  | m + 1, d, h => by
    cases d with
    | none => trivial
    | bool b => trivial
    | int i => trivial
    | str s => trivial
    | list ds => exact ⟨Nat.le_trans h.1 hn, fun e he => Bd.lv hn (h.2 e he)⟩
    | tuple ds => exact ⟨Nat.le_trans h.1 hn, fun e he => Bd.lv hn (h.2 e he)⟩
    | dict k => exact h.elim
/-- how long its text is at most -/
def lenB (n : Nat) : Nat → Nat
  | 0 => 0
  | m + 1 => 300 + n * (lenB n m + 2)
theorem fit_all {m l : Nat} : ∀ {ds : List PyData}, (∀ e ∈ ds, Fit l m e) → FitAll (ds.length * (l + 2)) m ds
  | [], _ => by simpa using FitAll.nil m
  | d :: ds, h => by
    have g := fit_all (ds := ds) fun e he => h e (List.mem_cons_of_mem _ he)
    refine (FitAll.cons (h d List.mem_cons_self) g).mono ?_ (Nat.le_refl m)
    rw [List.length_cons, Nat.succ_mul]
    omega
theorem Bd.fit {n : Nat} {B : Int} (hB : B ≤ 10000000000100) : ∀ {m : Nat} {d : PyData}, Bd n B m d → Fit (lenB n m) m d
  | 0, _, h => h.elim
  | m + 1, d, h => by
    have l0 : 300 ≤ lenB n (m + 1) := Nat.le_add_right _ _
    have key : ∀ {ds : List PyData}, ds.length ≤ n → (∀ e ∈ ds, Bd n B m e) → FitAll (n * (lenB n m + 2)) m ds := fun {ds} a c => (fit_all fun e he => Bd.fit hB (c e he)).mono (Nat.mul_le_mul_right _ a) (Nat.le_refl m)
    cases d with
    | none => exact ⟨Nat.le_trans (show 4 ≤ 300 by decide) l0, rfl, rfl, Nat.zero_le _⟩
    | bool b => exact ⟨Nat.le_trans (by cases b <;> decide) l0, rfl, rfl, Nat.zero_le _⟩
    | int i =>
      refine (fit_int (i := i) ?_).mono (Nat.le_trans (by decide) l0) (Nat.zero_le _)
      have := h.1
      have := h.2
      show i.natAbs < 100000000000000
      omega
    | str s =>
      refine ⟨Nat.le_trans ?_ l0, rfl, ?_, Nat.zero_le _⟩
      · have := PySem.StrLaws.reprText_len s fun c hc => by
          have z := h.2
          unfold PySem.PyData.strOk at z
          rw [← Array.all_toList, List.all_eq_true] at z
          exact Nat.lt_trans (of_decide_eq_true (z c hc)) (by decide)
        have := h.1
        show (reprText s).length ≤ 300
        omega
      · exact h.2
    | list ds =>
      refine (Fit.list (key h.1 h.2)).mono ?_ (Nat.le_refl _)
      show n * (lenB n m + 2) + 3 ≤ 300 + n * (lenB n m + 2)
      omega
    | tuple ds =>
      refine (Fit.tup (key h.1 h.2)).mono ?_ (Nat.le_refl _)
      show n * (lenB n m + 2) + 3 ≤ 300 + n * (lenB n m + 2)
      omega
    | dict k => exact h.elim
theorem bd_text (s : String) (l : s.length ≤ 20) {n m : Nat} {B : Int} : Bd n B (m + 1) (.str (Str.ofString s)) := by
  refine ⟨by rw [PySem.ofString_length]; exact l, ?_⟩
  unfold PySem.PyData.strOk
  rw [Str.ofString_eq_toList, ← Array.all_toList, List.all_eq_true]
  intro c hc
  obtain ⟨x, _, rfl⟩ := List.mem_map.mp (show c ∈ (s.toList.map Char.toNat).toArray.toList from hc)
  refine decide_eq_true ?_
  have v := x.valid
  show x.val.toNat < 0x110000
  rcases v with v | v
  · exact Nat.lt_trans v (by decide)
  · exact v.2
end Sh

namespace Sh
open PySem PySem.Spec PyProof.Rows L2
theorem cut_mid (xs : List V) (i j : Nat) : cutV xs (some (i : Int)) (some (j : Int)) = (xs.drop (min i xs.length)).take (min j xs.length - min i xs.length) := by
  unfold cutV
  rw [HT.sIx_nat, HT.sIx_nat]
theorem sixN {i n : Nat} (h : i < n) : ixN n (i : Int) = some i := by
  unfold ixN
  rw [if_pos (by omega), if_pos (by omega), Int.toNat_natCast]
/-- one more is hidden -/
def andZ (Z : Addr → Bool) (a : Addr) : Addr → Bool := fun x => Z x || decide (x = a)
theorem andZ_self {Z : Addr → Bool} {a : Addr} : andZ Z a a = true := by unfold andZ; simp
theorem andZ_of {Z : Addr → Bool} {a x : Addr} (h : Z x = true) : andZ Z a x = true := by unfold andZ; rw [h]; rfl
theorem hide_more {Z : Addr → Bool} {H : Hp} {a : Addr} (n : H a = none) : Same (hide Z H) (hide (andZ Z a) H) := fun x o h => by
  obtain ⟨z, e⟩ := hide_some h
  refine hide_at ?_ e
  unfold andZ
  rw [z, decide_eq_false (fun q => by rw [q, n] at e; cases e)]
  rfl
theorem hide_less {Z : Addr → Bool} {H : Hp} {a : Addr} : Same (hide (andZ Z a) H) (hide Z H) := fun x o h => by
  obtain ⟨z, e⟩ := hide_some h
  refine hide_at ?_ e
  unfold andZ at z
  exact (Bool.or_eq_false_iff.mp z).1
theorem Hid.more {Z : Addr → Bool} {H : Hp} {a : Addr} {o : HO} (h : Hid Z H) (e : H a = some o) : Hid (andZ Z a) H := fun x z => by
  unfold andZ at z
  rcases Bool.or_eq_true_iff.mp z with y | y
  · exact h x y
  · rw [of_decide_eq_true y, e]
    intro q
    cases q
theorem Hid.less {Z : Addr → Bool} {H : Hp} {a : Addr} (h : Hid (andZ Z a) H) : Hid Z H := fun x z => h x (andZ_of z)
end Sh

namespace Sh
open PySem PySem.Spec PyProof.Rows L2
theorem dpall_ni {K : PySem.W.Frag} {H : Hp} (F : List Nat) : DpAll K H (ni F) ((F.map fun (i : Nat) => (i : Int)).map .int) := by
  rw [ni_ints]
  exact DpAll.ints _
theorem bdI {n m : Nat} {B i : Int} (a : -B ≤ i) (c : i ≤ B) : Bd n B (m + 1) (.int i) := ⟨a, c⟩
theorem bd_ni {m : Nat} {F : List Nat} (l : F.length ≤ 60) (h : ∀ i ∈ F, i ≤ 100) : Bd 60 100 (m + 2) (.tuple ((F.map fun (i : Nat) => (i : Int)).map .int)) := ⟨by rw [List.length_map, List.length_map]; exact l, fun e he => by
  obtain ⟨z, hz, rfl⟩ := List.mem_map.mp he
  obtain ⟨i, hi, rfl⟩ := List.mem_map.mp hz
  have := h i hi
  exact bdI (by omega) (by omega)⟩
theorem bd_niL {m : Nat} {F : List Nat} (l : F.length ≤ 60) (h : ∀ i ∈ F, i ≤ 100) : Bd 60 100 (m + 2) (.list ((F.map fun (i : Nat) => (i : Int)).map .int)) := ⟨by rw [List.length_map, List.length_map]; exact l, fun e he => by
  obtain ⟨z, hz, rfl⟩ := List.mem_map.mp he
  obtain ⟨i, hi, rfl⟩ := List.mem_map.mp hz
  have := h i hi
  exact bdI (by omega) (by omega)⟩
theorem mem_one {α : Type} {P : α → Prop} {d : α} (h : P d) : ∀ e ∈ [d], P e := fun e he => by
  rw [List.mem_singleton.mp he]
  exact h
theorem bar_parts {K : PySem.W.Frag} {H : Hp} {z : V} {x : BarV} {c : Nat} (w : BarAt H z x) (o : BarOk c x) (c24 : c ≤ 24) : ∃ (pz : Addr) (xs : List V) (cs : List PyData) (wd : Str) (sN : Nat) (r : List V) (rc : List PyData), z = .ref pz ∧ H pz = some (.tup xs) ∧ xs = .str wd :: .int (sN : Int) :: r ∧ cs = .str wd :: .int (sN : Int) :: rc ∧ DpAll K H r rc ∧ (∀ e ∈ rc, Bd 60 100 2 e) ∧ sN < 24 ∧ Bd 60 100 2 (.str wd) ∧
    ((r = [] ∧ rc = []) ∨ ∃ (q : Addr) (F : List Nat), r = [.ref q] ∧ rc = [.tuple ((F.map fun (i : Nat) => (i : Int)).map .int)] ∧ H q = some (.tup (ni F)) ∧ Lot c F) := by
  cases x with
  | low s F =>
    obtain ⟨p, q, rfl, e1, e2⟩ := w
    obtain ⟨o1, o2⟩ := o
    have b1 : Bd 60 100 2 (.tuple ((F.map fun (i : Nat) => (i : Int)).map .int)) := bd_ni (by have := o2.len; omega) fun i hi => by have := o2.lt i hi; omega
    exact ⟨p, _, _, _, s, _, _, rfl, e1, rfl, rfl, .cons (.tup (SqT.of e2) (dpall_ni F)) .nil, mem_one b1, by omega, bd_text "low" (by decide), .inr ⟨q, F, rfl, rfl, e2, o2⟩⟩
  | high s F =>
    obtain ⟨p, q, rfl, e1, e2⟩ := w
    obtain ⟨o1, o2⟩ := o
    have b1 : Bd 60 100 2 (.tuple ((F.map fun (i : Nat) => (i : Int)).map .int)) := bd_ni (by have := o2.len; omega) fun i hi => by have := o2.lt i hi; omega
    exact ⟨p, _, _, _, s, _, _, rfl, e1, rfl, rfl, .cons (.tup (SqT.of e2) (dpall_ni F)) .nil, mem_one b1, by omega, bd_text "high" (by decide), .inr ⟨q, F, rfl, rfl, e2, o2⟩⟩
  | fast g =>
    obtain ⟨p, rfl, e1⟩ := w
    have o1 : g < c := o
    exact ⟨p, _, _, _, g, _, _, rfl, e1, rfl, rfl, .nil, fun e he => (by cases he), by omega, bd_text "fast" (by decide), .inl ⟨rfl, rfl⟩⟩
theorem str_nat {s : Nat} (h : s < 24) : strV (.int (s : Int)) = some (Str.ofString (toString ((s : Nat) : Int))) := by
  have : (s : Int).natAbs.log2 < 1920 := by
    rw [Int.natAbs_natCast]
    exact Nat.lt_of_le_of_lt (Nat.log2_le_self _) (by omega)
  exact if_pos this
theorem str_len : ∀ {s : Nat}, s < 24 → (toString ((s : Nat) : Int)).length ≤ 20 := by
  have : ∀ s : Fin 24, (toString (((s.val : Nat) : Int))).length ≤ 20 := by decide +kernel
  exact fun {s} h => this ⟨s, h⟩
/-- what is hidden are lists -/
def HL (Z : Addr → Bool) (H : Hp) : Prop := ∀ a, Z a = true → ∃ ys, H a = some (.lst ys)
theorem HL.same {Z : Addr → Bool} {H H' : Hp} (h : HL Z H) (s : Same H H') : HL Z H' := fun a z => let ⟨ys, e⟩ := h a z; ⟨ys, s _ _ e⟩
theorem HL.but {Z : Addr → Bool} {H H' : Hp} {b : Addr} {n : Nat} (h : HL Z H) (u : But b H H') (x : BoxAt H' b n) : HL Z H' := fun a z => by
  by_cases e : a = b
  · obtain ⟨xs, ex, _⟩ := x
    exact ⟨xs, e ▸ ex⟩
  · obtain ⟨ys, ey⟩ := h a z
    exact ⟨ys, u _ _ e ey⟩
theorem HL.more {Z : Addr → Bool} {H : Hp} {a : Addr} {ys : List V} (h : HL Z H) (e : H a = some (.lst ys)) : HL (andZ Z a) H := fun x z => by
  unfold andZ at z
  rcases Bool.or_eq_true_iff.mp z with y | y
  · exact h x y
  · rw [of_decide_eq_true y]
    exact ⟨ys, e⟩
theorem HL.hid {Z : Addr → Bool} {H : Hp} (h : HL Z H) : Hid Z H := fun a z e => by
  obtain ⟨ys, q⟩ := h a z
  rw [e] at q
  cases q
theorem sqT_hide {K : PySem.W.Frag} {Z : Addr → Bool} {H : Hp} {a : Addr} {xs : List V} (h : HL Z H) (q : SqT K H a xs) : SqT K (hide Z H) a xs := by
  have ne : ∀ {o : HO}, H a = some o → (∀ ys, o ≠ .lst ys) → Z a = false := fun {o} e no => by
    cases z : Z a with
    | false => rfl
    | true =>
      obtain ⟨ys, ey⟩ := h a z
      rw [e] at ey
      exact absurd (Option.some.inj ey) (no ys)
  rcases q with (q | ⟨o, q⟩) | q
  · exact .inl (.inl (hide_at (ne q fun ys z => by cases z) q))
  · exact .inl (.inr ⟨o, hide_at (ne q fun ys z => by cases z) q⟩)
  · exact .inr q
theorem six0 {n : Nat} (h : 0 < n) : ixN n 0 = some 0 := sixN (i := 0) h
theorem six1 {n : Nat} (h : 1 < n) : ixN n 1 = some 1 := sixN (i := 1) h
theorem cut_one1 (F : List Nat) : cutV (ni F) (some 1) none = ni (F.drop 1) := by
  rw [show (1 : Int) = ((1 : Nat) : Int) from rfl]
  unfold cutV
  rw [HT.sIx_nat, HT.sIx_none, ni_len]
  unfold ni
  rw [List.map_drop]
  by_cases c : 1 ≤ F.length
  · rw [Nat.min_eq_left c, List.take_of_length_le (by rw [List.length_drop, List.length_map]; exact Nat.le_refl _)]
  · have : F = [] := List.length_eq_zero_iff.mp (by omega)
    subst this
    rfl
theorem ni_rev (F : List Nat) : (ni F).reverse = ni F.reverse := by
  unfold ni
  rw [List.map_reverse]
def spBent8 (K : PySem.W.Frag) : Sp := fun vs H Q _ => ∃ (b : Addr) (n c : Nat) (Z : Addr → Bool) (z : V) (x : BarV), vs = [.ref b, z] ∧ BoxAt H b (n + 2) ∧ Z b = true ∧ HL Z H ∧ BarAt (hide Z H) z x ∧ BarOk c x ∧ c ≤ 24 ∧
  ∀ (H' : Hp) (v' : V) (d' : PyData), But b H H' → BoxAt H' b n → Dp K (hide Z H') v' d' → Bd 60 100 3 d' → Q v' H'
abbrev s__law_bent : Stmt := topS 55
theorem sc__law_bent : FnScope (["_law_box_here", "_law_matter", "_law_way", "_law_some", "_law_odd"] : List Str) (["_law_box_here", "_law_matter"] : List Str) (defScope s__law_bent) := ⟨rfl, rfl, rfl, by decide +kernel, rfl, by decide +kernel, by decide +kernel⟩
theorem b__law_bent (kV doc pm : Value) (an : Option Addr) (cdv ct : Value) (us : List Value) (hl : us.length = (["_law_box_here", "_law_matter"] : List Str).length) : bindArgs (PySem.W.fnOf "_law_bent" "_law_bent" (defArgs s__law_bent) (defBody s__law_bent) (defScope s__law_bent) .none kV doc pm an cdv ct) ⟨us, []⟩ = pure ((["_law_box_here", "_law_matter"] : List Str).zip us) :=
  match us, hl with | [_, _], _ => rfl
section
variable {P : Program} {w : World} {K : PySem.W.Frag} {mg : Str → Option Value} {base : Heap}
set_option maxHeartbeats 16000000 in
theorem ok_bent8 {k : Nat} (D : Df K mg "_law_bent" s__law_bent) (T : Bt mg) (O__law_take : Ok P w K mg base k "_law_take" s__law_take ["_law_box_here", "_law_span"] spTake) (O__law_of : Ok P w K mg base k "_law_of" s__law_of ["_law_box_here", "_law_some"] (spOf K)) :
    Ok P w K mg base (k + 1) "_law_bent" s__law_bent ["_law_box_here", "_law_matter"] (spBent8 K) := by
  refine D.ok sc__law_bent b__law_bent (fun vs H Q E h => ?_) (fun f cdv A outer s H vs Q E hr h => ?_)
  · obtain ⟨b, n, c, Z, z, x, rfl, _⟩ := h
    rfl
  · obtain ⟨b, n, c, Z, z, x, rfl, hb, zb, hl0, hx, bo, c24, q0⟩ := h
    have hz := hl0.hid
    have q := fun (H' : Hp) (v' : V) (d' : PyData) (u : But b H H') (x : BoxAt H' b n) (_ : Hid Z H') (dd : Dp K (hide Z H') v' d') (bd : Bd 60 100 3 d') => q0 H' v' d' u x dd bd
    refine ⟨_, (pss_cons (ps_par (i := 2) (j := 3) (by rfl) sc__law_bent.nd rfl rfl (by decide) rfl rfl (pa_cons (pe_fn O__law_take (hr.mono (by omega)) (pa_cons (pv 0) (pa_cons pe_int pa_nil))) (pa_cons (pe_callTy call_list_of (by rfl) T.list_ (by decide +kernel) (pa_cons (pv 1) pa_nil)) pa_nil)) (by rfl))
      (pss_cons (ps_if (pt_cmpR op_eq (pv 2) pe_int (nomark _))
        (pss_one (ps_asg (pe_fn O__law_of (hr.mono (by omega)) (pa_cons (pv 0) (pa_cons (pe_lst (pa_cons pe_str (pa_cons pe_str (pa_cons pe_str (pa_cons pe_str (pa_cons pe_non (pa_cons pe_int (pa_cons (pe_lst pa_nil) (pa_cons (pe_tup pa_nil) (pa_cons (pe_tup (pa_cons pe_str pa_nil)) (pa_cons (pe_lst (pa_cons pe_str pa_nil)) pa_nil))))))))))) pa_nil))) (pg_sub (pv 3) pe_int set_list)))
        (pss_one (ps_if (pt_cmpR op_eq (pv 2) pe_int (nomark _))
            (pss_one (ps_asg (pe_fn O__law_of (hr.mono (by omega)) (pa_cons (pv 0) (pa_cons (pe_lst (pa_cons (pe_op op_add (pe_ix ix_lt (pv 3) pe_int (fun _ _ => rfl)) pe_int) (pa_cons (pe_op op_sub (pe_ix ix_lt (pv 3) pe_int (fun _ _ => rfl)) pe_int) (pa_cons pe_bl (pa_cons pe_non (pa_cons (pe_callTy call_strX (by rfl) T.str_ (by decide +kernel) (pa_cons (pe_ix ix_lt (pv 3) pe_int (fun _ _ => rfl)) pa_nil)) pa_nil)))))) pa_nil))) (pg_sub (pv 3) pe_int set_list)))
            (pss_one (ps_if (PW.pt (pw_and (pt_cmpR op_eq (pv 2) pe_int (nomark _)) (pw_and1 (pt_cmpR op_eq (pe_callB call_len_seq (by rfl) T.len_ PySem.boot_len (pa_cons (pv 3) pa_nil)) pe_int (nomark _)))))
                (pss_cons (ps_set (i := 4) sc__law_bent.nd rfl (.inl rfl) (pe_lst (pa_cons (pe_callTy call_list_of (by rfl) T.list_ (by decide +kernel) (pa_cons (pe_ix ix_lt (pv 3) pe_int (fun _ _ => rfl)) pa_nil)) (pa_cons (pe_slice sl_tupS (pe_ix ix_lt (pv 3) pe_int (fun _ _ => rfl)) (po_some pe_int) po_none) (pa_cons (pe_op op_catS (pe_ix ix_lt (pv 3) pe_int (fun _ _ => rfl)) (pe_tup (pa_cons pe_int pa_nil))) (pa_cons (pe_op op_catS (pe_ix ix_lt (pv 3) pe_int (fun _ _ => rfl)) (pe_ix ix_lt (pv 3) pe_int (fun _ _ => rfl))) (pa_cons (pe_revT (pe_ix ix_lt (pv 3) pe_int (fun _ _ => rfl))) (pa_cons pe_non (pa_cons (pe_tup (pa_cons (pe_lst pa_nil) pa_nil)) pa_nil)))))))))
                  (pss_one (ps_asg (pe_fn O__law_of (hr.mono (by omega)) (pa_cons (pv 0) (pa_cons (pv 4) pa_nil))) (pg_sub (pv 3) pe_int set_list))))
                (pss_one (ps_if (pt_cmpR op_eq (pv 2) pe_int (nomark _))
                    (pss_one (ps_ret (pv 3)))
                    (pss_one (ps_if (pt_cmpR op_eq (pv 2) pe_int (nomark _))
                        (pss_one (ps_expr (pe_bm PySem.F.plainAttrs_list PySem.F.slot_list_append PySem.F.type_list_append mt_append (pv 3) (pa_cons (pe_ix ix_lt (pv 3) (pe_un un_neg pe_int) (fun _ _ => rfl)) pa_nil))))
                        (pss_one (ps_if (pt_cmpR op_eq (pv 2) pe_int (nomark _))
                            (pss_one (ps_expr (pe_bm0 PySem.F.plainAttrs_list PySem.F.slot_list_pop PySem.F.type_list_pop mt_pop (pv 3))))
                            pss_nil)))))))))))
      (pss_one (ps_ret (pe_callTy call_tuple_of (by rfl) T.tuple_ (by decide +kernel) (pa_cons (pv 3) pa_nil)))))), ?_⟩
    obtain ⟨pz, xs, cs, wd, sN, r, rc, rfl, hpz, rfl, rfl, alr, bdr, hs, hwd, hr⟩ := bar_parts (K := K) hx bo c24
    refine ⟨_, rfl, b, n + 1, 7, rfl, by decide, by decide, hb, fun way ys w0 w1 ok1 => ?_⟩
    have u1 : But b H (upd H b (.lst ys)) := But.ups
    have x1 : BoxAt (upd H b (.lst ys)) b (n + 1) := .put ok1
    have sh1 := hide_but zb u1
    generalize upd H b (.lst ys) = H1 at u1 x1 sh1
    have hz1 := hz.but u1 x1
    have al0 : DpAll K (hide Z H) (.str wd :: .int (sN : Int) :: r) (.str wd :: .int (sN : Int) :: rc) := .cons (.str _) (.cons (.int _) alr)
    have bd0 : ∀ e ∈ (PyData.str wd :: .int (sN : Int) :: rc), Bd 60 100 2 e := fun e he => by
      rcases List.mem_cons.mp he with rfl | he
      · exact hwd
      rcases List.mem_cons.mp he with rfl | he
      · exact bdI (by omega) (by omega)
      · exact bdr e he
    have al1 := DpAll.same sh1 al0
    have hpz1 := sh1 _ _ hpz
    refine ⟨_, rfl, pz, _, rfl, .inr (SqT.of (hide_some hpz1).2), fun ls nls => ?_⟩
    have zl := hz1.new nls
    have s2 : Same H1 (upd H1 ls (.lst (.str wd :: .int (sN : Int) :: r))) := same_new nls
    have e2 : upd H1 ls (.lst (.str wd :: .int (sN : Int) :: r)) ls = some (.lst (.str wd :: .int (sN : Int) :: r)) := upd_same
    have lb : ls ≠ b := (x1.ne nls).symm
    have hS : Same (hide Z H1) (hide (andZ Z ls) (upd H1 ls (.lst (.str wd :: .int (sN : Int) :: r)))) := (hide_more nls).trans (hide_of s2)
    generalize upd H1 ls (.lst (.str wd :: .int (sN : Int) :: r)) = H2 at s2 e2 hS
    have nl0 : H ls = none := u1.free lb nls
    have al2 := DpAll.same hS al1
    have hz2 := hz1.same s2
    have hzl2 := hz2.more e2
    have hL2 : HL Z H2 := (hl0.but u1 x1).same s2
    have u2 : But b H H2 := u1.trans (Same.but (b := b) s2)
    have x2 := x1.same s2
    have fin : ∀ (H' : Hp) (ys : List V) (es : List PyData) (q3 : Addr), But b H H' → BoxAt H' b n → Hid Z H' → DpAll K (hide (andZ Z ls) H') ys es → (∀ e ∈ es, Bd 60 100 2 e) → es.length ≤ 60 → H' q3 = none → Q (.ref q3) (upd H' q3 (.tup ys)) := fun H' ys es q3 u x hz al bd le nq =>
      q _ _ (.tuple es) (u.trans (Same.but (b := b) (same_new nq))) (x.same (same_new nq)) (hz.same (same_new nq)) (.tup (SqT.of (hide_at (hz.new nq) upd_same)) (DpAll.same (hide_less.trans (hide_of (same_new nq))) al)) ⟨le, bd⟩
    have fin2 : ∀ (Hx : Hp) (ys : List V) (es : List PyData) (q3 : Addr), But b H Hx → BoxAt Hx b n → Hid Z Hx → DpAll K (hide (andZ Z ls) Hx) ys es → (∀ e ∈ es, Bd 60 100 2 e) → es.length ≤ 60 → (upd Hx ls (.lst ys)) q3 = none → Q (.ref q3) (upd (upd Hx ls (.lst ys)) q3 (.tup ys)) := fun Hx ys es q3 u x hz al bd le nq =>
      fin _ ys es q3 (u.put nl0) (x.at lb.symm) (fun a za => by
        by_cases ea : a = ls
        · rw [ea, upd_same]
          exact fun z => by cases z
        · rw [upd_ne ea]
          exact hz a za) (DpAll.same (hide_but andZ_self But.ups) al) bd le nq
    -- a draw among data, stored at place j
    have drw : ∀ (H' H'' : Hp) (j : Nat) (v : V) (dv : PyData) (q3 : Addr) (ys : List V), But b H H' → BoxAt H' b (n + 1) → Hid Z H' → Same (hide (andZ Z ls) H2) (hide (andZ Z ls) H') → H' ls = some (.lst (.str wd :: .int (sN : Int) :: r)) → BoxOk ys n →
        Dp K (hide (andZ Z ls) H') v dv → Bd 60 100 2 dv → H'' = upd (upd H' b (.lst ys)) ls (.lst ((.str wd :: .int (sN : Int) :: r).set j v)) → H'' q3 = none → Q (.ref q3) (upd H'' q3 (.tup ((.str wd :: .int (sN : Int) :: r).set j v))) := by
      rintro H' H'' j v dv q3 ys u x hz sm el ok dv1 bv rfl nq
      have u3 : But b H' (upd H' b (.lst ys)) := But.ups
      have x3 : BoxAt (upd H' b (.lst ys)) b n := .put ok
      have sh3 := hide_but (andZ_of (a := ls) zb) u3
      have el3 := u3 _ _ lb el
      generalize upd H' b (.lst ys) = H3 at u3 x3 sh3 el3 nq
      have hz3 := hz.but u3 x3
      have sh4 : Same (hide (andZ Z ls) H3) (hide (andZ Z ls) (upd H3 ls (.lst ((.str wd :: .int (sN : Int) :: r).set j v)))) := hide_but andZ_self But.ups
      have hz4 : Hid Z (upd H3 ls (.lst ((.str wd :: .int (sN : Int) :: r).set j v))) := fun a za => by
        by_cases ea : a = ls
        · rw [ea, upd_same]
          exact fun z => by cases z
        · rw [upd_ne ea]
          exact hz3 a za
      refine fin _ _ ((PyData.str wd :: .int (sN : Int) :: rc).set j dv) q3 ((u.trans u3).put nl0) (x3.at lb.symm) hz4 (dpall_set (Dp.same (sh3.trans sh4) dv1) j (DpAll.same (sm.trans (sh3.trans sh4)) al2)) (fun e he => ?_) ?_ nq
      · rcases List.mem_or_eq_of_mem_set he with he | rfl
        · exact bd0 e he
        · exact bv
      · rw [List.length_set]
        show rc.length + 2 ≤ 60
        rcases hr with ⟨rfl, rfl⟩ | ⟨qa, F, rfl, rfl, _⟩
        · decide
        · show 1 + 2 ≤ 60
          decide
    refine ⟨_, _, rfl, ?_⟩
    have hw7 : way = 0 ∨ way = 1 ∨ way = 2 ∨ way = 3 ∨ way = 4 ∨ way = 5 ∨ way = 6 := by omega
    rcases hw7 with rfl | rfl | rfl | rfl | rfl | rfl | rfl
    · refine ⟨_, rfl, rfl, _, rfl, ite2 (fun _ => ?_) (fun c => absurd (decide_eq_true rfl) c)⟩
      refine ⟨_, rfl, Nat.zero_le _, fun a1 na1 => ?_⟩
      have sa1 : Same H2 (upd H2 a1 (.lst [])) := same_new na1
      have ea1 : upd H2 a1 (.lst []) a1 = some (.lst []) := upd_same
      generalize upd H2 a1 (.lst []) = H3 at sa1 ea1
      refine ⟨Nat.zero_le _, fun a2 na2 => ?_⟩
      have sa2 : Same H3 (upd H3 a2 (.tup [])) := same_new na2
      have ea2 : upd H3 a2 (.tup []) a2 = some (.tup []) := upd_same
      generalize upd H3 a2 (.tup []) = H4 at sa2 ea2
      refine ⟨(by show 1 ≤ sizeLine; decide), fun a3 na3 => ?_⟩
      have sa3 : Same H4 (upd H4 a3 (.tup [.str "low"])) := same_new na3
      have ea3 : upd H4 a3 (.tup [.str "low"]) a3 = some (.tup [.str "low"]) := upd_same
      generalize upd H4 a3 (.tup [.str "low"]) = H5 at sa3 ea3
      refine ⟨(by show 1 ≤ sizeLine; decide), fun a4 na4 => ?_⟩
      have sa4 : Same H5 (upd H5 a4 (.lst [.str "low"])) := same_new na4
      have ea4 : upd H5 a4 (.lst [.str "low"]) a4 = some (.lst [.str "low"]) := upd_same
      generalize upd H5 a4 (.lst [.str "low"]) = H6 at sa4 ea4
      refine ⟨(by show 10 ≤ sizeLine; decide), fun a5 na5 => ?_⟩
      have sa5 : Same H6 (upd H6 a5 (.lst [.str "low", .str "high", .str "fast", .str "", .non, .int 0, .ref a1, .ref a2, .ref a3, .ref a4])) := same_new na5
      have ea5 : upd H6 a5 (.lst [.str "low", .str "high", .str "fast", .str "", .non, .int 0, .ref a1, .ref a2, .ref a3, .ref a4]) a5 = some (.lst [.str "low", .str "high", .str "fast", .str "", .non, .int 0, .ref a1, .ref a2, .ref a3, .ref a4]) := upd_same
      generalize upd H6 a5 (.lst [.str "low", .str "high", .str "fast", .str "", .non, .int 0, .ref a1, .ref a2, .ref a3, .ref a4]) = H7 at sa5 ea5
      have s27 := sa1.trans (sa2.trans (sa3.trans (sa4.trans sa5)))
      have x7 := x2.same s27
      have ne5 : a5 ≠ b := ((x2.same (sa1.trans (sa2.trans (sa3.trans sa4)))).ne na5).symm
      have z1 : andZ Z ls a1 = false := hzl2.new na1
      have z2 : andZ Z ls a2 = false := (hzl2.same sa1).new na2
      have z3 : andZ Z ls a3 = false := (hzl2.same (sa1.trans sa2)).new na3
      have z4 : andZ Z ls a4 = false := (hzl2.same (sa1.trans (sa2.trans sa3))).new na4
      refine ⟨b, a5, n, _, rfl, SqA.l ea5, ne5, (by show 0 < 10; decide), (by show 10 < 1000000; decide), x7, fun v ys hv ok => ?_⟩
      obtain ⟨dv, dd, db⟩ : ∃ dv, Dp K (hide (andZ Z ls) H7) v dv ∧ Bd 60 100 2 dv := by
        simp only [List.mem_cons, List.not_mem_nil, or_false] at hv
        rcases hv with rfl | rfl | rfl | rfl | rfl | rfl | rfl | rfl | rfl | rfl
        · exact ⟨_, .str _, bd_text "low" (by decide)⟩
        · exact ⟨_, .str _, bd_text "high" (by decide)⟩
        · exact ⟨_, .str _, bd_text "fast" (by decide)⟩
        · exact ⟨_, .str _, bd_text "" (by decide)⟩
        · exact ⟨_, .non, trivial⟩
        · exact ⟨_, .int _, bdI (by decide) (by decide)⟩
        · exact ⟨.list [], .lst (SqL.of (hide_at z1 ((sa2.trans (sa3.trans (sa4.trans sa5))) _ _ ea1))) .nil, ⟨by decide, fun e he => by cases he⟩⟩
        · exact ⟨.tuple [], .tup (SqT.of (hide_at z2 ((sa3.trans (sa4.trans sa5)) _ _ ea2))) .nil, ⟨by decide, fun e he => by cases he⟩⟩
        · exact ⟨.tuple [.str "low"], .tup (SqT.of (hide_at z3 ((sa4.trans sa5) _ _ ea3))) (.cons (.str _) .nil), ⟨by decide, mem_one (bd_text "low" (by decide))⟩⟩
        · exact ⟨.list [.str "low"], .lst (SqL.of (hide_at z4 (sa5 _ _ ea4))) (.cons (.str _) .nil), ⟨by decide, mem_one (bd_text "low" (by decide))⟩⟩
      have eb : upd H7 b (.lst ys) ls = some (.lst (.str wd :: .int (sN : Int) :: r)) := by
        rw [upd_ne lb]
        exact s27 _ _ e2
      refine ⟨_, rfl, ls, _, 0, 0, rfl, rfl, eb, six0 (Nat.succ_pos _), ?_⟩
      refine ⟨_, rfl, ls, _, rfl, .inl ⟨SqL.of upd_same, fun q3 nq3 => ?_⟩⟩
      exact drw H7 _ 0 v dv q3 ys (u2.trans (Same.but (b := b) s27)) x7 (hz2.same s27) (hide_of s27) (s27 _ _ e2) ok dd db rfl nq3
    · refine ⟨_, rfl, rfl, _, rfl, ite2 (fun c => absurd (V.int.inj (of_decide_eq_true c)) (by decide)) (fun _ => ?_)⟩
      refine ⟨_, rfl, rfl, _, rfl, ite2 (fun _ => ?_) (fun c => absurd (decide_eq_true rfl) c)⟩
      refine ⟨_, rfl, _, rfl, ls, _, 1, .int (sN : Int), rfl, rfl, SqA.l e2, at_nat (j := 1) rfl rfl, _, _, rfl, rfl, _, rfl, ls, _, 1, .int (sN : Int), rfl, rfl, SqA.l e2, at_nat (j := 1) rfl rfl, _, _, rfl, rfl, _, rfl, ls, _, 1, .int (sN : Int), rfl, rfl, SqA.l e2, at_nat (j := 1) rfl rfl, _, _, rfl, str_nat (by omega), (by show 5 ≤ sizeLine; decide), fun a5 na5 => ?_⟩
      have hns := bd_text (n := 60) (m := 1) (B := 100) (toString ((sN : Nat) : Int)) (str_len (by omega))
      have sa5 : Same H2 (upd H2 a5 (.lst [.int ((sN : Int) + 1), .int ((sN : Int) - 1), .bl true, .non, .str (Str.ofString (toString ((sN : Nat) : Int)))])) := same_new na5
      have ea5 : upd H2 a5 (.lst [.int ((sN : Int) + 1), .int ((sN : Int) - 1), .bl true, .non, .str (Str.ofString (toString ((sN : Nat) : Int)))]) a5 = some (.lst [.int ((sN : Int) + 1), .int ((sN : Int) - 1), .bl true, .non, .str (Str.ofString (toString ((sN : Nat) : Int)))]) := upd_same
      generalize upd H2 a5 (.lst [.int ((sN : Int) + 1), .int ((sN : Int) - 1), .bl true, .non, .str (Str.ofString (toString ((sN : Nat) : Int)))]) = H3 at sa5 ea5
      have x7 := x2.same sa5
      have ne5 : a5 ≠ b := (x2.ne na5).symm
      refine ⟨b, a5, n, _, rfl, SqA.l ea5, ne5, (by show 0 < 5; decide), (by show 5 < 1000000; decide), x7, fun v ys hv ok => ?_⟩
      obtain ⟨dv, dd, db⟩ : ∃ dv, Dp K (hide (andZ Z ls) H3) v dv ∧ Bd 60 100 2 dv := by
        simp only [List.mem_cons, List.not_mem_nil, or_false] at hv
        rcases hv with rfl | rfl | rfl | rfl | rfl
        · exact ⟨_, .int _, bdI (by omega) (by omega)⟩
        · exact ⟨_, .int _, bdI (by omega) (by omega)⟩
        · exact ⟨_, .bl _, trivial⟩
        · exact ⟨_, .non, trivial⟩
        · exact ⟨_, .str _, hns⟩
      have eb : upd H3 b (.lst ys) ls = some (.lst (.str wd :: .int (sN : Int) :: r)) := by
        rw [upd_ne lb]
        exact sa5 _ _ e2
      refine ⟨_, rfl, ls, _, 1, 1, rfl, rfl, eb, six1 (Nat.succ_lt_succ (Nat.succ_pos _)), ?_⟩
      refine ⟨_, rfl, ls, _, rfl, .inl ⟨SqL.of upd_same, fun q3 nq3 => ?_⟩⟩
      exact drw H3 _ 1 v dv q3 ys (u2.trans (Same.but (b := b) sa5)) x7 (hz2.same sa5) (hide_of sa5) (sa5 _ _ e2) ok dd db rfl nq3
    · refine ⟨_, rfl, rfl, _, rfl, ite2 (fun c => absurd (V.int.inj (of_decide_eq_true c)) (by decide)) (fun _ => ?_)⟩
      refine ⟨_, rfl, rfl, _, rfl, ite2 (fun c => absurd (V.int.inj (of_decide_eq_true c)) (by decide)) (fun _ => ?_)⟩
      refine ⟨_, rfl, rfl, _, rfl, ite2 (fun _ => ?_) (fun c => absurd (decide_eq_true rfl) c)⟩
      refine ⟨_, rfl, ls, _, rfl, .inl (SqL.of e2), ?_⟩
      rcases hr with ⟨rfl, rfl⟩ | ⟨qa, F, rfl, rfl, hqa, hF⟩
      · refine ⟨rfl, _, rfl, ite2 (fun c => absurd (V.int.inj (of_decide_eq_true c)) (by show ¬ ((2 : Nat) : Int) = 3; decide)) (fun _ => ?_)⟩
        refine ⟨_, rfl, rfl, _, rfl, ite2 (fun c => absurd (V.int.inj (of_decide_eq_true c)) (by decide)) (fun _ => ?_)⟩
        refine ⟨_, rfl, rfl, _, rfl, ite2 (fun c => absurd (V.int.inj (of_decide_eq_true c)) (by decide)) (fun _ => ?_)⟩
        refine ⟨_, rfl, rfl, _, rfl, ite2 (fun c => absurd (V.int.inj (of_decide_eq_true c)) (by decide)) (fun _ => ?_)⟩
        exact ⟨_, rfl, ls, _, rfl, .inl ⟨SqL.of e2, fun q3 nq3 => fin H2 _ _ q3 u2 (x2.mono (by omega)) hz2 al2 bd0 (by show 2 ≤ 60; decide) nq3⟩⟩
      · refine ⟨rfl, _, rfl, ite2 (fun _ => ?_) (fun c => absurd (decide_eq_true rfl) c)⟩
        have lF := hF.len
        have hq0 : hide (andZ Z ls) H2 qa = some (.tup (ni F)) := hS _ _ (sh1 _ _ hqa)
        have hq2 := (hide_some hq0).2
        have ne2 : Z qa = false ∧ True := ⟨(hide_some (hide_less _ _ hq0)).1, trivial⟩
        refine ⟨_, rfl, ls, _, 2, .ref qa, rfl, rfl, SqA.l e2, rfl, qa, _, rfl, .inr (SqT.of hq2), fun a1 na1 => ?_⟩
        have sa1 : Same H2 (upd H2 a1 (.lst (ni F))) := same_new na1
        have ea1 : upd H2 a1 (.lst (ni F)) a1 = some (.lst (ni F)) := upd_same
        generalize upd H2 a1 (.lst (ni F)) = H3 at sa1 ea1
        refine ⟨_, rfl, ls, _, 2, .ref qa, rfl, rfl, SqA.l (sa1 _ _ e2), rfl, 1, rfl, qa, _, rfl, SqT.of (sa1 _ _ hq2), fun r1 H4 s4 hr1 => ?_⟩
        have s24 := sa1.trans s4
        refine ⟨_, rfl, ls, _, 2, .ref qa, rfl, rfl, SqA.l (s24 _ _ e2), rfl, (by show 1 ≤ sizeLine; decide), fun a2 na2 => ?_⟩
        have sa2 : Same H4 (upd H4 a2 (.tup [.int 99])) := same_new na2
        have ea2 : upd H4 a2 (.tup [.int 99]) a2 = some (.tup [.int 99]) := upd_same
        generalize upd H4 a2 (.tup [.int 99]) = H5 at sa2 ea2
        have s25 := s24.trans sa2
        refine ⟨qa, a2, _, _, rfl, rfl, SqT.of (s25 _ _ hq2), SqT.of ea2, ?_, fun r2 H6 s6 hr2 => ?_⟩
        · rw [ni_len]
          exact Nat.le_trans (show F.length + 1 ≤ 100 by omega) (by decide)
        have s26 := s25.trans s6
        refine ⟨_, rfl, ls, _, 2, .ref qa, rfl, rfl, SqA.l (s26 _ _ e2), rfl, _, rfl, ls, _, 2, .ref qa, rfl, rfl, SqA.l (s26 _ _ e2), rfl, qa, qa, _, _, rfl, rfl, SqT.of (s26 _ _ hq2), SqT.of (s26 _ _ hq2), ?_, fun r3 H7 s7 hr3 => ?_⟩
        · rw [ni_len]
          exact Nat.le_trans (show F.length + F.length ≤ 100 by omega) (by decide)
        have s27 := s26.trans s7
        refine ⟨_, rfl, ls, _, 2, .ref qa, rfl, rfl, SqA.l (s27 _ _ e2), rfl, qa, _, rfl, SqT.of (s27 _ _ hq2), fun a3 na3 => ?_⟩
        have sa3 : Same H7 (upd H7 a3 (.tup (ni F).reverse)) := same_new na3
        have ea3 : upd H7 a3 (.tup (ni F).reverse) a3 = some (.tup (ni F).reverse) := upd_same
        generalize upd H7 a3 (.tup (ni F).reverse) = H8 at sa3 ea3
        refine ⟨Nat.zero_le _, fun a4 na4 => ?_⟩
        have sa4 : Same H8 (upd H8 a4 (.lst [])) := same_new na4
        have ea4 : upd H8 a4 (.lst []) a4 = some (.lst []) := upd_same
        generalize upd H8 a4 (.lst []) = H9 at sa4 ea4
        refine ⟨(by show 1 ≤ sizeLine; decide), fun a5 na5 => ?_⟩
        have sa5 : Same H9 (upd H9 a5 (.tup [.ref a4])) := same_new na5
        have ea5 : upd H9 a5 (.tup [.ref a4]) a5 = some (.tup [.ref a4]) := upd_same
        generalize upd H9 a5 (.tup [.ref a4]) = H10 at sa5 ea5
        refine ⟨(by show 7 ≤ sizeLine; decide), fun a6 na6 => ?_⟩
        have sa6 : Same H10 (upd H10 a6 (.lst [.ref a1, .ref r1, .ref r2, .ref r3, .ref a3, .non, .ref a5])) := same_new na6
        have ea6 : upd H10 a6 (.lst [.ref a1, .ref r1, .ref r2, .ref r3, .ref a3, .non, .ref a5]) a6 = some (.lst [.ref a1, .ref r1, .ref r2, .ref r3, .ref a3, .non, .ref a5]) := upd_same
        generalize upd H10 a6 (.lst [.ref a1, .ref r1, .ref r2, .ref r3, .ref a3, .non, .ref a5]) = H11 at sa6 ea6
        have s2b := s27.trans (sa3.trans (sa4.trans (sa5.trans sa6)))
        have s7b := sa3.trans (sa4.trans (sa5.trans sa6))
        have x11 := x2.same s2b
        have ne6 : a6 ≠ b := ((x2.same (s27.trans (sa3.trans (sa4.trans sa5)))).ne na6).symm
        have hL11 : HL (andZ Z ls) H11 := (hL2.same s2b).more (s2b _ _ e2)
        refine ⟨_, rfl, _, rfl, b, a6, n, _, rfl, SqA.l ea6, ne6, (by show 0 < 7; decide), (by show 7 < 1000000; decide), x11, fun v ys hv ok => ?_⟩
        have hF24 : ∀ i ∈ F, i ≤ 100 := fun i hi => by have := hF.lt i hi; omega
        have z1 : andZ Z ls a1 = false := hzl2.new na1
        have z4 : andZ Z ls a4 = false := (hzl2.same (s27.trans sa3)).new na4
        obtain ⟨dv, dd, db⟩ : ∃ dv, Dp K (hide (andZ Z ls) H11) v dv ∧ Bd 60 100 2 dv := by
          simp only [List.mem_cons, List.not_mem_nil, or_false] at hv
          rcases hv with rfl | rfl | rfl | rfl | rfl | rfl | rfl
          · exact ⟨_, .lst (SqL.of (hide_at z1 (((s4.trans (sa2.trans (s6.trans s7))).trans s7b) _ _ ea1))) (dpall_ni F), bd_niL (by omega) hF24⟩
          · rw [cut_one1] at hr1
            exact ⟨_, .tup (sqT_hide hL11 (Same.tup ((sa2.trans (s6.trans s7)).trans s7b) hr1)) (dpall_ni (F.drop 1)), bd_ni (by rw [List.length_drop]; omega) fun i hi => hF24 i (List.mem_of_mem_drop hi)⟩
          · rw [show ni F ++ [V.int 99] = ni (F ++ [99]) from by rw [ni_app]; rfl] at hr2
            exact ⟨_, .tup (sqT_hide hL11 (Same.tup (s7.trans s7b) hr2)) (dpall_ni (F ++ [99])), bd_ni (by rw [List.length_append]; show F.length + 1 ≤ 60; omega) fun i hi => by
              rcases List.mem_append.mp hi with hi | hi
              · exact hF24 i hi
              · rw [List.mem_singleton.mp hi]
                decide⟩
          · rw [← ni_app] at hr3
            exact ⟨_, .tup (sqT_hide hL11 (Same.tup s7b hr3)) (dpall_ni (F ++ F)), bd_ni (by rw [List.length_append]; omega) fun i hi => by
              rcases List.mem_append.mp hi with hi | hi
              · exact hF24 i hi
              · exact hF24 i hi⟩
          · rw [ni_rev] at ea3
            exact ⟨_, .tup (sqT_hide hL11 (SqT.of ((sa4.trans (sa5.trans sa6)) _ _ ea3))) (dpall_ni F.reverse), bd_ni (by rw [List.length_reverse]; omega) fun i hi => hF24 i (List.mem_reverse.mp hi)⟩
          · exact ⟨_, .non, trivial⟩
          · exact ⟨.tuple [.list []], .tup (sqT_hide hL11 (SqT.of (sa6 _ _ ea5))) (.cons (.lst (SqL.of (hide_at z4 ((sa5.trans sa6) _ _ ea4))) .nil) .nil), ⟨by decide, mem_one ⟨by decide, fun e he => by cases he⟩⟩⟩
        have eb : upd H11 b (.lst ys) ls = some (.lst (.str wd :: .int (sN : Int) :: [.ref qa])) := by
          rw [upd_ne lb]
          exact s2b _ _ e2
        refine ⟨_, rfl, ls, _, 2, 2, rfl, rfl, eb, rfl, ?_⟩
        refine ⟨_, rfl, ls, _, rfl, .inl ⟨SqL.of upd_same, fun q3 nq3 => ?_⟩⟩
        exact drw H11 _ 2 v dv q3 ys (u2.trans (Same.but (b := b) s2b)) x11 (hz2.same s2b) (hide_of s2b) (s2b _ _ e2) ok dd db rfl nq3
    · refine ⟨_, rfl, rfl, _, rfl, ite2 (fun c => absurd (V.int.inj (of_decide_eq_true c)) (by decide)) (fun _ => ?_)⟩
      refine ⟨_, rfl, rfl, _, rfl, ite2 (fun c => absurd (V.int.inj (of_decide_eq_true c)) (by decide)) (fun _ => ?_)⟩
      refine ⟨_, rfl, rfl, _, rfl, ite2 (fun c => absurd (V.int.inj (of_decide_eq_true c)) (by decide)) (fun _ => ?_)⟩
      refine ⟨_, rfl, rfl, _, rfl, ite2 (fun _ => ?_) (fun c => absurd (decide_eq_true rfl) c)⟩
      have l60 : (PyData.str wd :: .int (sN : Int) :: rc).length ≤ 60 := by
        rcases hr with ⟨rfl, rfl⟩ | ⟨qa, F, rfl, rfl, _⟩
        · show 2 ≤ 60
          decide
        · show 3 ≤ 60
          decide
      exact ⟨_, rfl, q _ _ (.list (.str wd :: .int (sN : Int) :: rc)) u2 (x2.mono (by omega)) hz2 (.lst (SqL.of (hide_at zl e2)) (DpAll.same hide_less al2)) ⟨l60, bd0⟩⟩
    · refine ⟨_, rfl, rfl, _, rfl, ite2 (fun c => absurd (V.int.inj (of_decide_eq_true c)) (by decide)) (fun _ => ?_)⟩
      refine ⟨_, rfl, rfl, _, rfl, ite2 (fun c => absurd (V.int.inj (of_decide_eq_true c)) (by decide)) (fun _ => ?_)⟩
      refine ⟨_, rfl, rfl, _, rfl, ite2 (fun c => absurd (V.int.inj (of_decide_eq_true c)) (by decide)) (fun _ => ?_)⟩
      refine ⟨_, rfl, rfl, _, rfl, ite2 (fun c => absurd (V.int.inj (of_decide_eq_true c)) (by decide)) (fun _ => ?_)⟩
      refine ⟨_, rfl, rfl, _, rfl, ite2 (fun _ => ?_) (fun c => absurd (decide_eq_true rfl) c)⟩
      obtain ⟨v, dv, gv, dd, db, l60⟩ : ∃ (v : V) (dv : PyData), atI (.str wd :: .int (sN : Int) :: r) (-1) = some v ∧ Dp K (hide (andZ Z ls) H2) v dv ∧ Bd 60 100 2 dv ∧ (PyData.str wd :: .int (sN : Int) :: rc).length ≤ 50 ∧ (V.str wd :: .int (sN : Int) :: r).length < sizeLine := by
        rcases hr with ⟨rfl, rfl⟩ | ⟨qa, F, rfl, rfl, hqa, hF⟩
        · exact ⟨.int (sN : Int), _, rfl, .int _, bdI (by omega) (by omega), by show 2 ≤ 50; decide, by show 2 < sizeLine; decide⟩
        · refine ⟨.ref qa, _, rfl, .tup (SqT.of (hS _ _ (sh1 _ _ hqa))) (dpall_ni F), bdr _ List.mem_cons_self, by show 3 ≤ 50; decide, by show 3 < sizeLine; decide⟩
      refine ⟨_, rfl, .inl ⟨rfl, _, SqL.of e2⟩, _, rfl, _, rfl, ls, _, -1, v, rfl, rfl, SqA.l e2, gv, ?_⟩
      refine ⟨ls, _, _, rfl, rfl, e2, l60.2, ?_⟩
      refine ⟨_, rfl, ls, _, rfl, .inl ⟨SqL.of upd_same, fun q3 nq3 => ?_⟩⟩
      refine fin2 H2 _ ((PyData.str wd :: .int (sN : Int) :: rc) ++ [dv]) q3 u2 (x2.mono (by omega)) hz2 (dpall_app al2 (.cons dd .nil)) (fun e he => ?_) (by rw [List.length_append]; show _ + 1 ≤ 60; omega) nq3
      rcases List.mem_append.mp he with he | he
      · exact bd0 e he
      · rw [List.mem_singleton.mp he]
        exact db
    · refine ⟨_, rfl, rfl, _, rfl, ite2 (fun c => absurd (V.int.inj (of_decide_eq_true c)) (by decide)) (fun _ => ?_)⟩
      refine ⟨_, rfl, rfl, _, rfl, ite2 (fun c => absurd (V.int.inj (of_decide_eq_true c)) (by decide)) (fun _ => ?_)⟩
      refine ⟨_, rfl, rfl, _, rfl, ite2 (fun c => absurd (V.int.inj (of_decide_eq_true c)) (by decide)) (fun _ => ?_)⟩
      refine ⟨_, rfl, rfl, _, rfl, ite2 (fun c => absurd (V.int.inj (of_decide_eq_true c)) (by decide)) (fun _ => ?_)⟩
      refine ⟨_, rfl, rfl, _, rfl, ite2 (fun c => absurd (V.int.inj (of_decide_eq_true c)) (by decide)) (fun _ => ?_)⟩
      refine ⟨_, rfl, rfl, _, rfl, ite2 (fun _ => ?_) (fun c => absurd (decide_eq_true rfl) c)⟩
      have l60 : (PyData.str wd :: .int (sN : Int) :: rc).length ≤ 60 := by
        rcases hr with ⟨rfl, rfl⟩ | ⟨qa, F, rfl, rfl, _⟩
        · show 2 ≤ 60
          decide
        · show 3 ≤ 60
          decide
      obtain ⟨y, gy⟩ : ∃ y, (V.str wd :: .int (sN : Int) :: r)[(V.str wd :: .int (sN : Int) :: r).length - 1]? = some y := ⟨_, List.getElem?_eq_getElem (by show _ < r.length + 2; show r.length + 2 - 1 < r.length + 2; omega)⟩
      refine ⟨_, rfl, .inl ⟨rfl, _, SqL.of e2⟩, ls, _, y, rfl, rfl, e2, gy, ?_⟩
      refine ⟨_, rfl, ls, _, rfl, .inl ⟨SqL.of upd_same, fun q3 nq3 => ?_⟩⟩
      have ea : (V.str wd :: .int (sN : Int) :: r).dropLast = (V.str wd :: .int (sN : Int) :: r).take (r.length + 1) := by rw [List.dropLast_eq_take]; rfl
      rw [ea] at nq3 ⊢
      have lr : r.length = rc.length := DpAll.len alr
      refine fin2 H2 _ ((PyData.str wd :: .int (sN : Int) :: rc).take (r.length + 1)) q3 u2 (x2.mono (by omega)) hz2 (dpall_take _ al2) (fun e he => bd0 e (List.mem_of_mem_take he)) (Nat.le_trans (List.length_take_le _ _) (by rw [lr]; have := l60; show rc.length + 1 ≤ 60; have l2 : rc.length + 2 ≤ 60 := l60; omega)) nq3
    · refine ⟨_, rfl, rfl, _, rfl, ite2 (fun c => absurd (V.int.inj (of_decide_eq_true c)) (by decide)) (fun _ => ?_)⟩
      refine ⟨_, rfl, rfl, _, rfl, ite2 (fun c => absurd (V.int.inj (of_decide_eq_true c)) (by decide)) (fun _ => ?_)⟩
      refine ⟨_, rfl, rfl, _, rfl, ite2 (fun c => absurd (V.int.inj (of_decide_eq_true c)) (by decide)) (fun _ => ?_)⟩
      refine ⟨_, rfl, rfl, _, rfl, ite2 (fun c => absurd (V.int.inj (of_decide_eq_true c)) (by decide)) (fun _ => ?_)⟩
      refine ⟨_, rfl, rfl, _, rfl, ite2 (fun c => absurd (V.int.inj (of_decide_eq_true c)) (by decide)) (fun _ => ?_)⟩
      refine ⟨_, rfl, rfl, _, rfl, ite2 (fun c => absurd (V.int.inj (of_decide_eq_true c)) (by decide)) (fun _ => ?_)⟩
      have l60 : (PyData.str wd :: .int (sN : Int) :: rc).length ≤ 60 := by
        rcases hr with ⟨rfl, rfl⟩ | ⟨qa, F, rfl, rfl, _⟩
        · show 2 ≤ 60
          decide
        · show 3 ≤ 60
          decide
      exact ⟨_, rfl, ls, _, rfl, .inl ⟨SqL.of e2, fun q3 nq3 => fin H2 _ _ q3 u2 (x2.mono (by omega)) hz2 al2 bd0 l60 nq3⟩⟩
end
end Sh

namespace Sh
open PySem PySem.Spec PyProof.Rows L2
theorem ne_comm (a b : Bool) : (a != b) = (b != a) := by cases a <;> cases b <;> rfl
theorem shows_symm {h t : Int} {ds : List Int} {L M : List Nat} : ∀ d : PyData, showsD h t ds M L d = showsD h t ds L M d := fun d => by
  have lo : ∀ x y, lowD h t ds M L x y = lowD h t ds L M x y := fun x y => by
    unfold lowD lowSB
    rw [ne_comm]
  have hi : ∀ x y, highD h t ds M L x y = highD h t ds L M x y := fun x y => by
    unfold highD highSB
    rw [ne_comm]
  have fa : ∀ x, fastD h t ds M L x = fastD h t ds L M x := fun x => by
    unfold fastD fastSB
    rw [ne_comm]
  cases d with
  | tuple cs =>
    match cs with
    | [] => rfl
    | [a] => cases a <;> rfl
    | [a, b] =>
      cases a with
      | str wd =>
        show (decide (wd = "fast") && fastD h t ds M L b) = (decide (wd = "fast") && fastD h t ds L M b)
        rw [fa]
      | _ => rfl
    | [a, b, c] =>
      cases a with
      | str wd =>
        show (if wd = "low" then lowD h t ds M L b c else if wd = "high" then highD h t ds M L b c else false) = (if wd = "low" then lowD h t ds L M b c else if wd = "high" then highD h t ds L M b c else false)
        rw [lo, hi]
      | _ => rfl
    | a :: _ :: _ :: _ :: _ => cases a <;> rfl
  | _ => rfl
theorem bar_hide {Z : Addr → Bool} {H : Hp} {v : V} {x : BarV} (h : HL Z H) (w : BarAt H v x) : BarAt (hide Z H) v x := by
  have ne : ∀ {a : Addr} {xs : List V}, H a = some (.tup xs) → hide Z H a = some (.tup xs) := fun {a xs} e => by
    refine hide_at ?_ e
    cases z : Z a with
    | false => rfl
    | true =>
      obtain ⟨ys, ey⟩ := h a z
      rw [e] at ey
      cases ey
  cases x with
  | low s F =>
    obtain ⟨p, q, rfl, e1, e2⟩ := w
    exact ⟨p, q, rfl, ne e1, ne e2⟩
  | high s F =>
    obtain ⟨p, q, rfl, e1, e2⟩ := w
    exact ⟨p, q, rfl, ne e1, ne e2⟩
  | fast g =>
    obtain ⟨p, rfl, e1⟩ := w
    exact ⟨p, rfl, ne e1⟩
theorem bar_bd {c : Nat} {x : BarV} (o : BarOk c x) (c24 : c ≤ 24) : Bd 60 100 3 (barD x) := by
  cases x with
  | low s F =>
    obtain ⟨o1, o2⟩ := o
    refine ⟨(by show 3 ≤ 60; decide), fun e he => ?_⟩
    simp only [List.mem_cons, List.not_mem_nil, or_false] at he
    rcases he with rfl | rfl | rfl
    · exact bd_text "low" (by decide)
    · exact bdI (by omega) (by omega)
    · exact bd_ni (by have := o2.len; omega) fun i hi => by have := o2.lt i hi; omega
  | high s F =>
    obtain ⟨o1, o2⟩ := o
    refine ⟨(by show 3 ≤ 60; decide), fun e he => ?_⟩
    simp only [List.mem_cons, List.not_mem_nil, or_false] at he
    rcases he with rfl | rfl | rfl
    · exact bd_text "high" (by decide)
    · exact bdI (by omega) (by omega)
    · exact bd_ni (by have := o2.len; omega) fun i hi => by have := o2.lt i hi; omega
  | fast g =>
    have o1 : g < c := o
    refine ⟨(by show 2 ≤ 60; decide), fun e he => ?_⟩
    simp only [List.mem_cons, List.not_mem_nil, or_false] at he
    rcases he with rfl | rfl
    · exact bd_text "fast" (by decide)
    · exact bdI (by omega) (by omega)
theorem two_ways8 {h t : Int} {ds : List Int} {L M : List Nat} {H : Hp} {Qf : V → Hp → Prop} (d0 : 0 < ds.length) (w : ∀ (H5 : Hp) (u : V), Same H H5 → (u = .non ∨ ∃ bb, u ≠ .non ∧ BarAt H5 u bb ∧ BarOk ds.length bb ∧ bb.ok h t ds L M = true) → Qf u H5) :
    (¬ Rl h t ds L M → ∀ (H' : Hp) (u : V) (b : BarV), Same H H' → BarAt H' u b → IsFirst h t ds L M b → Qf u H') ∧ (Rl h t ds L M → ∀ H' : Hp, Same H H' → Qf .non H') :=
  ⟨fun _ H' u bb s x fi => w H' u s (.inr ⟨bb, (by
    cases bb with
    | low s F => obtain ⟨_, _, rfl, _⟩ := x; exact fun z => by cases z
    | high s F => obtain ⟨_, _, rfl, _⟩ := x; exact fun z => by cases z
    | fast g => obtain ⟨_, rfl, _⟩ := x; exact fun z => by cases z), x, (fi.ok d0).2, (fi.ok d0).1⟩), fun _ H' s => w H' .non s (.inl rfl)⟩
theorem seaD_of {K : PySem.W.Frag} {H : Hp} {v : V} {h t : Int} {ds : List Int} (s : SeaT K H v h t ds) : SeaD K H v h t ds := let ⟨p, q, e, a, b⟩ := s; ⟨p, q, e, .inr a, b⟩
def boxZ (b : Addr) : Addr → Bool := fun a => decide (a = b)
abbrev s__law_right : Stmt := topS 56
theorem sc__law_right : FnScope (["_law_box_here", "_law_turn", "_law_pool", "_law_lots", "_law_told", "_law_things", "_law_again", "_law_matter", "_law_kept", "_law_due_here", "_law_found"] : List Str) (["_law_box_here"] : List Str) (defScope s__law_right) := ⟨rfl, rfl, rfl, by decide +kernel, rfl, by decide +kernel, by decide +kernel⟩
theorem b__law_right (kV doc pm : Value) (an : Option Addr) (cdv ct : Value) (us : List Value) (hl : us.length = (["_law_box_here"] : List Str).length) : bindArgs (PySem.W.fnOf "_law_right" "_law_right" (defArgs s__law_right) (defBody s__law_right) (defScope s__law_right) .none kV doc pm an cdv ct) ⟨us, []⟩ = pure ((["_law_box_here"] : List Str).zip us) :=
  match us, hl with | [_], _ => rfl
section
variable {P : Program} {w : World} {K : PySem.W.Frag} {mg : Str → Option Value} {base : Heap}
set_option maxHeartbeats 16000000 in
theorem ok_right {k : Nat} (D : Df K mg "_law_right" s__law_right) (T : Bt mg) (O__law_sea : Ok P w K mg base k "_law_sea" s__law_sea ["_law_box_here", "_law_most"] spSea) (O__law_lot : Ok P w K mg base k "_law_lot" s__law_lot ["_law_box_here", "_law_count"] spLot)
    (O_bar_of : Ok P w K mg base k "bar_of" s_bar_of ["sea", "one", "other"] (spBarOf K)) (O_shows_bar : Ok P w K mg base k "shows_bar" s_shows_bar ["sea", "one", "other", "thing"] (spShows K)) (O__law_drawn : Ok P w K mg base k "_law_drawn" s__law_drawn ["_law_box_here", "_law_pool", "_law_lots"] (spDrawn K)) (O__law_bent : Ok P w K mg base k "_law_bent" s__law_bent ["_law_box_here", "_law_matter"] (spBent8 K))
    (O__law_due : Ok P w K mg base k "_law_due" s__law_due ["_law_pool", "_law_lots", "_law_matter"] (spDueB K)) (O__law_same : Ok P w K mg base k "_law_same" s__law_same ["_law_found", "_law_due_here"] (spSame K 3)) : OkG P w K mg base (k + 1) "_law_right" s__law_right ["_law_box_here"] spRight := by
  refine D.okG sc__law_right b__law_right (fun vs H Q E h => ?_) (fun f cdv A outer s H vs Q E hr hG h => ?_)
  · obtain ⟨b, rfl, _⟩ := h
    rfl
  · obtain ⟨b, rfl, hb, q⟩ := h
    refine ⟨_, (pss_cons (ps_for PassesOwn.never rfl (pi_range1 (by rfl) T.range_ (pa_cons pe_int pa_nil)) (pg_name (i := 1) sc__law_right.nd rfl (.inl rfl))
        (pss_cons (ps_set (i := 2) sc__law_right.nd rfl (.inl rfl) (pe_fn O__law_sea (hr.mono (by omega)) (pa_cons (pv 0) (pa_cons pe_int pa_nil))))
          (pss_cons (ps_set (i := 3) sc__law_right.nd rfl (.inl rfl) (pe_lst (pa_cons (pe_fn O__law_lot (hr.mono (by omega)) (pa_cons (pv 0) (pa_cons (pe_callB call_len_seq (by rfl) T.len_ PySem.boot_len (pa_cons (pe_ix ix_lt (pv 2) pe_int (fun _ _ => rfl)) pa_nil)) pa_nil))) (pa_cons (pe_fn O__law_lot (hr.mono (by omega)) (pa_cons (pv 0) (pa_cons (pe_callB call_len_seq (by rfl) T.len_ PySem.boot_len (pa_cons (pe_ix ix_lt (pv 2) pe_int (fun _ _ => rfl)) pa_nil)) pa_nil))) pa_nil))))
          (pss_cons (ps_par (i := 4) (j := 5) (by rfl) sc__law_right.nd rfl rfl (by decide) rfl rfl (pa_cons (pe_fn O_bar_of (hr.mono (by omega)) (pa_cons (pv 2) (pa_cons (pe_ix ix_lt (pv 3) pe_int (fun _ _ => rfl)) (pa_cons (pe_ix ix_lt (pv 3) pe_int (fun _ _ => rfl)) pa_nil)))) (pa_cons (pe_lst (pa_cons pe_non (pa_cons (pe_tup pa_nil) (pa_cons (pe_lst pa_nil) (pa_cons pe_int (pa_cons (pe_tup (pa_cons pe_str pa_nil)) (pa_cons (pe_tup (pa_cons pe_str (pa_cons pe_int pa_nil))) (pa_cons (pe_tup (pa_cons pe_str (pa_cons pe_int (pa_cons (pe_tup pa_nil) pa_nil)))) (pa_cons pe_str pa_nil))))))))) pa_nil)) (by rfl))
          (pss_cons (ps_for PassesOwn.never rfl (pi_range1 (by rfl) T.range_ (pa_cons pe_int pa_nil)) (pg_name (i := 6) sc__law_right.nd rfl (.inl rfl))
            (pss_cons (ps_set (i := 7) sc__law_right.nd rfl (.inl rfl) (pe_fn O__law_drawn (hr.mono (by omega)) (pa_cons (pv 0) (pa_cons (pv 2) (pa_cons (pv 3) pa_nil)))))
              (pss_one (ps_expr (pe_bm PySem.F.plainAttrs_list PySem.F.slot_list_extend PySem.F.type_list_extend mt_extend (pv 5) (pa_cons (pe_lst (pa_cons (pv 7) (pa_cons (pe_fn O__law_bent (hr.mono (by omega)) (pa_cons (pv 0) (pa_cons (pv 7) pa_nil))) pa_nil))) pa_nil))))))
          (Evl.pss_cut (ps_if (pt_cmpR op_notN (pv 4) pe_non (nomark _))
            (pss_one (ps_expr (pe_bm PySem.F.plainAttrs_list PySem.F.slot_list_extend PySem.F.type_list_extend mt_extend (pv 5) (pa_cons (pe_lst (pa_cons (pv 4) (pa_cons (pe_fn O__law_bent (hr.mono (by omega)) (pa_cons (pv 0) (pa_cons (pv 4) pa_nil))) (pa_cons (pe_fn O__law_bent (hr.mono (by omega)) (pa_cons (pv 0) (pa_cons (pv 4) pa_nil))) pa_nil)))) pa_nil))))
            pss_nil)
          (pss_cons (ps_for PassesOwn.never rfl (pi_seq (pv 5)) (pg_name (i := 7) sc__law_right.nd rfl (.inl rfl))
            (pss_cons (ps_par (i := 8) (j := 9) (by rfl) sc__law_right.nd rfl rfl (by decide) rfl rfl (pa_cons (pe_callB (cr_reprD hG (reprU hr)) (by rfl) T.repr_ (by decide +kernel) (pa_cons (pv 7) pa_nil)) (pa_cons (pe_fn O__law_due (hr.mono (by omega)) (pa_cons (pv 2) (pa_cons (pv 3) (pa_cons (pv 7) pa_nil)))) pa_nil)) (by rfl))
              (pss_cons (ps_set (i := 10) sc__law_right.nd rfl (.inl rfl) (pe_lst (pa_cons (pe_fn O_shows_bar (hr.mono (by omega)) (pa_cons (pv 2) (pa_cons (pe_ix ix_lt (pv 3) pe_int (fun _ _ => rfl)) (pa_cons (pe_ix ix_lt (pv 3) pe_int (fun _ _ => rfl)) (pa_cons (pv 7) pa_nil))))) (pa_cons (pe_fn O_shows_bar (hr.mono (by omega)) (pa_cons (pv 2) (pa_cons (pe_ix ix_lt (pv 3) pe_int (fun _ _ => rfl)) (pa_cons (pe_ix ix_lt (pv 3) pe_int (fun _ _ => rfl)) (pa_cons (pv 7) pa_nil))))) pa_nil))))
              (pss_one (ps_if (PW.pt (pw_or (pt_not (pt_val (pe_fn O__law_same (hr.mono (by omega)) (pa_cons (pv 10) (pa_cons (pe_lst (pa_cons (pv 9) (pa_cons (pv 9) pa_nil))) pa_nil))))) (pw_or1 (pt_cmpR op_ne (pe_callB (cr_reprD hG (reprU hr)) (by rfl) T.repr_ (by decide +kernel) (pa_cons (pv 7) pa_nil)) (pv 8) (nomark _)))))
                (pss_one (ps_ret pe_bl))
                pss_nil)))))
          (pss_one (ps_if (PW.pt (pw_and (pt_cmpR op_notN (pv 4) pe_non (nomark _)) (pw_and1 (pt_cmpR op_notBl (pe_fnK0 (ks := ["thing", "other", "one", "sea"]) [3, 2, 1, 0] O_shows_bar (hr.mono (by omega)) (fun _ _ _ _ _ _ ws hk => match ws, hk with | [_, _, _, _], _ => rfl) (pk_cons (pv 4) (pk_cons (pe_ix ix_lt (pv 3) pe_int (fun _ _ => rfl)) (pk_cons (pe_ix ix_lt (pv 3) pe_int (fun _ _ => rfl)) (pk_cons (pv 2) pk_nil))))) pe_bl (nomark _)))))
            (pss_one (ps_ret pe_bl))
            pss_nil)))))))))
      (pss_one (ps_ret pe_bl))), ?_⟩
    refine ⟨2, rfl, by decide, by decide, for_range (lo := 0) (n := 2) (fun i σ H' => ∃ (y1 y2 y3 y4 y5 y6 y7 y8 y9 y10 : Option V), σ = [some (.ref b), y1, y2, y3, y4, y5, y6, y7, y8, y9, y10] ∧ But b H H' ∧ BoxAt H' b (100000 - 40000 * i)) ⟨_, _, _, _, _, _, _, _, _, _, rfl, But.refl _ _, hb⟩ ?_ ?_⟩
    · rintro i σ Ha hi ⟨y1, y2, y3, y4, y5, y6, y7, y8, y9, y10, rfl, ua, xa⟩
      refine ⟨_, rfl, b, 99800 - 40000 * i, 7, rfl, by decide, by decide, xa.mono (by omega), fun H1 p q0 h t ds u1 x1 np nq ep eq so => ?_⟩
      have hv1 : SeaT K H1 (.ref p) h t ds := ⟨p, q0, rfl, SqT.of ep, SqT.of eq⟩
      have d7 : ds.length ≤ 7 := so.l1
      have d0 : 0 < ds.length := so.l0
      have d24 : ds.length ≤ 24 := by omega
      refine ⟨_, rfl, _, rfl, p, _, 2, .ref q0, rfl, rfl, SqA.t ep, rfl, q0, _, rfl, .inr (SqT.of eq), ?_⟩
      rw [List.length_map]
      refine ⟨b, 99700 - 40000 * i, ds.length, rfl, by omega, x1.mono (by omega), fun H2 pl L u2 x2 npl epl hL => ?_⟩
      have hv2 := hv1.but x1 u2
      refine ⟨_, rfl, _, rfl, p, _, 2, .ref q0, rfl, rfl, .inr (tup_but (SqT.of ep) x1 u2), rfl, q0, _, rfl, .inr (tup_but (SqT.of eq) x1 u2), ?_⟩
      rw [List.length_map]
      refine ⟨b, 99600 - 40000 * i, ds.length, rfl, by omega, x2.mono (by omega), fun H3 pm M u3 x3 npm epm hM => ?_⟩
      have hv3 := hv2.but x2 u3
      have hl3 : LotT K H3 (.ref pl) L := LotT.but ⟨pl, rfl, SqT.of epl⟩ x2 u3
      have hm3 : LotT K H3 (.ref pm) M := ⟨pm, rfl, SqT.of epm⟩
      refine ⟨(by show 2 ≤ sizeLine; decide), fun ll nll => ?_⟩
      have sll : Same H3 (upd H3 ll (.lst [.ref pl, .ref pm])) := same_new nll
      have ell : upd H3 ll (.lst [.ref pl, .ref pm]) ll = some (.lst [.ref pl, .ref pm]) := upd_same
      generalize upd H3 ll (.lst [.ref pl, .ref pm]) = H4 at sll ell
      have llb : ll ≠ b := (x3.ne nll).symm
      have x4 := x3.same sll
      have u4 := ((ua.trans u1).trans (u2.trans u3)).trans (Same.but (b := b) sll)
      have hv4 := hv3.same sll
      have hl4 := hl3.same sll
      have hm4 := hm3.same sll
      refine ⟨_, rfl, _, rfl, ll, _, 0, .ref pl, rfl, rfl, SqA.l ell, rfl, _, rfl, ll, _, 1, .ref pm, rfl, rfl, SqA.l ell, rfl, .ref p, .ref pl, .ref pm, h, t, ds, L, M, rfl, seaD_of hv4, hl4.a, hm4.a, d24, d0, hL, hM, And.comm.mp (two_ways8 d0 fun H5 u s5 tu => ?_)⟩
      refine ⟨Nat.zero_le _, fun a1 na1 => ?_⟩
      have sa1 : Same H5 (upd H5 a1 (.tup [])) := same_new na1
      have ea1 : upd H5 a1 (.tup []) a1 = some (.tup []) := upd_same
      generalize upd H5 a1 (.tup []) = G1 at sa1 ea1
      refine ⟨Nat.zero_le _, fun a2 na2 => ?_⟩
      have sa2 : Same G1 (upd G1 a2 (.lst [])) := same_new na2
      have ea2 : upd G1 a2 (.lst []) a2 = some (.lst []) := upd_same
      generalize upd G1 a2 (.lst []) = G2 at sa2 ea2
      refine ⟨(by show 1 ≤ sizeLine; decide), fun a3 na3 => ?_⟩
      have sa3 : Same G2 (upd G2 a3 (.tup [.str "low"])) := same_new na3
      have ea3 : upd G2 a3 (.tup [.str "low"]) a3 = some (.tup [.str "low"]) := upd_same
      generalize upd G2 a3 (.tup [.str "low"]) = G3 at sa3 ea3
      refine ⟨(by show 2 ≤ sizeLine; decide), fun a4 na4 => ?_⟩
      have sa4 : Same G3 (upd G3 a4 (.tup [.str "fast", .int 0])) := same_new na4
      have ea4 : upd G3 a4 (.tup [.str "fast", .int 0]) a4 = some (.tup [.str "fast", .int 0]) := upd_same
      generalize upd G3 a4 (.tup [.str "fast", .int 0]) = G4 at sa4 ea4
      refine ⟨Nat.zero_le _, fun a5 na5 => ?_⟩
      have sa5 : Same G4 (upd G4 a5 (.tup [])) := same_new na5
      have ea5 : upd G4 a5 (.tup []) a5 = some (.tup []) := upd_same
      generalize upd G4 a5 (.tup []) = G5 at sa5 ea5
      refine ⟨(by show 3 ≤ sizeLine; decide), fun a6 na6 => ?_⟩
      have sa6 : Same G5 (upd G5 a6 (.tup [.str "low", .int 0, .ref a5])) := same_new na6
      have ea6 : upd G5 a6 (.tup [.str "low", .int 0, .ref a5]) a6 = some (.tup [.str "low", .int 0, .ref a5]) := upd_same
      generalize upd G5 a6 (.tup [.str "low", .int 0, .ref a5]) = G6 at sa6 ea6
      refine ⟨(by show 8 ≤ sizeLine; decide), fun th nth => ?_⟩
      have s5a := sa1.trans (sa2.trans (sa3.trans (sa4.trans (sa5.trans sa6))))
      have x5 := x4.same s5
      have x6 := x5.same s5a
      have thb : th ≠ b := (x6.ne nth).symm
      have hL5 : HL (boxZ b) G6 := fun a z => by
        have := of_decide_eq_true z
        subst this
        obtain ⟨xs, ex, _⟩ := x6
        exact ⟨xs, ex⟩
      have zB : ∀ {a : Addr} {H' : Hp}, H' a = none → BoxAt H' b (99600 - 40000 * i) → boxZ b a = false := fun n x => decide_eq_false fun z => x.some (z ▸ n)
      have nbZ : boxZ b th = false := zB nth x6
      have als : DpAll K (hide (boxZ b) G6) [.non, .ref a1, .ref a2, .int 0, .ref a3, .ref a4, .ref a6, .str "low"] [.none, .tuple [], .list [], .int 0, .tuple [.str "low"], .tuple [.str "fast", .int 0], .tuple [.str "low", .int 0, .tuple []], .str "low"] := by
        have e1 := hide_at (zB na1 x5) ((sa2.trans (sa3.trans (sa4.trans (sa5.trans sa6)))) _ _ ea1)
        have e2 := hide_at (zB na2 (x5.same sa1)) ((sa3.trans (sa4.trans (sa5.trans sa6))) _ _ ea2)
        have e3 := hide_at (zB na3 (x5.same (sa1.trans sa2))) ((sa4.trans (sa5.trans sa6)) _ _ ea3)
        have e4 := hide_at (zB na4 (x5.same (sa1.trans (sa2.trans sa3)))) ((sa5.trans sa6) _ _ ea4)
        have e5 := hide_at (zB na5 (x5.same (sa1.trans (sa2.trans (sa3.trans sa4))))) (sa6 _ _ ea5)
        have e6 := hide_at (zB na6 (x5.same (sa1.trans (sa2.trans (sa3.trans (sa4.trans sa5)))))) ea6
        exact .cons .non (.cons (.tup (SqT.of e1) .nil) (.cons (.lst (SqL.of e2) .nil) (.cons (.int _) (.cons (.tup (SqT.of e3) (.cons (.str _) .nil)) (.cons (.tup (SqT.of e4) (.cons (.str _) (.cons (.int _) .nil))) (.cons (.tup (SqT.of e6) (.cons (.str _) (.cons (.int _) (.cons (.tup (SqT.of e5) .nil) .nil)))) (.cons (.str _) .nil)))))))
      have bds : ∀ e ∈ ([.none, .tuple [], .list [], .int 0, .tuple [.str "low"], .tuple [.str "fast", .int 0], .tuple [.str "low", .int 0, .tuple []], .str "low"] : List PyData), Bd 60 100 3 e := by
        have t0 : Bd 60 100 2 (.tuple []) := ⟨by decide, fun e he => by cases he⟩
        have l0 := bd_text (n := 60) (m := 2) (B := 100) "low" (by decide)
        have l1 := bd_text (n := 60) (m := 1) (B := 100) "low" (by decide)
        have f1 := bd_text (n := 60) (m := 1) (B := 100) "fast" (by decide)
        have i1 : Bd 60 100 2 (.int 0) := bdI (by decide) (by decide)
        intro e he
        simp only [List.mem_cons, List.not_mem_nil, or_false] at he
        rcases he with rfl | rfl | rfl | rfl | rfl | rfl | rfl | rfl
        · trivial
        · exact ⟨by decide, fun e he => by cases he⟩
        · exact ⟨by decide, fun e he => by cases he⟩
        · exact bdI (by decide) (by decide)
        · exact ⟨by decide, mem_one l1⟩
        · exact ⟨by decide, fun e he => by
            simp only [List.mem_cons, List.not_mem_nil, or_false] at he
            rcases he with rfl | rfl
            · exact f1
            · exact i1⟩
        · exact ⟨by decide, fun e he => by
            simp only [List.mem_cons, List.not_mem_nil, or_false] at he
            rcases he with rfl | rfl | rfl
            · exact l1
            · exact i1
            · exact t0⟩
        · exact l0
      have hS6 : Same (hide (boxZ b) G6) (hide (andZ (boxZ b) th) (upd G6 th (.lst [.non, .ref a1, .ref a2, .int 0, .ref a3, .ref a4, .ref a6, .str "low"]))) := (hide_more nth).trans (hide_of (same_new nth))
      have sth : Same G6 (upd G6 th (.lst [.non, .ref a1, .ref a2, .int 0, .ref a3, .ref a4, .ref a6, .str "low"])) := same_new nth
      have eth : upd G6 th (.lst [.non, .ref a1, .ref a2, .int 0, .ref a3, .ref a4, .ref a6, .str "low"]) th = some (.lst [.non, .ref a1, .ref a2, .int 0, .ref a3, .ref a4, .ref a6, .str "low"]) := upd_same
      generalize upd G6 th (.lst [.non, .ref a1, .ref a2, .int 0, .ref a3, .ref a4, .ref a6, .str "low"]) = G7 at hS6 sth eth
      have s57 := s5a.trans sth
      have s47 := s5.trans s57
      have al7 := DpAll.same hS6 als
      have x7 := x4.same s47
      have hL7 : HL (andZ (boxZ b) th) G7 := HL.more (hL5.same sth) eth
      have zb7 : andZ (boxZ b) th b = true := andZ_of (decide_eq_true rfl)
      obtain ⟨pv, qv, ev, f1, f2⟩ := id (hv4.same s47)
      have hv7 : SeaT K (hide (andZ (boxZ b) th) G7) (.ref p) h t ds := ⟨pv, qv, ev, sqT_hide hL7 f1, sqT_hide hL7 f2⟩
      have hl7 : LotT K (hide (andZ (boxZ b) th) G7) (.ref pl) L := by
        obtain ⟨a, e, z⟩ := id (hl4.same s47)
        exact ⟨a, e, sqT_hide hL7 z⟩
      have hm7 : LotT K (hide (andZ (boxZ b) th) G7) (.ref pm) M := by
        obtain ⟨a, e, z⟩ := id (hm4.same s47)
        exact ⟨a, e, sqT_hide hL7 z⟩
      have llt : ll ≠ th := ne_of_none ((s5.trans s5a) _ _ ell) nth
      have ell7 : hide (andZ (boxZ b) th) G7 ll = some (.lst [.ref pl, .ref pm]) := hide_at (by unfold andZ boxZ; rw [decide_eq_false llb, decide_eq_false llt]; rfl) (s47 _ _ ell)
      have tu7 : u = .non ∨ ∃ bb, u ≠ .non ∧ BarAt (hide (andZ (boxZ b) th) G7) u bb ∧ BarOk ds.length bb ∧ bb.ok h t ds L M = true := tu.imp id fun ⟨bb, nn, a, c, e⟩ => ⟨bb, nn, bar_hide hL7 (a.same s57), c, e⟩
      have nth0 : Ha th = none := by
        cases e : Ha th with
        | none => rfl
        | some o =>
          have e4 := (((u1.trans u2).trans u3).trans (Same.but (b := b) (sll.trans (s5.trans s5a)))) th o thb e
          rw [nth] at e4
          cases e4
      have uH : But b Ha G7 := (((u1.trans u2).trans u3).trans (Same.but (b := b) (sll.trans s47)))
      clear hS6 als hL5 s57 s47 s5a x6 x5 f1 f2 ev tu
      generalize hZt : andZ (boxZ b) th = Zt at *
      refine ⟨_, _, rfl, ?_⟩
      refine ⟨8, rfl, by decide, by decide, for_range (lo := 0) (n := 8) (fun j σ H' => ∃ (y6 y7 y8 y9 y10 : Option V) (xs : List V) (cs : List PyData), σ = [some (.ref b), some (.int (0 + (i : Int))), some (.ref p), some (.ref ll), some u, some (.ref th), y6, y7, y8, y9, y10] ∧ But b Ha H' ∧ BoxAt H' b (99600 - 40000 * i - 10 * j) ∧ Same (hide Zt G7) (hide Zt H') ∧ HL Zt H' ∧ H' th = some (.lst xs) ∧ DpAll K (hide Zt H') xs cs ∧ (∀ e ∈ cs, Bd 60 100 3 e) ∧ xs.length = 8 + 2 * j) ⟨_, _, _, _, _, _, _, rfl, uH, x7, Same.refl _, hL7, eth, al7, bds, rfl⟩ ?_ ?_⟩
      · rintro j σ Hb hj ⟨y6, y7, y8, y9, y10, xs, cs, rfl, ub, xb, sb, hLb, eb, alb, bdb, lxs⟩
        refine ⟨_, rfl, _, rfl, _, rfl, b, ll, 99596 - 40000 * i - 10 * j, .ref p, .ref pl, .ref pm, h, t, ds, L, M, rfl, xb.mono (by omega), (hv7.same sb).same hide_same, llb, hide_same _ _ (sb _ _ ell7), (hl7.same sb).same hide_same, (hm7.same sb).same hide_same, d24, d0, hL, hM, fun Hc z bz uc xc wz oz => ?_⟩
        have sc := hide_but zb7 uc
        have ec := uc _ _ thb eb
        have hLc := hLb.but uc xc
        replace uc := ub.trans uc
        have wzh := bar_hide hLc wz
        refine ⟨_, rfl, .inl ⟨rfl, _, SqL.of ec⟩, _, rfl, _, rfl, _, rfl, b, 99594 - 40000 * i - 10 * j, ds.length, Zt, z, bz, rfl, xc.mono (by omega), zb7, hLc, wzh, oz, d24, fun Hd v' d' ud xd dd bd => ?_⟩
        have sd := hide_but zb7 ud
        have ed := ud _ _ thb ec
        have hLd := hLc.but ud xd
        replace ud := uc.trans ud
        refine ⟨(by show 2 ≤ sizeLine; decide), fun l2 nl2 => ?_⟩
        have se : Same Hd (upd Hd l2 (.lst [z, v'])) := same_new nl2
        have el2 : upd Hd l2 (.lst [z, v']) l2 = some (.lst [z, v']) := upd_same
        generalize upd Hd l2 (.lst [z, v']) = He at se el2
        have lz : xs.length + 2 ≤ sizeLine := Nat.le_trans (show xs.length + 2 ≤ 100 by omega) (by decide)
        refine ⟨th, l2, _, _, rfl, rfl, se _ _ ed, el2, lz, ?_⟩
        have sA := sb.trans (sc.trans (sd.trans (hide_of (Z := Zt) se)))
        have sF : Same (hide Zt He) (hide Zt (upd He th (.lst (xs ++ [z, v'])))) := hide_but (by rw [← hZt]; exact andZ_self) But.ups
        refine ⟨_, _, _, _, _, _, cs ++ [barD bz, d'], rfl, (ud.trans (Same.but (b := b) se)).put nth0, ((xd.mono (by omega)).same se).at thb.symm, sA.trans sF, fun a za => ?_, upd_same, dpall_app (DpAll.same ((sc.trans (sd.trans (hide_of (Z := Zt) se))).trans sF) alb) (.cons ((wzh.same (sd.trans ((hide_of (Z := Zt) se).trans sF))).dp) (.cons (Dp.same ((hide_of (Z := Zt) se).trans sF) dd) .nil)), fun e he => ?_, ?_⟩
        · by_cases ea : a = th
          · rw [ea, upd_same]
            exact ⟨_, rfl⟩
          · rw [upd_ne ea]
            exact (hLd.same se) a za
        · rcases List.mem_append.mp he with he | he
          · exact bdb e he
          · simp only [List.mem_cons, List.not_mem_nil, or_false] at he
            rcases he with rfl | rfl
            · exact bar_bd oz d24
            · exact bd
        · rw [List.length_append, lxs]
          show 8 + 2 * j + 2 = _
          omega
      rintro σ H8 ⟨y6, y7, y8, y9, y10, xs, cs, rfl, u8, x8, s8, hL8, e8, al8, bd8, lxs⟩
      refine ⟨fun σ' H' => ∃ (y6 y7 y8 y9 y10 : Option V) (xs : List V) (cs : List PyData), σ' = [some (.ref b), some (.int (0 + (i : Int))), some (.ref p), some (.ref ll), some u, some (.ref th), y6, y7, y8, y9, y10] ∧ But b Ha H' ∧ BoxAt H' b (99500 - 40000 * i) ∧ Same (hide Zt G7) (hide Zt H') ∧ HL Zt H' ∧ H' th = some (.lst xs) ∧ DpAll K (hide Zt H') xs cs ∧ (∀ e ∈ cs, Bd 60 100 3 e), ?_, ?_⟩
      · rcases tu7 with rfl | ⟨bb, nn, wb, ob, kb⟩
        · refine ⟨_, rfl, rfl, _, rfl, ?_⟩
          rw [decide_eq_true rfl]
          exact iteF ⟨_, _, _, _, _, _, _, rfl, u8, x8.mono (by omega), s8, hL8, e8, al8, bd8⟩
        · refine ⟨_, rfl, rfl, _, rfl, ?_⟩
          rw [decide_eq_false nn]
          have wb8 := wb.same s8
          refine iteT ⟨_, rfl, .inl ⟨rfl, _, SqL.of e8⟩, _, rfl, _, rfl, _, rfl, b, 99516 - 40000 * i, ds.length, Zt, u, bb, rfl, x8.mono (by omega), zb7, hL8, wb8, ob, d24, fun Hc v1 d1 uc xc dd1 bd1 => ?_⟩
          have sc := hide_but zb7 uc
          have ec := uc _ _ thb e8
          have hLc := hL8.but uc xc
          replace uc := u8.trans uc
          refine ⟨_, rfl, _, rfl, b, 99510 - 40000 * i, ds.length, Zt, u, bb, rfl, xc.mono (by omega), zb7, hLc, wb8.same sc, ob, d24, fun Hd v2 d2 ud xd dd2 bd2 => ?_⟩
          have sd := hide_but zb7 ud
          have ed := ud _ _ thb ec
          have hLd := hLc.but ud xd
          replace ud := uc.trans ud
          refine ⟨(by show 3 ≤ sizeLine; decide), fun l2 nl2 => ?_⟩
          have se : Same Hd (upd Hd l2 (.lst [u, v1, v2])) := same_new nl2
          have el2 : upd Hd l2 (.lst [u, v1, v2]) l2 = some (.lst [u, v1, v2]) := upd_same
          generalize upd Hd l2 (.lst [u, v1, v2]) = He at se el2
          have lz : xs.length + 3 ≤ sizeLine := Nat.le_trans (show xs.length + 3 ≤ 100 by omega) (by decide)
          refine ⟨th, l2, _, _, rfl, rfl, se _ _ ed, el2, lz, ?_⟩
          have sF : Same (hide Zt He) (hide Zt (upd He th (.lst (xs ++ [u, v1, v2])))) := hide_but (by rw [← hZt]; exact andZ_self) But.ups
          have seF := (hide_of (Z := Zt) se).trans sF
          refine ⟨_, _, _, _, _, _, cs ++ [barD bb, d1, d2], rfl, (ud.trans (Same.but (b := b) se)).put nth0, ((xd.mono (by omega)).same se).at thb.symm, s8.trans (sc.trans (sd.trans seF)), fun a za => ?_, upd_same, dpall_app (DpAll.same (sc.trans (sd.trans seF)) al8) (.cons ((wb8.same (sc.trans (sd.trans seF))).dp) (.cons (Dp.same (sd.trans seF) dd1) (.cons (Dp.same seF dd2) .nil))), fun e he => ?_⟩
          · by_cases ea : a = th
            · rw [ea, upd_same]
              exact ⟨_, rfl⟩
            · rw [upd_ne ea]
              exact (hLd.same se) a za
          · rcases List.mem_append.mp he with he | he
            · exact bd8 e he
            · simp only [List.mem_cons, List.not_mem_nil, or_false] at he
              rcases he with rfl | rfl | rfl
              · exact bar_bd ob d24
              · exact bd1
              · exact bd2
      clear u8 x8 s8 hL8 e8 al8 bd8 lxs y6 y7 y8 y9 y10
      rintro σ H9 ⟨y6, y7, y8, y9, y10, xs, cs, rfl, u9, x9, s9, hL9, e9, al9, bd9⟩
      refine ⟨_, rfl, th, xs, H9, rfl, SqA.l e9, Kp.refl _ _, fun J hJ => ?_⟩
      obtain ⟨G, g, W⟩ := hJ.walk
      have lx := DpAll.len al9
      refine for_it W (fun j σ H' => ∃ (y7 y8 y9 y10 : Option V), σ = [some (.ref b), some (.int (0 + (i : Int))), some (.ref p), some (.ref ll), some u, some (.ref th), y6, y7, y8, y9, y10] ∧ Same H9 H') ⟨_, _, _, _, rfl, Same.refl _⟩ (fun i σ H' _ ⟨_, _, _, _, _, z⟩ => g H' (.ofS z)) ?_ ?_
      · rintro j v σ Hb Hb' hj ⟨y7, y8, y9, y10, rfl, sm⟩ ⟨rfl, gx⟩
        obtain ⟨d, gd, hd⟩ := DpAll.get al9 gx
        have bd := bd9 d (List.mem_of_getElem? gd)
        have dpv : ∀ {H' : Hp}, Same H9 H' → Dp K H' v d := fun s => Dp.same s (Dp.same hide_same hd)
        have fit := bd.fit (by decide)
        have fsz : d.shown.length ≤ sizeLine := Nat.le_trans fit.len (by decide)
        have fsh : SeqAt.shaped d = true := fit.shaped (by omega)
        have lv : Lv 3 d := bd.lv (by omega)
        have l60 : ∀ e f g, d = .tuple [e, f, .tuple g] → g.length ≤ 60 := fun e f g ed => by
          subst ed
          exact (bd.2 (.tuple g) (by simp)).1
        have sea9 : SeaT K H9 (.ref p) h t ds := (hv7.same s9).same hide_same
        have l9 : LotT K H9 (.ref pl) L := (hl7.same s9).same hide_same
        have m9 : LotT K H9 (.ref pm) M := (hm7.same s9).same hide_same
        have ell9 : H9 ll = some (.lst [.ref pl, .ref pm]) := hide_same _ _ (s9 _ _ ell7)
        refine ⟨_, rfl, v, d, rfl, dpv sm, fsh, fit.sh, fsz, ?_⟩
        generalize hT : PyData.shown d = txt
        refine ⟨_, rfl, _, rfl, _, rfl, 3, .ref p, .ref pl, .ref pm, v, ll, h, t, ds, L, M, d, rfl, sea9.same sm, SqL.of (sm _ _ ell9), l9.same sm, m9.same sm, d24, d0, hL, hM, dpv sm, lv, fsh, l60, fun Hc sc => ?_⟩
        have sc9 := sm.trans sc
        refine ⟨_, _, rfl, ?_⟩
        refine ⟨_, rfl, _, rfl, ll, _, 0, .ref pl, rfl, rfl, SqA.l (sc9 _ _ ell9), rfl, _, rfl, ll, _, 1, .ref pm, rfl, rfl, SqA.l (sc9 _ _ ell9), rfl, _, rfl, 3, .ref p, .ref pl, .ref pm, v, h, t, ds, L, M, d, rfl, (sea9.same sc9).a, (l9.same sc9).a, (m9.same sc9).a, d24, d0, hL, hM, dpv sc9, lv, fsh, fun Hd sd => ?_⟩
        have sd9 := sc9.trans sd
        refine ⟨_, rfl, _, rfl, ll, _, 1, .ref pm, rfl, rfl, SqA.l (sd9 _ _ ell9), rfl, _, rfl, ll, _, 0, .ref pl, rfl, rfl, SqA.l (sd9 _ _ ell9), rfl, _, rfl, 3, .ref p, .ref pm, .ref pl, v, h, t, ds, M, L, d, rfl, (sea9.same sd9).a, (m9.same sd9).a, (l9.same sd9).a, d24, d0, hM, hL, dpv sd9, lv, fsh, fun He se => ?_⟩
        have se9 := sd9.trans se
        rw [shows_symm (L := L) (M := M) d]
        refine ⟨(by show 2 ≤ sizeLine; decide), fun fl nfl => ?_⟩
        have sfl : Same He (upd He fl (.lst [.bl (showsD h t ds L M d), .bl (showsD h t ds L M d)])) := same_new nfl
        have efl : upd He fl (.lst [.bl (showsD h t ds L M d), .bl (showsD h t ds L M d)]) fl = some (.lst [.bl (showsD h t ds L M d), .bl (showsD h t ds L M d)]) := upd_same
        generalize upd He fl (.lst [.bl (showsD h t ds L M d), .bl (showsD h t ds L M d)]) = Hf at sfl efl
        refine ⟨_, rfl, _, rfl, _, rfl, (by show 2 ≤ sizeLine; decide), fun dl ndl => ?_⟩
        have sdl : Same Hf (upd Hf dl (.lst [.bl (showsD h t ds L M d), .bl (showsD h t ds L M d)])) := same_new ndl
        have edl : upd Hf dl (.lst [.bl (showsD h t ds L M d), .bl (showsD h t ds L M d)]) dl = some (.lst [.bl (showsD h t ds L M d), .bl (showsD h t ds L M d)]) := upd_same
        generalize upd Hf dl (.lst [.bl (showsD h t ds L M d), .bl (showsD h t ds L M d)]) = Hg at sdl edl
        refine ⟨.ref fl, .ref dl, .list [.bool (showsD h t ds L M d), .bool (showsD h t ds L M d)], rfl, .lst (SqL.of (sdl _ _ efl)) (.cons (.bl _) (.cons (.bl _) .nil)), .lst (SqL.of edl) (.cons (.bl _) (.cons (.bl _) .nil)), ⟨by show 2 ≤ 100000; decide, fun e he => ?_⟩, fun Hj sj => ?_⟩
        · have e2 : e = .bool (showsD h t ds L M d) := by simpa using he
          rw [e2]
          trivial
        have sj9 := se9.trans (sfl.trans (sdl.trans sj))
        refine ⟨true, rfl, iteF ?_⟩
        refine ⟨_, rfl, v, d, rfl, dpv sj9, fsh, fit.sh, fsz, ?_⟩
        rw [hT]
        refine ⟨_, rfl, rfl, _, rfl, iteNS rfl ?_⟩
        exact ⟨_, _, _, _, rfl, sj9⟩
      rintro σ Hz ⟨y7, y8, y9, y10, rfl, sz⟩
      have uz := u9.trans (Same.but (b := b) sz)
      have xz := x9.same sz
      rcases tu7 with rfl | ⟨bb, nn, wb, ob, kb⟩
      · refine ⟨_, rfl, rfl, _, rfl, ?_⟩
        rw [decide_eq_true rfl]
        exact iteF (iteF ⟨_, _, _, _, _, _, _, _, _, _, rfl, ua.trans uz, xz.mono (by omega)⟩)
      · refine ⟨_, rfl, rfl, _, rfl, ?_⟩
        rw [decide_eq_false nn]
        refine iteT ?_
        have ez : Hz ll = some (.lst [.ref pl, .ref pm]) := sz _ _ (hide_same _ _ (s9 _ _ ell7))
        have wbz := (wb.same s9).same (hide_same.trans sz)
        refine ⟨_, rfl, _, rfl, ll, _, 1, .ref pm, rfl, rfl, SqA.l ez, rfl, _, rfl, ll, _, 0, .ref pl, rfl, rfl, SqA.l ez, rfl, _, rfl, ⟨rfl, rfl⟩, 3, .ref p, .ref pl, .ref pm, u, h, t, ds, L, M, barD bb, rfl, (((hv7.same s9).same hide_same).same sz).a, (((hl7.same s9).same hide_same).same sz).a, (((hm7.same s9).same hide_same).same sz).a, d24, d0, hL, hM, wbz.dp, (bar_bd ob d24).lv (by omega), bar_shaped bb, fun Hy sy => ?_⟩
        rw [shows_ok ob, kb]
        exact ⟨true, true, rfl, rfl, _, rfl, iteF ⟨_, _, _, _, _, _, _, _, _, _, rfl, ua.trans (uz.trans (Same.but (b := b) sy)), (xz.same sy).mono (by omega)⟩⟩
    · rintro σ Hz ⟨y1, y2, y3, y4, y5, y6, y7, y8, y9, y10, rfl, uz, xz⟩
      exact q _ uz
end
end Sh

namespace Sh
open PySem PySem.Spec PyProof.Rows L2
/-! ### the law itself -/
def spLaw (K : PySem.W.Frag) : Sp := fun vs H Q _ => ∃ (a : Addr) (ns : List Int), vs = [.ref a] ∧ SqL K H a (ns.map V.int) ∧ ns.length ≤ 63 ∧ ∀ H', Q (.bl true) H'
abbrev s_law : Stmt := topS 57
theorem sc_law : FnScope (["_law_script", "_law_k"] : List Str) (["_law_script"] : List Str) (defScope s_law) := ⟨rfl, rfl, rfl, by decide +kernel, rfl, by decide +kernel, by decide +kernel⟩
theorem b_law (kV doc pm : Value) (an : Option Addr) (cdv ct : Value) (us : List Value) (hl : us.length = (["_law_script"] : List Str).length) : bindArgs (PySem.W.fnOf "law" "law" (defArgs s_law) (defBody s_law) (defScope s_law) .none kV doc pm an cdv ct) ⟨us, []⟩ = pure ((["_law_script"] : List Str).zip us) :=
  match us, hl with | [_], _ => rfl
section
variable {P : Program} {w : World} {K : PySem.W.Frag} {mg : Str → Option Value} {base : Heap}
theorem ok_law {k : Nat} (D : Df K mg "law" s_law) (T : Bt mg) (O__law_box : Ok P w K mg base k "_law_box" s__law_box ["_law_script", "_law_k"] (spBox K)) (O__law_right : OkG P w K mg base k "_law_right" s__law_right ["_law_box_here"] spRight) :
    OkG P w K mg base (k + 1) "law" s_law ["_law_script"] (spLaw K) := by
  refine D.okG sc_law b_law (fun vs H Q E h => ?_) (fun f cdv A outer s H vs Q E hr hG h => ?_)
  · obtain ⟨a, ns, rfl, _⟩ := h
    rfl
  · obtain ⟨a, ns, rfl, hS, hl, q⟩ := h
    refine ⟨_, (pss_one (ps_ret (pe_callB (cr_all rfl) (by rfl) T.all_ (by decide +kernel) (pa_cons (pe_lc (own := [("_law_k", 1)]) (g := (gName 1)) (tt := tYes) (by rfl) sc_law.nd (pi_range1 (by rfl) T.range_ (pa_cons (pe_op op_add pe_int (pe_callB (call_min2 rfl) (by rfl) T.min_ (by decide +kernel) (pa_cons pe_int (pa_cons (pe_callB call_len_seq (by rfl) T.len_ PySem.boot_len (pa_cons (pv 0) pa_nil)) pa_nil)))) pa_nil)) (blkOk_by (own := [("_law_k", 1)]) (N := (["_law_script", "_law_k"] : List Str)) (sc := defScope s_law) (by decide +kernel)) (fun _ _ _ _ _ => (pg_name (i := 1) sc_law.nd rfl (.inl rfl))) (fun _ _ _ _ _ => pts_nil) (fun _ _ _ _ _ => (pe_fnG O__law_right (hr.mono (by omega)) hG (pa_cons (pe_fn O__law_box (hr.mono (by omega)) (pa_cons (pv 0) (pa_cons (pv 1) pa_nil))) pa_nil)))) pa_nil)))), ?_⟩
    refine ⟨_, rfl, a, _, rfl, .inl hS, _, _, rfl, 1, _, rfl, rfl, _, rfl, ?_, ?_, fun C nC => ?_⟩
    · split <;> omega
    · rw [List.length_map]
      split <;> omega
    rw [List.length_map]
    generalize en : (1 + if (ns.length : Int) < 3 then (ns.length : Int) else 3).toNat = n
    have hn : n ≤ 4 := by
      rw [← en]
      split <;> omega
    refine lc_range (fun i H' => Same H H' ∧ H' C = some (.lst ((List.replicate i true).map V.bl))) ⟨same_new nC, upd_same⟩ ?_ ?_
    · rintro i H1 hi ⟨sm, hC⟩
      refine ⟨rfl, tyes (iteT ?_)⟩
      refine ⟨_, rfl, _, rfl, a, ns, i, ?_, by omega, sm.seq hS, fun b xs nb bx => ?_⟩
      · show [V.ref a, V.int (0 + (i : Int))] = _
        rw [Int.zero_add]
      refine ⟨b, rfl, (BoxAt.put bx).mono (by decide), fun H2 u2 => ?_⟩
      have nCb : C ≠ b := ne_of_none hC nb
      refine ⟨_, u2 _ _ nCb (by rw [upd_ne nCb]; exact hC), ?_, fun p o ho => ?_, ?_⟩
      · rw [List.length_map, List.length_replicate]
        exact small1000 (by omega)
      · have npb : p ≠ b := ne_of_none (sm _ _ ho) nb
        rw [upd_ne (ne_of_none ho nC)]
        exact u2 _ _ npb (by rw [upd_ne npb]; exact sm _ _ ho)
      · rw [upd_same, List.replicate_succ', List.map_append]
        rfl
    · rintro H1 ⟨sm, hC⟩
      refine ⟨C, _, rfl, SqL.of hC, ?_⟩
      have e : (List.replicate n true).all id = true := by simp
      rw [e]
      exact q _
theorem law_end {k : Nat} {fa : Addr} {sp : Sp} (D : Df K mg "law" s_law) (hfa : mg "law" = some (.ref fa)) (O : ∀ base, OkG P w K mg base k "law" s_law ["_law_script"] sp) :
    ∃ fd : FuncData, (∀ (s : Shared) (v : Value), BindsTo s fd ⟨[v], []⟩ [("_law_script", v)]) ∧ ∀ base : Heap, K.In base → base.Ns mainGlobals mg → FnG P w K mg base k fa fd ["_law_script"] sp := by
  obtain ⟨f, fd, F, g⟩ := D.ex
  obtain rfl : fa = f := by
    have e := hfa.symm.trans g
    cases e
    rfl
  refine ⟨fd, fun s v => ?_, fun base _ _ => ?_⟩
  · obtain ⟨oc, od, kV, doc, pm, an, cdv, ct, osl, rfl, lk, hcd⟩ := F.ex
    exact .of_eq (b_law kV doc pm an cdv ct [v] rfl)
  · obtain ⟨f', fd', F', g', _, G⟩ := (O base).ex
    obtain rfl : fa = f' := by
      have e := g.symm.trans g'
      cases e
      rfl
    obtain ⟨_, _, _, _, _, _, _, _, _, _, lk, _⟩ := F.ex
    obtain ⟨_, _, _, _, _, _, _, _, _, _, lk', _⟩ := F'.ex
    have e := lk.symm.trans lk'
    cases e
    exact G
theorem df_mk {x : Str} {st : Stmt} {h : Heap} {f : Addr} {oc : Value} {od an : Option Addr} {sl : Array (Option Value)} {kV dc pm cd ct : Value} (X : K.In h) (G : h.Ns mainGlobals mg)
    (a : PySem.W.nsIn K mainGlobals x = some (some (.ref f))) (l : K.lookup f = some ⟨oc, od, .func (PySem.W.fnOf x x (defArgs st) (defBody st) (defScope st) .none kV dc pm an cd ct), sl⟩)
    (c : PySem.W.codeIn K cd x = true) (k : PySem.W.keepIn K (.ref f) = true) : Df K mg x st := ⟨f, _, fun_mk l c k, PySem.W.mg_of X G a⟩
theorem with_df {R : Prop} {x : Str} {st : Stmt} {h : Heap} {f : Addr} {oc : Value} {od an : Option Addr} {sl : Array (Option Value)} {kV dc pm cd ct : Value} (X : K.In h) (G : h.Ns mainGlobals mg)
    (a : PySem.W.nsIn K mainGlobals x = some (some (.ref f))) (l : K.lookup f = some ⟨oc, od, .func (PySem.W.fnOf x x (defArgs st) (defBody st) (defScope st) .none kV dc pm an cd ct), sl⟩)
    (c : PySem.W.codeIn K cd x = true) (k : PySem.W.keepIn K (.ref f) = true) (r : Df K mg x st → R) : R := r (df_mk X G a l c k)
end
end Sh

open PySem PySem.W PyProof.Rows
set_option maxHeartbeats 0 in
theorem PySem.Challenge.cw_shoalmates_k08_bars_shown_or_not_holds : PySem.Challenge.rw_shoalmates_k08_bars_shown_or_not.Holds := by
  w_on; o_law; k_head; (case hw => w_witness2)
  k_fill
  refine Sh.walk_ofG (l := PySem.Challenge.rw_shoalmates_k08_bars_shown_or_not) (n := 63) (k := 10) (x := "_law_script") (sp := fun w => Sh.spLaw _) rfl (by decide) rfl ⟨rfl, by decide, by decide⟩ (fun w h Y => PySem.W.kIn_of Y) ?F (fun _ _ a ns hl _ hS => ⟨a, ns, rfl, hS, hl, fun _ => rfl⟩)
  case F =>
    intro w mg fa h KX G hmg
    have T : Sh.Bt mg := by
      constructor <;> (refine PySem.W.mg_none_of KX G ?_; k_is)
    refine' Sh.with_cn KX G ?a ?b ?c fun C => ?_
    (case a => k_is); (case b => k_is); (case c => k_is)
    refine' Sh.with_df (x := "is_number") (st := Sh.s_is_number) KX G ?a ?l ?c ?k fun D_is_number => ?_
    (case a => k_is); (case l => k_is); (case c => k_is); (case k => k_is)
    refine' Sh.with_df (x := "is_tuple_of") (st := Sh.s_is_tuple_of) KX G ?a ?l ?c ?k fun D_is_tuple_of => ?_
    (case a => k_is); (case l => k_is); (case c => k_is); (case k => k_is)
    refine' Sh.with_df (x := "are_rising") (st := Sh.s_are_rising) KX G ?a ?l ?c ?k fun D_are_rising => ?_
    (case a => k_is); (case l => k_is); (case c => k_is); (case k => k_is)
    refine' Sh.with_df (x := "mark_of") (st := Sh.s_mark_of) KX G ?a ?l ?c ?k fun D_mark_of => ?_
    (case a => k_is); (case l => k_is); (case c => k_is); (case k => k_is)
    refine' Sh.with_df (x := "top_of") (st := Sh.s_top_of) KX G ?a ?l ?c ?k fun D_top_of => ?_
    (case a => k_is); (case l => k_is); (case c => k_is); (case k => k_is)
    refine' Sh.with_df (x := "fleet_of") (st := Sh.s_fleet_of) KX G ?a ?l ?c ?k fun D_fleet_of => ?_
    (case a => k_is); (case l => k_is); (case c => k_is); (case k => k_is)
    refine' Sh.with_df (x := "turned_fleet") (st := Sh.s_turned_fleet) KX G ?a ?l ?c ?k fun D_turned_fleet => ?_
    (case a => k_is); (case l => k_is); (case c => k_is); (case k => k_is)
    refine' Sh.with_df (x := "ships_many") (st := Sh.s_ships_many) KX G ?a ?l ?c ?k fun D_ships_many => ?_
    (case a => k_is); (case l => k_is); (case c => k_is); (case k => k_is)
    refine' Sh.with_df (x := "mark_in") (st := Sh.s_mark_in) KX G ?a ?l ?c ?k fun D_mark_in => ?_
    (case a => k_is); (case l => k_is); (case c => k_is); (case k => k_is)
    refine' Sh.with_df (x := "top_in") (st := Sh.s_top_in) KX G ?a ?l ?c ?k fun D_top_in => ?_
    (case a => k_is); (case l => k_is); (case c => k_is); (case k => k_is)
    refine' Sh.with_df (x := "filled_at") (st := Sh.s_filled_at) KX G ?a ?l ?c ?k fun D_filled_at => ?_
    (case a => k_is); (case l => k_is); (case c => k_is); (case k => k_is)
    refine' Sh.with_df (x := "low_stop") (st := Sh.s_low_stop) KX G ?a ?l ?c ?k fun D_low_stop => ?_
    (case a => k_is); (case l => k_is); (case c => k_is); (case k => k_is)
    refine' Sh.with_df (x := "lot_of") (st := Sh.s_lot_of) KX G ?a ?l ?c ?k fun D_lot_of => ?_
    (case a => k_is); (case l => k_is); (case c => k_is); (case k => k_is)
    refine' Sh.with_df (x := "mark_at") (st := Sh.s_mark_at) KX G ?a ?l ?c ?k fun D_mark_at => ?_
    (case a => k_is); (case l => k_is); (case c => k_is); (case k => k_is)
    refine' Sh.with_df (x := "goers_at") (st := Sh.s_goers_at) KX G ?a ?l ?c ?k fun D_goers_at => ?_
    (case a => k_is); (case l => k_is); (case c => k_is); (case k => k_is)
    refine' Sh.with_df (x := "top_step") (st := Sh.s_top_step) KX G ?a ?l ?c ?k fun D_top_step => ?_
    (case a => k_is); (case l => k_is); (case c => k_is); (case k => k_is)
    refine' Sh.with_df (x := "comes_to") (st := Sh.s_comes_to) KX G ?a ?l ?c ?k fun D_comes_to => ?_
    (case a => k_is); (case l => k_is); (case c => k_is); (case k => k_is)
    refine' Sh.with_df (x := "fast_ones") (st := Sh.s_fast_ones) KX G ?a ?l ?c ?k fun D_fast_ones => ?_
    (case a => k_is); (case l => k_is); (case c => k_is); (case k => k_is)
    refine' Sh.with_df (x := "is_place") (st := Sh.s_is_place) KX G ?a ?l ?c ?k fun D_is_place => ?_
    (case a => k_is); (case l => k_is); (case c => k_is); (case k => k_is)
    refine' Sh.with_df (x := "is_standing") (st := Sh.s_is_standing) KX G ?a ?l ?c ?k fun D_is_standing => ?_
    (case a => k_is); (case l => k_is); (case c => k_is); (case k => k_is)
    refine' Sh.with_df (x := "filled") (st := Sh.s_filled) KX G ?a ?l ?c ?k fun D_filled => ?_
    (case a => k_is); (case l => k_is); (case c => k_is); (case k => k_is)
    refine' Sh.with_df (x := "emptied") (st := Sh.s_emptied) KX G ?a ?l ?c ?k fun D_emptied => ?_
    (case a => k_is); (case l => k_is); (case c => k_is); (case k => k_is)
    refine' Sh.with_df (x := "lies_under") (st := Sh.s_lies_under) KX G ?a ?l ?c ?k fun D_lies_under => ?_
    (case a => k_is); (case l => k_is); (case c => k_is); (case k => k_is)
    refine' Sh.with_df (x := "lies_above") (st := Sh.s_lies_above) KX G ?a ?l ?c ?k fun D_lies_above => ?_
    (case a => k_is); (case l => k_is); (case c => k_is); (case k => k_is)
    refine' Sh.with_df (x := "shows_low") (st := Sh.s_shows_low) KX G ?a ?l ?c ?k fun D_shows_low => ?_
    (case a => k_is); (case l => k_is); (case c => k_is); (case k => k_is)
    refine' Sh.with_df (x := "shows_high") (st := Sh.s_shows_high) KX G ?a ?l ?c ?k fun D_shows_high => ?_
    (case a => k_is); (case l => k_is); (case c => k_is); (case k => k_is)
    refine' Sh.with_df (x := "shows_fast") (st := Sh.s_shows_fast) KX G ?a ?l ?c ?k fun D_shows_fast => ?_
    (case a => k_is); (case l => k_is); (case c => k_is); (case k => k_is)
    refine' Sh.with_df (x := "shows_bar") (st := Sh.s_shows_bar) KX G ?a ?l ?c ?k fun D_shows_bar => ?_
    (case a => k_is); (case l => k_is); (case c => k_is); (case k => k_is)
    refine' Sh.with_df (x := "bars_round") (st := Sh.s_bars_round) KX G ?a ?l ?c ?k fun D_bars_round => ?_
    (case a => k_is); (case l => k_is); (case c => k_is); (case k => k_is)
    refine' Sh.with_df (x := "bar_of") (st := Sh.s_bar_of) KX G ?a ?l ?c ?k fun D_bar_of => ?_
    (case a => k_is); (case l => k_is); (case c => k_is); (case k => k_is)
    refine' Sh.with_df (x := "_law_cell_at") (st := Sh.s__law_cell_at) KX G ?a ?l ?c ?k fun D__law_cell_at => ?_
    (case a => k_is); (case l => k_is); (case c => k_is); (case k => k_is)
    refine' Sh.with_df (x := "_law_box") (st := Sh.s__law_box) KX G ?a ?l ?c ?k fun D__law_box => ?_
    (case a => k_is); (case l => k_is); (case c => k_is); (case k => k_is)
    refine' Sh.with_df (x := "_law_take") (st := Sh.s__law_take) KX G ?a ?l ?c ?k fun D__law_take => ?_
    (case a => k_is); (case l => k_is); (case c => k_is); (case k => k_is)
    refine' Sh.with_df (x := "_law_of") (st := Sh.s__law_of) KX G ?a ?l ?c ?k fun D__law_of => ?_
    (case a => k_is); (case l => k_is); (case c => k_is); (case k => k_is)
    refine' Sh.with_df (x := "_law_same") (st := Sh.s__law_same) KX G ?a ?l ?c ?k fun D__law_same => ?_
    (case a => k_is); (case l => k_is); (case c => k_is); (case k => k_is)
    refine' Sh.with_df (x := "_law_sea") (st := Sh.s__law_sea) KX G ?a ?l ?c ?k fun D__law_sea => ?_
    (case a => k_is); (case l => k_is); (case c => k_is); (case k => k_is)
    refine' Sh.with_df (x := "_law_lot") (st := Sh.s__law_lot) KX G ?a ?l ?c ?k fun D__law_lot => ?_
    (case a => k_is); (case l => k_is); (case c => k_is); (case k => k_is)
    refine' Sh.with_df (x := "_law_marks") (st := Sh.s__law_marks) KX G ?a ?l ?c ?k fun D__law_marks => ?_
    (case a => k_is); (case l => k_is); (case c => k_is); (case k => k_is)
    refine' Sh.with_df (x := "_law_goers") (st := Sh.s__law_goers) KX G ?a ?l ?c ?k fun D__law_goers => ?_
    (case a => k_is); (case l => k_is); (case c => k_is); (case k => k_is)
    refine' Sh.with_df (x := "_law_is_ship") (st := Sh.s__law_is_ship) KX G ?a ?l ?c ?k fun D__law_is_ship => ?_
    (case a => k_is); (case l => k_is); (case c => k_is); (case k => k_is)
    refine' Sh.with_df (x := "_law_is_lot") (st := Sh.s__law_is_lot) KX G ?a ?l ?c ?k fun D__law_is_lot => ?_
    (case a => k_is); (case l => k_is); (case c => k_is); (case k => k_is)
    refine' Sh.with_df (x := "_law_lies") (st := Sh.s__law_lies) KX G ?a ?l ?c ?k fun D__law_lies => ?_
    (case a => k_is); (case l => k_is); (case c => k_is); (case k => k_is)
    refine' Sh.with_df (x := "_law_due") (st := Sh.s__law_due) KX G ?a ?l ?c ?k fun D__law_due => ?_
    (case a => k_is); (case l => k_is); (case c => k_is); (case k => k_is)
    refine' Sh.with_df (x := "_law_drawn") (st := Sh.s__law_drawn) KX G ?a ?l ?c ?k fun D__law_drawn => ?_
    (case a => k_is); (case l => k_is); (case c => k_is); (case k => k_is)
    refine' Sh.with_df (x := "_law_bent") (st := Sh.s__law_bent) KX G ?a ?l ?c ?k fun D__law_bent => ?_
    (case a => k_is); (case l => k_is); (case c => k_is); (case k => k_is)
    refine' Sh.with_df (x := "_law_right") (st := Sh.s__law_right) KX G ?a ?l ?c ?k fun D__law_right => ?_
    (case a => k_is); (case l => k_is); (case c => k_is); (case k => k_is)
    refine' Sh.with_df (x := "law") (st := Sh.s_law) KX G ?a ?l ?c ?k fun D_law => ?_
    (case a => k_is); (case l => k_is); (case c => k_is); (case k => k_is)
    exact Sh.law_end D_law hmg fun base =>
      let O__law_take := Sh.ok_take (base := base) (k := 0) D__law_take T
      let O__law_cell_at := Sh.ok_cell_at (base := base) (k := 0) D__law_cell_at T
      let O__law_box := Sh.ok_box (k := 1) D__law_box T O__law_cell_at
      let O__law_of := Sh.ok_of (k := 1) D__law_of T O__law_take
      let O__law_sea := Sh.ok_sea (k := 2) D__law_sea T (O__law_take.mono (by decide)) O__law_of
      let O__law_lot := Sh.ok_lot (k := 2) D__law_lot T (O__law_take.mono (by decide)) O__law_of
      let O_mark_of := Sh.ok_mark_of (base := base) (k := 0) D_mark_of T
      let O_top_of := Sh.ok_top_of (base := base) (k := 0) D_top_of T
      let O_mark_at := Sh.ok_mark (k := 1) D_mark_at T O_mark_of
      let O_goers_at := Sh.ok_goers (k := 2) D_goers_at T O_mark_at
      let O_top_step := Sh.ok_top (k := 1) D_top_step T O_top_of
      let O_ships_many := Sh.ok_ships (base := base) (k := 0) D_ships_many T
      let O_mark_in := Sh.ok_mark_in (k := 1) D_mark_in T O_mark_of O_ships_many
      let O_top_in := Sh.ok_top_in (k := 1) D_top_in T O_top_of O_ships_many
      let O_filled_at := Sh.ok_filled (k := 2) D_filled_at T O_mark_in
      let O_low_stop := Sh.ok_low_stop (k := 3) D_low_stop T O_filled_at
      let O_turned_fleet := Sh.ok_turned_fleet (base := base) (k := 0) D_turned_fleet T
      let O_lot_of := Sh.ok_lot_of (k := 4) D_lot_of T C (O_ships_many.mono (by decide)) (O_top_in.mono (by decide)) O_low_stop (O_turned_fleet.mono (by decide))
      let O_fleet_of := Sh.ok_fleet_of (base := base) (k := 0) D_fleet_of T
      let O_fast_ones := Sh.ok_fast (base := base) (k := 0) D_fast_ones T
      let O_comes_to := Sh.ok_comes (k := 5) D_comes_to T O_lot_of (O_fleet_of.mono (by decide)) (O_mark_at.mono (by decide)) (O_fast_ones.mono (by decide))
      let Onu := Sh.ok_is_number (base := base) (k := 0) D_is_number T
      let Otu := Sh.ok_is_tuple (base := base) (k := 0) D_is_tuple_of T
      let Ori := Sh.ok_rising (base := base) (k := 0) D_are_rising T
      let Opl := Sh.ok_is_place (k := 1) D_is_place T Onu
      let Ost := Sh.ok_is_stand (k := 2) D_is_standing T Opl (Ori.mono (by decide))
      let Ofi := Sh.ok_filled_s (k := 3) D_filled T O_goers_at
      let Oem := Sh.ok_emptied_s (k := 3) D_emptied T O_goers_at
      let Oun := Sh.ok_under (k := 4) D_lies_under T Ofi
      let Oab := Sh.ok_above (k := 4) D_lies_above T Oem
      let Osl := Sh.ok_shows_low (k := 5) D_shows_low T (Opl.mono (by decide)) (Ost.mono (by decide)) (O_mark_at.mono (by decide)) (Ofi.mono (by decide)) Oun
      let Osh := Sh.ok_shows_high (k := 5) D_shows_high T (Opl.mono (by decide)) (Ost.mono (by decide)) (O_mark_at.mono (by decide)) (Oem.mono (by decide)) Oab
      let Osf := Sh.ok_shows_fast (k := 5) D_shows_fast T (Opl.mono (by decide)) (O_mark_at.mono (by decide)) (O_top_step.mono (by decide))
      let Osb := Sh.ok_shows_bar (k := 6) D_shows_bar T (Otu.mono (by decide)) Osf Osl Osh
      let Oro := Sh.ok_round (k := 5) D_bars_round T C O_lot_of (O_fleet_of.mono (by decide)) (Ofi.mono (by decide)) (Oem.mono (by decide)) (O_goers_at.mono (by decide))
      let Obo := Sh.ok_bar_of (k := 7) D_bar_of T (O_comes_to.mono (by decide)) (Oro.mono (by decide)) Osb
      let Oma := Sh.ok_lmarks (base := base) (k := 0) D__law_marks T
      let Ogo := Sh.ok_lgo (base := base) (k := 0) D__law_goers T
      let Ois := Sh.ok_is_ship (base := base) (k := 0) D__law_is_ship T
      let Oil := Sh.ok_is_lot (k := 1) D__law_is_lot T Ois
      let Oli := Sh.ok_lies (k := 1) D__law_lies T Ogo
      let Odu := Sh.ok_dueB (k := 2) D__law_due T (Oma.mono (by decide)) (Ogo.mono (by decide)) (Ois.mono (by decide)) Oil Oli
      let Odr := Sh.ok_drawn (k := 2) D__law_drawn T (O__law_take.mono (by decide)) O__law_of (Ogo.mono (by decide))
      let Obe := Sh.ok_bent8 (k := 2) D__law_bent T (O__law_take.mono (by decide)) O__law_of
      Sh.ok_law (k := 9) D_law T (O__law_box.mono (by decide)) (Sh.ok_right (k := 8) D__law_right T (O__law_sea.mono (by decide)) (O__law_lot.mono (by decide)) Obo (Osb.mono (by decide)) (Odr.mono (by decide)) (Obe.mono (by decide)) (Odu.mono (by decide)) ((Sh.ok_same D__law_same T 3).mono (by decide)))
