import PyProof.Rows.All
import Wide.All
import OpenK.AllK
import Wide.FinOn
import KE.GoesEnum
import HandS.ForMost
import HandS.Walk
import HandS.Zip
import HandS.IsInst
import HandS.NoneIn
import HandS.SortInts
import HandS.Evl
import HandS.Conv
import HandS.Style
import HandS.Star
import HandS.More
import HandS.Strs
import HandS.SetFor
import HandS.Wide
import PyProof.ReprRoads
import PyProof.ReprLen
import HandS.TupAny
import HandS.ExcOwn
import HandS.WordsExc
import HandS.ExcInit
import HandS.FStr
import HandS.ExcIs
import HandS.ExcField
import HandS.TryMany
import HandS.ExcValue
import KE.KExcIs
import KE.RegKTryMore
import KE.RegKIsAll
import PySem.Challenge.RW_shoalmates_k04_crossings_one_by_one
set_option Elab.async false
set_option linter.all false
set_option maxRecDepth 100000
set_option maxHeartbeats 1000000
/-! Own layer over the hand layer: sequences (a list or a tuple), enumerate of a tuple, defs by one fact each, what is told kept under a growing heap. -/
namespace Sh
open PySem PySem.Spec PyProof.Rows L2

/-! ### heaps -/
theorem same_new {H : Hp} {p : Addr} {o : HO} (h : H p = none) : Same H (upd H p o) := fun b x e => by
  rw [upd_ne (ne_of_none e h)]
  exact e
theorem Same.tup {K : PySem.W.Frag} {H H' : Hp} {a : Addr} {xs : List V} (e : Same H H') (h : SqT K H a xs) : SqT K H' a xs := by
  rcases h with (h | ⟨o, h⟩) | h
  · exact .inl (.inl (e _ _ h))
  · exact .inl (.inr ⟨o, e _ _ h⟩)
  · exact .inr h
/-- a list or a tuple of xs is to be read at a -/
def SqA (K : PySem.W.Frag) (H : Hp) (a : Addr) (xs : List V) : Prop := SqL K H a xs ∨ SqT K H a xs
theorem Same.sqA {K : PySem.W.Frag} {H H' : Hp} {a : Addr} {xs : List V} (e : Same H H') (h : SqA K H a xs) : SqA K H' a xs := h.elim (fun q => .inl (e.seq q)) fun q => .inr (Same.tup e q)
theorem SqA.l {K : PySem.W.Frag} {H : Hp} {a : Addr} {xs : List V} (h : H a = some (.lst xs)) : SqA K H a xs := .inl (SqL.of h)
theorem SqA.t {K : PySem.W.Frag} {H : Hp} {a : Addr} {xs : List V} (h : H a = some (.tup xs)) : SqA K H a xs := .inr (SqT.of h)
/-- nothing but b has changed of what was tracked -/
def But (b : Addr) (H H' : Hp) : Prop := ∀ a o, a ≠ b → H a = some o → H' a = some o
theorem But.refl (b : Addr) (H : Hp) : But b H H := fun _ _ _ e => e
theorem But.trans {b : Addr} {H H1 H2 : Hp} (x : But b H H1) (y : But b H1 H2) : But b H H2 := fun a o n e => y a o n (x a o n e)
theorem Same.but {b : Addr} {H H' : Hp} (e : Same H H') : But b H H' := fun a o _ h => e a o h
theorem But.ups {b : Addr} {H : Hp} {o : HO} : But b H (upd H b o) := fun a x n e => by rw [upd_ne n]; exact e
theorem But.same {b : Addr} {G H H' : Hp} (x : But b H H') (g : Same G H) (n : G b = none) : Same G H' := fun a o e => x a o (ne_of_none e n) (g a o e)

section
variable {K : PySem.W.Frag} {H H' : Hp}
mutual
theorem Dp.same (e : Same H H') : ∀ {v : V} {d : PyData}, Dp K H v d → Dp K H' v d
  | _, _, .non => .non
  | _, _, .bl b => .bl b
  | _, _, .int i => .int i
  | _, _, .str x => .str x
  | _, _, .lst h a => .lst (e.seq h) (DpAll.same e a)
  | _, _, .tup h a => .tup (Same.tup e h) (DpAll.same e a)
theorem DpAll.same (e : Same H H') : ∀ {vs : List V} {ds : List PyData}, DpAll K H vs ds → DpAll K H' vs ds
  | _, _, .nil => .nil
  | _, _, .cons h a => .cons (Dp.same e h) (DpAll.same e a)
end
theorem DpAll.ints : ∀ ns : List Int, DpAll K H (ns.map V.int) (ns.map PyData.int)
  | [] => .nil
  | n :: ns => .cons (.int n) (DpAll.ints ns)
theorem DpAll.len : ∀ {vs : List V} {ds : List PyData}, DpAll K H vs ds → vs.length = ds.length
  | _, _, .nil => rfl
  | _, _, .cons _ a => congrArg Nat.succ (DpAll.len a)
theorem DpAll.get : ∀ {vs : List V} {ds : List PyData} {i : Nat} {v : V}, DpAll K H vs ds → vs[i]? = some v → ∃ d, ds[i]? = some d ∧ Dp K H v d
  | _, _, _, _, .nil, h => by simp at h
  | _, _, 0, _, .cons x _, h => by
    cases Option.some.inj h
    exact ⟨_, rfl, x⟩
  | _, _, i + 1, _, .cons _ a, h => DpAll.get (i := i) a h
end

/-! ### rules for a list or a tuple -/
section
variable {X : Cx}
def rIxA (K : PySem.W.Frag) : R2 := fun x y H Q => ∃ p xs i v, x = .ref p ∧ y = .int i ∧ SqA K H p xs ∧ atI xs i = some v ∧ Q v H
theorem ix_lt : IxR X (rIxA X.K) := fun value slice pins s σ H x y v u Q I rx ry h hs => by
  obtain ⟨p, xs, i, z, e1, e2, hq | hq, he, q⟩ := h
  · exact ix_list value slice pins s σ H x y v u Q I rx ry ⟨p, xs, i, z, e1, e2, hq, he, q⟩ hs
  · exact ix_tup value slice pins s σ H x y v u Q I rx ry ⟨p, xs, i, z, e1, e2, hq, he, q⟩ hs
/-- a written power, its worth written -/
theorem op_powC (v : Int) : OpR X (binaryOp .Pow) (rI (fun i j => CPow i j ∧ i ^ j.toNat = v) fun _ _ => .int v) := fun pins s σ H x y u w Q I rx ry h => by
  obtain ⟨i, j, e1, e2, ⟨hc, hv⟩, q⟩ := h
  exact op_pow pins s σ H x y u w Q I rx ry ⟨i, j, e1, e2, hc, show Q (.int (i ^ j.toNat)) H by rw [hv]; exact q⟩
/-- a < b < c < d -/
def tChain3 (r r' r'' : R2) (ta tb tc td : TE) : TE := fun σ H Q => ta σ H fun x H1 => tb σ H1 fun y H2 => r x y H2 fun z H3 => ∃ k, z = .bl k ∧
  (if k = true then tc σ H3 fun y' H4 => r' y y' H4 fun z' H5 => ∃ k', z' = .bl k' ∧ (if k' = true then td σ H5 fun y'' H6 => r'' y' y'' H6 Q else Q (.bl false) H5) else Q (.bl false) H3)
theorem pe_chain3 {a b c d : Expr} {ta tb tc td : TE} {pos : Pos} {op op' op'' : CmpOp} {r r' r'' : R2} (ho : OpR X (compareOp op) r) (ho' : OpR X (compareOp op') r') (ho'' : OpR X (compareOp op'') r'') (ha : PE X a ta) (hb : PE X b tb) (hc : PE X c tc) (hd : PE X d td)
    (hm : lastMarks [op, op', op''] [b, c, d] = false := by with_unfolding_all rfl) : PE X (.Compare a [op, op', op''] [b, c, d] pos) (tChain3 r r' r'' ta tb tc td) := by
  refine ⟨fun pins s σ H Q I h => ?_⟩
  refine Compare_chain (thn (ha.run pins s σ H _ I h) fun v s1 ⟨x, H1, I1, r1, q1⟩ => chain_link (thn (hb.run pins s1 σ H1 _ I1 q1) fun u s2 ⟨y, H2, I2, r2, q2⟩ =>
    thn (ho pins s2 σ H2 x y v u _ I2 r1 r2 q2) fun e s3 ⟨z, H3, I3, r3, k, ez, q3⟩ => ?_)) hm
  subst ez
  cases r3
  refine wpAny_truthy_bool ?_
  cases k with
  | false => exact ite_ff ⟨.bl false, H3, I3, rfl, q3⟩
  | true =>
    refine ite_tt (chain_link (thn (hc.run pins s3 σ H3 _ I3 q3) fun u' s4 ⟨y', H4, I4, r4, q4⟩ => thn (ho' pins s4 σ H4 y y' u u' _ I4 r2 r4 q4) fun e s5 ⟨z', H5, I5, r5, k', ez', q5⟩ => ?_))
    subst ez'
    cases r5
    refine wpAny_truthy_bool ?_
    cases k' with
    | false => exact ite_ff ⟨.bl false, H5, I5, rfl, q5⟩
    | true => exact ite_tt (chain_last (thn (hd.run pins s5 σ H5 _ I5 q5) fun w' s6 ⟨y'', H6, I6, r6, q6⟩ => ho'' pins s6 σ H6 y' y'' u' w' Q I6 r4 r6 q6))
theorem pt_chain3 {a b c d : Expr} {ta tb tc td : TE} {pos : Pos} {op op' op'' : CmpOp} {r r' r'' : R2} (ho : OpR X (compareOp op) r) (ho' : OpR X (compareOp op') r') (ho'' : OpR X (compareOp op'') r'') (ha : PE X a ta) (hb : PE X b tb) (hc : PE X c tc) (hd : PE X d td)
    (hm : lastMarks [op, op', op''] [b, c, d] = false := by with_unfolding_all rfl) : PT X (.Compare a [op, op', op''] [b, c, d] pos) (tTest (tChain3 r r' r'' ta tb tc td)) := by
  refine ⟨fun pins s σ H Q I h => ?_⟩
  refine isTrue_chain (thn (ha.run pins s σ H _ I h) fun v s1 ⟨x, H1, I1, r1, q1⟩ => test_link (thn (hb.run pins s1 σ H1 _ I1 q1) fun u s2 ⟨y, H2, I2, r2, q2⟩ =>
    thn (ho pins s2 σ H2 x y v u _ I2 r1 r2 q2) fun e s3 ⟨z, H3, I3, r3, k, ez, q3⟩ => ?_)) hm
  subst ez
  cases r3
  refine wpAny_truthy_bool ?_
  cases k with
  | false =>
    obtain ⟨k', e', q'⟩ := q3
    cases e'
    exact ite_ff ⟨H3, I3, q'⟩
  | true =>
    refine ite_tt (test_link (thn (hc.run pins s3 σ H3 _ I3 q3) fun u' s4 ⟨y', H4, I4, r4, q4⟩ => thn (ho' pins s4 σ H4 y y' u u' _ I4 r2 r4 q4) fun e s5 ⟨z', H5, I5, r5, k', ez', q5⟩ => ?_))
    subst ez'
    cases r5
    refine wpAny_truthy_bool ?_
    cases k' with
    | false =>
      obtain ⟨k', e', q'⟩ := q5
      cases e'
      exact ite_ff ⟨H5, I5, q'⟩
    | true =>
      refine ite_tt (test_last (thn (hd.run pins s5 σ H5 _ I5 q5) fun w' s6 ⟨y'', H6, I6, r6, q6⟩ => thn (ho'' pins s6 σ H6 y' y'' u' w' _ I6 r4 r6 q6) fun e s7 ⟨z2, H7, I7, r7, k2, e2, q7⟩ => ?_))
      subst e2
      cases r7
      exact wpAny_truthy_bool ⟨H7, I7, q7⟩
/-- the same, the written part by its own name (within a comprehension) -/
theorem ix_ltK (K : PySem.W.Frag) (hK : X.K = K := by rfl) : IxR X (rIxA K) := hK ▸ ix_lt
theorem call_lenK (K : PySem.W.Frag) (hK : X.K = K := by rfl) : CallR X (.builtin "len") (fun xs H Q => ∃ p ys, xs = [.ref p] ∧ (SqL K H p ys ∨ SqT K H p ys) ∧ Q (.int ys.length) H) := hK ▸ call_len_seq
theorem op_inK (K : PySem.W.Frag) (hK : X.K = K := by rfl) : OpR X (compareOp .In) (rIn K false) := hK ▸ op_in_seq
theorem op_notInK (K : PySem.W.Frag) (hK : X.K = K := by rfl) : OpR X (compareOp .NotIn) (rIn K true) := hK ▸ op_notIn_seq
def gSeq (K : PySem.W.Frag) (n : Nat) (t : TGs) : TG := fun v σ H Q => ∃ a xs, v = .ref a ∧ SqA K H a xs ∧ xs.length = n ∧ t xs σ H Q
theorem pg_seq {es : List Expr} {k : Nat} {t : TGs} {n : Nat} {pos : Pos} (hc : X.calm = true) (h : PGs X es t)
    (hn : (assignEach es X.env).length = n := by rfl) (hst : (assignEach es X.env).findIdx? (·.1) = none := by rfl) : PG X (.Tuple es k pos) (gSeq X.K n t) := by
  refine ⟨fun pins s σ H v u Q I r hw => ?_⟩
  obtain ⟨a, xs, e1, hq | hq, hl, hw⟩ := hw
  · exact (pg_unl hc h hn hst).run pins s σ H v u Q I r ⟨a, xs, e1, hq, hl, hw⟩
  · exact (pg_tup hc h hn hst).run pins s σ H v u Q I r ⟨a, xs, e1, hq, hl, hw⟩
/-- what stands at a stands -/
def Kp (a : Addr) (H H' : Hp) : Prop := ∀ o, H a = some o → H' a = some o
theorem Kp.ofS {a : Addr} {H H' : Hp} (e : Same H H') : Kp a H H' := fun o h => e a o h
theorem Kp.ofB {a b : Addr} {H H' : Hp} (e : But b H H') (n : a ≠ b) : Kp a H H' := fun o h => e a o n h
theorem Kp.refl (a : Addr) (H : Hp) : Kp a H H := fun _ h => h
theorem Kp.sl {K : PySem.W.Frag} {a : Addr} {xs : List V} {H H' : Hp} (k : Kp a H H') (h : SqL K H a xs) : SqL K H' a xs := by
  rcases h with (h | ⟨o, h⟩) | h
  · exact .inl (.inl (k _ h))
  · exact .inl (.inr ⟨o, k _ h⟩)
  · exact .inr h
theorem Kp.st {K : PySem.W.Frag} {a : Addr} {xs : List V} {H H' : Hp} (k : Kp a H H') (h : SqT K H a xs) : SqT K H' a xs := by
  rcases h with (h | ⟨o, h⟩) | h
  · exact .inl (.inl (k _ h))
  · exact .inl (.inr ⟨o, k _ h⟩)
  · exact .inr h
theorem Kp.sa {K : PySem.W.Frag} {a : Addr} {xs : List V} {H H' : Hp} (k : Kp a H H') (h : SqA K H a xs) : SqA K H' a xs := h.elim (fun q => .inl (k.sl q)) fun q => .inr (k.st q)
/-- the walk over what stood at a in H0 -/
def ItA (K : PySem.W.Frag) (H0 : Hp) (a : Addr) (xs : List V) (J : It) : Prop := (J = Itl K a ∧ SqL K H0 a xs) ∨ (J = Itt K a ∧ SqT K H0 a xs)
def iSeq (K : PySem.W.Frag) (tl : TE) : TI := fun σ H R => tl σ H fun x H1 => ∃ (a : Addr) (xs : List V) (H0 : Hp), x = .ref a ∧ SqA K H0 a xs ∧ Kp a H0 H1 ∧ ∀ J, ItA K H0 a xs J → R J H1
theorem pi_seq {tg l : Expr} {tl : TE} (hl : PE X l tl) : PI X tg l (iSeq X.K tl) := by
  refine ⟨fun pins s σ H R I h => ?_⟩
  refine thn (hl.run pins s σ H _ I h) fun v s1 ⟨x, H1, I1, r1, q1⟩ => ?_
  obtain ⟨a, xs, H0, e, hq | hq, hk, q⟩ := q1
  · replace q := q _ (.inl ⟨rfl, hq⟩)
    replace hq := hk.sl hq
    subst e
    cases r1
    obtain ⟨its, rv, p, hz⟩ := I1.list hq
    refine wpAny_pyIter_list p.isList ?_
    refine ⟨s1.heap.objs.size, [s1.heap.objs.size], _, _, H1, rfl, I1.kept (t' := s1.toks) fun b o e => Heap.get?_push_of_some _ e, turn_list a _, ⟨_, Heap.get?_push_size _ rfl, rfl, rfl⟩, fun b hb => ?_, q⟩
    have e : b = s1.heap.objs.size := by simpa using hb
    subst e
    exact I1.fpOk (Nat.le_refl _) (I1.hok.fresh (Nat.le_refl _))
  · replace q := q _ (.inr ⟨rfl, hq⟩)
    replace hq := hk.st hq
    subst e
    cases r1
    obtain ⟨its, rv, p, hz⟩ := I1.tuple hq
    refine wpAny_pyIter_tuple (show s1.heap.IsTuple a its.toArray from p) ?_
    refine ⟨s1.heap.objs.size, [s1.heap.objs.size], _, _, H1, rfl, I1.kept (t' := s1.toks) fun b o e => Heap.get?_push_of_some _ e, turn_tuple a _, ⟨_, Heap.get?_push_size _ rfl, rfl, rfl⟩, fun b hb => ?_, q⟩
    have e : b = s1.heap.objs.size := by simpa using hb
    subst e
    exact I1.fpOk (Nat.le_refl _) (I1.hok.fresh (Nat.le_refl _))
end

theorem ItA.walk {K : PySem.W.Frag} {H0 : Hp} {a : Addr} {xs : List V} {J : It} (h : ItA K H0 a xs J) : ∃ G : Hp → Prop, (∀ H', Kp a H0 H' → G H') ∧ Walk J xs.length G (YAt xs) := by
  rcases h with ⟨rfl, q⟩ | ⟨rfl, q⟩
  · exact ⟨_, fun _ k => k.sl q, walk_list⟩
  · exact ⟨_, fun _ k => k.st q, walk_tup⟩

/-! ### enumerate of a tuple -/
set_option maxHeartbeats 1000000 in
theorem meets_enum1 {v : Value} {o : Obj} {H : Heap → Prop} (B : Begins v o H) :
    Meets (Builtin.«enumerate.__new__» ⟨[.type "enumerate", v], []⟩) (fun _ R s => H s.heap ∧
      R (.ok (.ret (.ref (s.heap.push o).objs.size))) { s with heap := (s.heap.push o).push { cls := .type "enumerate", data := .fields #[.none, .bool false, .ref s.heap.objs.size, rawInt 0, .none, .none] } }) :=
  .of_wp fun prog w A R s h => by
    obtain ⟨hp, g, d, tk, os⟩ := s; obtain ⟨h1, h⟩ := h
    have hsub := sub_enumerate
    have q1 : ∀ {A' : Around} {E : Value → Shared → Prop} {Q : Value → Shared → Prop}, Q (.ref hp.objs.size) ⟨hp.push o, g, d, tk, os⟩ → wpAny (model prog w) A' (pyIter v) Q E ⟨hp, g, d, tk, os⟩ :=
      fun q => B.iter prog w _ _ ⟨hp, g, d, tk, os⟩ _ h1 q
    wp_walk using q1
    refine wpAny_stack_any fun st => wpAny_pure ?_
    split
    · rename_i c _ _ _ _ _
      cases (c == Value.type "enumerate")
      · wp_walk using q1
        exact ⟨_, rfl, h⟩
      · wp_walk using q1
        exact ⟨_, rfl, h⟩
    · wp_walk using q1
      exact ⟨_, rfl, h⟩
section
variable {prog : Program} {w : World} {A : Around} {E : Value → Shared → Prop} {s : Shared}
theorem enum1_begins {v : Value} {o : Obj} {H : Heap → Prop} {Q : Value → Shared → Prop} (B : Begins v o H) (h1 : H s.heap)
    (h : ∀ h', IsEnum h' (s.heap.objs.size + 1) s.heap.objs.size 0 .none → h'.get? s.heap.objs.size = some o → h'.objs.size = s.heap.objs.size + 2 →
      (∀ b o, s.heap.get? b = some o → h'.get? b = some o) → Q (.ref (s.heap.objs.size + 1)) { s with heap := h' }) :
    wpAny (model prog w) A (call (.type "enumerate") [v]) Q E s := by
  refine callType_new F.called_enumerate (by decide) (F.typeCall_enumerate_1 _) (F.newCall_enumerate_1 _) (fun obj => F.args_object_init_2 obj _) F.entry_enumerate_new
    (meets_enum1 B) ⟨h1, ?_⟩
  have hz : (s.heap.push o).objs.size = s.heap.objs.size + 1 := Heap.size_push ..
  show _ ∧ _
  rw [hz]
  have he : IsEnum ((s.heap.push o).push { cls := .type "enumerate", data := .fields #[.none, .bool false, .ref s.heap.objs.size, rawInt 0, .none, .none] }) (s.heap.objs.size + 1) s.heap.objs.size 0 .none := by
    have := Heap.get?_push_size (s.heap.push o) (o := { cls := .type "enumerate", data := .fields #[.none, .bool false, .ref s.heap.objs.size, rawInt 0, .none, .none] }) rfl
    rw [hz] at this; exact this
  refine ⟨⟨_, he, rfl⟩, h _ he (Heap.get?_push_of_some _ (Heap.get?_push_size _ B.free)) (by rw [Heap.size_push, hz]) fun b o x => Heap.get?_push_of_some _ (Heap.get?_push_of_some _ x)⟩
end
/-- the tuple at a as it stands at each turn, each item in a new pair -/
def IteT (K : PySem.W.Frag) (a : Addr) : It :=
  ⟨fun i H => ∃ (xs : List V) (x : V), SqT K H a xs ∧ xs[i]? = some x, fun i H v H' => ∃ T x, v = .ref T ∧ H T = none ∧ H' = upd H T (.tup [.int (i : Nat), x]) ∧ ∀ xs, SqT K H a xs → xs[i]? = some x, fun i H => ∃ xs : List V, SqT K H a xs ∧ xs.length ≤ i⟩
end Sh

namespace Sh
open PySem PySem.Spec PyProof.Rows L2
section
variable {prog : Program} {w : World} {A : Around} {E : Value → Shared → Prop} {s : Shared}
theorem enum_endT {e it t : Addr} {n : Nat} {i : Int} {old : Value} {items : Array Value} {Q : Option Value → Shared → Prop} (hh : A.handled = none)
    (he : IsEnum s.heap e it i old) (hit : s.heap.IsTupleIter it t n) (ht : s.heap.IsTuple t items) (hx : items[n]? = none)
    (hQ : ∀ h', Heap.ExtBut it s.heap h' → Q none { s with heap := h' }) : wpAny (model prog w) A (pyNext (.ref e)) Q E s := by
  have hT : s.TypeIs (.ref e) "enumerate" := ⟨_, he, rfl⟩
  unfold pyNext
  refine wpAny_bind (wpAny_attempt (wpAny_callSpecial?_slot (name := Str.ofString "__next__") hT F.slot_enumerate_next
    (wpAny_call_entry F.slot_enumerate_next hT F.entry_enumerate_next ?_ (F.args_enumerate_next_1 _))))
  show wpAny _ _ (field (.ref e) 2 >>= _) _ _ _
  refine wpAny_bind (wpAny_field he rfl (x := .ref it) rfl ?_)
  refine wpAny_bind (wpAny_nextOf_tuple_end (show _ = none from hh) hit ht hx fun h' x he' hx' => ?_)
  obtain ⟨o, ho, hc⟩ := hx'
  refine wpAny_bind (wpAny_isInstance (T := "StopIteration") (b := true) ⟨o, ho, hc⟩ isSubtype_stop ?_)
  exact wpAny_pure (hQ _ he')
end
theorem turn_enumT {P : Program} {w : World} {K : PySem.W.Frag} {elts : List Expr} {kk : Nat} {tpos : Pos} (a e it : Addr) :
    Turn P w K (.Tuple elts kk tpos) (IteT K a) [e, it] e (fun i h => (∃ old, IsEnum h e it ((i : Nat) : Int) old) ∧ h.IsTupleIter it a i ∧ e ≠ it ∧ a ≠ it ∧ e ≠ a) where
  mem := by simp
  obj := fun i h st b hb => by
    obtain ⟨⟨old, he⟩, ⟨o, ho, hc, hd⟩, _⟩ := st
    have e' : b = e ∨ b = it := by simpa using hb
    rcases e' with z | z
    · rw [z]; exact ⟨_, he, fun v q => nomatch q⟩
    · rw [z]; exact ⟨o, ho, fun v q => by rw [hd] at q; cases q⟩
  keep := fun i h h' st k => let ⟨⟨old, he⟩, hi, hne⟩ := st; ⟨⟨old, k e (by simp) _ he⟩, hi.at fun o q => k it (by simp) o q, hne⟩
  item := by
    intro X hP hw hK hc i pins s σ H E I hf st hg
    subst hP hw hK
    obtain ⟨⟨old, he⟩, hit, hne, hai, hea⟩ := st
    obtain ⟨xs, x, hq, hx⟩ := hg
    obtain ⟨its, rv, p, hz⟩ := I.tuple hq
    obtain ⟨u, hu, ru⟩ := rv.get hx
    have hel : e < s.heap.objs.size := Heap.lt_size he
    have hil : it < s.heap.objs.size := by obtain ⟨_, q, _⟩ := hit; exact Heap.lt_size q
    have D := Draws.tuple (prog := X.prog) (w := X.w) (A := X.A.in1) (show X.A.in1.handled = none from I.ok.hd hc) it a hai its.toArray
    have hlt : i < its.toArray.size := by
      have q := (List.getElem?_eq_some_iff.mp hu).1
      simpa using q
    refine wpAny_pyNext_enum_itemC D he ⟨hit, p⟩ hlt hne (by simp [hne, hea]) fun u' h' tk hP ho hst' hT hsz hk => ?_
    have eu : u' = u := by
      have q : its.toArray[i]? = some u' := hP
      have q2 : its.toArray[i]? = some u := by simpa using hu
      exact Option.some.inj (q.symm.trans q2)
    subst eu
    obtain ⟨hit', _⟩ := hst'
    refine ⟨_, rfl, wpAny_letOwnedTupleGo_enum (s := { s with heap := h', toks := tk + 1 }) ho fun h'' he' sb => ?_⟩
    have hT2 : h''.get? s.heap.objs.size = some { cls := .type "tuple", data := .seq #[.int i tk, u'] } := (sb.2 _ (Nat.ne_of_gt hel)).trans hT
    have new : ObjOk X.prog X.w (upd H s.heap.objs.size (.tup [.int (i : Nat), x])) h'' s.heap.objs.size (.tup [.int (i : Nat), x]) :=
      ⟨by show 2 ≤ sizeLine; decide, [.int i tk, u'], .cons ⟨_, rfl⟩ (.cons ru .nil), ⟨_, hT2, rfl, _, rfl⟩⟩
    have I1 : Inv X pins σ (upd H s.heap.objs.size (.tup [.int (i : Nat), x])) { s with heap := h'', toks := tk + 1 } :=
      I.turnedNew (ch := [e, it]) (fun b ob hb q => (sb.2 b (fun z => hb (by simp [z]))).trans (hk b ob (fun z => hb (by simp [z])) (fun z => hb (by simp [z])) q)) hf (Nat.le_refl _) new
    refine ⟨.ref s.heap.objs.size, _, I1, rfl, ⟨_, x, rfl, I.hok.fresh (Nat.le_refl _), rfl, fun ys hy => by rw [I.tuple_inj hy hq]; exact hx⟩, ⟨⟨u', ?_⟩, hit'.at fun o q => (sb.2 it (Ne.symm hne)).trans q, hne, hai, hea⟩, fun b hb => ?_⟩
    · have e1 : ((i + 1 : Nat) : Int) = (i : Int) + 1 := by omega
      rw [e1]; exact he'
    · have hb' : b < s.heap.objs.size := by
        have e' : b = e ∨ b = it := by simpa using hb
        rcases e' with z | z
        · rw [z]; exact hel
        · rw [z]; exact hil
      rw [upd_ne (Nat.ne_of_lt hb')]
      exact (hf b hb).1
  done := by
    intro X hP hw hK hc i pins s σ H E I hf st hg
    subst hP hw hK
    obtain ⟨⟨old, he⟩, hit, hne, hai, hea⟩ := st
    obtain ⟨xs, hq, hx⟩ := hg
    obtain ⟨its, rv, p, hz⟩ := I.tuple hq
    obtain ⟨f0, f1, f2, f3, f4, f5⟩ := hf it (by simp)
    have hl := rv.length
    exact enum_endT (I.ok.hd hc) he hit p (by simp; omega) fun h' eb => ⟨rfl, I.turned (t' := s.toks) (fun b o hb q => eb b o hb q) f0 f1 f3 f4 f5⟩
  self := fun A i s Q E st h => let ⟨⟨_, he⟩, _⟩ := st; wpAny_pyIter_enum he h
def ItE (K : PySem.W.Frag) (H0 : Hp) (a : Addr) (xs : List V) (J : It) : Prop := (J = Ite K a ∧ SqL K H0 a xs) ∨ (J = IteT K a ∧ SqT K H0 a xs)
def iEnumA (K : PySem.W.Frag) (ta : TA) : TI := fun σ H R => ta σ H fun vs H1 => ∃ (a : Addr) (xs : List V) (H0 : Hp), vs = [.ref a] ∧ SqA K H0 a xs ∧ Kp a H0 H1 ∧ ∀ J, ItE K H0 a xs J → R J H1
theorem pi_enumA {X : Cx} {e : Expr} {ta : TA} {p pos tpos : Pos} {elts : List Expr} {kk : Nat} (hg : Gl X "enumerate") (hm : X.mg "enumerate" = none) (ha : PA X [e] ta) (hs : starEach [e] X.env = [(false, eval e X.env)] := by rfl) :
    PI X (.Tuple elts kk tpos) (.Call (.Name "enumerate" p) [e] [] pos) (iEnumA X.K ta) := by
  refine ⟨fun pins s σ H R I h => ?_⟩
  refine Call_ (ld_blt I hg hm boot_enumerate (PyProof.Rows.callWith_type1 (thn (ha.run pos pins s σ H _ I h) fun us s1 ⟨vs, H1, I1, r1, q1⟩ => ?_) hs rfl))
  obtain ⟨a, xs, H0, ex, hs0, hk, q1⟩ := q1
  subst ex
  cases r1 with
  | cons r rr =>
    cases rr
    cases r
    have fr : ∀ b ∈ [s1.heap.objs.size + 1, s1.heap.objs.size], FpOk X pins H1 b := fun b hb => by
      have e' : b = s1.heap.objs.size + 1 ∨ b = s1.heap.objs.size := by simpa using hb
      have hle : s1.heap.objs.size ≤ b := by
        rcases e' with z | z
        · rw [z]; exact Nat.le_add_right _ _
        · rw [z]; exact Nat.le_refl _
      exact I1.fpOk hle (I1.hok.fresh hle)
    rcases hs0 with hq | hq
    · have q := q1 _ (.inl ⟨rfl, hq⟩)
      replace hq := hk.sl hq
      obtain ⟨its, rv, p', hz⟩ := I1.list hq
      refine call_enumerate_list p'.isList fun h' he hit hsz hk => wpAny_pyIter_enum he ?_
      have I2 : Inv X pins σ H1 { s1 with heap := h' } := I1.kept (t' := s1.toks) hk
      exact ⟨s1.heap.objs.size + 1, [s1.heap.objs.size + 1, s1.heap.objs.size], _, _, H1, rfl, I2, turn_enum a (s1.heap.objs.size + 1) s1.heap.objs.size, ⟨⟨.none, he⟩, hit, Nat.succ_ne_self _⟩, fr, q⟩
    · have q := q1 _ (.inr ⟨rfl, hq⟩)
      replace hq := hk.st hq
      obtain ⟨its, rv, p', hz⟩ := I1.tuple hq
      have al : a < s1.heap.objs.size := by obtain ⟨_, q, _⟩ := id p'; exact Heap.lt_size q
      refine enum1_begins (begins_tuple a its.toArray) p' fun h' he hit hsz hk => wpAny_pyIter_enum he ?_
      have I2 : Inv X pins σ H1 { s1 with heap := h' } := I1.kept (t' := s1.toks) hk
      exact ⟨s1.heap.objs.size + 1, [s1.heap.objs.size + 1, s1.heap.objs.size], _, _, H1, rfl, I2, turn_enumT a (s1.heap.objs.size + 1) s1.heap.objs.size, ⟨⟨.none, he⟩, ⟨_, hit, rfl, rfl⟩, Nat.succ_ne_self _, Nat.ne_of_lt al, Nat.ne_of_gt (Nat.lt_succ_of_lt al)⟩, fr, q⟩
theorem walk_enumT {K : PySem.W.Frag} {a : Addr} {xs : List V} : Walk (IteT K a) xs.length (fun H => SqT K H a xs) (YPair (fun i => some (.int (i : Nat))) (fun i => xs[i]?)) := by
  refine ⟨fun i _ hi q => ⟨xs, xs[i], q, by simp [hi]⟩, fun _ q => ⟨xs, q, Nat.le_refl _⟩, fun i H v H' _ q y => ?_⟩
  obtain ⟨T, x, h1, h2, h3, h4⟩ := y
  exact ⟨T, .int (i : Nat), x, h1, h2, h3, rfl, h4 xs q⟩
theorem ItE.walk {K : PySem.W.Frag} {H0 : Hp} {a : Addr} {xs : List V} {J : It} (h : ItE K H0 a xs J) : ∃ G : Hp → Prop, (∀ H', Kp a H0 H' → G H') ∧ Walk J xs.length G (YPair (fun i => some (.int (i : Nat))) (fun i => xs[i]?)) := by
  rcases h with ⟨rfl, q⟩ | ⟨rfl, q⟩
  · exact ⟨_, fun _ k => k.sl q, walk_enum⟩
  · exact ⟨_, fun _ k => k.st q, walk_enumT⟩
theorem walk_zipT {K : PySem.W.Frag} {a b : Addr} {xs ys : List V} {n : Nat} (hn : n = min xs.length ys.length) : Walk (RZ.ItzT K a b) n (fun H => SqT K H a xs ∧ SqT K H b ys) (YPair (fun i => xs[i]?) (fun i => ys[i]?)) := by
  subst hn
  refine ⟨fun i _ hi q => ?_, fun _ q => ⟨xs, ys, q.1, q.2, by omega⟩, fun i H v H' _ q y => ?_⟩
  · have h1 : i < xs.length := by omega
    have h2 : i < ys.length := by omega
    exact ⟨xs, ys, xs[i], ys[i], q.1, q.2, by simp [h1], by simp [h2]⟩
  · obtain ⟨T, x, z, h1, h2, h3, h4, h5⟩ := y
    exact ⟨T, x, z, h1, h2, h3, h4 xs q.1, h5 ys q.2⟩
end Sh

namespace Sh
open PySem PySem.Spec PyProof.Rows L2
/-- a def of the top: where it stands, and the global name -/
structure Df (K : PySem.W.Frag) (mg : Str → Option Value) (x : Str) (st : Stmt) : Prop where
  ex : ∃ (f : Addr) (fd : FuncData), Fun K x x st f fd ∧ mg x = some (.ref f)
/-- it keeps its promise -/
structure Ok (P : Program) (w : World) (K : PySem.W.Frag) (mg : Str → Option Value) (base : Heap) (k : Nat) (x : Str) (st : Stmt) (ps : List Str) (sp : Sp) : Prop where
  ex : ∃ (f : Addr) (fd : FuncData), Fun K x x st f fd ∧ mg x = some (.ref f) ∧ Binds K fd ps [] ∧ FnOk P w K mg base CX0 k f fd ps sp
section
variable {P : Program} {w : World} {K : PySem.W.Frag} {mg : Str → Option Value} {base : Heap}
theorem Df.ok {x : Str} {st : Stmt} {N ps : List Str} {k : Nat} {sp : Sp} (D : Df K mg x st) (S : FnScope N ps (defScope st))
    (hb : ∀ (kV doc pm : Value) (an : Option Addr) (cdv ct : Value) (us : List Value), us.length = ps.length → bindArgs (PySem.W.fnOf x x (defArgs st) (defBody st) (defScope st) .none kV doc pm an cdv ct) ⟨us, []⟩ = pure (ps.zip us))
    (len : ∀ vs H Q E, sp vs H Q E → vs.length = ps.length)
    (hbody : ∀ (f : Addr) (cdv : Value) (A : Around) (outer : List Env) (s : Shared) (H : Hp) (vs : List V) (Q : VK) (E : XK), Room k (A.deeper (envOfC x (defScope st) s.heap.objs.size f cdv)) → sp vs H Q E →
      ∃ t, PSs (cxOf CX0 P w K mg base N x (defScope st) f cdv A outer s H E).nox (defBody st) t ∧ t { nx := fun _ H' => Q .non H', rt := Q } (start N vs) H) : Ok P w K mg base (k + 1) x st ps sp := by
  obtain ⟨f, fd, F, g⟩ := D.ex
  exact ⟨f, fd, F, g, F.binds hb, F.ok S len (fun cdv A outer s H vs Q E hr h => hbody f cdv A outer s H vs Q E hr h)⟩
theorem Ok.mono {x : Str} {st : Stmt} {ps : List Str} {j k : Nat} {sp : Sp} (O : Ok P w K mg base j x st ps sp) (h : j ≤ k) : Ok P w K mg base k x st ps sp := by
  obtain ⟨f, fd, F, g, b, G⟩ := O.ex
  exact ⟨f, fd, F, g, b, G.mono h⟩
theorem Ok.imp {x : Str} {st : Stmt} {ps : List Str} {k : Nat} {sp sp' : Sp} (O : Ok P w K mg base k x st ps sp) (h : ∀ vs H Q E, sp' vs H Q E → sp vs H Q E) : Ok P w K mg base k x st ps sp' := by
  obtain ⟨f, fd, F, g, b, G⟩ := O.ex
  exact ⟨f, fd, F, g, b, G.imp h⟩
end
/-- the values at the places js -/
def pk {α : Type} (js : List Nat) (l : List α) : List α := js.filterMap fun j => l[j]?
theorem vals_get : ∀ {vs : List V} {us : List Value} (j : Nat), Vals vs us → (vs[j]? = none ∧ us[j]? = none) ∨ ∃ v u, vs[j]? = some v ∧ us[j]? = some u ∧ RelV v u
  | _, _, _, .nil => .inl ⟨by simp, by simp⟩
  | _, _, 0, .cons r _ => .inr ⟨_, _, rfl, rfl, r⟩
  | _, _, j + 1, .cons _ t => by simpa using vals_get j t
theorem vals_app : ∀ {vs zs : List V} {us ws : List Value}, Vals vs us → Vals zs ws → Vals (vs ++ zs) (us ++ ws)
  | _, _, _, _, .nil, h => h
  | _, _, _, _, .cons r t, h => .cons r (vals_app t h)
theorem vals_pk {vs : List V} {us : List Value} (h : Vals vs us) : ∀ js : List Nat, Vals (pk js vs) (pk js us)
  | [] => .nil
  | j :: js => by
    unfold pk
    rcases vals_get j h with ⟨a, b⟩ | ⟨v, u, a, b, r⟩
    · rw [List.filterMap_cons_none a, List.filterMap_cons_none b]
      exact vals_pk h js
    · rw [List.filterMap_cons_some a, List.filterMap_cons_some b]
      exact .cons r (vals_pk h js)
section
variable {X : Cx} {k : Nat} {x : Str} {st : Stmt} {ps : List Str} {sp : Sp} {e : Expr} {es : List Expr} {t tk : TA} {p pos : Pos} {kws : List Keyword} {ks : List Str}
/-- f(e, ..) -/
theorem pe_fn (O : Ok X.prog X.w X.K X.mg X.base k x st ps sp) (hr : Room k X.A) (ha : PA X (e :: es) t) (hg : Gl X x := by rfl)
    (hdb : (x == ("__debug__" : Str)) = false := by decide) (he : starEach (e :: es) X.env = (false, eval e X.env) :: starEach es X.env := by rfl) (hpl : (backTo pos (starEach es X.env)).any (·.1) = false := by rfl) :
    PE X (.Call (.Name x p) (e :: es) [] pos) (tCall sp [] E0 t) := by
  obtain ⟨f, fd, F, g, b, G⟩ := O.ex
  exact pe_call G hr hg g F.kp b .nil pass0 ha hdb he hpl
/-- f(e, .., k = v, ..): the parameters are the places js of all that is handed in -/
def tCallJ (js : List Nat) (n : Nat) (sp : Sp) (t tk : TA) : TE := fun σ H Q => t σ H fun vs H1 => tk σ H1 fun zs H2 => (vs.length + zs.length = n ∧ zs.length = n - vs.length) ∧ sp (pk js (vs ++ zs)) H2 Q E0
theorem run_fnJ {pins : List (Addr × Obj)} {σ : L2.St} {H : Hp} {s : Shared} {Q : VK} {us ws : List Value} {vs zs : List V} {js : List Nat} {f : Addr} {fd : FuncData} (F : Fun X.K x x st f fd) (G : FnOk X.prog X.w X.K X.mg X.base CX0 k f fd ps sp) (hr : Room k X.A)
    (hb : ∀ (kV doc pm : Value) (an : Option Addr) (cdv ct : Value), bindArgs (PySem.W.fnOf x x (defArgs st) (defBody st) (defScope st) .none kV doc pm an cdv ct) ⟨us, ks.zip ws⟩ = pure (ps.zip (pk js (us ++ ws))))
    (I : Inv X pins σ H s) (r : Vals vs us) (rz : Vals zs ws) (h : sp (pk js (vs ++ zs)) H Q E0) : wpAny (model X.prog X.w) X.A (call (.ref f) us (ks.zip ws)) (EP X pins σ Q) X.xe s := by
  obtain ⟨oc, od, kV, doc, pm, an, cdv, ct, osl, rfl, lk, hcd⟩ := F.ex
  refine wpAny_call (codeAny_mono (G.run X.A X.stack s H ⟨us, ks.zip ws⟩ (pk js (us ++ ws)) (pk js (vs ++ zs)) Q E0 hr I.env0 (.of_eq (hb kV doc pm an cdv ct)) (vals_pk (vals_app r rz) js) h) fun r s' hq => ?_)
  cases r with
  | error e => exact pass0 pins σ H s e s' I hq
  | ok fl =>
    cases fl with
    | ret u => exact I.after hq
    | next => exact False.elim hq
    | brk => exact False.elim hq
    | cont => exact False.elim hq
/-- f(k = v, ..) -/
theorem pe_fnK0 (js : List Nat) (O : Ok X.prog X.w X.K X.mg X.base k x st ps sp) (hr : Room k X.A)
    (hb : ∀ (kV doc pm : Value) (an : Option Addr) (cdv ct : Value) (ws : List Value), ws.length = ks.length → bindArgs (PySem.W.fnOf x x (defArgs st) (defBody st) (defScope st) .none kV doc pm an cdv ct) ⟨[], ks.zip ws⟩ = pure (ps.zip (pk js ws)))
    (hkw : PK X kws tk) (hg : Gl X x := by rfl) (hall : (backToKw pos (keywordEach kws X.env)).all (·.1.isSome) = true := by rfl) (hks : (backToKw pos (keywordEach kws X.env)).filterMap (·.1) = ks := by rfl) (hdb : (x == ("__debug__" : Str)) = false := by decide)
    (hpl : ((backTo pos (starEach [] X.env)).any (·.1) || (backToKw pos (keywordEach kws X.env)).any (·.1.isNone)) = false := by rfl) :
    PE X (.Call (.Name x p) [] kws pos) (tCallJ js ks.length sp tNil tk) := by
  obtain ⟨f, fd, F, g, b, G⟩ := O.ex
  refine ⟨fun pins s σ H Q I h => ?_⟩
  refine wpAny_Call_Name_kw (ld_glob I hg g ?_ hdb)
  refine PySem.W.callWith_KW0 (h₀ := X.base) I.ok.mod.kin F.kp hall ?_ hpl
  refine thn (hkw.run pos pins s σ H _ I h) fun ws s2 ⟨zs, H2, I2, rz, l2, q2⟩ => ⟨I2.kIn, ?_⟩
  rw [hks]
  exact run_fnJ (us := []) (vs := []) (js := js) F G hr (fun kV doc pm an cdv ct => hb kV doc pm an cdv ct ws (rz.length.symm.trans l2.2)) I2 .nil rz q2
/-- f(e, .., k = v, ..), n positional ones -/
theorem pe_fnK (js : List Nat) (n : Nat) (O : Ok X.prog X.w X.K X.mg X.base k x st ps sp) (hr : Room k X.A)
    (hb : ∀ (kV doc pm : Value) (an : Option Addr) (cdv ct : Value) (us ws : List Value), us.length = n → ws.length = ks.length → bindArgs (PySem.W.fnOf x x (defArgs st) (defBody st) (defScope st) .none kV doc pm an cdv ct) ⟨us, ks.zip ws⟩ = pure (ps.zip (pk js (us ++ ws))))
    (ha : PA X (e :: es) t) (hkw : PK X kws tk) (hg : Gl X x := by rfl) (hall : (backToKw pos (keywordEach kws X.env)).all (·.1.isSome) = true := by rfl) (hks : (backToKw pos (keywordEach kws X.env)).filterMap (·.1) = ks := by rfl)
    (hdb : (x == ("__debug__" : Str)) = false := by decide) (he : starEach (e :: es) X.env = (false, eval e X.env) :: starEach es X.env := by rfl)
    (hpl : ((backTo pos (starEach (e :: es) X.env)).any (·.1) || (backToKw pos (keywordEach kws X.env)).any (·.1.isNone)) = false := by rfl) :
    PE X (.Call (.Name x p) (e :: es) kws pos) (fun σ H Q => t σ H fun vs H1 => tk σ H1 fun zs H2 => (vs.length = n ∧ zs.length = ks.length) ∧ sp (pk js (vs ++ zs)) H2 Q E0) := by
  obtain ⟨f, fd, F, g, b, G⟩ := O.ex
  refine ⟨fun pins s σ H Q I h => ?_⟩
  refine wpAny_Call_Name_kw (ld_glob I hg g ?_ hdb)
  refine PySem.W.callWith_KW (h₀ := X.base) I.ok.mod.kin F.kp hall (thn (ha.run pos pins s σ H _ I h) fun us s1 ⟨vs, H1, I1, r, q⟩ => ?_) hpl he
  refine thn (hkw.run pos pins s1 σ H1 _ I1 q) fun ws s2 ⟨zs, H2, I2, rz, ⟨l1, l2⟩, q2⟩ => ⟨I2.kIn, ?_⟩
  rw [hks]
  exact run_fnJ (js := js) F G hr (fun kV doc pm an cdv ct => hb kV doc pm an cdv ct us ws (r.length.symm.trans l1) (rz.length.symm.trans l2)) I2 r rz q2
end
theorem tyes {σ : L2.St} {H : Hp} {Q : Bool → Hp → Prop} (h : Q true H) : tYes σ H Q := h
/-! ### xs[a:b:c] -/
def pickV (xs : List V) (lo hi st : Option Int) : List V := pk (sliceRange (sliceBounds lo hi st xs.length).1 (sliceBounds lo hi st xs.length).2.1 (sliceBounds lo hi st xs.length).2.2) xs
theorem pick_vals {xs : List V} {us : List Value} (r : Vals xs us) (lo hi st : Option Int) : Vals (pickV xs lo hi st) (slicePick us.toArray lo hi st).toList := by
  have e := vals_pk r (sliceRange (sliceBounds lo hi st xs.length).1 (sliceBounds lo hi st xs.length).2.1 (sliceBounds lo hi st xs.length).2.2)
  have e2 : (slicePick us.toArray lo hi st).toList = pk (sliceRange (sliceBounds lo hi st xs.length).1 (sliceBounds lo hi st xs.length).2.1 (sliceBounds lo hi st xs.length).2.2) us := by
    unfold slicePick pk
    rw [List.size_toArray, ← r.length]
    simp
  rw [e2]
  exact e
section
variable {X : Cx}
def tStep (K : PySem.W.Frag) (te : TE) (tl th ts : TO) : TE := fun σ H Q => te σ H fun x H1 => tl σ H1 fun l H2 => th σ H2 fun u H3 => ts σ H3 fun o H4 => ∃ a xs, x = .ref a ∧ SqL K H4 a xs ∧ o ≠ some 0 ∧ (pickV xs l u o).length ≤ sizeLine ∧ ∀ p, H4 p = none → Q (.ref p) (upd H4 p (.lst (pickV xs l u o)))
theorem pe_step {e st : Expr} {lo hi : Option Expr} {te : TE} {tl th ts : TO} {p3 pos : Pos} (he : PE X e te) (hlo : PO X lo tl) (hhi : PO X hi th) (hst : PO X (some st) ts) : PE X (.Subscript e (.Slice lo hi (some st) p3) pos) (tStep X.K te tl th ts) := by
  refine ⟨fun pins s σ H Q I h => ?_⟩
  refine Subscript_ (thn (he.run pins s σ H _ I h) fun v s1 ⟨x, H1, I1, r1, q1⟩ => ?_)
  refine wpAny_Slice (thn (hlo.run pins s1 σ H1 _ I1 q1) fun vl s2 ⟨l, H2, I2, pl, q2⟩ => ?_)
  refine thn (hhi.run pins s2 σ H2 _ I2 q2) fun vu s3 ⟨u, H3, I3, pu, q3⟩ => ?_
  refine thn (hst.run pins s3 σ H3 _ I3 q3) fun vs s4 ⟨o, H4, I4, ps, q4⟩ => ?_
  obtain ⟨a, xs, ex, hx, h0, hz2, q⟩ := q4
  subst ex
  cases r1
  have I5 : Inv X pins σ H4 { s4 with heap := s4.heap.push { cls := .type "slice", data := .fields #[vl, vu, vs] } } := I4.kept (t' := s4.toks) fun b ob q => Heap.get?_push_of_some _ q
  obtain ⟨its, r, ht, hz⟩ := I5.list hx
  have hlen := r.length
  show wpAny (model X.prog X.w) X.A (subscriptTail e (.Slice lo hi (some st) p3) (.ref a) (.ref s4.heap.objs.size)) (EP X pins σ Q) X.xe { s4 with heap := s4.heap.push { cls := .type "slice", data := .fields #[vl, vu, vs] } }
  refine tail_any (ops := [.ref a, .ref s4.heap.objs.size]) ht.isList.typeIs (PySem.slot_list_getitem.lookup) ?_ (by with_unfolding_all rfl)
  refine wpAny_getItem_list_slice ht.isList (Heap.IsSliceOf.new _ vl vu vs) pl pu ps h0 ?_ (by rw [List.size_toArray]; omega)
  refine ⟨.ref _, _, I5.laid (t' := s4.toks) (o := .lst (pickV xs l u o)) (fun b ob q => Heap.get?_push_of_some _ q) (Nat.le_refl _) ?_, rfl, q _ (I5.hok.fresh (Nat.le_refl _))⟩
  exact ⟨hz2, (slicePick its.toArray l u o).toList, 0, pick_vals r l u o, Heap.get?_push_size _ rfl⟩
end
/-! ### set(t) of a tuple of ints, as a thing that stands -/
def rSetT (K : PySem.W.Frag) (w : World) : List V → Hp → VK → Prop := fun xs H Q => ∃ (q : Addr) (ns : List Int), xs = [.ref q] ∧ SqT K H q (ns.map V.int) ∧ ns.length ≤ 1000 ∧ ∀ (a : Addr) (c : Nat), H a = none → c ≤ ns.length → Q (.ref a) (upd H a (SetO w a (fun j => decide (j ∈ ns)) c))
theorem cr_setT {X : Cx} (hc : X.calm = true) : CallR X (.type "set") (rSetT X.K X.w) := by
  intro pins s σ H xs us Q I r h
  obtain ⟨q, ns, rfl, hq, hl, k⟩ := h
  rw [Vals.ref1 r]
  obtain ⟨its, rv, pt, hz⟩ := I.tuple hq
  have hi : IntsAre its.toArray.toList ns := ints_of_vals rv
  refine call_set_tupI ns (I.ok.hd hc) (show s.heap.IsTuple q its.toArray from pt) hi (by unfold scanBound; omega) fun h' tk c R1 hcn kk => ?_
  exact ⟨.ref _, upd H s.heap.objs.size (SetO X.w s.heap.objs.size _ c), I.laid (t' := tk) kk (Nat.le_refl _) (setO_new R1), rfl, k _ _ (I.hok.fresh (Nat.le_refl _)) hcn⟩
theorem cr_setTw {X : Cx} (w : World) (hc : X.calm = true) (hw : X.w = w := by rfl) : CallR X (.type "set") (rSetT X.K w) := hw ▸ cr_setT hc
theorem cr_sortedSetw {X : Cx} (w : World) (hc : X.calm = true) (hw : X.w = w := by rfl) : CallR X (.builtin "sorted") (rSortedSet w) := hw ▸ cr_sortedSet hc
/-- names of Python's own that the top leaves alone -/
structure Bt (mg : Str → Option Value) : Prop where
  len_ : mg "len" = none
  range_ : mg "range" = none
  abs_ : mg "abs" = none
  int_ : mg "int" = none
  min_ : mg "min" = none
  max_ : mg "max" = none
  list_ : mg "list" = none
  tuple_ : mg "tuple" = none
  all_ : mg "all" = none
  any_ : mg "any" = none
  sorted_ : mg "sorted" = none
  sum_ : mg "sum" = none
  repr_ : mg "repr" = none
  zip_ : mg "zip" = none
  enumerate_ : mg "enumerate" = none
  isinstance_ : mg "isinstance" = none
  reversed_ : mg "reversed" = none
  str_ : mg "str" = none
  bool_ : mg "bool" = none
  set_ : mg "set" = none
end Sh

/-! calls where no text of a list is under way: then repr(..) is known -/
namespace Sh
open PySem PySem.Spec PyProof.Rows L2
/-- a def's promise, kept where no repr is under way -/
structure FnG (P : Program) (w : World) (K : PySem.W.Frag) (mg : Str → Option Value) (bs : Heap) (k : Nat) (f : Addr) (fd : FuncData) (ps : List Str) (sp : Sp) : Prop where
  many : ∀ vs H Q E, sp vs H Q E → vs.length = ps.length
  go : ∀ (B : Around) (fr : List Env) (s : Shared) (H : Hp) (gs : Args) (us : List Value) (vs : List V) (Q : VK) (E : XK), Room k B → B.guards = some [] → Env0 P w K mg bs B fr s H → BindsTo s fd gs (ps.zip us) → Vals vs us → sp vs H Q E → codeAny (model P w) B (.call (.ref f) gs) (CR CX0 fr P w H s Q E) s
structure OkG (P : Program) (w : World) (K : PySem.W.Frag) (mg : Str → Option Value) (bs : Heap) (k : Nat) (x : Str) (st : Stmt) (ps : List Str) (sp : Sp) : Prop where
  ex : ∃ (f : Addr) (fd : FuncData), Fun K x x st f fd ∧ mg x = some (.ref f) ∧ Binds K fd ps [] ∧ FnG P w K mg bs k f fd ps sp
section
variable {P : Program} {w : World} {K : PySem.W.Frag} {mg : Str → Option Value} {bs : Heap}
theorem FnG.mono {j k : Nat} {f : Addr} {fd : FuncData} {ps : List Str} {sp : Sp} (G : FnG P w K mg bs j f fd ps sp) (h : j ≤ k) : FnG P w K mg bs k f fd ps sp := ⟨G.many, fun B fr s H gs us vs Q E hr => G.go B fr s H gs us vs Q E (hr.mono h)⟩
theorem OkG.mono {x : Str} {st : Stmt} {ps : List Str} {j k : Nat} {sp : Sp} (O : OkG P w K mg bs j x st ps sp) (h : j ≤ k) : OkG P w K mg bs k x st ps sp := by
  obtain ⟨f, fd, F, g, b, G⟩ := O.ex
  exact ⟨f, fd, F, g, b, G.mono h⟩
theorem Df.okG {x : Str} {st : Stmt} {N ps : List Str} {k : Nat} {sp : Sp} (D : Df K mg x st) (S : FnScope N ps (defScope st))
    (hb : ∀ (kV dc pm : Value) (an : Option Addr) (cdv ct : Value) (us : List Value), us.length = ps.length → bindArgs (PySem.W.fnOf x x (defArgs st) (defBody st) (defScope st) .none kV dc pm an cdv ct) ⟨us, []⟩ = pure (ps.zip us))
    (many : ∀ vs H Q E, sp vs H Q E → vs.length = ps.length)
    (bd : ∀ (f : Addr) (cdv : Value) (B : Around) (fr : List Env) (s : Shared) (H : Hp) (vs : List V) (Q : VK) (E : XK), Room k (B.deeper (envOfC x (defScope st) s.heap.objs.size f cdv)) → (B.deeper (envOfC x (defScope st) s.heap.objs.size f cdv)).guards = some [] → sp vs H Q E →
      ∃ t, PSs (cxOf CX0 P w K mg bs N x (defScope st) f cdv B fr s H E).nox (defBody st) t ∧ t { nx := fun _ J => Q .non J, rt := Q } (start N vs) H) : OkG P w K mg bs (k + 1) x st ps sp := by
  obtain ⟨f, fd, F, g⟩ := D.ex
  have F0 := F
  obtain ⟨oc, od, kV, dc, pm, an, cdv, ct, osl, rfl, lk, hcd⟩ := F.ex
  refine ⟨f, _, F0, g, F0.binds hb, many, fun B fr s H gs us vs Q E rm gd e0 bnd r wish => ?_⟩
  have nm := many _ _ _ _ wish
  have kin : K.In s.heap := e0.mod.kin.keeps fun a o e => (e0.bs a o e).1
  have nol : s.heap.NoLimit := e0.mod.nolimit.keeps fun a o e => (e0.bs a o e).1
  have kinds : ∀ y ∈ ps.zip us, (defScope st).names.lookup y.1 = some .local ∨ ((defScope st).names.lookup y.1 = some .cell ∧ ((cellsFrom (s.heap.objs.size + 1) (defScope st).names []).lookup y.1).isSome = true) := by
    rintro ⟨n, v⟩ hy
    cases S.par n (List.of_mem_zip hy).1 with
    | inl q => exact .inl q
    | inr q => exact .inr ⟨q, PySem.W.cellsFrom_some _ _ _ (.inl q)⟩
  refine codeAny_call_function rm.depth (kin _ _ lk) rfl S.co S.gen rfl (PySem.W.codeRec_of kin hcd) (bnd _ _ _ _ ?_)
  refine wpAny_newFunctionEnv_cells S.kind kinds fun env ee s1 z => ?_
  subst ee
  refine ⟨nol.keeps z.toInCall.keep, codeAny_func ?_⟩
  obtain ⟨t, ht, hq⟩ := bd f cdv B fr s H vs Q E (rm.deeper _) gd wish
  have ht' := ht.nox
  have I : Inv (cxOf CX0 P w K mg bs N x (defScope st) f cdv B fr s H E) [] (start N vs) H s1 := inv_start S rm.hd e0 nm r z
  refine wpAny_mono (ht'.run [] s1 (start N vs) H _ I hq) (fun fl s2 hs => ?_) fun e s2 hs => hs
  cases fl with
  | ret u =>
    obtain ⟨v, σ2, H2, J, rv, q⟩ := hs
    exact ⟨v, H2, J.os, J.bare, J.base, J.hok, rv, q⟩
  | next =>
    obtain ⟨σ2, H2, J, q⟩ := hs
    exact ⟨V.non, H2, J.os, J.bare, J.base, J.hok, rfl, q⟩
  | brk =>
    obtain ⟨_, _, _, q⟩ := hs
    exact q.elim
  | cont =>
    obtain ⟨_, _, _, q⟩ := hs
    exact q.elim
end
section
variable {X : Cx} {k : Nat} {x : Str} {st : Stmt} {ps : List Str} {sp : Sp} {e : Expr} {es : List Expr} {t : TA} {p pos : Pos}
/-- f(e, ..) -/
theorem pe_fnG (O : OkG X.prog X.w X.K X.mg X.base k x st ps sp) (hr : Room k X.A) (gd : X.A.guards = some []) (ha : PA X (e :: es) t) (hg : Gl X x := by rfl)
    (hdb : (x == ("__debug__" : Str)) = false := by decide) (he : starEach (e :: es) X.env = (false, eval e X.env) :: starEach es X.env := by rfl) (hpl : (backTo pos (starEach es X.env)).any (·.1) = false := by rfl) :
    PE X (.Call (.Name x p) (e :: es) [] pos) (tCall sp [] E0 t) := by
  obtain ⟨f, fd, F, g, b, G⟩ := O.ex
  refine ⟨fun pins s σ H Q I h => ?_⟩
  refine wpAny_Call_Name_kw (ld_glob I hg g ?_ hdb)
  refine PySem.W.callWith_K (h₀ := X.base) I.ok.mod.kin F.kp (thn (ha.run pos pins s σ H _ I h) fun us s1 ⟨vs, H1, I1, r, q⟩ => ⟨I1.kIn, ?_⟩) he hpl
  have q' : sp vs H1 Q E0 := by
    have z : sp (vs ++ []) H1 Q E0 := q
    rw [List.append_nil] at z
    exact z
  have nm : us.length = ps.length := by
    rw [← r.length]
    exact G.many _ _ _ _ q'
  have bd : BindsTo s1 fd ⟨us, []⟩ (ps.zip us) := by
    have z := b s1 us I1.kIn (by rw [List.append_nil]; exact nm)
    rw [List.append_nil] at z
    exact z
  refine wpAny_call (codeAny_mono (G.go X.A X.stack s1 H1 ⟨us, []⟩ us vs Q E0 hr gd I1.env0 bd r q') fun y s2 hq => ?_)
  cases y with
  | error e => exact pass0 pins σ H1 s1 e s2 I1 hq
  | ok fl =>
    cases fl with
    | ret u => exact I1.after hq
    | next => exact hq.elim
    | brk => exact hq.elim
    | cont => exact hq.elim
theorem reprU {A : Around} (r : Room k A) : A.units + 66 < cLine := by
  have := r.un
  omega
/-- repr(x) of a list or a tuple of data -/
def rRepr (K : PySem.W.Frag) : List V → Hp → VK → Prop := fun xs H Q => ∃ (a : Addr) (d : PyData), xs = [.ref a] ∧ Dp K H (.ref a) d ∧ SeqAt.shaped d = true ∧ d.showable = true ∧ d.shown.length ≤ sizeLine ∧ Q (.str d.shown) H
theorem cr_repr (gd : X.A.guards = some []) (hu : X.A.units + 66 < cLine) : CallR X (.builtin "repr") (rRepr X.K) := by
  intro pins s σ H xs us Q I r h
  obtain ⟨a, d, rfl, hd, sd, sh, sz, q⟩ := h
  rw [Vals.ref1 r]
  obtain ⟨as, r1⟩ := Dp.reads I d (.ref a) (.ref a) hd rfl
  have lay := SeqAt.canLay_of_shaped sd
  have dp : d.depth ≤ 64 := by
    have z := sd
    unfold SeqAt.shaped at z
    rw [Bool.and_eq_true] at z
    exact of_decide_eq_true z.2
  exact repr_of_reads' r1 sh (PyData.noDict_hsm (PyData.hasDict_of_canLay _ lay)) gd (by omega) (fun _ _ e => e) (fun h' u tk hk => ⟨.str d.shown, H, I.kept hk, ⟨u, rfl⟩, q⟩) sz
end
/-! ### the law's call, where nothing is under way -/
section
theorem script_call {P : Program} {w : World} {K : PySem.W.Frag} {mg mb : Str → Option Value} {k : Nat} {fa a : Addr} {fd : FuncData} {x : Str} {sp : Sp} {s1 : Shared} {vs : List Value} {ns : List Int}
    (kin : K.In s1.heap) (hns : s1.heap.Ns mainGlobals mg) (hbn : s1.heap.Ns builtinsNs mb) (hbb : ∀ y : Str, y ≠ "__name__" → mb y = bootBuiltins y) (nol : s1.heap.NoLimit) (hgn : s1.gens = #[])
    (hla : s1.heap.get? a = some { cls := .type "list", data := .seq vs.toArray }) (hit : IntsAre vs ns) (hsz : ns.length ≤ sizeLine) (rm : Room k callerA)
    (F : ∀ bs : Heap, K.In bs → bs.Ns mainGlobals mg → FnG P w K mg bs k fa fd [x] sp) (bnd : ∀ (s : Shared) (u : Value), BindsTo s fd ⟨[u], []⟩ [(x, u)])
    (wish : ∀ H : Hp, Only H → SqL K H a (ns.map V.int) → sp [.ref a] H (fun v _ => v = .bl true) fun _ _ _ => False) :
    codeAny (model P w) callerA (.call (.ref fa) ⟨[.ref a], []⟩) (fun y s2 => y = .ok (.ret (.bool true)) ∧ OldK s1.heap s2.heap ∧ s2.os = s1.os ∧ AllBare s2.gens) s1 := by
  have rv := vals_ints hit
  have many := hit.length
  have step : ∀ H : Hp, Only H → SqL K H a (ns.map V.int) → HOk P w H s1.heap → (∀ b, H b ≠ none → b = a) → (H a ≠ none → K.lookup a = none) →
      codeAny (model P w) callerA (.call (.ref fa) ⟨[.ref a], []⟩) (fun y s2 => y = .ok (.ret (.bool true)) ∧ OldK s1.heap s2.heap ∧ s2.os = s1.os ∧ AllBare s2.gens) s1 := by
    intro H only sq hok sole apart
    have hid : ∀ {b : Addr} {o : Obj}, s1.heap.get? b = some o → H b = none → (hidT s1.heap H).get? b = some o := fun e n => hidT_get e n
    have isa : ∀ {b : Addr} {u : HO}, H b = some u → b = a := fun {b u} q => sole b (by rw [q]; exact fun z => nomatch z)
    have bare : ∀ {b : Addr} {o : Obj} {es : Array DictEntry} {ep : Nat}, s1.heap.get? b = some o → o.data = .dict es ep → H b = none := by
      intro b o es ep e d
      cases q : H b with
      | none => rfl
      | some u =>
        obtain rfl := isa q
        rw [hla] at e
        cases e
        cases (show Data.seq vs.toArray _ = Data.dict es ep from d)
    have spaces : ∀ {b : Addr} {m : Str → Option Value}, s1.heap.Ns b m → (hidT s1.heap H).Ns b m := by
      rintro b m ⟨o, es, ep, e, d, r⟩
      exact ⟨o, es, ep, hid e (bare e d), d, r⟩
    have kin0 : K.In (hidT s1.heap H) := by
      intro b o e
      refine hid (kin b o e) ?_
      cases q : H b with
      | none => rfl
      | some u =>
        obtain rfl := isa q
        rw [apart (by rw [q]; exact fun z => nomatch z)] at e
        cases e
    have md : Mod K mg (hidT s1.heap H) := by
      obtain ⟨mc, n1, n2⟩ := nol
      exact ⟨kin0, spaces hns, ⟨mb, spaces hbn, hbb⟩, ⟨mc, spaces n1, n2⟩⟩
    have at0 : Env0 P w K mg (hidT s1.heap H) callerA [] s1 H := by
      refine ⟨rfl, md, fun b o e => of_hidT e, Nat.le_of_eq (hidT_size _ _), trivial, fun b hb => ?_, hok, .of_eq hgn⟩
      exact absurd (show b ∈ ([] : List Addr) from hb) List.not_mem_nil
    refine codeAny_mono ((F _ kin0 (spaces hns)).go callerA [] s1 H ⟨[.ref a], []⟩ [.ref a] [.ref a] _ _ rm rfl at0 (bnd s1 (.ref a)) (.cons rfl .nil) (wish H only sq)) fun y s2 h => ?_
    cases y with
    | error e => exact False.elim (show False from h)
    | ok fl =>
      cases fl with
      | next => exact h.elim
      | brk => exact h.elim
      | cont => exact h.elim
      | ret u =>
        obtain ⟨v, H2, os, br, un, hok2, r2, q⟩ := h
        obtain rfl : v = .bl true := q
        obtain rfl : u = Value.bool true := r2
        refine ⟨rfl, OldK.of_keep fun b o e => ?_, os, br⟩
        cases q : H b with
        | none => exact un.keep b o e q (fun z => absurd (show b ∈ ([] : List Addr) from z) List.not_mem_nil) (by simp)
        | some u =>
          cases only b with
          | inl z =>
            rw [q] at z
            cases z
          | inr z =>
            obtain ⟨ob, xs, z⟩ := z
            have z2 := un.frzs b ob _ z
            obtain ⟨e1, _⟩ := hok b _ z
            obtain ⟨e2, _⟩ := hok2 b _ z2
            rw [e] at e1
            cases e1
            exact e2
  cases hk : K.lookup a with
  | some o =>
    have e := kin a o hk
    rw [hla] at e
    cases e
    refine step (fun _ => none) (fun _ => .inl rfl) (.inr ⟨_, vs.toArray, _, hk, rfl, rfl, rfl, by rw [List.size_toArray, many]; exact hsz, by simpa using rv⟩) ?_ (fun b z => absurd rfl z) fun z => absurd rfl z
    intro b u z
    cases (show (none : Option HO) = some u from z)
  | none =>
    refine step (fun b => if b = a then some (.frz { cls := .type "list", data := .seq vs.toArray } (.lst (ns.map V.int))) else none) ?_ (.inl (.inr ⟨{ cls := .type "list", data := .seq vs.toArray }, if_pos rfl⟩)) ?_ ?_ fun _ => hk
    · intro b
      by_cases c : b = a
      · exact .inr ⟨_, _, if_pos c⟩
      · exact .inl (if_neg c)
    · intro b u z
      by_cases c : b = a
      · cases (if_pos c).symm.trans z
        subst c
        exact ⟨hla, by rw [List.length_map]; exact hsz, vs, _, rv, hla⟩
      · cases (if_neg c).symm.trans z
    · intro b z
      by_cases c : b = a
      · exact c
      · exact absurd (if_neg c) z
theorem walk_ofG {l : PySem.W.OpenLaw} {n k : Nat} {q : Program} {loose : List Str} {XP : (Str → Option Value) → Heap → Prop} {YP : World → Heap → Prop} {d : DefRec} {K : Params → PySem.W.Frag} {sp : World → Sp} {x : Str}
    (hn : l.most = some n) (hz : n ≤ sizeLine) (hdf : d.params.defaults = []) (rm : Room k callerA) (hY : ∀ (w : World) (h : Heap), YP w h → (K w.params).In h)
    (F : ∀ (w : World) (mg : Str → Option Value) (fa : Addr) (h : Heap), (K w.params).In h → h.Ns mainGlobals mg → mg d.name = some (.ref fa) → ∃ fd : FuncData, (∀ (s : Shared) (u : Value), BindsTo s fd ⟨[u], []⟩ [(x, u)]) ∧ ∀ bs : Heap, (K w.params).In bs → bs.Ns mainGlobals mg → FnG l.prog w (K w.params) mg bs k fa fd [x] (sp w))
    (wish : ∀ (w : World) (H : Hp) (a : Addr) (ns : List Int), ns.length ≤ n → Only H → SqL (K w.params) H a (ns.map V.int) → sp w [.ref a] H (fun v _ => v = .bl true) fun _ _ _ => False) :
    PySem.W.WalkO q loose XP YP l.row.toRowW d [] (fun f vs => PySem.call f vs) := by
  refine Att.attach_call hn hdf fun w s0 s1 mg mb fa o pm cd dc a vs ns G Y ho hd hcd hmg hobj hints hlen hg => ?_
  obtain ⟨fd, bnd, hF⟩ := F w mg fa _ (hY w _ Y) G.T.g hmg
  exact script_call (hY w _ Y) G.T.g G.T.b G.T.builtins G.T.nolimit hg hobj hints (Nat.le_trans hlen hz) rm hF bnd fun H hO hS => wish w H a ns hlen hO hS
end
end Sh

/-! defs that may raise, by one fact each; own exception classes over ValueError, with one field or none -/
namespace Sh
open PySem PySem.Spec PyProof.Rows L2
/-- a def of the top that may raise keeps its promise -/
structure OkX (P : Program) (w : World) (K : PySem.W.Frag) (mg : Str → Option Value) (base : Heap) (k : Nat) (x : Str) (st : Stmt) (ps : List Str) (sp : Sp) : Prop where
  ex : ∃ (f : Addr) (fd : FuncData), Fun K x x st f fd ∧ mg x = some (.ref f) ∧ Binds K fd ps [] ∧ FnOk P w K mg base (L2.CX P w) k f fd ps sp
section
variable {P : Program} {w : World} {K : PySem.W.Frag} {mg : Str → Option Value} {base : Heap}
theorem Df.okX {x : Str} {st : Stmt} {N ps : List Str} {k : Nat} {sp : Sp} (D : Df K mg x st) (S : FnScope N ps (defScope st))
    (hb : ∀ (kV doc pm : Value) (an : Option Addr) (cdv ct : Value) (us : List Value), us.length = ps.length → bindArgs (PySem.W.fnOf x x (defArgs st) (defBody st) (defScope st) .none kV doc pm an cdv ct) ⟨us, []⟩ = pure (ps.zip us))
    (len : ∀ vs H Q E, sp vs H Q E → vs.length = ps.length)
    (hbody : ∀ (f : Addr) (cdv : Value) (A : Around) (outer : List Env) (s : Shared) (H : Hp) (vs : List V) (Q : VK) (E : XK), Room k (A.deeper (envOfC x (defScope st) s.heap.objs.size f cdv)) → sp vs H Q E →
      ∃ t, PSs (cxOf (L2.CX P w) P w K mg base N x (defScope st) f cdv A outer s H E) (defBody st) t ∧ t { nx := fun _ H' => Q .non H', rt := Q } (start N vs) H) : OkX P w K mg base (k + 1) x st ps sp := by
  obtain ⟨f, fd, F, g⟩ := D.ex
  exact ⟨f, fd, F, g, F.binds hb, F.okX S len fun cdv A outer s H vs Q E hr h => hbody f cdv A outer s H vs Q E hr h⟩
theorem OkX.mono {x : Str} {st : Stmt} {ps : List Str} {j k : Nat} {sp : Sp} (O : OkX P w K mg base j x st ps sp) (h : j ≤ k) : OkX P w K mg base k x st ps sp := by
  obtain ⟨f, fd, F, g, b, G⟩ := O.ex
  exact ⟨f, fd, F, g, b, G.mono h⟩
theorem OkX.imp {x : Str} {st : Stmt} {ps : List Str} {k : Nat} {sp sp' : Sp} (O : OkX P w K mg base k x st ps sp) (h : ∀ vs H Q E, sp' vs H Q E → sp vs H Q E) : OkX P w K mg base k x st ps sp' := by
  obtain ⟨f, fd, F, g, b, G⟩ := O.ex
  exact ⟨f, fd, F, g, b, G.imp h⟩
end
section
variable {X : Cx} {k : Nat} {x : Str} {st : Stmt} {ps : List Str} {sp : Sp} {e : Expr} {es : List Expr} {t tk : TA} {p pos : Pos} {kws : List Keyword} {ks : List Str} {W : WX}
/-- f(e, ..) where f may raise: its exception is wished for by W -/
theorem pe_fnX (O : OkX X.prog X.w X.K X.mg X.base k x st ps sp) (hr : Room k X.A) (tk : L2.Takes X W) (ha : PA X (e :: es) t) (hg : Gl X x := by rfl)
    (hdb : (x == ("__debug__" : Str)) = false := by decide) (he : starEach (e :: es) X.env = (false, eval e X.env) :: starEach es X.env := by rfl) (hpl : (backTo pos (starEach es X.env)).any (·.1) = false := by rfl) :
    PE X (.Call (.Name x p) (e :: es) [] pos) (tCallS sp (WE W) t) := by
  obtain ⟨f, fd, F, g, b, G⟩ := O.ex
  exact pe_callS G hr hg g F.kp b (fun σ => passAt tk σ) ha hdb he hpl
/-- f(e, ..) where f may raise, but not here -/
theorem pe_fnL (O : OkX X.prog X.w X.K X.mg X.base k x st ps sp) (hr : Room k X.A) (ha : PA X (e :: es) t) (hg : Gl X x := by rfl)
    (hdb : (x == ("__debug__" : Str)) = false := by decide) (he : starEach (e :: es) X.env = (false, eval e X.env) :: starEach es X.env := by rfl) (hpl : (backTo pos (starEach es X.env)).any (·.1) = false := by rfl) :
    PE X (.Call (.Name x p) (e :: es) [] pos) (tCall sp [] E0 t) := by
  obtain ⟨f, fd, F, g, b, G⟩ := O.ex
  exact pe_call G hr hg g F.kp b .nil passL ha hdb he hpl
/-- the same by keywords: the parameters are the places js of all that is handed in -/
def tCallJX (js : List Nat) (n : Nat) (sp : Sp) (E : L2.St → XK) (t tk : TA) : TE := fun σ H Q => t σ H fun vs H1 => tk σ H1 fun zs H2 => (vs.length + zs.length = n ∧ zs.length = n - vs.length) ∧ sp (pk js (vs ++ zs)) H2 Q (E σ)
theorem run_fnJX {CX : CXT} {E : XK} {pins : List (Addr × Obj)} {σ : L2.St} {H : Hp} {s : Shared} {Q : VK} {us ws : List Value} {vs zs : List V} {js : List Nat} {f : Addr} {fd : FuncData} (F : Fun X.K x x st f fd) (G : FnOk X.prog X.w X.K X.mg X.base CX k f fd ps sp) (hr : Room k X.A) (hx : PassesAt CX X σ E)
    (hb : ∀ (kV doc pm : Value) (an : Option Addr) (cdv ct : Value), bindArgs (PySem.W.fnOf x x (defArgs st) (defBody st) (defScope st) .none kV doc pm an cdv ct) ⟨us, ks.zip ws⟩ = pure (ps.zip (pk js (us ++ ws))))
    (I : Inv X pins σ H s) (r : Vals vs us) (rz : Vals zs ws) (h : sp (pk js (vs ++ zs)) H Q E) : wpAny (model X.prog X.w) X.A (call (.ref f) us (ks.zip ws)) (EP X pins σ Q) X.xe s := by
  obtain ⟨oc, od, kV, doc, pm, an, cdv, ct, osl, rfl, lk, hcd⟩ := F.ex
  refine wpAny_call (codeAny_mono (G.run X.A X.stack s H ⟨us, ks.zip ws⟩ (pk js (us ++ ws)) (pk js (vs ++ zs)) Q E hr I.env0 (.of_eq (hb kV doc pm an cdv ct)) (vals_pk (vals_app r rz) js) h) fun r s' hq => ?_)
  rcases r with e | fl
  · exact hx pins H s e s' I hq
  · cases fl <;> first | exact I.after hq | exact False.elim hq
theorem pe_fnK0X (js : List Nat) (O : OkX X.prog X.w X.K X.mg X.base k x st ps sp) (hr : Room k X.A) (tkk : L2.Takes X W)
    (hb : ∀ (kV doc pm : Value) (an : Option Addr) (cdv ct : Value) (ws : List Value), ws.length = ks.length → bindArgs (PySem.W.fnOf x x (defArgs st) (defBody st) (defScope st) .none kV doc pm an cdv ct) ⟨[], ks.zip ws⟩ = pure (ps.zip (pk js ws)))
    (hkw : PK X kws tk) (hg : Gl X x := by rfl) (hall : (backToKw pos (keywordEach kws X.env)).all (·.1.isSome) = true := by rfl) (hks : (backToKw pos (keywordEach kws X.env)).filterMap (·.1) = ks := by rfl) (hdb : (x == ("__debug__" : Str)) = false := by decide)
    (hpl : ((backTo pos (starEach [] X.env)).any (·.1) || (backToKw pos (keywordEach kws X.env)).any (·.1.isNone)) = false := by rfl) :
    PE X (.Call (.Name x p) [] kws pos) (tCallJX js ks.length sp (WE W) tNil tk) := by
  obtain ⟨f, fd, F, g, b, G⟩ := O.ex
  refine ⟨fun pins s σ H Q I h => wpAny_Call_Name_kw (ld_glob I hg g (PySem.W.callWith_KW0 (h₀ := X.base) I.ok.mod.kin F.kp hall (thn (hkw.run pos pins s σ H _ I h) fun ws s2 ⟨zs, H2, I2, rz, l2, q2⟩ => ⟨I2.kIn, ?_⟩) hpl) hdb)⟩
  rw [hks]
  exact run_fnJX (us := []) (vs := []) (js := js) F G hr (passAt tkk σ) (fun kV doc pm an cdv ct => hb kV doc pm an cdv ct ws (rz.length.symm.trans l2.2)) I2 .nil rz q2
theorem pe_fnK0L (js : List Nat) (O : OkX X.prog X.w X.K X.mg X.base k x st ps sp) (hr : Room k X.A)
    (hb : ∀ (kV doc pm : Value) (an : Option Addr) (cdv ct : Value) (ws : List Value), ws.length = ks.length → bindArgs (PySem.W.fnOf x x (defArgs st) (defBody st) (defScope st) .none kV doc pm an cdv ct) ⟨[], ks.zip ws⟩ = pure (ps.zip (pk js ws)))
    (hkw : PK X kws tk) (hg : Gl X x := by rfl) (hall : (backToKw pos (keywordEach kws X.env)).all (·.1.isSome) = true := by rfl) (hks : (backToKw pos (keywordEach kws X.env)).filterMap (·.1) = ks := by rfl) (hdb : (x == ("__debug__" : Str)) = false := by decide)
    (hpl : ((backTo pos (starEach [] X.env)).any (·.1) || (backToKw pos (keywordEach kws X.env)).any (·.1.isNone)) = false := by rfl) :
    PE X (.Call (.Name x p) [] kws pos) (tCallJX js ks.length sp (fun _ => E0) tNil tk) := by
  obtain ⟨f, fd, F, g, b, G⟩ := O.ex
  refine ⟨fun pins s σ H Q I h => wpAny_Call_Name_kw (ld_glob I hg g (PySem.W.callWith_KW0 (h₀ := X.base) I.ok.mod.kin F.kp hall (thn (hkw.run pos pins s σ H _ I h) fun ws s2 ⟨zs, H2, I2, rz, l2, q2⟩ => ⟨I2.kIn, ?_⟩) hpl) hdb)⟩
  rw [hks]
  exact run_fnJX (us := []) (vs := []) (js := js) F G hr (fun pins H s e s' I c => passL pins σ H s e s' I c) (fun kV doc pm an cdv ct => hb kV doc pm an cdv ct ws (rz.length.symm.trans l2.2)) I2 .nil rz q2
end
/-! ### an exception of one field -/
/-- what its own __init__ promises -/
def spIni (C : Addr) (f : Str) (ok : V → Prop) : Sp := fun vs H Q _ => ∃ (a : Addr) (v : V), vs = [.ref a, v] ∧ ok v ∧ H a = some (exo a C none) ∧ ∀ dx, H dx = none → dx ≠ a → Q .non (upd (upd H dx (exd dx [(f, v)])) a (exo a C (some dx)))
/-- all that is to be known of an own exception class with one field -/
structure ExcOk (P : Program) (w : World) (K : PySem.W.Frag) (mg : Str → Option Value) (base : Heap) (k : Nat) (x : Str) (C : Addr) (f : Str) (ok : V → Prop) : Prop where
  g : mg x = some (.ref C)
  T : OexC K C
  ini : ∃ (fI : Addr) (fd : FuncData) (ps : List Str), PySem.W.findIn K (.ref C) "__init__" = some (some (.ref fI)) ∧ PySem.W.typeIn K (.ref fI) = some (.type "function") ∧ FnOk P w K mg base CX0 k fI fd ps (spIni C f ok) ∧ Binds K fd ps []
section
variable {X : Cx} {W : WX} {k : Nat} {x f : Str} {C : Addr} {ok : V → Prop} {e : Expr} {ta : TA} {p pos pos2 : Pos}
theorem del_back {H : Hp} {a d : Addr} {o u z : HO} {c : HO} (na : H a = none) (nd : d ≠ a) : upd (del (upd (upd (upd H a c) d o) a u) a) d z = upd H d z := by
  funext b
  by_cases hd : b = d
  · rw [hd, upd_same, upd_same]
  · rw [upd_ne hd, upd_ne hd]
    by_cases ha : b = a
    · rw [ha, del_same, na]
    · rw [del_ne ha, upd_ne ha, upd_ne hd, upd_ne ha]
/-- a reading of arguments, closed under weaker wishes -/
def clA (ta : TA) : TA := fun σ H R => ∃ R0 : List V → Hp → Prop, ta σ H R0 ∧ ∀ vs H1, R0 vs H1 → R vs H1
theorem PA.cl {X : Cx} {es : List Expr} {ta : TA} (h : PA X es ta) : PA X es (clA ta) := ⟨fun pos pins s σ H Q I ⟨R0, a, b⟩ => wpAny_mono (h.run pos pins s σ H R0 I a) (fun us s1 ⟨vs, H1, I1, r1, q1⟩ => ⟨vs, H1, I1, r1, b _ _ q1⟩) fun _ _ z => z⟩
/-- raise X(e) -/
def tRaise1 (C : Addr) (f : Str) (ok : V → Prop) (W : WX) (ta : TA) : TS := fun _ σ H => ta σ H fun vs H1 => ∃ v, vs = [v] ∧ ok v ∧ ∀ d, H1 d = none → W (.ref C) (some d) σ (upd H1 d (.xd [(f, v)]))
theorem ps_raise1 (hc : X.calm = true) (E : ExcOk X.prog X.w X.K X.mg X.base k x C f ok) (hr : Room (k + 1) X.A) (tk : L2.Takes X W) (ha : PA X [e] ta) (hg : Gl X x := by rfl)
    (hdb : (x == ("__debug__" : Str)) = false := by decide) (he : starEach [e] X.env = (false, eval e X.env) :: starEach [] X.env := by rfl) (hpl : (backTo pos (starEach [] X.env)).any (·.1) = false := by rfl) :
    PS X (.Raise (some (.Call (.Name x p) [e] [] pos)) none pos2) (tRaise1 C f ok W ta) := by
  obtain ⟨fI, fd, ps, iC, tI, F1, b⟩ := E.ini
  have R := ps_raise (pos := pos2) hc tk (pmk_oex (p := p) (pos := pos) E.T iC tI F1 hr b .nil pass0 hg E.g (PA.cl ha) hdb he hpl)
  refine ⟨fun pins s σ H D I h => R.run pins s σ H D I ⟨_, h, fun vs H1 ⟨v, ev, hv, q⟩ => ?_⟩⟩
  subst ev
  refine ⟨(by show 1 ≤ 1000; decide), fun a na => ⟨a, v, rfl, hv, upd_same, fun dx ndx nda => ⟨rfl, dx, [(f, v)], upd_same, ?_, ?_, ?_⟩⟩⟩
  · rw [upd_ne nda, upd_same]
  · rw [upd_ne nda] at ndx
    exact ndx
  · rw [upd_ne nda] at ndx
    rw [del_back na nda]
    exact q dx ndx
end
end Sh

/-! an own exception class over ValueError whose __init__ takes nothing and stores nothing -/
namespace Sh
open PySem PySem.Spec PyProof.Rows L2
def spIni0 (C : Addr) : Sp := fun vs H Q _ => ∃ a : Addr, vs = [.ref a] ∧ H a = some (exo a C none) ∧ Q .non H
structure ExcOk0 (P : Program) (w : World) (K : PySem.W.Frag) (mg : Str → Option Value) (base : Heap) (k : Nat) (x : Str) (C : Addr) : Prop where
  g : mg x = some (.ref C)
  T : OexC K C
  ini : ∃ (fI : Addr) (fd : FuncData) (ps : List Str), PySem.W.findIn K (.ref C) "__init__" = some (some (.ref fI)) ∧ PySem.W.typeIn K (.ref fI) = some (.type "function") ∧ FnOk P w K mg base CX0 k fI fd ps (spIni0 C) ∧ Binds K fd ps []
section
variable {X : Cx} {W : WX} {k : Nat} {x : Str} {C : Addr} {p pos pos2 : Pos}
/-- the exception is let go: what was tracked stands without it -/
theorem bare_end {pins : List (Addr × Obj)} {σ : L2.St} {H1 H2 : Hp} {Q : XK} {hA hB hZ : Heap} {gA gZ : Array GenState} {dA dZ : Drawn} {tA tZ : Nat} {oA oZ : OsState} {a : Addr} (T : Raises X (.ref C)) (I1 : Inv X pins σ H1 ⟨hA, gA, dA, tA, oA⟩)
    (ha : hA.objs.size ≤ a) (kp : ∀ b o, hA.get? b = some o → hB.get? b = some o) (un : Un (frs X.stack) [] (upd H1 a (exo a C none)) H2 hB hZ) (hok : HOk X.prog X.w H2 hZ) (ho : oZ = oA) (hb : AllBare gZ)
    (ea : H2 a = some (exo a C none)) (q : Q (.ref C) none (del H2 a)) : MkP X pins σ Q (.ref a) ⟨hZ, gZ, dZ, tZ, oZ⟩ := by
  obtain ⟨t0, hoe⟩ := exo_at hok ea
  have n1 : H1 a = none := I1.hok.fresh ha
  obtain ⟨G, k1, k2⟩ := restrict hZ fun b => decide (b ≠ a)
  have gK : ∀ b, b ≠ a → G.get? b = hZ.get? b := fun b z => k1 b (decide_eq_true z)
  have gN : G.get? a = none := k2 a (by simp)
  have old : ∀ {b : Addr} {o : Obj}, hA.get? b = some o → b ≠ a := fun {b o} z => Nat.ne_of_lt (Nat.lt_of_lt_of_le (Heap.lt_size z) ha)
  have fr : ∀ {b : Addr} {o : Obj}, hA.get? b = some o → H1 b = none → upd H1 a (exo a C none) b = none := fun z n => (upd_ne (old z)).trans n
  have wide : ∀ {b : Addr} {o : HO}, H1 b = some o → upd H1 a (exo a C none) b = some o := fun z => (upd_ne (ne_of_none z n1)).trans z
  have U : Un (frs X.stack) [] H1 (del H2 a) hA G :=
    ⟨fun b o z n f1 f2 => (gK b (old z)).trans (un.keep b o (kp b o z) (fr z n) f1 f2),
     fun b o z n f1 f2 => by
      obtain ⟨sl, e⟩ := un.slot b o (kp b o z) (fr z n) f1 f2
      exact ⟨sl, (gK b (old z)).trans e⟩,
     fun b o z n f2 => (del_ne (old z)).trans (un.free b o (kp b o z) (fr z n) f2),
     fun b o z f2 => by
      obtain ⟨o', e⟩ := un.there b o (kp b o z) f2
      exact ⟨o', (gK b (old z)).trans e⟩,
     fun b ys z => (del_ne (ne_of_none z n1)).trans (un.tups b ys (wide z)),
     fun b o v z => (del_ne (ne_of_none z n1)).trans (un.frzs b o v (wide z)),
     fun b ps z => by
      obtain ⟨m, e⟩ := un.tbls b ps (wide z)
      exact ⟨m, (del_ne (ne_of_none z n1)).trans e⟩⟩
  have hok2 : HOk X.prog X.w (del H2 a) G := fun b o z => by
    have ba : b ≠ a := fun e => by
      rw [e, del_same] at z
      cases z
    rw [del_ne ba] at z
    have na : ∀ {c : Addr}, H2 c = some (.own b) → c ≠ a := fun hc => at_ne ea hc exo_own
    exact (hok b o z).stay (fun c v hc y => (gK c (hc.elim (fun e => e ▸ ba) na)).trans y) (fun c hc => (del_ne (na hc)).trans hc) (fun c ys hc => (del_ne (at_ne ea hc exo_tup)).trans hc)
  have J : Inv X pins σ (del H2 a) ⟨G, gZ, dZ, tZ, oZ⟩ := I1.call' (ch := []) ho U hok2 hb (fun b z => absurd z (by simp))
  refine ⟨a, _, _, ⟨G, gZ, dZ, tZ, oZ⟩, _, .ref C, none, rfl, J, fun b o z => ?_, gN, hoe, ⟨rfl, rfl⟩, rfl, rfl, del_same, rfl, hb, T, q⟩
  by_cases ba : b = a
  · rw [ba, gN] at z
    cases z
  · exact (gK b ba).symm.trans z
theorem del_upd {H : Hp} {a : Addr} {o : HO} (n : H a = none) : del (upd H a o) a = H := by
  funext b
  by_cases e : b = a
  · rw [e, del_same, n]
  · rw [del_ne e, upd_ne e]
theorem pmk_bare (E : ExcOk0 X.prog X.w X.K X.mg X.base k x C) (hr : Room (k + 1) X.A) (hg : Gl X x) (hdb : (x == ("__debug__" : Str)) = false := by decide) :
    PMk X (.Call (.Name x p) [] [] pos) (fun _ H Q => Q (.ref C) none H) := by
  intro pins s σ H Q I q
  obtain ⟨fI, fd, ps, iC, tI, F1, b⟩ := E.ini
  obtain ⟨nm, qn, N, bs, bm, sn, sub, ab, col, dd, k0, k1, k2, k3, k5, hC, hbm⟩ := E.T.cls
  refine wpAny_Call_Name_kw (ld_glob I hg E.g ?_ hdb)
  refine PySem.W.callWith_K0 I.kIn E.T.kC ?_
  obtain ⟨hp, gs, dr, tk, os⟩ := s
  have up1 : hp.objs.size ≤ hp.objs.size + 1 := Nat.le_succ _
  have nH : H (hp.objs.size + 1) = none := I.hok.fresh up1
  have kk : ∀ b o, hp.get? b = some o → ((hp.push (PySem.W.kdv_tup [])).push (PySem.HandSPX.excO C hp.objs.size)).get? b = some o := fun b o z => Heap.get?_push_of_some _ (Heap.get?_push_of_some _ z)
  have got : ((hp.push (PySem.W.kdv_tup [])).push (PySem.HandSPX.excO C hp.objs.size)).get? (hp.objs.size + 1) = some (PySem.HandSPX.excO C hp.objs.size) := by heap_get
  have J : Inv X pins σ (upd H (hp.objs.size + 1) (exo (hp.objs.size + 1) C none)) ⟨(hp.push (PySem.W.kdv_tup [])).push (PySem.HandSPX.excO C hp.objs.size), gs, dr, tk, os⟩ :=
    I.laid (t' := tk) (a := hp.objs.size + 1) (o := exo (hp.objs.size + 1) C none) (h' := (hp.push (PySem.W.kdv_tup [])).push (PySem.HandSPX.excO C hp.objs.size)) kk up1 (exo_ok got)
  have hsp : spIni0 C [V.ref (hp.objs.size + 1)] (upd H (hp.objs.size + 1) (exo (hp.objs.size + 1) C none)) (fun v H2 => v = .non ∧ H2 = upd H (hp.objs.size + 1) (exo (hp.objs.size + 1) C none)) (fun _ _ _ => False) := ⟨_, rfl, upd_same, rfl, rfl⟩
  have hl : ([Value.ref (hp.objs.size + 1)] ++ ([] : List Value)).length = ps.length := (F1.len _ _ _ _ hsp)
  refine wpAny_call (PySem.HandSPX.call_own F.excBase_ValueError (fun Y => PySem.HandSPX.refsVE_contains Y bm hbm) (I.kIn _ _ hC) (PySem.W.looks_findIn I.kIn iC) (fun self => PySem.W.bind_fn I.kIn self tI) (Nat.zero_le _)
    (codeAny_mono (F1.run _ X.stack _ _ ⟨[Value.ref (hp.objs.size + 1)], []⟩ [Value.ref (hp.objs.size + 1)] _ _ (fun _ _ _ => False) (hr.make C [] []) (J.env0.make C [] []) (b _ [Value.ref (hp.objs.size + 1)] J.kIn hl) (show Vals [V.ref (hp.objs.size + 1)] [Value.ref (hp.objs.size + 1)] from .cons rfl .nil) hsp) fun r s' hq => ?_))
  rcases r with er | fl
  · exact pass0 pins σ _ _ er s' J hq
  · cases fl with
    | ret u =>
      obtain ⟨v, H2, os2, bare2, un2, hok2, rv, ev, eH⟩ := hq
      subst ev
      obtain ⟨h2, g2, d2, t2, o2⟩ := s'
      subst eH
      exact ⟨rv, bare_end (raises_own E.T.exC E.T.tyC) I up1 kk un2 hok2 os2 bare2 upd_same (by rw [del_upd nH]; exact q)⟩
    | _ => exact False.elim hq
/-- raise X() -/
theorem ps_raise0 (hc : X.calm = true) (E : ExcOk0 X.prog X.w X.K X.mg X.base k x C) (hr : Room (k + 1) X.A) (tk : L2.Takes X W) (hg : Gl X x := by rfl) (hdb : (x == ("__debug__" : Str)) = false := by decide) :
    PS X (.Raise (some (.Call (.Name x p) [] [] pos)) none pos2) (fun _ σ H => W (.ref C) none σ H) := ps_raise hc tk (pmk_bare E hr hg hdb)
end
end Sh

/-! try: .. except (A, B, ..) as n: suite, the caught exception kept; isinstance of it, its field -/
namespace Sh
open PySem PySem.Spec PyProof.Rows L2
/-- a caught exception that is kept -/
def exk (a : Addr) (cls : Value) (d : Option Addr) : HO := .ext fun h => ∃ (oe : Obj) (vs : Array Value), h.get? a = some oe ∧ Zc cls d oe ∧ oe.data = .fields vs
theorem exk_ok {P : Program} {w : World} {H : Hp} {h : Heap} {a : Addr} {cls : Value} {d : Option Addr} {oe : Obj} {vs : Array Value} (e : h.get? a = some oe) (z : Zc cls d oe) (hd : oe.data = .fields vs) : ObjOk P w H h a (exk a cls d) :=
  ⟨⟨oe, vs, e, z, hd⟩, ⟨oe, e⟩, fun _ _ ⟨o, v, q, r⟩ k => ⟨o, v, k o q, r⟩⟩
section
variable {M : Model} {K : PySem.W.Frag}
/-- the answer of one class of the clause -/
def exmP (K : PySem.W.Frag) (cls c : Value) : Bool := (PySem.W.exmOne K cls c).getD false
theorem exmAny_all {cls : Value} : ∀ {cs : List Value} {b : Bool}, PySem.W.exmAny K cls cs = some b → b = cs.any (exmP K cls) ∧ ∀ c ∈ cs, PySem.W.exmOne K cls c = some (exmP K cls c)
  | [], b, h => ⟨(Option.some.inj h).symm, fun _ z => nomatch z⟩
  | c :: r, b, h => by
    obtain ⟨b1, d1, x1, y1, z1⟩ := PySem.W.exmAny_cons h
    obtain ⟨i1, i2⟩ := exmAny_all y1
    have e1 : exmP K cls c = b1 := by unfold exmP; rw [x1]; rfl
    refine ⟨by rw [z1, List.any_cons, e1, i1], fun c' m => ?_⟩
    rcases List.mem_cons.mp m with rfl | m
    · rw [e1]; exact x1
    · exact i2 c' m
theorem lk_for {h : Heap} {f : Value → PUnit → Sem (ForInStep PUnit)} : ∀ {cs : List Value}, (∀ c ∈ cs, PySem.W.Looks M h (f c ⟨⟩) (.yield ⟨⟩)) → PySem.W.Looks M h (forIn cs (⟨⟩ : PUnit) f) ⟨⟩
  | [], _ => fun A Q E s k q => by
    rw [List.forIn_nil]
    exact wpAny_pure q
  | c :: r, hf => fun A Q E s k q => by
    rw [List.forIn_cons]
    refine wpAny_bind (hf c List.mem_cons_self A _ E s k ?_)
    exact lk_for (fun c' m => hf c' (List.mem_cons_of_mem _ m)) A Q E s k q
theorem lk_forR {h : Heap} {p : Value → Bool} {f : Value → Option Bool × PUnit → Sem (ForInStep (Option Bool × PUnit))} : ∀ {cs : List Value}, (∀ c ∈ cs, PySem.W.Looks M h (f c ⟨none, ⟨⟩⟩) (if p c then .done ⟨some true, ⟨⟩⟩ else .yield ⟨none, ⟨⟩⟩)) →
    PySem.W.Looks M h (forIn cs ((none, ⟨⟩) : Option Bool × PUnit) f) (if cs.any p then ⟨some true, ⟨⟩⟩ else ⟨none, ⟨⟩⟩)
  | [], _ => fun A Q E s k q => by
    rw [List.forIn_nil]
    exact wpAny_pure q
  | c :: r, hf => fun A Q E s k q => by
    rw [List.forIn_cons]
    refine wpAny_bind (hf c List.mem_cons_self A _ E s k ?_)
    rw [List.any_cons] at q
    cases hp : p c with
    | true =>
      rw [hp] at q
      rw [if_pos rfl]
      exact wpAny_pure q
    | false =>
      rw [hp, Bool.false_or] at q
      rw [if_neg Bool.false_ne_true]
      exact lk_forR (fun c' m => hf c' (List.mem_cons_of_mem _ m)) A Q E s k q
theorem exm_tupN {cs : List Value} {cls : Value} {tp e : Addr} {b : Bool} {h : Heap} (X : K.In h) (LT : PySem.W.Looks M h (typeOf (.ref e)) cls) (hp : h.get? tp = some { cls := .type "tuple", data := .seq cs.toArray }) (hx : PySem.W.exmAny K cls cs = some b) :
    PySem.W.Looks M h (excMatches (.ref e) (.ref tp)) b := by
  obtain ⟨eb, hall⟩ := exmAny_all hx
  intro A Q E s k q
  have LT0 : PySem.W.Looks M h (isInstance (.ref tp) (.type "tuple")) true := ((PySem.W.Looks.ld hp).andThen .now).andThen (PySem.W.Looks.of_pure isSubtype_tuple_tuple)
  unfold excMatches
  refine wpAny_bind ((LT0.keeps k).here ?_)
  rw [if_pos rfl]
  have hp' := k _ _ hp
  first
    | refine wpAny_bind (wpAny_seqItems hp' rfl ?_)
    | refine wpAny_bind (wpAny_bind (wpAny_seqItems hp' rfl (wpAny_pure ?_)))
  show wpAny M A (forIn cs _ _ >>= _) Q E s
  refine wpAny_bind (lk_for (h := h) (fun c m => ?_) A _ E s k ?_)
  · intro A' Q' E' s' k' q'
    obtain ⟨e1, _⟩ := PySem.W.exm_cls (M := M) X (hall c m)
    refine wpAny_bind ((e1.keeps k').here ?_)
    rw [if_neg (by decide)]
    exact wpAny_pure q'
  refine wpAny_bind ((LT.keeps k).here ?_)
  refine wpAny_bind (lk_forR (h := h) (p := exmP K cls) (fun c m => ?_) A _ E s k ?_)
  · intro A' Q' E' s' k' q'
    obtain ⟨_, S1⟩ := PySem.W.exm_cls (M := M) X (hall c m)
    refine wpAny_bind ((S1.keeps k').here ?_)
    cases hp : exmP K cls c with
    | true =>
      rw [hp] at q'
      rw [if_pos rfl] at q' ⊢
      exact wpAny_pure q'
    | false =>
      rw [hp] at q'
      rw [if_neg Bool.false_ne_true] at q' ⊢
      exact wpAny_pure q'
  have hb : ((some cs.toArray).getD #[]).toList.any (exmP K cls) = b := by rw [eb]; simp
  rw [hb]
  cases b <;> exact wpAny_pure q
end
/-- what stands in an except clause: one class, or a tuple of them -/
inductive ClsE (X : Cx) : Expr → List Value → Prop
  | one {x : Str} {c : Value} {p : Pos} (h : Names X x c) : ClsE X (.Name x p) [c]
  | tup {es : List Expr} {cs : List Value} {kk : Nat} {p : Pos} (h : Paired (fun e c => ∃ x np, e = Expr.Name x np ∧ Names X x c) es cs) (hl : es.length ≤ sizeLine) : ClsE X (.Tuple es kk p) cs
section
variable {X : Cx} {pins : List (Addr × Obj)} {σ : L2.St} {H : Hp} {s : Shared} {a : Addr} {oe : Obj} {cls : Value} {d : Option Addr} {vs : Array Value}
/-- the clause's test -/
theorem clsE_ok {E : Value → Shared → Prop} {Q : Bool → Shared → Prop} {t : Expr} {cs : List Value} {b : Bool} {pn : List (Addr × Obj)} (I : Inv (X.suite a pn) pins σ H s) (ct : ClsE X t cs) (LT : PySem.W.Looks (model X.prog X.w) s.heap (typeOf (.ref a)) cls) (hb : PySem.W.exmAny X.K cls cs = some b)
    (q : ∀ h', (∀ c o, s.heap.get? c = some o → h'.get? c = some o) → Q b { s with heap := h' }) : wpAny (model X.prog X.w) (X.A.mark (some (.ref a))) (eval t X.env) (fun c s₁ => wpAny (model X.prog X.w) (X.A.mark (some (.ref a))) (excMatches (.ref a) c) Q E s₁) E s := by
  have test : ∀ {x : Str} {c : Value} {np : Pos} {Q' : Value → Shared → Prop}, Names X x c → Q' c s → wpAny (model X.prog X.w) (X.A.mark (some (.ref a))) (eval (.Name x np) X.env) Q' E s := fun {x c np Q'} hc q' => by
    obtain ⟨hg, hdbg, hm | ⟨hm, hv, hnn⟩⟩ := hc
    · exact ld_glob (X := X.suite a pn) I hg hm q' hdbg
    · exact ld_blt (X := X.suite a pn) I hg hm hv q' hnn hdbg
  cases ct with
  | one h =>
    refine test h ?_
    obtain ⟨b1, d1, x1, y1, z1⟩ := PySem.W.exmAny_cons hb
    cases y1
    rw [Bool.or_false] at z1
    subst z1
    exact (PySem.W.exm_one (M := model X.prog X.w) I.kIn LT x1).here (q s.heap fun _ _ z => z)
  | @tup es cs kk p h hl =>
    refine wpAny_Tuple ?_
    have go : ∀ {es : List Expr} {cs : List Value}, Paired (fun e c => ∃ x np, e = Expr.Name x np ∧ Names X x c) es cs → ∀ {Q' : List Value → Shared → Prop}, Q' cs s → wpAny (model X.prog X.w) (X.A.mark (some (.ref a))) (spliced (backTo p (starEach es X.env))) Q' E s := by
      intro es cs hk
      induction hk with
      | nil => intro Q' q'; exact wpAny_items_nil q'
      | cons r t ih =>
        intro Q' q'
        obtain ⟨x, np, rfl, hn⟩ := r
        exact wpAny_items_cons (test hn (ih q'))
    refine go h ⟨by rw [← Paired.length h]; exact hl, ?_⟩
    have kp : ∀ q o, s.heap.get? q = some o → (s.heap.push { cls := .type "tuple", data := .seq cs.toArray }).get? q = some o := fun _ _ z => Heap.get?_push_of_some _ z
    exact (exm_tupN (I.kIn.keeps kp) (LT.keeps kp) (Heap.get?_push_size s.heap rfl) hb).here (q _ kp)
/-- a caught exception is tracked -/
theorem held_at (I : Inv X pins σ H s) (n0 : X.s_0.heap.get? a = none) (np : ∀ p ∈ X.pn ++ pins, p.1 ≠ a) (e : s.heap.get? a = some oe) (hz : Zc cls d oe) (hd : oe.data = .fields vs) (na : H a = none) (nL : a ≠ X.env.locals) : Inv X pins σ (upd H a (exk a cls d)) s := by
  have ne0 : ∀ {b : Addr} {o : Obj}, X.s_0.heap.get? b = some o → b ≠ a := fun z q => by
    rw [q, n0] at z
    cases z
  refine ⟨I.ok, I.os, I.bare, ⟨I.base.keep, I.base.slot, fun b o z n hx => ?_, I.base.there, fun b xs z => ?_, fun b o u z => ?_, fun b ps z => ?_⟩, I.loc, I.cell, ?_, fun x c z => ?_, fun p hp => ?_, HOk.laidN I.hok (fun _ _ z => z) na (exk_ok e hz hd), I.len⟩
  · rw [upd_ne (ne0 z)]
    exact I.base.free b o z n hx
  · have q := I.base.tups b xs z
    rw [upd_ne (ne_of_none q na)]
    exact q
  · have q := I.base.frzs b o u z
    rw [upd_ne (ne_of_none q na)]
    exact q
  · obtain ⟨m, q⟩ := I.base.tbls b ps z
    exact ⟨m, by rw [upd_ne (ne_of_none q na)]; exact q⟩
  · rw [upd_ne (Ne.symm nL)]
    exact I.free
  · obtain ⟨v, o, ho, hdc⟩ := I.cell x c z
    have : c ≠ a := fun q => by
      rw [q, e] at ho
      cases ho
      rw [hd] at hdc
      cases hdc
    rw [upd_ne this]
    exact I.freeC x c z
  · obtain ⟨p1, p2, p3⟩ := I.pin p hp
    exact ⟨p1, by rw [upd_ne (np p hp)]; exact p2, p3⟩
end
/-- the ends of a suite behind which the caught exception is kept -/
def endsK (i : Nat) (a : Addr) (cls : Value) (d : Option Addr) (D : Ends) : Ends := { nx := fun σ' H' => D.nx (σ'.set i none) (upd H' a (exk a cls d)), rt := fun v H' => D.rt v (upd H' a (exk a cls d)), bk := fun σ' H' => D.bk (σ'.set i none) (upd H' a (exk a cls d)), ct := fun σ' H' => D.ct (σ'.set i none) (upd H' a (exk a cls d)) }
/-- what 'except .. as n' wishes of an exception of the body: slot i is n's, the exception is kept -/
def wKeep (K : PySem.W.Frag) (cs : List Value) (i : Nat) (ts : Addr → Value → Option Addr → TS) (Wout : WX) (D : Ends) : WX := fun cls d σ H =>
  ∃ b, PySem.W.exmAny K cls cs = some b ∧ (b = true → ∀ a, H a = none → ts a cls d (endsK i a cls d D) (σ.set i (some (.ref a))) H) ∧ (b = false → Wout cls d σ H)
section
variable {X : Cx} {n : Str} {cs : List Value} {i : Nat} {body suite : List Stmt} {b₀ : Stmt} {t : Expr} {pos pos' : Pos} {tb : WX → TS} {ts : Addr → Value → Option Addr → TS} {Wout : WX}
theorem ps_try_keep (hs : X.stack = X.env :: X.outer) (hf : X.env.frame = some X.env.locals) (hex : X.ex = []) (hN : X.N.Nodup) (hi : X.N[i]? = some n) (hln : X.env.kindOf n = some .local) (hc : ClsE X t cs) (tk : L2.Takes X Wout)
    (hb : ∀ (W : WX) (pn : List (Addr × Obj)) (xe : Value → Shared → Prop), L2.Takes (X.tr pn xe) W → PassesOwn (model X.prog X.w) X.A X.env xe → PSs (X.tr pn xe) body (tb W))
    (hsu : ∀ (a : Addr) (oe : Obj) (cls : Value) (d : Option Addr) (pn : List (Addr × Obj)), Zc cls d oe → (∃ vs, oe.data = .fields vs) → PSs (X.suite a ((a, oe) :: pn)) (b₀ :: suite) (ts a cls d)) :
    PS X (.Try body [.ExceptHandler (some t) (some n) (b₀ :: suite) pos'] [] [] pos) (fun D σ H => tb (wKeep X.K cs i ts Wout D) D σ H) := by
  refine ⟨fun pins s σ H D I h => ?_⟩
  have ok := I.ok
  have hfr : X.A.frames = some (X.env :: X.outer) := by rw [ok.frames, hs]
  have hloc : Loc X.env.scope n := .inl hln
  refine wpAny_Try_except ?_
  refine wpAny_mono ((hb (wKeep X.K cs i ts Wout D) (X.pn ++ pins) (fun e s₁ => wpAny (model X.prog X.w) X.A (noteFrame e X.env) (fun _ s₂ => wpAny (model X.prog X.w) X.A (setFlight e none) (fun _ s₃ =>
    wpAny (model X.prog X.w) X.A (handleBy e X.env [.ExceptHandler (some t) (some n) (b₀ :: suite) pos']) (SP X pins D) X.xe s₃) X.xe s₂) X.xe s₁) (fun u s' xx => ?_) PassesOwn.looking).run [] s σ H D (I.toTry _) h) (fun f s1 hsp => ?_) (fun e s1 he => he)
  · -- the catch
    obtain ⟨a, B, sI, pins', σ', H', cls, d, rfl, J', nb, up, sky, na, os, ag, b, hb1, hyes, hno⟩ := xx
    have J : Inv X pins σ' H' sI := J'.ofTry ok
    have sky' : Sky B (X.env :: X.outer) a (Zc cls d) X.env.locals s'.heap := by rw [← hs]; exact sky
    show wpAny (model X.prog X.w) X.A (noteFrame (.ref a) X.env) _ _ _
    refine Sky.land Zc.steady hfr hf sky' fun h3 fl3 up3 => ?_
    have J3 : Inv X pins σ' H' { s' with heap := h3 } := J.landed nb fl3.1 (up.trans up3) os ag
    obtain ⟨oe3, vs3, he3, hz3, hd3⟩ := fl3.there
    have notFr : ∀ {h : Heap} {o : Obj} {vs : Array Value}, h.FunFrames B (X.env :: X.outer) → h.get? a = some o → o.data = .fields vs → a ∉ frs (X.env :: X.outer) := fun {h o vs} ff e dd hm => by
      obtain ⟨_, o', e', hnf⟩ := ff.mem hm
      rw [e] at e'; cases e'
      exact hnf _ dd
    have nfr := notFr fl3.2.2.1 he3 hd3
    have nL : a ≠ X.env.locals := fun z => nfr (List.mem_filterMap.mpr ⟨X.env, List.mem_cons_self, by rw [hf, z]⟩)
    have nF : a ∉ X.fs := fun hm => by
      obtain ⟨e, he, q⟩ := List.mem_filterMap.mp hm
      exact nfr (List.mem_filterMap.mpr ⟨e, List.mem_cons_of_mem _ he, q⟩)
    have nI : sI.heap.get? a = none := by
      cases e : sI.heap.get? a with
      | none => rfl
      | some o =>
        have z := nb a o e (by rw [hs]; exact nfr)
        rw [fl3.2.1] at z
        cases z
    have n0 : X.s_0.heap.get? a = none := by
      cases e : X.s_0.heap.get? a with
      | none => rfl
      | some o =>
        obtain ⟨o', z⟩ := J.base.there a o e (by rw [hex]; exact fun z => nomatch z)
        rw [nI] at z
        cases z
    have np : ∀ p ∈ X.pn ++ pins, p.1 ≠ a := fun p hp z => by
      have q := (J.pin p hp).1
      rw [z, nI] at q
      cases q
    have S3 := J3.suite he3 hd3 na nL nF
    refine wpAny_handleBy_cons (codeAny_handlers_test ?_) (by intro q; cases q)
    have LT : PySem.W.Looks (model X.prog X.w) h3 (typeOf (.ref a)) cls := fun A Q E s k q => wpAny_typeOf_ref (k _ _ he3) (by rw [hz3.1]; exact q)
    refine clsE_ok (s := { s' with heap := h3 }) S3 hc LT hb1 fun h5 kp5 => ?_
    have fl5 : HandSPX.FlyingZ B (X.env :: X.outer) a (Zc cls d) h5 := by
      obtain ⟨k1, k2, k3, oe, ws, T, oT, ts', he, hz, hd, h1, hnT, hTe, hT, hdT, h3'⟩ := fl3
      exact ⟨fun b o e => kp5 b o (k1 b o e), k2, Heap.FunFrames.of_keeps (fun b o e _ => ⟨o, kp5 b o e, rfl⟩) k3, oe, ws, T, oT, ts', kp5 _ _ he, hz, hd, h1, hnT, hTe, kp5 _ _ hT, hdT, h3'⟩
    have up5 : h3.UpToSlots h5 := Heap.UpToSlots.of_keeps kp5
    cases b with
    | true =>
      refine codeAny_handlers_suite_as ?_
      refine HandSPX.lands_againZ fl5 fun h4 fl4 up4 => ?_
      have J4 : Inv X pins σ' H' { s' with heap := h4 } := J.landed nb fl4.1 (((up.trans up3).trans up5).trans up4) os ag
      obtain ⟨oe4, vs4, he4, hz4, hd4⟩ := fl4.there
      have S4 := J4.suite he4 hd4 na nL nF
      refine store_ok (X := X.suite a ((a, oe4) :: (X.pn ++ pins))) (v := .ref a) S4 hN hi hloc rfl (fun s5 S5 => ?_) (.inr hln)
      refine wpAny_mono ((hsu a oe4 cls d (X.pn ++ pins) hz4 ⟨_, hd4⟩).run [] s5 _ H' _ S5 (hyes rfl a na)) (fun f s6 hsp => ?_) (fun _ _ z => False.elim z)
      have end_ : ∀ {σ6 : L2.St} {H6 : Hp} {Q : Shared → Prop}, Inv (X.suite a ((a, oe4) :: (X.pn ++ pins))) [] σ6 H6 s6 → (∀ s7, Inv X pins (σ6.set i none) (upd H6 a (exk a cls d)) s7 → Q s7) →
          wpAny (model X.prog X.w) X.A (do bindName X.env n .none; unbindBehindTheSuite X.env n pos') (fun _ s7 => Q s7) X.xe s6 := fun {σ6 H6 Q} S6 hq => gone_ok (X := X.suite a ((a, oe4) :: (X.pn ++ pins))) S6 hN hi hln fun s7 S7 => hq s7 (by
        obtain ⟨g1, g2, _⟩ := S7.pin (a, oe4) (List.mem_append_left _ List.mem_cons_self)
        exact held_at (S7.unsuite ok) n0 np g1 hz4 hd4 g2 nL)
      cases f with
      | next =>
        obtain ⟨σ6, H6, S6, q6⟩ := hsp
        exact end_ S6 fun s7 J7 => ⟨_, _, J7, q6⟩
      | brk =>
        obtain ⟨σ6, H6, S6, q6⟩ := hsp
        exact end_ S6 fun s7 J7 => ⟨_, _, J7, q6⟩
      | cont =>
        obtain ⟨σ6, H6, S6, q6⟩ := hsp
        exact end_ S6 fun s7 J7 => ⟨_, _, J7, q6⟩
      | ret u =>
        obtain ⟨v6, σ6, H6, S6, r6, q6⟩ := hsp
        exact end_ S6 fun s7 J7 => ⟨_, _, _, J7, r6, q6⟩
    | false =>
      show wpAny _ X.A (handleBy (.ref a) X.env []) _ _ _
      refine wpAny_handleBy_nil ?_
      obtain ⟨k1, k2, k3, oe, vs, T, oT, ts', he, hz, hd, h1, hr⟩ := id fl5
      unfold PySem.passOn
      refine wpAny_bind (wpAny_field he hd h1 ?_)
      rw [if_neg (show ¬ ((Value.ref T == Value.none) = true) from by simp)]
      have fin : wpAny (model X.prog X.w) X.A (setFlight (.ref a) X.env.frame) (fun _ s4 => wpAny (model X.prog X.w) X.A (throw (.ref a) : Sem Flow) (SP X pins D) X.xe s4) X.xe { s' with heap := h5 } := by
        rw [hf]
        refine HandSPX.setFlight_upZ fl5 fun h4 hh4 up4 => wpAny_throw (tk _ _ ?_)
        exact ⟨a, B, sI, pins, σ', H', cls, d, rfl, J, nb, ((up.trans up3).trans up5).trans up4, .inr (.inr (by rw [hs]; exact hh4)), na, os, ag, hno rfl⟩
      first
        | exact wpAny_bind (wpAny_pure (wpAny_bind fin))
        | exact wpAny_bind fin
  · cases f with
    | next =>
      obtain ⟨σ', H', J', q⟩ := hsp
      exact wpAny_execs_nil ⟨σ', H', J'.ofTry ok, q⟩
    | brk =>
      obtain ⟨σ', H', J', q⟩ := hsp
      exact ⟨σ', H', J'.ofTry ok, q⟩
    | cont =>
      obtain ⟨σ', H', J', q⟩ := hsp
      exact ⟨σ', H', J'.ofTry ok, q⟩
    | ret u =>
      obtain ⟨v, σ', H', J', r, q⟩ := hsp
      exact ⟨v, σ', H', J'.ofTry ok, r, q⟩
end
/-- a holds a kept exception of the class at C, with the fields fs -/
def ExAt (H : Hp) (a C : Addr) (fs : Option (List (Str × V))) : Prop := ∃ d, H a = some (exk a (.ref C) d) ∧ match fs with
  | none => d = none
  | some fs => ∃ dd, d = some dd ∧ H dd = some (.xd fs)
theorem ExAt.inst {X : Cx} {pins : List (Addr × Obj)} {σ : L2.St} {H : Hp} {s : Shared} {a C : Addr} {fs : Option (List (Str × V))} (I : Inv X pins σ H s) (x : ExAt H a C fs) : ∃ oe od, PySem.W.InstAt s.heap a oe C od := by
  obtain ⟨d, ha, hd⟩ := x
  obtain ⟨⟨oe, vs, ho, hz, hv⟩, _, _⟩ := I.hok a _ ha
  cases fs with
  | none =>
    subst hd
    exact ⟨oe, none, ho, hz.1, by unfold PySem.W.notCls; rw [hv] <;> rfl, by rw [hz.2]; trivial⟩
  | some fs =>
    obtain ⟨dd, rfl, hdd⟩ := hd
    have hx : ObjOk X.prog X.w H s.heap dd (.xd fs) := I.hok dd _ hdd
    obtain ⟨mA, hns, hr⟩ := hx
    obtain ⟨od, ho', hl⟩ := lookIn_ns hns
    exact ⟨oe, some od, ho, hz.1, by unfold PySem.W.notCls; rw [hv] <;> rfl, by rw [hz.2]; exact ho'⟩
theorem ExAt.same {H H' : Hp} {a C : Addr} {fs : Option (List (Str × V))} (x : ExAt H a C fs) (e : Same H H') : ExAt H' a C fs := by
  obtain ⟨d, ha, hd⟩ := x
  refine ⟨d, e _ _ ha, ?_⟩
  cases fs with
  | none => exact hd
  | some fs =>
    obtain ⟨dd, h1, h2⟩ := hd
    exact ⟨dd, h1, e _ _ h2⟩
/-- isinstance(v, C) of a kept exception -/
def rIsX (K : PySem.W.Frag) : List V → Hp → VK → Prop := fun xs H Q => ∃ (a D : Addr) (fs : Option (List (Str × V))) (c : V) (u : Value) (b : Bool), xs = [.ref a, c] ∧ ExAt H a D fs ∧ ExcC K D ∧ ClsV c u ∧ PySem.W.kitOne K (.ref D) u = some b ∧ Q (.bl b) H
/-- isinstance(v, (A, B, ..)) of a kept exception -/
def rIsXT (K : PySem.W.Frag) : List V → Hp → VK → Prop := fun xs H Q => ∃ (a D tp : Addr) (fs : Option (List (Str × V))) (cs : List V) (us : List Value) (b : Bool), xs = [.ref a, .ref tp] ∧ H tp = some (.tup cs) ∧ Paired ClsV cs us ∧ ExAt H a D fs ∧ ExcC K D ∧ PySem.W.kitAny K (.ref D) us = some b ∧ Q (.bl b) H
section
variable {X : Cx}
theorem call_isX : CallR X (.builtin "isinstance") (rIsX X.K) := by
  intro pins s σ H xs us Q I r h
  obtain ⟨a, D, fs, c, u, b, rfl, ea, C, k, e, q⟩ := h
  obtain ⟨u1, u2, rfl, r1, r2⟩ := vals2 r
  have e2 := k.eq r2
  subst e2
  cases (show u1 = Value.ref a from r1)
  obtain ⟨oe, od, J⟩ := ea.inst I
  obtain ⟨cd, hc, _⟩ := PySem.W.any_some C.hd
  exact PySem.W.kia_one (PySem.W.kitx_exc (by rw [hc]; rfl) C.hg C.hk C.hs C.ha C.hn C.ht C.hm) I.kIn J e (fun z => nomatch z) fun tk => ⟨.bl b, H, I.tok tk, rfl, q⟩
theorem call_isXT : CallR X (.builtin "isinstance") (rIsXT X.K) := by
  intro pins s σ H xs us Q I r h
  obtain ⟨a, D, tp, fs, cs, ws, b, rfl, hT, k, ea, C, e, q⟩ := h
  obtain ⟨u1, u2, rfl, r1, r2⟩ := vals2 r
  cases (show u2 = Value.ref tp from r2)
  cases (show u1 = Value.ref a from r1)
  obtain ⟨oe, od, J⟩ := ea.inst I
  obtain ⟨cd, hc, _⟩ := PySem.W.any_some C.hd
  obtain ⟨_, its, rv, o, h1, h2, n, h3⟩ := (show ObjOk X.prog X.w H s.heap tp (.tup cs) from I.hok tp _ hT)
  have e3 := ClsV.all k rv
  subst e3
  obtain ⟨oc, od', dt, sl⟩ := o
  simp only at h2 h3
  subst h2 h3
  exact PySem.W.kia_tup (PySem.W.kitx_exc (by rw [hc]; rfl) C.hg C.hk C.hs C.ha C.hn C.ht C.hm) I.kIn J h1 e (fun z => nomatch z) fun tk => ⟨.bl b, H, I.tok tk, rfl, q⟩
/-- v.f of a kept exception -/
def tXk (K : PySem.W.Frag) (f : Str) (te : TE) : TE := fun σ H Q => te σ H fun x H1 => ∃ (a C : Addr) (fs : List (Str × V)) (v : V), x = .ref a ∧ ExAt H1 a C (some fs) ∧ ExcC K C ∧ PySem.W.findIn K (.ref C) f = some none ∧ fs.lookup f = some v ∧ Q v H1
theorem pe_xk {e : Expr} {te : TE} {pos : Pos} {f : Str} (he : PE X e te) (hb : attributeBase e f X.env (eval e X.env) = eval e X.env := by rfl) : PE X (.Attribute e f pos) (tXk X.K f te) := by
  refine ⟨fun pins s σ H Q I h => ?_⟩
  refine attr_of hb (thn (he.run pins s σ H _ I h) fun u s1 hh => ?_)
  obtain ⟨x, H1, I1, rx, a, C, fs, v, ex, ⟨d, ha, dd, ed, hdd⟩, T, hno, l, q⟩ := hh
  subst ex
  obtain rfl : u = Value.ref a := rx
  subst ed
  obtain ⟨⟨oe, vs, ho, hz, hv⟩, _, _⟩ := I1.hok a _ ha
  have hx : ObjOk X.prog X.w H1 s1.heap dd (.xd fs) := I1.hok dd _ hdd
  obtain ⟨mA, hns, hr⟩ := hx
  obtain ⟨od, ho', hl⟩ := lookIn_ns hns
  obtain ⟨u, hu, ru⟩ := RelO.some_of (v := v) (o := mA f) (by rw [← l]; exact hr f)
  have J : PySem.W.InstAt s1.heap a oe C (some od) := ⟨ho, hz.1, by unfold PySem.W.notCls; rw [hv] <;> rfl, by rw [hz.2]; exact ho'⟩
  exact HandSPX.exc_get I1.kIn J T.hg T.hk T.hs (PySem.W.findObj_own T.hd hno rfl (by rw [hl, hu])) (handed_of ru) ⟨v, H1, I1.tok _, ru, q⟩
end
end Sh

namespace Sh
open PySem PySem.Spec PyProof.Rows L2
/-! ### the text by places -/
def topS (i : Nat) : Stmt := PySem.Challenge.pw_shoalmates_k04_crossings_one_by_one.main.body.getD i (.Pass ⟨0, 0, 0, 0⟩)
end Sh

namespace Sh
open PySem PySem.Spec PyProof.Rows L2
/-! ### the program's own exceptions -/
/-- the first def of a class -/
def clsIni (s : Stmt) : Stmt := match s with
  | .ClassDef _ _ _ (b :: _) _ _ _ _ _ _ _ => b
  | s => s
/-- what is known of a class with one field -/
structure Xc (K : PySem.W.Frag) (mg : Str → Option Value) (x q f : Str) (st : Stmt) (C : Addr) : Prop where
  g : mg x = some (.ref C)
  T : OexC K C
  ini : ∃ (fI : Addr) (fd : FuncData), PySem.W.findIn K (.ref C) "__init__" = some (some (.ref fI)) ∧ PySem.W.typeIn K (.ref fI) = some (.type "function") ∧ Fun K "__init__" q st fI fd
  no : PySem.W.findIn K (.ref C) f = some none
  e : ExcC K C
structure XB (K : PySem.W.Frag) (mg : Str → Option Value) : Prop where
  VE : mg "ValueError" = none
  vV : PySem.W.findCls K (.type "ValueError") (.type "type") "__init__" = some (.val (.builtin "ValueError.__init__"))
theorem with_xc {K : PySem.W.Frag} {mg : Str → Option Value} {R : Prop} {x q f : Str} {st : Stmt} {h : Heap} {C fI : Addr} {oc : Value} {od an : Option Addr} {sl : Array (Option Value)} {kV dc pm cd ct : Value} (X : K.In h) (G : h.Ns mainGlobals mg)
    (a : PySem.W.nsIn K mainGlobals x = some (some (.ref C))) (T : OexC K C) (i : PySem.W.findIn K (.ref C) "__init__" = some (some (.ref fI))) (ti : PySem.W.typeIn K (.ref fI) = some (.type "function"))
    (l : K.lookup fI = some ⟨oc, od, .func (PySem.W.fnOf "__init__" q (defArgs st) (defBody st) (defScope st) .none kV dc pm an cd ct), sl⟩) (c : PySem.W.codeIn K cd q = true) (k : PySem.W.keepIn K (.ref fI) = true) (no : PySem.W.findIn K (.ref C) f = some none) (e : ExcC K C)
    (r : Xc K mg x q f st C → R) : R := r ⟨PySem.W.mg_of X G a, T, ⟨fI, _, i, ti, fun_mk l c k⟩, no, e⟩
theorem with_xb {K : PySem.W.Frag} {mg : Str → Option Value} {R : Prop} {h : Heap} (G : h.Ns mainGlobals mg) (X : K.In h) (a : PySem.W.nsIn K mainGlobals "ValueError" = some none)
    (b : PySem.W.findCls K (.type "ValueError") (.type "type") "__init__" = some (.val (.builtin "ValueError.__init__"))) (r : XB K mg → R) : R := r ⟨PySem.W.mg_none_of X G a, b⟩
/-- a whole number that is written down -/
def okInt (v : V) : Prop := ∃ i : Int, v = .int i ∧ i.natAbs.log2 < 1920
theorem js_len {a b : Str} {n m : Nat} (h : a.length ≤ n) (h2 : b.length ≤ m) (z : n + m ≤ sizeLine) : (a ++ b).length ≤ sizeLine := by
  rw [PySem.Str.length_append]
  omega
theorem int_len {i : Int} (h : i.natAbs.log2 < 1920) : (toString i : Str).length ≤ 4000 := by
  have e := PySem.int_text_length_le (k := 1920) (by decide) h
  show (Str.ofString (toString i)).length ≤ 4000
  rw [PySem.ofString_length]
  omega
theorem js_at {a b : Str} {n m : Nat} (h : a.length ≤ n) (h2 : b.length ≤ m) : (a ++ b).length ≤ n + m := by
  rw [PySem.Str.length_append]
  omega
abbrev s_MayNot_init : Stmt := clsIni (topS 1)
theorem sc_MayNot_init : FnScope (["self", "ship"] : List Str) (["self", "ship"] : List Str) (defScope s_MayNot_init) := ⟨rfl, rfl, rfl, by decide +kernel, rfl, by decide +kernel, by decide +kernel⟩
theorem b_MayNot_init (kV doc pm : Value) (an : Option Addr) (cdv ct : Value) (us : List Value) (hl : us.length = (["self", "ship"] : List Str).length) : bindArgs (PySem.W.fnOf "__init__" "MayNot.__init__" (defArgs s_MayNot_init) (defBody s_MayNot_init) (defScope s_MayNot_init) .none kV doc pm an cdv ct) ⟨us, []⟩ = pure ((["self", "ship"] : List Str).zip us) :=
  match us, hl with | [_, _], _ => rfl
section
variable {P : Program} {w : World} {K : PySem.W.Frag} {mg : Str → Option Value} {base : Heap}
theorem ok_MayNot {k : Nat} {C : Addr} (B : XB K mg) (D : Xc K mg "MayNot" "MayNot.__init__" "ship" s_MayNot_init C) : ExcOk P w K mg base (k + 1) "MayNot" C "ship" okInt := by
  obtain ⟨fI, fd, fi, ti, F⟩ := D.ini
  refine ⟨D.g, D.T, fI, fd, ["self", "ship"], fi, ti, F.ok sc_MayNot_init (fun vs H Q E h => ?_) (fun cdv A outer s H vs Q E hr h => ?_), F.binds b_MayNot_init⟩
  · obtain ⟨a, v, rfl, _⟩ := h
    rfl
  · obtain ⟨a, v, rfl, ⟨i, rfl, hi⟩, ha, q⟩ := h
    refine ⟨_, pss_cons (ps_expr (pe_veinit (by rfl) B.VE B.vV (pa_cons (pv 0) (pa_cons (pe_joined (PJ.cons pe_str (PJ.cons (pe_fmt (pv 1)) (PJ.cons pe_str .nil)))) pa_nil)))) (pss_one (ps_ost (pv 0) (pv 1))), ?_⟩
    refine ⟨.ref a, rfl, ?_⟩
    have l1 : (Str.empty ++ Str.ofString "ship ").length ≤ 5 := by decide
    refine ⟨_, rfl, Nat.le_trans l1 (by decide), ?_⟩
    have l2 := js_at l1 (int_len hi)
    refine ⟨_, rfl, .inr ⟨i, rfl, hi, _, rfl, Nat.le_trans l2 (by decide), ?_⟩⟩
    refine ⟨_, rfl, Nat.le_trans (js_at l2 (show (Str.ofString " may not go over the bar").length ≤ 100 by decide)) (by decide), ?_⟩
    refine ⟨a, C, _, rfl, by simp, D.T, ha, ?_⟩
    exact ⟨_, rfl, _, rfl, a, C, rfl, D.T, D.no, .inl ⟨ha, q⟩⟩
end
end Sh

namespace Sh
open PySem PySem.Spec PyProof.Rows L2
/-! ### what is drawn from -/
def BoxOk (xs : List V) (n : Nat) : Prop := ∃ b0 b1 b2 : Int, xs = [.int b0, .int b1, .int b2] ∧ 0 ≤ b0 ∧ 0 ≤ b1 ∧ b1 < 4611686018427387904 ∧ 0 ≤ b2 ∧ b2 + (n : Int) ≤ 1099511627776
def BoxAt (H : Hp) (b : Addr) (n : Nat) : Prop := ∃ xs, H b = some (.lst xs) ∧ BoxOk xs n
theorem BoxOk.mono {xs : List V} {n m : Nat} (h : BoxOk xs n) (l : m ≤ n) : BoxOk xs m := by
  obtain ⟨b0, b1, b2, e, h0, h1, h2, h3, h4⟩ := h
  exact ⟨b0, b1, b2, e, h0, h1, h2, h3, by omega⟩
theorem BoxAt.mono {H : Hp} {b : Addr} {n m : Nat} (h : BoxAt H b n) (l : m ≤ n) : BoxAt H b m := let ⟨xs, e, k⟩ := h; ⟨xs, e, k.mono l⟩
theorem BoxAt.same {H H' : Hp} {b : Addr} {n : Nat} (h : BoxAt H b n) (s : Same H H') : BoxAt H' b n := let ⟨xs, e, k⟩ := h; ⟨xs, s _ _ e, k⟩
theorem BoxAt.some {H : Hp} {b : Addr} {n : Nat} (h : BoxAt H b n) : H b ≠ none := fun z => by
  obtain ⟨xs, e, _⟩ := h
  rw [e] at z
  cases z
/-- a new place is not the box -/
theorem BoxAt.ne {H : Hp} {b p : Addr} {n : Nat} (h : BoxAt H b n) (z : H p = none) : b ≠ p := let ⟨_, e, _⟩ := h; ne_of_none e z
def spTake : Sp := fun vs H Q _ => ∃ (b : Addr) (n : Nat) (span : Int), vs = [.ref b, .int span] ∧ 0 < span ∧ span < 1152921504606846976 ∧ BoxAt H b (n + 1) ∧ ∀ (v : Int) (xs : List V), 0 ≤ v → v < span → BoxOk xs n → Q (.int v) (upd H b (.lst xs))
abbrev s__law_take : Stmt := topS 16
theorem sc__law_take : FnScope (["_law_box_here", "_law_span", "_law_found", "_law_once", "_law_twice"] : List Str) (["_law_box_here", "_law_span"] : List Str) (defScope s__law_take) := ⟨rfl, rfl, rfl, by decide +kernel, rfl, by decide +kernel, by decide +kernel⟩
theorem b__law_take (kV doc pm : Value) (an : Option Addr) (cdv ct : Value) (us : List Value) (hl : us.length = (["_law_box_here", "_law_span"] : List Str).length) : bindArgs (PySem.W.fnOf "_law_take" "_law_take" (defArgs s__law_take) (defBody s__law_take) (defScope s__law_take) .none kV doc pm an cdv ct) ⟨us, []⟩ = pure ((["_law_box_here", "_law_span"] : List Str).zip us) :=
  match us, hl with | [_, _], _ => rfl
section
variable {P : Program} {w : World} {K : PySem.W.Frag} {mg : Str → Option Value} {base : Heap}
theorem ok_take {k : Nat} (D : Df K mg "_law_take" s__law_take) (T : Bt mg) : Ok P w K mg base (k + 1) "_law_take" s__law_take ["_law_box_here", "_law_span"] spTake := by
  refine D.ok sc__law_take b__law_take (fun vs H Q E h => ?_) (fun f cdv A outer s H vs Q E hr h => ?_)
  · obtain ⟨b, n, span, rfl, _⟩ := h
    rfl
  · obtain ⟨b, n, span, rfl, s0, s1, ⟨xs, hb, b0, b1, b2, rfl, h0, h1, h1', h2, h3⟩, q⟩ := h
    refine ⟨_, (pss_cons (ps_if (pt_cmpR op_gt (pe_ix ix_lt (pv 0) pe_int (fun _ _ => rfl)) pe_int (nomark _))
        (pss_cons (ps_set (i := 2) sc__law_take.nd rfl (.inl rfl) (pe_op op_mod (pe_ix ix_lt (pv 0) pe_int (fun _ _ => rfl)) (pv 1)))
          (pss_cons (ps_asg (pe_op op_fdivW (pe_ix ix_lt (pv 0) pe_int (fun _ _ => rfl)) (pv 1)) (pg_sub (pv 0) pe_int set_list))
          (pss_one (ps_ret (pv 2)))))
        pss_nil)
      (pss_cons (ps_asg (pe_op op_add (pe_ix ix_lt (pv 0) pe_int (fun _ _ => rfl)) pe_int) (pg_sub (pv 0) pe_int set_list))
      (pss_cons (ps_set (i := 3) sc__law_take.nd rfl (.inl rfl) (pe_op op_mod (pe_op op_mul (pe_op op_add (pe_ix ix_lt (pv 0) pe_int (fun _ _ => rfl)) (pe_op op_mul pe_int (pe_ix ix_lt (pv 0) pe_int (fun _ _ => rfl)))) (pe_op op_add pe_int (pe_ix ix_lt (pv 0) pe_int (fun _ _ => rfl)))) pe_int))
      (pss_cons (ps_set (i := 4) sc__law_take.nd rfl (.inl rfl) (pe_op op_mod (pe_op op_mul (pe_op op_add (pe_op op_add (pv 3) (pe_ix ix_lt (pv 0) pe_int (fun _ _ => rfl))) (pe_op op_fdiv (pe_ix ix_lt (pv 0) pe_int (fun _ _ => rfl)) pe_int)) (pe_op op_add (pe_op op_mod (pv 3) pe_int) pe_int)) pe_int))
      (pss_one (ps_ret (pe_op op_mod (pe_op op_fdiv (pe_op op_mod (pe_op op_add (pe_op op_mul (pv 4) pe_int) (pv 3)) pe_int) pe_int) (pv 1)))))))), ?_⟩
    have hq : SqA K H b [.int b0, .int b1, .int b2] := SqA.l hb
    refine ⟨_, rfl, b, _, 0, .int b0, rfl, rfl, hq, rfl, b0, 0, rfl, rfl, _, rfl, ite2 (fun c => ?_) (fun c => ?_)⟩
    · have c0 : 0 < b0 := of_decide_eq_true c
      refine ⟨_, rfl, b, _, 0, .int b0, rfl, rfl, hq, rfl, _, rfl, b0, span, rfl, rfl, s0, ?_⟩
      refine ⟨_, rfl, b, _, 0, .int b0, rfl, rfl, hq, rfl, _, rfl, b0, span, rfl, rfl, wide_div (b := 60) s0 (show span.natAbs < 1152921504606846976 by omega) (by decide) (by decide), ?_⟩
      refine ⟨_, rfl, b, _, 0, 0, rfl, rfl, hb, rfl, ?_⟩
      refine ⟨_, rfl, ?_⟩
      exact q _ _ (Int.emod_nonneg _ (by omega)) (Int.emod_lt_of_pos _ s0) ⟨b0 / span, b1, b2, rfl, Int.ediv_nonneg h0 (by omega), h1, h1', h2, by omega⟩
    · refine ⟨_, rfl, b, _, 2, .int b2, rfl, rfl, hq, rfl, b2, 1, rfl, rfl, ?_⟩
      refine ⟨_, rfl, b, _, 2, 2, rfl, rfl, hb, rfl, ?_⟩
      have hq2 : SqA K (upd H b (.lst [.int b0, .int b1, .int (b2 + 1)])) b [.int b0, .int b1, .int (b2 + 1)] := SqA.l upd_same
      have m1 : 0 ≤ (b1 + 48271 * (b2 + 1)) * (39373 + (b2 + 1)) % 2147483647 := Int.emod_nonneg _ (by decide)
      have m2 : (b1 + 48271 * (b2 + 1)) * (39373 + (b2 + 1)) % 2147483647 < 2147483647 := Int.emod_lt_of_pos _ (by decide)
      refine ⟨_, rfl, b, _, 1, .int b1, rfl, rfl, hq2, rfl, _, rfl, b, _, 2, .int (b2 + 1), rfl, rfl, hq2, rfl, 48271, b2 + 1, rfl, rfl, .inl ⟨by decide, by decide⟩, b1, _, rfl, rfl, ?_⟩
      refine ⟨_, rfl, b, _, 2, .int (b2 + 1), rfl, rfl, hq2, rfl, 39373, b2 + 1, rfl, rfl, _, _, rfl, rfl, .inr ⟨by omega, by omega⟩, _, 2147483647, rfl, rfl, (show (0 : Int) < 2147483647 by decide), ?_⟩
      dsimp only
      generalize (b1 + 48271 * (b2 + 1)) * (39373 + (b2 + 1)) % 2147483647 = once at m1 m2
      have o1 : 0 ≤ once % 40009 := Int.emod_nonneg _ (by decide)
      have o2 : once % 40009 < 40009 := Int.emod_lt_of_pos _ (by decide)
      refine ⟨_, rfl, _, rfl, b, _, 2, .int (b2 + 1), rfl, rfl, hq2, rfl, once, b2 + 1, rfl, rfl, _, rfl, b, _, 1, .int b1, rfl, rfl, hq2, rfl, b1, 1000003, rfl, rfl, ⟨by decide, by decide⟩, _, _, rfl, rfl, ?_⟩
      refine ⟨_, rfl, once, 40009, rfl, rfl, (show (0 : Int) < 40009 by decide), _, 7, rfl, rfl, _, _, rfl, rfl, .inr ⟨by omega, by omega⟩, _, 2147483629, rfl, rfl, (show (0 : Int) < 2147483629 by decide), ?_⟩
      dsimp only
      have t1 : 0 ≤ (once + (b2 + 1) + b1 / 1000003) * (once % 40009 + 7) % 2147483629 := Int.emod_nonneg _ (by decide)
      have t2 : (once + (b2 + 1) + b1 / 1000003) * (once % 40009 + 7) % 2147483629 < 2147483629 := Int.emod_lt_of_pos _ (by decide)
      generalize (once + (b2 + 1) + b1 / 1000003) * (once % 40009 + 7) % 2147483629 = twice at t1 t2
      refine ⟨_, rfl, twice, 48271, rfl, rfl, .inl ⟨by omega, by omega⟩, _, rfl, _, once, rfl, rfl, _, 2147483587, rfl, rfl, (show (0 : Int) < 2147483587 by decide), _, 64, rfl, rfl, ⟨by decide, by decide⟩, _, rfl, _, span, rfl, rfl, s0, ?_⟩
      exact q _ _ (Int.emod_nonneg _ (by omega)) (Int.emod_lt_of_pos _ s0) ⟨b0, b1, b2 + 1, rfl, h0, h1, h1', by omega, by omega⟩
end
end Sh

namespace Sh
open PySem PySem.Spec PyProof.Rows L2
theorem SqA.at {K : PySem.W.Frag} {H : Hp} {b l : Addr} {o : HO} {xs : List V} (n : l ≠ b) (h : SqA K H l xs) : SqA K (upd H b o) l xs := by
  rcases h with ((h | ⟨z, h⟩) | h) | ((h | ⟨z, h⟩) | h)
  · exact .inl (.inl (.inl (by rw [upd_ne n]; exact h)))
  · exact .inl (.inl (.inr ⟨z, by rw [upd_ne n]; exact h⟩))
  · exact .inl (.inr h)
  · exact .inr (.inl (.inl (by rw [upd_ne n]; exact h)))
  · exact .inr (.inl (.inr ⟨z, by rw [upd_ne n]; exact h⟩))
  · exact .inr (.inr h)
theorem at_nat {xs : List V} {i : Int} {j : Nat} {v : V} (e : i = (j : Int)) (h : xs[j]? = some v) : atI xs i = some v := L2.at_of e h
theorem b01 (c : Bool) : (0 : Int) ≤ if c = true then 1 else 0 := by cases c <;> decide
theorem b01' (c : Bool) : (-(2 ^ 64) : Int) < (if c = true then 1 else 0) ∧ (if c = true then 1 else 0) < (2 ^ 64 : Int) := by cases c <;> decide
/-- a cell of the script: some int -/
def spCellAt (K : PySem.W.Frag) : Sp := fun vs H Q _ => ∃ (l : Addr) (ns : List Int) (j : Nat), vs = [.ref l, .int (j : Int)] ∧ SqL K H l (ns.map V.int) ∧ ∀ z : Int, Q (.int z) H
abbrev s__law_cell_at : Stmt := topS 14
theorem sc__law_cell_at : FnScope (["_law_script", "_law_k"] : List Str) (["_law_script", "_law_k"] : List Str) (defScope s__law_cell_at) := ⟨rfl, rfl, rfl, by decide +kernel, rfl, by decide +kernel, by decide +kernel⟩
theorem b__law_cell_at (kV doc pm : Value) (an : Option Addr) (cdv ct : Value) (us : List Value) (hl : us.length = (["_law_script", "_law_k"] : List Str).length) : bindArgs (PySem.W.fnOf "_law_cell_at" "_law_cell_at" (defArgs s__law_cell_at) (defBody s__law_cell_at) (defScope s__law_cell_at) .none kV doc pm an cdv ct) ⟨us, []⟩ = pure ((["_law_script", "_law_k"] : List Str).zip us) :=
  match us, hl with | [_, _], _ => rfl
def spBox (K : PySem.W.Frag) : Sp := fun vs H Q _ => ∃ (l : Addr) (ns : List Int) (j : Nat), vs = [.ref l, .int (j : Int)] ∧ j ≤ 100 ∧ SqL K H l (ns.map V.int) ∧ ∀ (p : Addr) (xs : List V), H p = none → BoxOk xs 549755813888 → Q (.ref p) (upd H p (.lst xs))
abbrev s__law_box : Stmt := topS 15
theorem sc__law_box : FnScope (["_law_script", "_law_k", "_law_core"] : List Str) (["_law_script", "_law_k"] : List Str) (defScope s__law_box) := ⟨rfl, rfl, rfl, by decide +kernel, rfl, by decide +kernel, by decide +kernel⟩
theorem b__law_box (kV doc pm : Value) (an : Option Addr) (cdv ct : Value) (us : List Value) (hl : us.length = (["_law_script", "_law_k"] : List Str).length) : bindArgs (PySem.W.fnOf "_law_box" "_law_box" (defArgs s__law_box) (defBody s__law_box) (defScope s__law_box) .none kV doc pm an cdv ct) ⟨us, []⟩ = pure ((["_law_script", "_law_k"] : List Str).zip us) :=
  match us, hl with | [_, _], _ => rfl
section
variable {P : Program} {w : World} {K : PySem.W.Frag} {mg : Str → Option Value} {base : Heap}
theorem ok_cell_at {k : Nat} (D : Df K mg "_law_cell_at" s__law_cell_at) (T : Bt mg) : Ok P w K mg base (k + 1) "_law_cell_at" s__law_cell_at ["_law_script", "_law_k"] (spCellAt K) := by
  refine D.ok sc__law_cell_at b__law_cell_at (fun vs H Q E h => ?_) (fun f cdv A outer s H vs Q E hr h => ?_)
  · obtain ⟨l, ns, j, rfl, _⟩ := h
    rfl
  · obtain ⟨l, ns, j, rfl, hs, q⟩ := h
    refine ⟨_, (pss_cons (ps_if (pt_cmpR op_lt (pv 1) (pe_callB call_len_seq (by rfl) T.len_ PySem.boot_len (pa_cons (pv 0) pa_nil)) (nomark _))
        (pss_one (ps_ret (pe_ix ix_lt (pv 0) (pv 1) (fun _ _ => rfl))))
        pss_nil)
      (pss_one (ps_ret pe_int))), ?_⟩
    refine ⟨_, rfl, _, rfl, l, _, rfl, .inl hs, _, _, rfl, rfl, _, rfl, ite2 (fun c => ?_) (fun c => ?_)⟩
    · have c0 : (j : Int) < ((ns.map V.int).length : Int) := of_decide_eq_true c
      rw [List.length_map] at c0
      have c1 : j < ns.length := by omega
      refine ⟨_, rfl, _, rfl, l, _, _, .int ns[j], rfl, rfl, .inl hs, at_nat rfl (by simp [c1]), q _⟩
    · exact q 0
theorem ok_box {k : Nat} (D : Df K mg "_law_box" s__law_box) (T : Bt mg) (O__law_cell_at : Ok P w K mg base k "_law_cell_at" s__law_cell_at ["_law_script", "_law_k"] (spCellAt K)) : Ok P w K mg base (k + 1) "_law_box" s__law_box ["_law_script", "_law_k"] (spBox K) := by
  refine D.ok sc__law_box b__law_box (fun vs H Q E h => ?_) (fun f cdv A outer s H vs Q E hr h => ?_)
  · obtain ⟨l, ns, j, rfl, _⟩ := h
    rfl
  · obtain ⟨l, ns, j, rfl, hj, hs, q⟩ := h
    refine ⟨_, (pss_cons (ps_set (i := 2) sc__law_box.nd rfl (.inl rfl) (pe_fn O__law_cell_at (hr.mono (by omega)) (pa_cons (pv 0) (pa_cons (pv 1) pa_nil))))
      (pss_one (ps_ret (pe_lst (pa_cons (pe_op op_mul (pe_callB call_abs (by rfl) T.abs_ (by decide +kernel) (pa_cons (pv 2) pa_nil)) (pe_callTy call_int1 (by rfl) T.int_ (by decide +kernel) (pa_cons (pe_cmpR op_ge (pe_callB call_abs (by rfl) T.abs_ (by decide +kernel) (pa_cons (pv 2) pa_nil)) (pe_op (op_powC 1000000000000000000) pe_int pe_int) (nomark _)) pa_nil))) (pa_cons (pe_op op_add (pe_op op_add (pe_op op_mod (pv 2) pe_int) (pe_op op_mul pe_int (pv 1))) pe_int) (pa_cons pe_int pa_nil))))))), ?_⟩
    refine ⟨_, rfl, _, rfl, l, ns, j, rfl, hs, fun z => ?_⟩
    have z1 : 0 ≤ z % 2305843009213693951 := Int.emod_nonneg _ (by decide)
    have z2 : z % 2305843009213693951 < 2305843009213693951 := Int.emod_lt_of_pos _ (by decide)
    have za : 0 ≤ (if z < 0 then -z else z) := by split <;> omega
    refine ⟨_, rfl, z, rfl, _, rfl, z, rfl, 10, 18, rfl, rfl, ⟨⟨by decide, by decide, by decide⟩, by decide⟩, _, _, rfl, rfl, .inr ⟨_, rfl, ?_⟩⟩
    refine ⟨_, _, rfl, rfl, .inr (b01' _), ?_⟩
    refine ⟨_, rfl, z, _, rfl, rfl, (show (0 : Int) < 2305843009213693951 by decide), _, rfl, 39373, (j : Int), rfl, rfl, .inl ⟨by decide, by decide⟩, _, _, rfl, rfl, _, 17, rfl, rfl, ?_⟩
    refine ⟨(by show 3 ≤ sizeLine; decide), fun p np => ?_⟩
    refine q p _ np ⟨_, _, 0, rfl, ?_, by omega, by omega, by omega, by omega⟩
    exact Int.mul_nonneg za (b01 _)
end
/-! ### one of some -/
def spOf (K : PySem.W.Frag) : Sp := fun vs H Q _ => ∃ (b l : Addr) (n : Nat) (xs : List V), vs = [.ref b, .ref l] ∧ SqA K H l xs ∧ l ≠ b ∧ 0 < xs.length ∧ xs.length < 1000000 ∧ BoxAt H b (n + 1) ∧ ∀ (v : V) (ys : List V), v ∈ xs → BoxOk ys n → Q v (upd H b (.lst ys))
abbrev s__law_of : Stmt := topS 17
theorem sc__law_of : FnScope (["_law_box_here", "_law_some"] : List Str) (["_law_box_here", "_law_some"] : List Str) (defScope s__law_of) := ⟨rfl, rfl, rfl, by decide +kernel, rfl, by decide +kernel, by decide +kernel⟩
theorem b__law_of (kV doc pm : Value) (an : Option Addr) (cdv ct : Value) (us : List Value) (hl : us.length = (["_law_box_here", "_law_some"] : List Str).length) : bindArgs (PySem.W.fnOf "_law_of" "_law_of" (defArgs s__law_of) (defBody s__law_of) (defScope s__law_of) .none kV doc pm an cdv ct) ⟨us, []⟩ = pure ((["_law_box_here", "_law_some"] : List Str).zip us) :=
  match us, hl with | [_, _], _ => rfl
section
variable {P : Program} {w : World} {K : PySem.W.Frag} {mg : Str → Option Value} {base : Heap}
theorem ok_of {k : Nat} (D : Df K mg "_law_of" s__law_of) (T : Bt mg) (O__law_take : Ok P w K mg base k "_law_take" s__law_take ["_law_box_here", "_law_span"] spTake) : Ok P w K mg base (k + 1) "_law_of" s__law_of ["_law_box_here", "_law_some"] (spOf K) := by
  refine D.ok sc__law_of b__law_of (fun vs H Q E h => ?_) (fun f cdv A outer s H vs Q E hr h => ?_)
  · obtain ⟨b, l, n, xs, rfl, _⟩ := h
    rfl
  · obtain ⟨b, l, n, xs, rfl, hl, hne, l0, l1, hb, q⟩ := h
    refine ⟨_, (pss_one (ps_ret (pe_ix ix_lt (pv 1) (pe_fn O__law_take (hr.mono (by omega)) (pa_cons (pv 0) (pa_cons (pe_callB call_len_seq (by rfl) T.len_ PySem.boot_len (pa_cons (pv 1) pa_nil)) pa_nil))) (fun _ _ => rfl)))), ?_⟩
    refine ⟨_, rfl, _, rfl, _, rfl, l, xs, rfl, hl, b, n, _, rfl, by omega, by omega, hb, fun v ys v0 v1 hy => ?_⟩
    have hi : v.toNat < xs.length := by omega
    refine ⟨l, xs, v, xs[v.toNat], rfl, rfl, SqA.at hne hl, at_nat (j := v.toNat) (by omega) (by simp [hi]), ?_⟩
    exact q _ _ (List.getElem_mem hi) hy
end
end Sh

namespace Sh
open PySem PySem.Spec PyProof.Rows L2
/-! ### what is told is what is due -/
def tyS : PyData → String
  | .none => "NoneType" | .bool _ => "bool" | .int _ => "int" | .str _ => "str" | .list _ => "list" | .tuple _ => "tuple" | .dict _ => "dict"
/-- at most so deep, no longer than a hundred thousand -/
def Lv : Nat → PyData → Prop
  | 0, _ => False
  | _ + 1, .none => True
  | _ + 1, .bool _ => True
  | _ + 1, .int _ => True
  | _ + 1, .str _ => True
  | n + 1, .list ds => ds.length ≤ 100000 ∧ ∀ e ∈ ds, Lv n e
  | n + 1, .tuple ds => ds.length ≤ 100000 ∧ ∀ e ∈ ds, Lv n e
  | _ + 1, .dict _ => False
theorem lv_ints {n : Nat} (ns : List Int) (h : ns.length ≤ 100000) : Lv (n + 2) (.list (ns.map .int)) := ⟨by rw [List.length_map]; exact h, fun e he => by
  obtain ⟨i, _, rfl⟩ := List.mem_map.mp he
  exact trivial⟩
theorem lv_intsT {n : Nat} (ns : List Int) (h : ns.length ≤ 100000) : Lv (n + 2) (.tuple (ns.map .int)) := ⟨by rw [List.length_map]; exact h, fun e he => by
  obtain ⟨i, _, rfl⟩ := List.mem_map.mp he
  exact trivial⟩
section
variable {K : PySem.W.Frag} {H : Hp}
theorem ty_list {a : Addr} {xs : List V} (h : SqL K H a xs) : TyX K H (.ref a) (.type "list") := by
  rcases h with (h | ⟨o, h⟩) | ⟨o, its, n, h, c, _⟩
  · exact .base (.lst h)
  · exact .base (.frz h)
  · exact .kList h c
theorem ty_tup {a : Addr} {xs : List V} (h : SqT K H a xs) : TyX K H (.ref a) (.type "tuple") := by
  rcases h with (h | ⟨o, h⟩) | ⟨o, its, n, h, c, _⟩
  · exact .base (.tup h)
  · exact .fTuple h
  · exact .kTuple h c
theorem ty_of {v : V} {d : PyData} (h : Dp K H v d) : TyX K H v (.type (tyS d)) := by
  cases h with
  | non => exact .base .non
  | bl b => exact .base (.bl b)
  | int i => exact .base (.int i)
  | str x => exact .base (.str x)
  | lst h _ => exact ty_list h
  | tup h _ => exact ty_tup h
theorem kit2 {t a b : String} {r1 r2 r : Bool} (h1 : kitB t a = some r1) (h2 : kitB t b = some r2) (hr : (r1 || r2) = r) : PySem.W.kitAny K (.type t) [.type a, .type b] = some r := by
  refine kitAny_cons (b := r1) (kit_ty h1) (fun e => ?_) (fun e => ?_)
  · refine kitAny_cons (b := r2) (kit_ty h2) (fun e2 => ?_) (fun e2 => ?_)
    · rw [← hr, e, e2]
      exact kitAny_nil
    · rw [← hr, e, e2]
      all_goals rfl
  · rw [← hr, e]
    all_goals rfl
end
def spSame (K : PySem.W.Frag) (n : Nat) : Sp := fun vs H Q _ => ∃ (x y : V) (d : PyData), vs = [x, y] ∧ Dp K H x d ∧ Dp K H y d ∧ Lv n d ∧ ∀ H', Same H H' → Q (.bl true) H'
abbrev s__law_same : Stmt := topS 18
theorem sc__law_same : FnScope (["_law_found", "_law_due", "_law_a", "_law_b"] : List Str) (["_law_found", "_law_due"] : List Str) (defScope s__law_same) := ⟨rfl, rfl, rfl, by decide +kernel, rfl, by decide +kernel, by decide +kernel⟩
theorem b__law_same (kV doc pm : Value) (an : Option Addr) (cdv ct : Value) (us : List Value) (hl : us.length = (["_law_found", "_law_due"] : List Str).length) : bindArgs (PySem.W.fnOf "_law_same" "_law_same" (defArgs s__law_same) (defBody s__law_same) (defScope s__law_same) .none kV doc pm an cdv ct) ⟨us, []⟩ = pure ((["_law_found", "_law_due"] : List Str).zip us) :=
  match us, hl with | [_, _], _ => rfl
section
variable {P : Program} {w : World} {K : PySem.W.Frag} {mg : Str → Option Value} {base : Heap}
theorem same0 (D : Df K mg "_law_same" s__law_same) : Ok P w K mg base 0 "_law_same" s__law_same ["_law_found", "_law_due"] (spSame K 0) := by
  obtain ⟨f, fd, F, g⟩ := D.ex
  refine ⟨f, fd, F, g, F.binds b__law_same, ⟨fun vs H Q E h => ?_, fun A outer s H args us vs Q E hr he hb hv h => ?_⟩⟩
  · obtain ⟨x, y, d, _, _, _, lv, _⟩ := h
    cases d <;> exact lv.elim
  · obtain ⟨x, y, d, _, _, _, lv, _⟩ := h
    cases d <;> exact lv.elim
set_option maxHeartbeats 4000000 in
theorem same1 {m : Nat} (D : Df K mg "_law_same" s__law_same) (T : Bt mg) (O__law_same : Ok P w K mg base m "_law_same" s__law_same ["_law_found", "_law_due"] (spSame K m)) : Ok P w K mg base (m + 1) "_law_same" s__law_same ["_law_found", "_law_due"] (spSame K (m + 1)) := by
  refine D.ok sc__law_same b__law_same (fun vs H Q E h => ?_) (fun f cdv A outer s H vs Q E hr h => ?_)
  · obtain ⟨x, y, d, rfl, _⟩ := h
    rfl
  · obtain ⟨x, y, d, rfl, hx, hy, lv, q⟩ := h
    refine ⟨_, (pss_cons (ps_if (pt_val (pe_callB call_isiT (by rfl) T.isinstance_ (by decide +kernel) (pa_cons (pv 1) (pa_cons (pe_tup (pa_cons (pe_bltn (v := .ty "list") (by rfl) T.list_ (by decide +kernel) rfl) (pa_cons (pe_bltn (v := .ty "tuple") (by rfl) T.tuple_ (by decide +kernel) rfl) pa_nil))) pa_nil))))
        (pss_cons (ps_if (PW.pt (pw_or (pt_cmpR op_ne (pe_callB call_isi (by rfl) T.isinstance_ (by decide +kernel) (pa_cons (pv 0) (pa_cons (pe_bltn (v := .ty "list") (by rfl) T.list_ (by decide +kernel) rfl) pa_nil))) (pe_callB call_isi (by rfl) T.isinstance_ (by decide +kernel) (pa_cons (pv 1) (pa_cons (pe_bltn (v := .ty "list") (by rfl) T.list_ (by decide +kernel) rfl) pa_nil))) (nomark _)) (pw_or1 (pt_cmpR op_ne (pe_callB call_isi (by rfl) T.isinstance_ (by decide +kernel) (pa_cons (pv 0) (pa_cons (pe_bltn (v := .ty "tuple") (by rfl) T.tuple_ (by decide +kernel) rfl) pa_nil))) (pe_callB call_isi (by rfl) T.isinstance_ (by decide +kernel) (pa_cons (pv 1) (pa_cons (pe_bltn (v := .ty "tuple") (by rfl) T.tuple_ (by decide +kernel) rfl) pa_nil))) (nomark _)))))
            (pss_one (ps_ret pe_bl))
            pss_nil)
          (pss_one (ps_ret (pe_and (pe_cmpR op_eq (pe_callB call_len_seq (by rfl) T.len_ PySem.boot_len (pa_cons (pv 0) pa_nil)) (pe_callB call_len_seq (by rfl) T.len_ PySem.boot_len (pa_cons (pv 1) pa_nil)) (nomark _)) (pe_one (pe_callB (cr_all rfl) (by rfl) T.all_ (by decide +kernel) (pa_cons (pe_lc (own := [("_law_a", 2), ("_law_b", 3)]) (g := (gSeq K 2 (gCons (gName 2) (gCons (gName 3) gNil)))) (tt := tYes) (by rfl) sc__law_same.nd (RZ.pi_zipA (by rfl) T.zip_ (pa_cons (pv 0) (pa_cons (pv 1) pa_nil))) (blkOk_by (own := [("_law_a", 2), ("_law_b", 3)]) (N := (["_law_found", "_law_due", "_law_a", "_law_b"] : List Str)) (sc := defScope s__law_same) (by decide +kernel)) (fun _ _ _ _ _ => (pg_seq rfl (pgs_cons (pg_name (i := 2) sc__law_same.nd rfl (.inl rfl)) (pgs_cons (pg_name (i := 3) sc__law_same.nd rfl (.inl rfl)) pgs_nil)))) (fun _ _ _ _ _ => pts_nil) (fun _ _ _ _ _ => (pe_fn O__law_same (hr.mono (by omega)) (pa_cons (pv 2) (pa_cons (pv 3) pa_nil))))) pa_nil)))))))
        pss_nil)
      (pss_cons (ps_if (PW.pt (pw_or (pt_cmpR op_isN (pv 1) pe_non (nomark _)) (pw_or1 (pt_val (pe_callB call_isiT (by rfl) T.isinstance_ (by decide +kernel) (pa_cons (pv 1) (pa_cons (pe_tup (pa_cons (pe_bltn (v := .ty "bool") (by rfl) T.bool_ (by decide +kernel) rfl) (pa_cons (pe_bltn (v := .ty "str") (by rfl) T.str_ (by decide +kernel) rfl) pa_nil))) pa_nil)))))))
        (pss_one (ps_ret (pe_and (pe_cmpR op_eq (pv 0) (pv 1) (nomark _)) (pe_and (pe_cmpR op_eq (pe_callB call_isi (by rfl) T.isinstance_ (by decide +kernel) (pa_cons (pv 0) (pa_cons (pe_bltn (v := .ty "bool") (by rfl) T.bool_ (by decide +kernel) rfl) pa_nil))) (pe_callB call_isi (by rfl) T.isinstance_ (by decide +kernel) (pa_cons (pv 1) (pa_cons (pe_bltn (v := .ty "bool") (by rfl) T.bool_ (by decide +kernel) rfl) pa_nil))) (nomark _)) (pe_one (pe_cmpR op_eq (pe_cmpR op_isN (pv 0) pe_non (nomark _)) (pe_cmpR op_isN (pv 1) pe_non (nomark _)) (nomark _)))))))
        pss_nil)
      (pss_one (ps_ret (pe_and (pe_callB call_isi (by rfl) T.isinstance_ (by decide +kernel) (pa_cons (pv 0) (pa_cons (pe_bltn (v := .ty "int") (by rfl) T.int_ (by decide +kernel) rfl) pa_nil))) (pe_and (pe_not (pe_callB call_isi (by rfl) T.isinstance_ (by decide +kernel) (pa_cons (pv 0) (pa_cons (pe_bltn (v := .ty "bool") (by rfl) T.bool_ (by decide +kernel) rfl) pa_nil)))) (pe_one (pe_cmpR op_eq (pv 0) (pv 1) (nomark _))))))))), ?_⟩
    refine ⟨_, rfl, (by show 2 ≤ sizeLine; decide), fun tp ntp => ?_⟩
    have s1 : Same H (upd H tp (.tup [.ty "list", .ty "tuple"])) := same_new ntp
    generalize eH1 : upd H tp (.tup [.ty "list", .ty "tuple"]) = H1 at s1
    have htp : H1 tp = some (.tup [.ty "list", .ty "tuple"]) := by rw [← eH1, upd_same]
    clear eH1 ntp
    cases d with
    | dict kvs => exact lv.elim
    | list ds =>
      obtain ⟨a, xs, hsx, hax⟩ : ∃ a xs, SqL K H1 a xs ∧ DpAll K H1 xs ds ∧ x = .ref a := by cases hx with | lst h a => exact ⟨_, _, s1.seq h, DpAll.same s1 a, rfl⟩
      obtain ⟨b, ys, hsy, hay⟩ : ∃ a xs, SqL K H1 a xs ∧ DpAll K H1 xs ds ∧ y = .ref a := by cases hy with | lst h a => exact ⟨_, _, s1.seq h, DpAll.same s1 a, rfl⟩
      obtain ⟨hax, rfl⟩ := hax
      obtain ⟨hay, rfl⟩ := hay
      have lx : xs.length = ds.length := DpAll.len hax
      have ly : ys.length = ds.length := DpAll.len hay
      refine ⟨.ref b, tp, [.ty "list", .ty "tuple"], .type "list", [.type "list", .type "tuple"], true, rfl, htp, .cons (.ty _) (.cons (.ty _) .nil), ty_list hsy, kit2 (r1 := true) (r2 := false) (by decide +kernel) (by decide +kernel) rfl, _, rfl, iteT ?_⟩
      refine ⟨_, rfl, .ref a, .ty "list", .type "list", .type "list", true, rfl, .ty _, ty_list hsx, kit_ty (by decide +kernel), _, rfl, .ref b, .ty "list", .type "list", .type "list", true, rfl, .ty _, ty_list hsy, kit_ty (by decide +kernel), rfl, _, rfl, iteNS rfl ?_⟩
      refine ⟨_, rfl, .ref a, .ty "tuple", .type "list", .type "tuple", false, rfl, .ty _, ty_list hsx, kit_ty (by decide +kernel), _, rfl, .ref b, .ty "tuple", .type "list", .type "tuple", false, rfl, .ty _, ty_list hsy, kit_ty (by decide +kernel), rfl, _, rfl, iteNS rfl ?_⟩
      refine ⟨_, rfl, a, xs, rfl, .inl hsx, _, rfl, b, ys, rfl, .inl hsy, rfl, _, rfl, ?_⟩
      rw [if_pos (decide_eq_true (by rw [lx, ly]))]
      refine ⟨_, rfl, _, rfl, a, b, xs, ys, rfl, .inl ⟨hsx, hsy, fun C nC => ?_⟩⟩
      refine lc_it (walk_zip (n := ds.length) (by rw [lx, ly]; exact (Nat.min_self _).symm)) (fun i H' => Same H1 H' ∧ H' C = some (.lst ((List.replicate i true).map V.bl))) ⟨same_new nC, upd_same⟩ (fun i H' _ p => ⟨p.1.seq hsx, p.1.seq hsy⟩) ?_ ?_
      · rintro i z H2 H3 hi ⟨sm, hC⟩ ⟨t, u, v, rfl, nt, rfl, gu, gv⟩
        have sm2 : Same H1 (upd H2 t (.tup [u, v])) := sm.trans (same_new nt)
        obtain ⟨e, ge, he⟩ := DpAll.get (DpAll.same sm2 hax) gu
        obtain ⟨e', ge', he'⟩ := DpAll.get (DpAll.same sm2 hay) gv
        obtain rfl : e = e' := Option.some.inj (ge.symm.trans ge')
        refine ⟨t, [u, v], rfl, SqA.t upd_same, rfl, u, [v], rfl, v, [], rfl, rfl, rfl, tyes (iteT ?_)⟩
        refine ⟨_, rfl, _, rfl, u, v, e, rfl, he, he', lv.2 e (List.mem_of_getElem? ge), fun H4 s4 => ?_⟩
        refine ⟨_, s4 _ _ (by rw [upd_ne (ne_of_none hC nt)]; exact hC), ?_, fun p o ho => ?_, ?_⟩
        · have h1 := lv.1
          rw [List.length_map, List.length_replicate]
          exact Nat.lt_of_lt_of_le hi (Nat.le_trans h1 (by decide))
        · have np : p ≠ C := ne_of_none ho nC
          rw [upd_ne np]
          exact s4 _ _ (sm2 _ _ ho)
        · rw [upd_same, List.replicate_succ', List.map_append]
          rfl
      · rintro H2 ⟨sm, hC⟩
        refine ⟨C, _, rfl, SqL.of hC, ?_⟩
        have e : (List.replicate ds.length true).all id = true := by simp
        rw [e]
        exact q _ (s1.trans sm)
    | tuple ds =>
      obtain ⟨a, xs, hsx, hax⟩ : ∃ a xs, SqT K H1 a xs ∧ DpAll K H1 xs ds ∧ x = .ref a := by cases hx with | tup h a => exact ⟨_, _, Same.tup s1 h, DpAll.same s1 a, rfl⟩
      obtain ⟨b, ys, hsy, hay⟩ : ∃ a xs, SqT K H1 a xs ∧ DpAll K H1 xs ds ∧ y = .ref a := by cases hy with | tup h a => exact ⟨_, _, Same.tup s1 h, DpAll.same s1 a, rfl⟩
      obtain ⟨hax, rfl⟩ := hax
      obtain ⟨hay, rfl⟩ := hay
      have lx : xs.length = ds.length := DpAll.len hax
      have ly : ys.length = ds.length := DpAll.len hay
      refine ⟨.ref b, tp, [.ty "list", .ty "tuple"], .type "tuple", [.type "list", .type "tuple"], true, rfl, htp, .cons (.ty _) (.cons (.ty _) .nil), ty_tup hsy, kit2 (r1 := false) (r2 := true) (by decide +kernel) (by decide +kernel) rfl, _, rfl, iteT ?_⟩
      refine ⟨_, rfl, .ref a, .ty "list", .type "tuple", .type "list", false, rfl, .ty _, ty_tup hsx, kit_ty (by decide +kernel), _, rfl, .ref b, .ty "list", .type "tuple", .type "list", false, rfl, .ty _, ty_tup hsy, kit_ty (by decide +kernel), rfl, _, rfl, iteNS rfl ?_⟩
      refine ⟨_, rfl, .ref a, .ty "tuple", .type "tuple", .type "tuple", true, rfl, .ty _, ty_tup hsx, kit_ty (by decide +kernel), _, rfl, .ref b, .ty "tuple", .type "tuple", .type "tuple", true, rfl, .ty _, ty_tup hsy, kit_ty (by decide +kernel), rfl, _, rfl, iteNS rfl ?_⟩
      refine ⟨_, rfl, a, xs, rfl, .inr hsx, _, rfl, b, ys, rfl, .inr hsy, rfl, _, rfl, ?_⟩
      rw [if_pos (decide_eq_true (by rw [lx, ly]))]
      refine ⟨_, rfl, _, rfl, a, b, xs, ys, rfl, .inr ⟨hsx, hsy, fun C nC => ?_⟩⟩
      refine lc_it (walk_zipT (n := ds.length) (by rw [lx, ly]; exact (Nat.min_self _).symm)) (fun i H' => Same H1 H' ∧ H' C = some (.lst ((List.replicate i true).map V.bl))) ⟨same_new nC, upd_same⟩ (fun i H' _ p => ⟨Same.tup p.1 hsx, Same.tup p.1 hsy⟩) ?_ ?_
      · rintro i z H2 H3 hi ⟨sm, hC⟩ ⟨t, u, v, rfl, nt, rfl, gu, gv⟩
        have sm2 : Same H1 (upd H2 t (.tup [u, v])) := sm.trans (same_new nt)
        obtain ⟨e, ge, he⟩ := DpAll.get (DpAll.same sm2 hax) gu
        obtain ⟨e', ge', he'⟩ := DpAll.get (DpAll.same sm2 hay) gv
        obtain rfl : e = e' := Option.some.inj (ge.symm.trans ge')
        refine ⟨t, [u, v], rfl, SqA.t upd_same, rfl, u, [v], rfl, v, [], rfl, rfl, rfl, tyes (iteT ?_)⟩
        refine ⟨_, rfl, _, rfl, u, v, e, rfl, he, he', lv.2 e (List.mem_of_getElem? ge), fun H4 s4 => ?_⟩
        refine ⟨_, s4 _ _ (by rw [upd_ne (ne_of_none hC nt)]; exact hC), ?_, fun p o ho => ?_, ?_⟩
        · have h1 := lv.1
          rw [List.length_map, List.length_replicate]
          exact Nat.lt_of_lt_of_le hi (Nat.le_trans h1 (by decide))
        · have np : p ≠ C := ne_of_none ho nC
          rw [upd_ne np]
          exact s4 _ _ (sm2 _ _ ho)
        · rw [upd_same, List.replicate_succ', List.map_append]
          rfl
      · rintro H2 ⟨sm, hC⟩
        refine ⟨C, _, rfl, SqL.of hC, ?_⟩
        have e : (List.replicate ds.length true).all id = true := by simp
        rw [e]
        exact q _ (s1.trans sm)
    | int i =>
      cases hx; cases hy
      refine ⟨.int i, tp, [.ty "list", .ty "tuple"], .type "int", [.type "list", .type "tuple"], false, rfl, htp, .cons (.ty _) (.cons (.ty _) .nil), .base (.int i), kit2 (r1 := false) (r2 := false) (by decide +kernel) (by decide +kernel) rfl, _, rfl, iteF ?_⟩
      refine ⟨_, rfl, rfl, _, rfl, iteF ?_⟩
      refine ⟨_, rfl, (by show 2 ≤ sizeLine; decide), fun tq ntq => ?_⟩
      refine ⟨.int i, tq, [.ty "bool", .ty "str"], .type "int", [.type "bool", .type "str"], false, rfl, upd_same, .cons (.ty _) (.cons (.ty _) .nil), .base (.int i), kit2 (r1 := false) (r2 := false) (by decide +kernel) (by decide +kernel) rfl, _, rfl, iteF ?_⟩
      refine ⟨_, rfl, .int i, .ty "int", .type "int", .type "int", true, rfl, .ty _, .base (.int i), kit_ty (by decide +kernel), _, rfl, iteT ?_⟩
      refine ⟨_, rfl, .int i, .ty "bool", .type "int", .type "bool", false, rfl, .ty _, .base (.int i), kit_ty (by decide +kernel), _, rfl, _, rfl, iteT ?_⟩
      refine ⟨_, rfl, _, rfl, rfl, ?_⟩
      rw [decide_eq_true rfl]
      exact q _ (s1.trans (same_new ntq))
    | none =>
      cases hx; cases hy
      refine ⟨.non, tp, [.ty "list", .ty "tuple"], .type "NoneType", [.type "list", .type "tuple"], false, rfl, htp, .cons (.ty _) (.cons (.ty _) .nil), .base .non, kit2 (r1 := false) (r2 := false) (by decide +kernel) (by decide +kernel) rfl, _, rfl, iteF ?_⟩
      refine ⟨_, rfl, rfl, _, rfl, iteT (iteT ?_)⟩
      refine ⟨_, rfl, _, rfl, rfl, _, rfl, iteT ?_⟩
      refine ⟨_, rfl, .non, .ty "bool", .type "NoneType", .type "bool", false, rfl, .ty _, .base .non, kit_ty (by decide +kernel), _, rfl, .non, .ty "bool", .type "NoneType", .type "bool", false, rfl, .ty _, .base .non, kit_ty (by decide +kernel), rfl, _, rfl, iteT ?_⟩
      refine ⟨_, rfl, rfl, _, rfl, rfl, rfl, ?_⟩
      exact q _ s1
    | bool c =>
      cases hx; cases hy
      refine ⟨.bl c, tp, [.ty "list", .ty "tuple"], .type "bool", [.type "list", .type "tuple"], false, rfl, htp, .cons (.ty _) (.cons (.ty _) .nil), .base (.bl c), kit2 (r1 := false) (r2 := false) (by decide +kernel) (by decide +kernel) rfl, _, rfl, iteF ?_⟩
      refine ⟨_, rfl, rfl, _, rfl, iteF ?_⟩
      refine ⟨_, rfl, (by show 2 ≤ sizeLine; decide), fun tq ntq => ?_⟩
      refine ⟨.bl c, tq, [.ty "bool", .ty "str"], .type "bool", [.type "bool", .type "str"], true, rfl, upd_same, .cons (.ty _) (.cons (.ty _) .nil), .base (.bl c), kit2 (r1 := true) (r2 := false) (by decide +kernel) (by decide +kernel) rfl, _, rfl, iteT ?_⟩
      refine ⟨_, rfl, _, rfl, rfl, _, rfl, ?_⟩
      rw [if_pos (decide_eq_true rfl)]
      refine ⟨_, rfl, .bl c, .ty "bool", .type "bool", .type "bool", true, rfl, .ty _, .base (.bl c), kit_ty (by decide +kernel), _, rfl, .bl c, .ty "bool", .type "bool", .type "bool", true, rfl, .ty _, .base (.bl c), kit_ty (by decide +kernel), rfl, _, rfl, iteT ?_⟩
      refine ⟨_, rfl, rfl, _, rfl, rfl, rfl, ?_⟩
      exact q _ (s1.trans (same_new ntq))
    | str c =>
      cases hx; cases hy
      refine ⟨.str c, tp, [.ty "list", .ty "tuple"], .type "str", [.type "list", .type "tuple"], false, rfl, htp, .cons (.ty _) (.cons (.ty _) .nil), .base (.str c), kit2 (r1 := false) (r2 := false) (by decide +kernel) (by decide +kernel) rfl, _, rfl, iteF ?_⟩
      refine ⟨_, rfl, rfl, _, rfl, iteF ?_⟩
      refine ⟨_, rfl, (by show 2 ≤ sizeLine; decide), fun tq ntq => ?_⟩
      refine ⟨.str c, tq, [.ty "bool", .ty "str"], .type "str", [.type "bool", .type "str"], true, rfl, upd_same, .cons (.ty _) (.cons (.ty _) .nil), .base (.str c), kit2 (r1 := false) (r2 := true) (by decide +kernel) (by decide +kernel) rfl, _, rfl, iteT ?_⟩
      refine ⟨_, rfl, _, rfl, rfl, _, rfl, ?_⟩
      rw [if_pos (decide_eq_true rfl)]
      refine ⟨_, rfl, .str c, .ty "bool", .type "str", .type "bool", false, rfl, .ty _, .base (.str c), kit_ty (by decide +kernel), _, rfl, .str c, .ty "bool", .type "str", .type "bool", false, rfl, .ty _, .base (.str c), kit_ty (by decide +kernel), rfl, _, rfl, iteT ?_⟩
      refine ⟨_, rfl, rfl, _, rfl, rfl, rfl, ?_⟩
      exact q _ (s1.trans (same_new ntq))
theorem ok_same (D : Df K mg "_law_same" s__law_same) (T : Bt mg) : ∀ m : Nat, Ok P w K mg base m "_law_same" s__law_same ["_law_found", "_law_due"] (spSame K m)
  | 0 => same0 D
  | m + 1 => same1 D T (ok_same D T m)
end
end Sh

namespace Sh
open PySem PySem.Spec PyProof.Rows L2
/-! ### a drawn sea -/
theorem But.put {b p : Addr} {H H' : Hp} {o : HO} (h : But b H H') (n : H p = none) : But b H (upd H' p o) := fun a x na e => by
  rw [upd_ne (ne_of_none e n)]
  exact h a x na e
theorem But.box {b : Addr} {H H' : Hp} {o : HO} (h : But b H H') : But b H (upd H' b o) := fun a x na e => by
  rw [upd_ne na]
  exact h a x na e
theorem BoxAt.put {H : Hp} {b : Addr} {n : Nat} {xs : List V} (h : BoxOk xs n) : BoxAt (upd H b (.lst xs)) b n := ⟨xs, upd_same, h⟩
theorem BoxAt.at {H : Hp} {b p : Addr} {n : Nat} {o : HO} (h : BoxAt H b n) (ne : b ≠ p) : BoxAt (upd H p o) b n := let ⟨xs, e, k⟩ := h; ⟨xs, by rw [upd_ne ne]; exact e, k⟩
structure SeaOk (most : Nat) (h t : Int) (ds : List Int) : Prop where
  h0 : 0 ≤ h
  h1 : h ≤ 1000000000000
  t0 : 0 ≤ t
  t1 : t ≤ 1000000000000
  l0 : 0 < ds.length
  l1 : ds.length ≤ most
  d0 : ∀ d ∈ ds, 0 ≤ d ∧ d ≤ 1000000000000
def spSea : Sp := fun vs H Q _ => ∃ (b : Addr) (n most : Nat), vs = [.ref b, .int (most : Int)] ∧ 0 < most ∧ most ≤ 60 ∧ BoxAt H b (n + 200) ∧
  ∀ (H' : Hp) (p q : Addr) (h t : Int) (ds : List Int), But b H H' → BoxAt H' b n → H p = none → H q = none → H' p = some (.tup [.int h, .int t, .ref q]) → H' q = some (.tup (ds.map V.int)) → SeaOk most h t ds → Q (.ref p) H'
abbrev s__law_sea : Stmt := topS 19
theorem sc__law_sea : FnScope (["_law_box_here", "_law_most", "_law_count", "_law_far", "_law_wide", "_law_depths", "_law_draughts", "_law_side", "_law_whom"] : List Str) (["_law_box_here", "_law_most"] : List Str) (defScope s__law_sea) := ⟨rfl, rfl, rfl, by decide +kernel, rfl, by decide +kernel, by decide +kernel⟩
theorem b__law_sea (kV doc pm : Value) (an : Option Addr) (cdv ct : Value) (us : List Value) (hl : us.length = (["_law_box_here", "_law_most"] : List Str).length) : bindArgs (PySem.W.fnOf "_law_sea" "_law_sea" (defArgs s__law_sea) (defBody s__law_sea) (defScope s__law_sea) .none kV doc pm an cdv ct) ⟨us, []⟩ = pure ((["_law_box_here", "_law_most"] : List Str).zip us) :=
  match us, hl with | [_, _], _ => rfl
section
variable {P : Program} {w : World} {K : PySem.W.Frag} {mg : Str → Option Value} {base : Heap}
/-- a new object, a draw: what stands, stands -/
theorem al {b p : Addr} {H Hc : Hp} {n : Nat} {o : HO} (u : But b H Hc) (x : BoxAt Hc b n) (np : Hc p = none) : But b H (upd Hc p o) ∧ BoxAt (upd Hc p o) b n ∧ upd Hc p o p = some o ∧ p ≠ b :=
  ⟨fun a z na e => by rw [upd_ne (ne_of_none (u a z na e) np)]; exact u a z na e, x.at (x.ne np), upd_same, (x.ne np).symm⟩
theorem tk {b : Addr} {H Hc : Hp} {n : Nat} {ys : List V} (u : But b H Hc) (y : BoxOk ys n) : But b H (upd Hc b (.lst ys)) ∧ BoxAt (upd Hc b (.lst ys)) b n := ⟨u.box, .put y⟩
theorem But.free {b p : Addr} {H H' : Hp} (u : But b H H') (n : p ≠ b) (h : H' p = none) : H p = none := by
  cases e : H p with
  | none => rfl
  | some o =>
    rw [u p o n e] at h
    cases h
theorem two_of {ns : List Int} (h : ns.length = 2) : ∃ a b, ns = [a, b] := by
  match ns, h with
  | [a, b], _ => exact ⟨a, b, rfl⟩
theorem ints_mem {v : V} {ns : List Int} (h : v ∈ ns.map V.int) : ∃ i ∈ ns, v = .int i := by
  obtain ⟨i, hi, e⟩ := List.mem_map.mp h
  exact ⟨i, hi, e.symm⟩
theorem ne_box {H : Hp} {b p : Addr} {n : Nat} (h : BoxAt H b n) (z : H p = none) : p ≠ b := (h.ne z).symm
set_option maxHeartbeats 4000000 in
theorem ok_sea {k : Nat} (D : Df K mg "_law_sea" s__law_sea) (T : Bt mg) (O__law_take : Ok P w K mg base k "_law_take" s__law_take ["_law_box_here", "_law_span"] spTake) (O__law_of : Ok P w K mg base k "_law_of" s__law_of ["_law_box_here", "_law_some"] (spOf K)) :
    Ok P w K mg base (k + 1) "_law_sea" s__law_sea ["_law_box_here", "_law_most"] spSea := by
  refine D.ok sc__law_sea b__law_sea (fun vs H Q E h => ?_) (fun f cdv A outer s H vs Q E hr h => ?_)
  · obtain ⟨b, n, most, rfl, _⟩ := h
    rfl
  · obtain ⟨b, n, most, rfl, m0, m1, hb, q⟩ := h
    refine ⟨_, (pss_cons (ps_asg (pe_tup (pa_cons (pe_op op_add pe_int (pe_fn O__law_take (hr.mono (by omega)) (pa_cons (pv 0) (pa_cons (pv 1) pa_nil)))) (pa_cons (pe_fn O__law_of (hr.mono (by omega)) (pa_cons (pv 0) (pa_cons (pe_lst (pa_cons pe_int (pa_cons pe_int (pa_cons pe_int (pa_cons (pe_op op_sub (pe_op op_sub (pe_op (op_powC 1000000000000) pe_int pe_int) pe_int) (pe_fn O__law_take (hr.mono (by omega)) (pa_cons (pv 0) (pa_cons (pe_op (op_powC 1000000) pe_int pe_int) pa_nil)))) pa_nil))))) pa_nil))) pa_nil))) (pg_seq rfl (pgs_cons (pg_name (i := 2) sc__law_sea.nd rfl (.inr rfl)) (pgs_cons (pg_name (i := 3) sc__law_sea.nd rfl (.inr rfl)) pgs_nil))))
      (pss_cons (ps_set (i := 4) sc__law_sea.nd rfl (.inr rfl) (pe_fn O__law_of (hr.mono (by omega)) (pa_cons (pv 0) (pa_cons (pe_lst (pa_cons pe_int (pa_cons (pe_op op_add (pv 2) pe_int) (pa_cons (pe_op op_add (pe_op op_mul pe_int (pv 2)) pe_int) pa_nil)))) pa_nil))))
      (pss_cons (ps_setLc (i := 5) (own := [("_law_side", 7)]) (g := (gName 7)) (tt := tYes) (by rfl) sc__law_sea.nd rfl rfl (sw_true rfl rfl rfl (by decide +kernel)) (pi_range1 (by rfl) T.range_ (pa_cons pe_int pa_nil)) (blkOk_by (own := [("_law_side", 7)]) (N := (["_law_box_here", "_law_most", "_law_count", "_law_far", "_law_wide", "_law_depths", "_law_draughts", "_law_side", "_law_whom"] : List Str)) (sc := defScope s__law_sea) (by decide +kernel)) (fun _ _ _ _ _ => (pg_name (i := 7) sc__law_sea.nd rfl (.inl rfl))) (fun _ _ _ _ _ => pts_nil) (fun _ _ _ _ _ => (pe_op op_add (pv 3) (pe_op op_mul (pe_fn O__law_take (hr.mono (by omega)) (pa_cons (pv 0) (pa_cons (pe_op op_add (pv 2) pe_int) pa_nil))) (pe_fn O__law_take (hr.mono (by omega)) (pa_cons (pv 0) (pa_cons pe_int pa_nil)))))))
      (pss_cons (ps_set (i := 6) sc__law_sea.nd rfl (.inr rfl) (pe_lc (own := [("_law_whom", 8)]) (g := (gName 8)) (tt := tYes) (by rfl) sc__law_sea.nd (pi_range1 (by rfl) T.range_ (pa_cons (pv 2) pa_nil)) (blkOk_by (own := [("_law_whom", 8)]) (N := (["_law_box_here", "_law_most", "_law_count", "_law_far", "_law_wide", "_law_depths", "_law_draughts", "_law_side", "_law_whom"] : List Str)) (sc := defScope s__law_sea) (by decide +kernel)) (fun _ _ _ _ _ => (pg_name (i := 8) sc__law_sea.nd rfl (.inl rfl))) (fun _ _ _ _ _ => pts_nil) (fun _ _ _ _ _ => (pe_op op_add (pv 3) (pe_fn O__law_take (hr.mono (by omega)) (pa_cons (pv 0) (pa_cons (pv 4) pa_nil)))))))
      (pss_cons (ps_if (pt_cmpR op_eq (pe_fn O__law_take (hr.mono (by omega)) (pa_cons (pv 0) (pa_cons pe_int pa_nil))) pe_int (nomark _))
        (pss_one (ps_set (i := 6) sc__law_sea.nd rfl (.inr rfl) (pe_lc (own := [("_law_whom", 8)]) (g := (gName 8)) (tt := tYes) (by rfl) sc__law_sea.nd (pi_range1 (by rfl) T.range_ (pa_cons (pv 2) pa_nil)) (blkOk_by (own := [("_law_whom", 8)]) (N := (["_law_box_here", "_law_most", "_law_count", "_law_far", "_law_wide", "_law_depths", "_law_draughts", "_law_side", "_law_whom"] : List Str)) (sc := defScope s__law_sea) (by decide +kernel)) (fun _ _ _ _ _ => (pg_name (i := 8) sc__law_sea.nd rfl (.inl rfl))) (fun _ _ _ _ _ => pts_nil) (fun _ _ _ _ _ => (pe_ifExp (pt_cmpR op_eq (pe_fn O__law_take (hr.mono (by omega)) (pa_cons (pv 0) (pa_cons pe_int pa_nil))) pe_int (nomark _)) (pe_ix (ix_ltK K) (pv 6) (pv 8) (fun _ _ => rfl)) (pe_ix (ix_ltK K) (pv 6) pe_int (fun _ _ => rfl)))))))
        pss_nil)
      (pss_one (ps_ret (pe_tup (pa_cons (pe_ix ix_lt (pv 5) pe_int (fun _ _ => rfl)) (pa_cons (pe_ix ix_lt (pv 5) pe_int (fun _ _ => rfl)) (pa_cons (pe_callTy call_tuple_of (by rfl) T.tuple_ (by decide +kernel) (pa_cons (pv 6) pa_nil)) pa_nil))))))))))), ?_⟩
    -- 1 + take(box, most)
    refine ⟨_, rfl, _, rfl, b, n + 199, _, rfl, by omega, by omega, hb, fun c ys1 c0 c1 y1 => ?_⟩
    refine ⟨1, c, rfl, rfl, ?_⟩
    have u1 : But b H (upd H b (.lst ys1)) := But.ups
    have x1 : BoxAt (upd H b (.lst ys1)) b (n + 199) := .put y1
    generalize upd H b (.lst ys1) = H1 at u1 x1
    -- of(box, [0, 0, 0, 10 ** 12 - 200 - take(box, 10 ** 6)])
    refine ⟨_, rfl, 10, 12, rfl, rfl, ⟨⟨by decide, by decide, by decide⟩, by decide⟩, _, 200, rfl, rfl, _, rfl, 10, 6, rfl, rfl, ⟨⟨by decide, by decide, by decide⟩, by decide⟩, ?_⟩
    refine ⟨b, n + 198, 1000000, rfl, by decide, by decide, x1, fun r ys2 r0 r1 y2 => ?_⟩
    have u2 : But b H (upd H1 b (.lst ys2)) := u1.box
    have x2 : BoxAt (upd H1 b (.lst ys2)) b (n + 198) := .put y2
    generalize upd H1 b (.lst ys2) = H2 at u2 x2
    refine ⟨_, _, rfl, rfl, (by show 4 ≤ sizeLine; decide), fun l nl => ?_⟩
    have u3 : But b H (upd H2 l (.lst [.int 0, .int 0, .int 0, .int (1000000000000 - 200 - r)])) := fun a o na e => by
      rw [upd_ne (ne_of_none (u2 a o na e) nl)]
      exact u2 a o na e
    refine ⟨b, l, n + 197, _, rfl, SqA.l upd_same, ne_box x2 nl, (by show 0 < 4; decide), (by show 4 < 1000000; decide), x2.at (x2.ne nl), fun v ys3 hv y3 => ?_⟩
    obtain ⟨far, f0, f1, rfl⟩ : ∃ far : Int, 0 ≤ far ∧ far ≤ 1000000000000 - 200 ∧ v = .int far := by
      have e4 : v = .int 0 ∨ v = .int (1000000000000 - 200 - r) := by
        have e5 : v = .int 0 ∨ v = .int 0 ∨ v = .int 0 ∨ v = .int (1000000000000 - 200 - r) := by simpa using hv
        rcases e5 with e | e | e | e
        · exact .inl e
        · exact .inl e
        · exact .inl e
        · exact .inr e
      rcases e4 with e | e
      · exact ⟨0, by decide, by decide, e⟩
      · exact ⟨_, by omega, by omega, e⟩
    replace u3 : But b H (upd (upd H2 l (.lst [.int 0, .int 0, .int 0, .int (1000000000000 - 200 - r)])) b (.lst ys3)) := u3.box
    have x3 : BoxAt (upd (upd H2 l (.lst [.int 0, .int 0, .int 0, .int (1000000000000 - 200 - r)])) b (.lst ys3)) b (n + 197) := .put y3
    try dsimp only
    generalize upd (upd H2 l (.lst [.int 0, .int 0, .int 0, .int (1000000000000 - 200 - r)])) b (.lst ys3) = H3 at u3 x3
    refine ⟨(by show 2 ≤ sizeLine; decide), fun tp ntp => ?_⟩
    refine ⟨tp, _, rfl, SqA.t upd_same, rfl, _, _, rfl, _, _, rfl, rfl, ?_⟩
    obtain ⟨u4, x4, _, _⟩ := al (o := .tup [.int (1 + c), .int far]) u3 x3 ntp
    try dsimp only
    generalize upd H3 tp (.tup [.int (1 + c), .int far]) = H4 at u4 x4
    obtain ⟨cn, ec⟩ : ∃ cn : Nat, 1 + c = ((cn : Nat) : Int) := ⟨(1 + c).toNat, by omega⟩
    have cn0 : 0 < cn := by omega
    have cn1 : cn ≤ most := by omega
    rw [ec]
    -- wide
    refine ⟨_, rfl, _, rfl, _, 2, rfl, rfl, _, rfl, 2, _, rfl, rfl, .inl ⟨by decide, by decide⟩, _, 2, rfl, rfl, (by show 3 ≤ sizeLine; decide), fun l2 nl2 => ?_⟩
    obtain ⟨u5, x5, e5, n5⟩ := al (o := .lst [.int 2, .int ((cn : Int) + 2), .int (2 * (cn : Int) + 2)]) u4 x4 nl2
    refine ⟨b, l2, n + 196, _, rfl, SqA.l upd_same, n5, (by show 0 < 3; decide), (by show 3 < 1000000; decide), x5.mono (by omega), fun v ys6 hv y6 => ?_⟩
    obtain ⟨wide, w0, w1, rfl⟩ : ∃ wide : Int, 2 ≤ wide ∧ wide ≤ 122 ∧ v = .int wide := by
      have e5 : v = .int 2 ∨ v = .int ((cn : Int) + 2) ∨ v = .int (2 * (cn : Int) + 2) := by simpa using hv
      rcases e5 with e | e | e
      · exact ⟨2, by decide, by decide, e⟩
      · exact ⟨_, by omega, by omega, e⟩
      · exact ⟨_, by omega, by omega, e⟩
    obtain ⟨u6, x6⟩ := tk u5 y6
    try dsimp only
    generalize upd (upd H4 l2 (.lst [.int 2, .int ((cn : Int) + 2), .int (2 * (cn : Int) + 2)])) b (.lst ys6) = H6 at u6 x6
    -- depths
    refine ⟨2, rfl, by decide, by decide, fun C nC => ?_⟩
    refine lc_range (fun i Hc => ∃ ns : List Int, But b H6 Hc ∧ BoxAt Hc b (n + 196 - 2 * i) ∧ Hc C = some (.lst (ns.map V.int)) ∧ ns.length = i ∧ ∀ d ∈ ns, 0 ≤ d ∧ d ≤ 1000000000000) ?_ ?_ ?_
    · exact ⟨[], (al (But.refl b H6) x6 nC).1, (al (But.refl b H6) x6 nC).2.1, upd_same, rfl, fun d hd => by simp at hd⟩
    · rintro i Hc hi ⟨ns, uc, xc, hC, hl, hn⟩
      have nCb : C ≠ b := (x6.ne nC).symm
      have i2 : i < 2 := hi
      refine ⟨rfl, tyes (iteT ?_)⟩
      refine ⟨_, rfl, _, rfl, _, rfl, _, 2, rfl, rfl, ?_⟩
      refine ⟨b, n + 196 - 2 * i - 1, _, rfl, by omega, by omega, xc.mono (by omega), fun v ys v0 v1 y => ?_⟩
      obtain ⟨ud, xd⟩ := tk uc y
      have hD : upd Hc b (.lst ys) C = some (.lst (ns.map V.int)) := by rw [upd_ne nCb]; exact hC
      generalize upd Hc b (.lst ys) = Hd at ud xd hD
      refine ⟨_, rfl, ?_⟩
      refine ⟨b, n + 196 - 2 * i - 2, 2, rfl, by decide, by decide, xd.mono (by omega), fun v' ys' v0' v1' y' => ?_⟩
      obtain ⟨ue, xe⟩ := tk ud y'
      have hE : upd Hd b (.lst ys') C = some (.lst (ns.map V.int)) := by rw [upd_ne nCb]; exact hD
      generalize upd Hd b (.lst ys') = He at ue xe hE
      refine ⟨v, v', rfl, rfl, .inl ⟨by omega, by omega⟩, far, v * v', rfl, rfl, ns.map V.int, hE, ?_, ns ++ [far + v * v'], ?_, ?_, ?_, ?_, ?_⟩
      · rw [List.length_map, hl]
        exact Nat.lt_trans i2 (by decide)
      · exact fun a o na e => by rw [upd_ne (ne_of_none e nC)]; exact ue a o na e
      · exact (xe.at (x6.ne nC)).mono (by omega)
      · rw [upd_same, List.map_append]
        rfl
      · simp [hl]
      · intro d hd
        rcases List.mem_append.mp hd with z | z
        · exact hn d z
        · have e : d = far + v * v' := by simpa using z
          have e01 : v' = 0 ∨ v' = 1 := by omega
          rcases e01 with z | z <;> (rw [e, z]; omega)
    · rintro H7 ⟨ds2, u7', x7, h7, l7, b7⟩
      have u7 : But b H H7 := u6.trans u7'
      clear u7'
      replace x7 : BoxAt H7 b (n + 192) := x7.mono (by omega)
      have nCb : C ≠ b := (x6.ne nC).symm
      -- draughts
      refine ⟨_, rfl, _, rfl, by omega, by omega, fun C2 nC2 => ?_⟩
      rw [show ((cn : Int)).toNat = cn by omega]
      refine lc_range (fun i Hc => ∃ ns : List Int, But b H7 Hc ∧ BoxAt Hc b (n + 192 - i) ∧ Hc C2 = some (.lst (ns.map V.int)) ∧ ns.length = i ∧ ∀ d ∈ ns, 0 ≤ d ∧ d ≤ 1000000000000) ?_ ?_ ?_
      · exact ⟨[], (al (But.refl b H7) x7 nC2).1, (al (But.refl b H7) x7 nC2).2.1, upd_same, rfl, fun d hd => by simp at hd⟩
      · rintro i Hc hi ⟨ns, uc, xc, hC, hl, hn⟩
        have nCb2 : C2 ≠ b := (x7.ne nC2).symm
        refine ⟨rfl, tyes (iteT ?_)⟩
        refine ⟨_, rfl, _, rfl, _, rfl, ?_⟩
        refine ⟨b, n + 192 - i - 1, wide, rfl, by omega, by omega, xc.mono (by omega), fun v ys v0 v1 y => ?_⟩
        obtain ⟨ud, xd⟩ := tk uc y
        have hD : upd Hc b (.lst ys) C2 = some (.lst (ns.map V.int)) := by rw [upd_ne nCb2]; exact hC
        generalize upd Hc b (.lst ys) = Hd at ud xd hD
        refine ⟨far, v, rfl, rfl, ns.map V.int, hD, ?_, ns ++ [far + v], ?_, ?_, ?_, ?_, ?_⟩
        · rw [List.length_map, hl]
          exact Nat.lt_of_lt_of_le hi (Nat.le_trans (show cn ≤ 60 by omega) (by decide))
        · exact fun a o na e => by rw [upd_ne (ne_of_none e nC2)]; exact ud a o na e
        · exact (xd.at (x7.ne nC2)).mono (by omega)
        · rw [upd_same, List.map_append]
          rfl
        · simp [hl]
        · intro d hd
          rcases List.mem_append.mp hd with z | z
          · exact hn d z
          · have e : d = far + v := by simpa using z
            omega
      · rintro H8 ⟨ds, u8', x8, h8, l8, b8⟩
        have h7' : H8 C = some (.lst (ds2.map V.int)) := u8' _ _ nCb h7
        have u8 : But b H H8 := u7.trans u8'
        have nC2b : C2 ≠ b := (x7.ne nC2).symm
        have nCC : C ≠ C2 := ne_of_none h7 nC2
        replace x8 : BoxAt H8 b (n + 132) := x8.mono (by omega)
        clear u8'
        -- take(box, 4) == 0
        refine ⟨_, rfl, b, n + 131, 4, rfl, by decide, by decide, x8.mono (by omega), fun v ys v0 v1 y => ?_⟩
        obtain ⟨u9, x9⟩ := tk u8 y
        have h9 : upd H8 b (.lst ys) C = some (.lst (ds2.map V.int)) := by rw [upd_ne nCb]; exact h7'
        have g9 : upd H8 b (.lst ys) C2 = some (.lst (ds.map V.int)) := by rw [upd_ne nC2b]; exact h8
        generalize upd H8 b (.lst ys) = H9 at u9 x9 h9 g9
        obtain ⟨d0, d1, rfl⟩ := two_of l7
        refine ⟨rfl, _, rfl, ite2 (fun c => ?_) (fun c => ?_)⟩
        · refine ⟨_, rfl, _, rfl, by omega, by omega, fun C3 nC3 => ?_⟩
          rw [show ((cn : Int)).toNat = cn by omega]
          have nC3b : C3 ≠ b := (x9.ne nC3).symm
          refine lc_range (fun i Hc => ∃ ns : List Int, But b H9 Hc ∧ BoxAt Hc b (n + 131 - i) ∧ Hc C3 = some (.lst (ns.map V.int)) ∧ ns.length = i ∧ ∀ d ∈ ns, 0 ≤ d ∧ d ≤ 1000000000000) ?_ ?_ ?_
          · exact ⟨[], (al (But.refl b H9) x9 nC3).1, (al (But.refl b H9) x9 nC3).2.1, upd_same, rfl, fun d hd => by simp at hd⟩
          · rintro i Hc hi ⟨ns, uc, xc, hC, hl, hn⟩
            refine ⟨rfl, tyes (iteT ?_)⟩
            refine ⟨_, rfl, b, n + 131 - i - 1, 2, rfl, by decide, by decide, xc.mono (by omega), fun v ys v0 v1 y => ?_⟩
            obtain ⟨ud, xd⟩ := tk uc y
            have hD : upd Hc b (.lst ys) C3 = some (.lst (ns.map V.int)) := by rw [upd_ne nC3b]; exact hC
            generalize upd Hc b (.lst ys) = Hd at ud xd hD
            have gd : Hd C2 = some (.lst (ds.map V.int)) := ud _ _ nC2b g9
            have fin : ∀ z ∈ ds, ∃ acc : List V, Hd C3 = some (.lst acc) ∧ acc.length < sizeLine ∧ ∃ ns : List Int, But b H9 (upd Hd C3 (.lst (acc ++ [.int z]))) ∧ BoxAt (upd Hd C3 (.lst (acc ++ [.int z]))) b (n + 131 - (i + 1)) ∧
                upd Hd C3 (.lst (acc ++ [.int z])) C3 = some (.lst (ns.map V.int)) ∧ ns.length = i + 1 ∧ ∀ d ∈ ns, 0 ≤ d ∧ d ≤ 1000000000000 := fun z hz => by
              refine ⟨ns.map V.int, hD, ?_, ns ++ [z], ?_, ?_, ?_, ?_, ?_⟩
              · rw [List.length_map, hl]
                exact Nat.lt_of_lt_of_le hi (Nat.le_trans (show cn ≤ 60 by omega) (by decide))
              · exact fun a o na e => by rw [upd_ne (ne_of_none e nC3)]; exact ud a o na e
              · exact (xd.at (x9.ne nC3)).mono (by omega)
              · rw [upd_same, List.map_append]
                rfl
              · simp [hl]
              · intro d hd
                rcases List.mem_append.mp hd with z2 | z2
                · exact hn d z2
                · have e : d = z := by simpa using z2
                  rw [e]
                  exact b8 z hz
            refine ⟨rfl, _, rfl, ite2 (fun c => ?_) (fun c => ?_)⟩
            · have hi' : i < ds.length := by omega
              exact ⟨_, rfl, _, rfl, C2, _, _, .int ds[i], rfl, rfl, SqA.l gd, at_nat (j := i) (by omega) (by simp [hi']), fin _ (List.getElem_mem hi')⟩
            · have hi' : 0 < ds.length := by omega
              exact ⟨_, rfl, C2, _, _, .int ds[0], rfl, rfl, SqA.l gd, at_nat (j := 0) rfl (by simp [hi']), fin _ (List.getElem_mem hi')⟩
          · rintro H10 ⟨ds', u10', x10, h10, l10, b10⟩
            have u10 : But b H H10 := u9.trans u10'
            refine ⟨_, rfl, C, _, 0, .int d0, rfl, rfl, SqA.l (u10' _ _ nCb h9), rfl, _, rfl, C, _, 1, .int d1, rfl, rfl, SqA.l (u10' _ _ nCb h9), rfl, _, rfl, C3, _, rfl, .inl ⟨SqL.of h10, fun q' nq => ?_⟩⟩
            refine ⟨(by show 3 ≤ sizeLine; decide), fun p np => ?_⟩
            obtain ⟨uq, xq, eq, nqb⟩ := al (o := .tup (ds'.map V.int)) u10 x10 nq
            obtain ⟨up, xp, ep, npb⟩ := al (o := .tup [.int d0, .int d1, .ref q']) uq xq np
            refine q _ p q' d0 d1 ds' up (xp.mono (by omega)) (uq.free npb np) (u10.free nqb nq) ep ?_ ⟨(b7 d0 (by simp)).1, (b7 d0 (by simp)).2, (b7 d1 (by simp)).1, (b7 d1 (by simp)).2, by omega, by omega, b10⟩
            rw [upd_ne (ne_of_none eq np)]
            exact eq
        · refine ⟨_, rfl, C, _, 0, .int d0, rfl, rfl, SqA.l h9, rfl, _, rfl, C, _, 1, .int d1, rfl, rfl, SqA.l h9, rfl, _, rfl, C2, _, rfl, .inl ⟨SqL.of g9, fun q' nq => ?_⟩⟩
          refine ⟨(by show 3 ≤ sizeLine; decide), fun p np => ?_⟩
          obtain ⟨uq, xq, eq, nqb⟩ := al (o := .tup (ds.map V.int)) u9 x9 nq
          obtain ⟨up, xp, ep, npb⟩ := al (o := .tup [.int d0, .int d1, .ref q']) uq xq np
          refine q _ p q' d0 d1 ds up (xp.mono (by omega)) (uq.free npb np) (u9.free nqb nq) ep ?_ ⟨(b7 d0 (by simp)).1, (b7 d0 (by simp)).2, (b7 d1 (by simp)).1, (b7 d1 (by simp)).2, by omega, by omega, b8⟩
          rw [upd_ne (ne_of_none eq np)]
          exact eq
end
end Sh

namespace Sh
open PySem PySem.Spec PyProof.Rows L2
/-! ### what many laws ask -/
/-- a sea (list or tuple) is handed in -/
def SeaA (K : PySem.W.Frag) (H : Hp) (v : V) (h t : Int) (ds : List Int) : Prop := ∃ p q, v = .ref p ∧ SqA K H p [.int h, .int t, .ref q] ∧ SqA K H q (ds.map V.int)
theorem SeaA.same {K : PySem.W.Frag} {H H' : Hp} {v : V} {h t : Int} {ds : List Int} (s : SeaA K H v h t ds) (e : Same H H') : SeaA K H' v h t ds := let ⟨p, q, a, b, c⟩ := s; ⟨p, q, a, Same.sqA e b, Same.sqA e c⟩
theorem lay_ints : ∀ ns : List Int, PyData.canLayAll0 (ns.map .int) = true ∧ PyData.depthAll (ns.map .int) = 0
  | [] => ⟨rfl, rfl⟩
  | n :: ns => by
    obtain ⟨a, b⟩ := lay_ints ns
    constructor
    · show (PyData.canLay0 (.int n) && PyData.canLayAll0 (ns.map .int)) = true
      rw [a]
      rfl
    · show max (PyData.depth (.int n)) (PyData.depthAll (ns.map .int)) = 0
      rw [b]
      rfl
theorem shaped_ints (ns : List Int) : SeqAt.shaped (.list (ns.map .int)) = true := by
  obtain ⟨a, b⟩ := lay_ints ns
  unfold SeqAt.shaped
  rw [show PyData.canLay0 (.list (ns.map .int)) = PyData.canLayAll0 (ns.map .int) from rfl, show PyData.depth (.list (ns.map .int)) = PyData.depthAll (ns.map .int) + 1 from rfl, a, b]
  rfl
theorem flat_ints (ns : List Int) : (ns.map V.int).all flatV = true := by
  rw [List.all_map]
  exact List.all_eq_true.mpr fun _ _ => rfl
theorem same_over {H H1 : Hp} {p : Addr} {o : HO} (s : Same H H1) (n : H p = none) : Same H (upd H1 p o) := fun a x e => by
  rw [upd_ne (ne_of_none e n)]
  exact s _ _ e
end Sh

namespace Sh
open PySem PySem.Spec PyProof.Rows L2
/-! ### standings as lists of ships -/
def ni (L : List Nat) : List V := L.map fun (i : Nat) => V.int (i : Int)
theorem ni_len (L : List Nat) : (ni L).length = L.length := by unfold ni; simp
theorem ni_get {L : List Nat} {i : Nat} (h : i < L.length) : (ni L)[i]? = some (.int ((L[i] : Nat) : Int)) := by unfold ni; simp [h]
theorem ni_app (L M : List Nat) : ni (L ++ M) = ni L ++ ni M := by unfold ni; simp
theorem ni_ints (L : List Nat) : ni L = (L.map fun (i : Nat) => (i : Int)).map V.int := by unfold ni; simp
theorem ni_flat (L : List Nat) : (ni L).all flatV = true := by unfold ni; rw [List.all_map]; exact List.all_eq_true.mpr fun _ _ => rfl
/-- a rising lot of ships below c -/
structure Lot (c : Nat) (L : List Nat) : Prop where
  up : L.Pairwise (· < ·)
  lt : ∀ i ∈ L, i < c
theorem up_len : ∀ {L : List Nat} {lo c : Nat}, L.Pairwise (· < ·) → (∀ i ∈ L, lo ≤ i ∧ i < c) → L.length ≤ c - lo
  | [], _, _, _, _ => Nat.zero_le _
  | a :: r, lo, c, h, hb => by
    obtain ⟨h1, h2⟩ := List.pairwise_cons.mp h
    have ha := hb a List.mem_cons_self
    have := up_len (lo := a + 1) (c := c) h2 fun i hi => ⟨h1 i hi, (hb i (List.mem_cons_of_mem _ hi)).2⟩
    rw [List.length_cons]
    omega
theorem Lot.len {c : Nat} {L : List Nat} (h : Lot c L) : L.length ≤ c := up_len (lo := 0) h.up fun i hi => ⟨Nat.zero_le _, h.lt i hi⟩
theorem Lot.nil (c : Nat) : Lot c [] := ⟨.nil, fun _ h => by cases h⟩
theorem Lot.all (c : Nat) : Lot c (List.range c) := ⟨List.pairwise_lt_range, fun _ h => List.mem_range.mp h⟩
theorem Lot.filter {c : Nat} {L : List Nat} (h : Lot c L) (p : Nat → Bool) : Lot c (L.filter p) := ⟨h.up.filter p, fun i hi => h.lt i (List.mem_filter.mp hi).1⟩
theorem rgV_ni (n : Nat) : rgV 0 (n : Int) = ni (List.range n) := by
  unfold rgV ni
  rw [show ((n : Int) - 0).toNat = n by omega]
  refine List.map_congr_left fun i _ => ?_
  rw [Int.zero_add]
theorem dp_ni {K : PySem.W.Frag} {H : Hp} {a : Addr} {L : List Nat} (h : H a = some (.lst (ni L))) : Dp K H (.ref a) (.list ((L.map fun (i : Nat) => (i : Int)).map .int)) := by
  rw [ni_ints] at h
  exact .lst (SqL.of h) (DpAll.ints _)
end Sh

namespace Sh
open PySem PySem.Spec PyProof.Rows L2
/-! ### a drawn lot -/
def spLot : Sp := fun vs H Q _ => ∃ (b : Addr) (n c : Nat), vs = [.ref b, .int (c : Int)] ∧ c ≤ 60 ∧ BoxAt H b (n + 100) ∧
  ∀ (H' : Hp) (p : Addr) (L : List Nat), But b H H' → BoxAt H' b n → H p = none → H' p = some (.tup (ni L)) → Lot c L → Q (.ref p) H'
abbrev s__law_lot : Stmt := topS 20
theorem sc__law_lot : FnScope (["_law_box_here", "_law_count", "_law_odds", "_law_whom"] : List Str) (["_law_box_here", "_law_count"] : List Str) (defScope s__law_lot) := ⟨rfl, rfl, rfl, by decide +kernel, rfl, by decide +kernel, by decide +kernel⟩
theorem b__law_lot (kV doc pm : Value) (an : Option Addr) (cdv ct : Value) (us : List Value) (hl : us.length = (["_law_box_here", "_law_count"] : List Str).length) : bindArgs (PySem.W.fnOf "_law_lot" "_law_lot" (defArgs s__law_lot) (defBody s__law_lot) (defScope s__law_lot) .none kV doc pm an cdv ct) ⟨us, []⟩ = pure ((["_law_box_here", "_law_count"] : List Str).zip us) :=
  match us, hl with | [_, _], _ => rfl
section
variable {P : Program} {w : World} {K : PySem.W.Frag} {mg : Str → Option Value} {base : Heap}
theorem ok_lot {k : Nat} (D : Df K mg "_law_lot" s__law_lot) (T : Bt mg) (O__law_take : Ok P w K mg base k "_law_take" s__law_take ["_law_box_here", "_law_span"] spTake) (O__law_of : Ok P w K mg base k "_law_of" s__law_of ["_law_box_here", "_law_some"] (spOf K)) :
    Ok P w K mg base (k + 1) "_law_lot" s__law_lot ["_law_box_here", "_law_count"] spLot := by
  refine D.ok sc__law_lot b__law_lot (fun vs H Q E h => ?_) (fun f cdv A outer s H vs Q E hr h => ?_)
  · obtain ⟨b, n, c, rfl, _⟩ := h
    rfl
  · obtain ⟨b, n, c, rfl, c60, hb, q⟩ := h
    refine ⟨_, (pss_cons (ps_set (i := 2) sc__law_lot.nd rfl (.inr rfl) (pe_fn O__law_of (hr.mono (by omega)) (pa_cons (pv 0) (pa_cons (pe_lst (pa_cons pe_int (pa_cons pe_int (pa_cons pe_int (pa_cons pe_int (pa_cons pe_int pa_nil)))))) pa_nil))))
      (pss_cons (ps_if (pt_cmpR op_eq (pe_fn O__law_take (hr.mono (by omega)) (pa_cons (pv 0) (pa_cons pe_int pa_nil))) pe_int (nomark _))
        (pss_one (ps_ret (pe_ifExp (pt_cmpR op_eq (pe_fn O__law_take (hr.mono (by omega)) (pa_cons (pv 0) (pa_cons pe_int pa_nil))) pe_int (nomark _)) (pe_tupRg (by rfl) (by rfl) T.tuple_ (prg_1 (by rfl) T.range_ (pv 1))) (pe_tup pa_nil))))
        pss_nil)
      (pss_one (ps_ret (pe_callTy call_tuple_of (by rfl) T.tuple_ (by decide +kernel) (pa_cons (pe_lc (own := [("_law_whom", 3)]) (g := (gName 3)) (by rfl) sc__law_lot.nd (pi_range1 (by rfl) T.range_ (pa_cons (pv 1) pa_nil)) (blkOk_by (own := [("_law_whom", 3)]) (N := (["_law_box_here", "_law_count", "_law_odds", "_law_whom"] : List Str)) (sc := defScope s__law_lot) (by decide +kernel)) (fun _ _ _ _ _ => (pg_name (i := 3) sc__law_lot.nd rfl (.inl rfl))) (fun _ _ _ _ _ => (pts_one (pt_cmpR op_eq (pe_fn O__law_take (hr.mono (by omega)) (pa_cons (pv 0) (pa_cons (pv 2) pa_nil))) pe_int (nomark _)))) (fun _ _ _ _ _ => (pv 3))) pa_nil)))))), ?_⟩
    -- odds
    refine ⟨_, rfl, (by show 5 ≤ sizeLine; decide), fun l nl => ?_⟩
    obtain ⟨u1, x1, e1, n1⟩ := al (o := .lst [.int 1, .int 2, .int 2, .int 3, .int 4]) (But.refl b H) hb nl
    refine ⟨b, l, n + 99, _, rfl, SqA.l upd_same, n1, (by show 0 < 5; decide), (by show 5 < 1000000; decide), x1.mono (by omega), fun v ys hv y => ?_⟩
    obtain ⟨o, o0, o1, rfl⟩ : ∃ o : Int, 1 ≤ o ∧ o ≤ 4 ∧ v = .int o := by
      have e5 : v = .int 1 ∨ v = .int 2 ∨ v = .int 3 ∨ v = .int 4 := by simpa using hv
      rcases e5 with e | e | e | e
      · exact ⟨1, by decide, by decide, e⟩
      · exact ⟨2, by decide, by decide, e⟩
      · exact ⟨3, by decide, by decide, e⟩
      · exact ⟨4, by decide, by decide, e⟩
    obtain ⟨u2, x2⟩ := tk u1 y
    generalize upd (upd H l (.lst [.int 1, .int 2, .int 2, .int 3, .int 4])) b (.lst ys) = H2 at u2 x2
    -- take(box, 8) == 0
    refine ⟨_, rfl, b, n + 98, 8, rfl, by decide, by decide, x2.mono (by omega), fun v ys v0 v1 y => ?_⟩
    obtain ⟨u3, x3⟩ := tk u2 y
    generalize upd H2 b (.lst ys) = H3 at u3 x3
    refine ⟨rfl, _, rfl, ite2 (fun _ => ?_) (fun _ => ?_)⟩
    · refine ⟨_, rfl, b, n + 97, 2, rfl, by decide, by decide, x3.mono (by omega), fun v ys v0 v1 y => ?_⟩
      obtain ⟨u4, x4⟩ := tk u3 y
      generalize upd H3 b (.lst ys) = H4 at u4 x4
      refine ⟨rfl, _, rfl, ite2 (fun _ => ?_) (fun _ => ?_)⟩
      · refine ⟨_, rfl, _, rfl, .of_le (by omega) (by omega) (by omega) (by omega), fun p np => ?_⟩
        rw [rgV_ni]
        obtain ⟨u5, x5, e5, n5⟩ := al (o := .tup (ni (List.range c))) u4 x4 np
        exact q _ p _ u5 (x5.mono (by omega)) (u4.free n5 np) e5 (Lot.all c)
      · refine ⟨Nat.zero_le _, fun p np => ?_⟩
        obtain ⟨u5, x5, e5, n5⟩ := al (o := .tup []) u4 x4 np
        exact q _ p [] u5 (x5.mono (by omega)) (u4.free n5 np) e5 (Lot.nil c)
    · refine ⟨_, rfl, _, rfl, by omega, by omega, fun C nC => ?_⟩
      rw [show ((c : Int)).toNat = c by omega]
      have nCb : C ≠ b := (x3.ne nC).symm
      refine lc_range (fun i Hc => ∃ L : List Nat, But b H3 Hc ∧ BoxAt Hc b (n + 98 - i) ∧ Hc C = some (.lst (ni L)) ∧ Lot i L) ?_ ?_ ?_
      · exact ⟨[], (al (But.refl b H3) x3 nC).1, (al (But.refl b H3) x3 nC).2.1, upd_same, Lot.nil 0⟩
      · rintro i Hc hi ⟨L, uc, xc, hC, hL⟩
        refine ⟨rfl, ?_⟩
        refine ⟨_, rfl, _, rfl, b, n + 98 - i - 1, o, rfl, by omega, by omega, xc.mono (by omega), fun v ys v0 v1 y => ?_⟩
        obtain ⟨ud, xd⟩ := tk uc y
        have hD : upd Hc b (.lst ys) C = some (.lst (ni L)) := by rw [upd_ne nCb]; exact hC
        generalize upd Hc b (.lst ys) = Hd at ud xd hD
        refine ⟨rfl, _, rfl, ite2 (fun _ => ?_) (fun _ => ?_)⟩
        · refine ⟨_, rfl, _, hD, ?_, L ++ [i], ?_, ?_, ?_, ?_⟩
          · rw [ni_len]
            exact small1000 (by have := hL.len; omega)
          · exact fun a z na e => by rw [upd_ne (ne_of_none e nC)]; exact ud a z na e
          · exact (xd.at (x3.ne nC)).mono (by omega)
          · rw [upd_same, ni_app]
            exact congrArg (fun z => some (HO.lst (ni L ++ [V.int z]))) (Int.zero_add (i : Int))
          · refine ⟨List.pairwise_append.mpr ⟨hL.up, List.pairwise_singleton _ _, fun a ha z hz => ?_⟩, fun a ha => ?_⟩
            · rw [List.mem_singleton.mp hz]
              exact hL.lt a ha
            · rcases List.mem_append.mp ha with z | z
              · have := hL.lt a z
                omega
              · rw [List.mem_singleton.mp z]
                omega
        · exact ⟨L, ud, xd.mono (by omega), hD, hL.up, fun a ha => Nat.lt_succ_of_lt (hL.lt a ha)⟩
      · rintro H4 ⟨L, u4', x4, h4, hL⟩
        have u4 := u3.trans u4'
        refine ⟨C, _, rfl, .inl ⟨SqL.of h4, fun p np => ?_⟩⟩
        obtain ⟨u5, x5, e5, n5⟩ := al (o := .tup (ni L)) u4 x4 np
        exact q _ p L u5 (x5.mono (by omega)) (u4.free n5 np) e5 hL
end
end Sh

namespace Sh
open PySem PySem.Spec PyProof.Rows L2
/-! ### who may go -/
/-- how many others lie here -/
def near (L : List Nat) (i : Nat) : Nat := (L.filter fun j => !decide (j = i)).length
def mayB (h t : Int) (ds : List Int) (L : List Nat) (i : Nat) : Bool := decide (ds.getD i 0 ≤ h + (near L i : Int)) && decide (ds.getD i 0 ≤ t + (ds.length : Int) - 1 - (near L i : Int))
def lets (h t : Int) (ds : List Int) (L : List Nat) (n : Nat) : List Nat := (List.range n).filter (mayB h t ds L)
theorem filter_succ (p : Nat → Bool) (n : Nat) : (List.range (n + 1)).filter p = (List.range n).filter p ++ (if p n = true then [n] else []) := by
  rw [List.range_succ, List.filter_append]
  congr 1
  by_cases h : p n = true
  · rw [if_pos h, List.filter_cons_of_pos h]
    rfl
  · rw [if_neg h, List.filter_cons_of_neg h]
    rfl
theorem filter_len (p : Nat → Bool) (n : Nat) : ((List.range n).filter p).length ≤ n := Nat.le_trans (List.length_filter_le _ _) (by simp)
theorem take_succ_get {α : Type} {L : List α} {i : Nat} (h : i < L.length) : L.take (i + 1) = L.take i ++ [L[i]] := by rw [List.take_add_one, List.getElem?_eq_getElem h]; rfl
/-- a standing is handed in -/
def LotA (K : PySem.W.Frag) (H : Hp) (v : V) (L : List Nat) : Prop := ∃ p, v = .ref p ∧ SqA K H p (ni L)
theorem LotA.same {K : PySem.W.Frag} {H H' : Hp} {v : V} {L : List Nat} (s : LotA K H v L) (e : Same H H') : LotA K H' v L := let ⟨p, a, b⟩ := s; ⟨p, a, Same.sqA e b⟩
end Sh

namespace Sh
open PySem PySem.Spec PyProof.Rows L2
def spLets (K : PySem.W.Frag) : Sp := fun vs H Q _ => ∃ (v l : V) (h t : Int) (ds : List Int) (L : List Nat), vs = [v, l] ∧ SeaA K H v h t ds ∧ LotA K H l L ∧ ds.length ≤ 1000 ∧ L.length ≤ 1000 ∧
  ∀ (H' : Hp) (p : Addr), Same H H' → H p = none → H' p = some (.lst (ni (lets h t ds L ds.length))) → Q (.ref p) H'
abbrev s__law_lets : Stmt := topS 21
theorem sc__law_lets : FnScope (["_law_sea_here", "_law_lot_here", "_law_depth", "_law_other_depth", "_law_draughts", "_law_found", "_law_whom", "_law_deep", "_law_near", "_law_mate"] : List Str) (["_law_sea_here", "_law_lot_here"] : List Str) (defScope s__law_lets) := ⟨rfl, rfl, rfl, by decide +kernel, rfl, by decide +kernel, by decide +kernel⟩
theorem b__law_lets (kV doc pm : Value) (an : Option Addr) (cdv ct : Value) (us : List Value) (hl : us.length = (["_law_sea_here", "_law_lot_here"] : List Str).length) : bindArgs (PySem.W.fnOf "_law_lets" "_law_lets" (defArgs s__law_lets) (defBody s__law_lets) (defScope s__law_lets) .none kV doc pm an cdv ct) ⟨us, []⟩ = pure ((["_law_sea_here", "_law_lot_here"] : List Str).zip us) :=
  match us, hl with | [_, _], _ => rfl
section
variable {P : Program} {w : World} {K : PySem.W.Frag} {mg : Str → Option Value} {base : Heap}
theorem ok_lets {k : Nat} (D : Df K mg "_law_lets" s__law_lets) (T : Bt mg) : Ok P w K mg base (k + 1) "_law_lets" s__law_lets ["_law_sea_here", "_law_lot_here"] (spLets K) := by
  refine D.ok sc__law_lets b__law_lets (fun vs H Q E h => ?_) (fun f cdv A outer s H vs Q E hr h => ?_)
  · obtain ⟨v, l, h, t, ds, L, rfl, _⟩ := h
    rfl
  · obtain ⟨v, l, h, t, ds, L, rfl, ⟨p, q, rfl, hp, hq⟩, ⟨pl, rfl, hl⟩, d1, l1, k⟩ := h
    refine ⟨_, (pss_cons (ps_asg (pv 0) (pg_seq rfl (pgs_cons (pg_name (i := 2) sc__law_lets.nd rfl (.inl rfl)) (pgs_cons (pg_name (i := 3) sc__law_lets.nd rfl (.inl rfl)) (pgs_cons (pg_name (i := 4) sc__law_lets.nd rfl (.inl rfl)) pgs_nil)))))
      (pss_cons (ps_set (i := 5) sc__law_lets.nd rfl (.inl rfl) (pe_lst pa_nil))
      (pss_cons (ps_for PassesOwn.never rfl (pi_enumA (by rfl) T.enumerate_ (pa_cons (pv 4) pa_nil)) (pg_seq rfl (pgs_cons (pg_name (i := 6) sc__law_lets.nd rfl (.inr rfl)) (pgs_cons (pg_name (i := 7) sc__law_lets.nd rfl (.inl rfl)) pgs_nil)))
        (pss_cons (ps_set (i := 8) sc__law_lets.nd rfl (.inl rfl) (pe_callB call_len_seq (by rfl) T.len_ PySem.boot_len (pa_cons (pe_lc (own := [("_law_mate", 9)]) (g := (gName 9)) (by rfl) sc__law_lets.nd (pi_seq (pv 1)) (blkOk_by (own := [("_law_mate", 9)]) (N := (["_law_sea_here", "_law_lot_here", "_law_depth", "_law_other_depth", "_law_draughts", "_law_found", "_law_whom", "_law_deep", "_law_near", "_law_mate"] : List Str)) (sc := defScope s__law_lets) (by decide +kernel)) (fun _ _ _ _ _ => (pg_name (i := 9) sc__law_lets.nd rfl (.inl rfl))) (fun _ _ _ _ _ => (pts_one (pt_cmpR op_ne (pv 9) (pv 6) (nomark _)))) (fun _ _ _ _ _ => (pv 9))) pa_nil)))
          (pss_one (ps_if (PW.pt (pw_and (pt_cmpR op_le (pv 7) (pe_op op_add (pv 2) (pv 8)) (nomark _)) (pw_and1 (pt_cmpR op_le (pv 7) (pe_op op_sub (pe_op op_sub (pe_op op_add (pv 3) (pe_callB call_len_seq (by rfl) T.len_ PySem.boot_len (pa_cons (pv 4) pa_nil))) pe_int) (pv 8)) (nomark _)))))
            (pss_one (ps_expr (pe_bm PySem.F.plainAttrs_list PySem.F.slot_list_append PySem.F.type_list_append mt_append (pv 5) (pa_cons (pv 6) pa_nil))))
            pss_nil))))
      (pss_one (ps_ret (pv 5)))))), ?_⟩
    refine ⟨_, rfl, p, _, rfl, hp, rfl, _, _, rfl, _, _, rfl, _, _, rfl, rfl, ?_⟩
    refine ⟨Nat.zero_le _, fun F nF => ?_⟩
    have s1 : Same H (upd H F (.lst [])) := same_new nF
    refine ⟨_, rfl, q, _, H, rfl, hq, .ofS s1, fun J hJ => ?_⟩
    obtain ⟨G, g, W⟩ := hJ.walk
    refine for_it W (fun i σ H' => ∃ y6 y7 y8 y9 : Option V, σ = [some (.ref p), some (.ref pl), some (.int h), some (.int t), some (.ref q), some (.ref F), y6, y7, y8, y9] ∧ Same H H' ∧ H' F = some (.lst (ni (lets h t ds L i))))
      ⟨none, none, none, none, rfl, s1, upd_same⟩ (fun i σ H' _ ⟨_, _, _, _, _, z, _⟩ => g H' (.ofS z)) ?_ ?_
    · rintro i x σ H1 H2 hi ⟨y6, y7, y8, y9, rfl, sm, hF⟩ ⟨u, x1, x2, rfl, nu, rfl, g1, g2⟩
      rw [List.length_map] at hi
      obtain rfl : .int (i : Nat) = x1 := Option.some.inj g1
      obtain rfl : .int ds[i] = x2 := by
        have g3 : (ds.map V.int)[i]? = some (.int ds[i]) := by simp [hi]
        exact Option.some.inj (g3.symm.trans g2)
      have ed : ds.getD i 0 = ds[i] := by simp [hi]
      have s2 : Same H1 (upd H1 u (.tup [.int (i : Nat), .int ds[i]])) := same_new nu
      refine ⟨u, _, rfl, SqA.t upd_same, rfl, _, _, rfl, _, _, rfl, rfl, ?_⟩
      have sm2 := sm.trans s2
      have hF2 := s2 _ _ hF
      generalize upd H1 u (.tup [.int (i : Nat), .int ds[i]]) = H2 at sm2 hF2
      -- near
      refine ⟨_, rfl, pl, _, H, rfl, hl, .ofS sm2, fun J2 hJ2 C nC => ?_⟩
      obtain ⟨G2, gg, W2⟩ := hJ2.walk
      refine lc_it W2 (fun j H' => Same H2 H' ∧ H' C = some (.lst (ni ((L.take j).filter fun m => !decide (m = i))))) ⟨same_new nC, upd_same⟩ (fun j H' _ z => gg H' (.ofS (sm2.trans z.1))) ?_ ?_
      · rintro j x H3 H4 hj ⟨s3, hC⟩ ⟨rfl, gx⟩
        rw [ni_len] at hj
        obtain rfl : .int ((L[j] : Nat) : Int) = x := Option.some.inj ((ni_get hj).symm.trans gx)
        refine ⟨rfl, ?_⟩
        refine ⟨_, rfl, _, rfl, rfl, _, rfl, ite2 (fun c => ?_) (fun c => ?_)⟩
        · have c0 : ¬ L[j] = i := fun e => by
            rw [e] at c
            simp at c
          refine ⟨_, rfl, _, hC, ?_, same_over s3 nC, ?_⟩
          · rw [ni_len]
            have h1 := List.length_filter_le (fun m => !decide (m = i)) (L.take j)
            rw [List.length_take] at h1
            exact small1000 (by omega)
          · rw [upd_same, take_succ_get hj, List.filter_append, ni_app, List.filter_cons_of_pos (by simpa using c0)]
            rfl
        · have c0 : L[j] = i := by
            have c1 : ¬ (!decide (V.int ((L[j] : Nat) : Int) = V.int (i : Nat))) = true := c
            have c2 : decide (V.int ((L[j] : Nat) : Int) = V.int (i : Nat)) = true := by
              cases e : decide (V.int ((L[j] : Nat) : Int) = V.int (i : Nat)) with
              | true => rfl
              | false => rw [e] at c1; exact absurd rfl c1
            have c3 := V.int.inj (of_decide_eq_true c2)
            omega
          refine ⟨s3, ?_⟩
          rw [hC, take_succ_get hj, List.filter_append, List.filter_cons_of_neg (by simpa using c0)]
          simp
      rintro H3 ⟨s3, hC⟩
      rw [ni_len, List.take_length] at hC
      refine ⟨C, _, rfl, .inl (SqL.of hC), ?_⟩
      rw [ni_len]
      have sm3 := sm2.trans s3
      have hF3 := s3 _ _ hF2
      -- the test
      have fin : ∀ bb : Bool, mayB h t ds L i = bb → (if bb = true then H3 F = some (.lst (ni (lets h t ds L i))) else H3 F = some (.lst (ni (lets h t ds L (i + 1))))) := fun bb e => by
        cases bb with
        | true => rw [if_pos rfl]; exact hF3
        | false =>
          rw [if_neg Bool.false_ne_true, hF3]
          unfold lets
          rw [filter_succ, e]
          simp
      refine ⟨_, rfl, _, rfl, _, rfl, h, _, rfl, rfl, ds[i], _, rfl, rfl, _, rfl, ite2 (fun c => ?_) (fun c => ?_)⟩
      · have c0 : ds[i] ≤ h + (near L i : Int) := of_decide_eq_true c
        refine ⟨_, rfl, _, rfl, _, rfl, q, _, rfl, Same.sqA sm3 hq, t, _, rfl, rfl, _, 1, rfl, rfl, _, rfl, _, _, rfl, rfl, ds[i], _, rfl, rfl, _, rfl, ite2 (fun c => ?_) (fun c => ?_)⟩
        · have c1 : ds[i] ≤ t + (ds.length : Int) - 1 - (near L i : Int) := by
            have z := of_decide_eq_true c
            rw [List.length_map] at z
            exact z
          have e : mayB h t ds L i = true := by
            unfold mayB
            rw [ed, decide_eq_true c0, decide_eq_true c1]
            rfl
          refine ⟨_, rfl, .inl ⟨rfl, _, SqL.of hF3⟩, _, rfl, F, _, _, rfl, rfl, hF3, ?_, _, _, _, _, rfl, same_over sm3 nF, ?_⟩
          · rw [ni_len]
            exact Nat.lt_of_le_of_lt (filter_len _ _) (small1000 (by omega))
          · rw [upd_same]
            unfold lets
            rw [filter_succ, if_pos e, ni_app]
            rfl
        · have c1 : ¬ ds[i] ≤ t + (ds.length : Int) - 1 - (near L i : Int) := fun z => c (decide_eq_true (by rw [List.length_map]; exact z))
          have e : mayB h t ds L i = false := by
            unfold mayB
            rw [ed, decide_eq_false c1, Bool.and_false]
          exact ⟨_, _, _, _, rfl, sm3, fin false e⟩
      · have c0 : ¬ ds[i] ≤ h + (near L i : Int) := fun z => c (decide_eq_true z)
        have e : mayB h t ds L i = false := by
          unfold mayB
          rw [ed, decide_eq_false c0, Bool.false_and]
        exact iteF ⟨_, _, _, _, rfl, sm3, fin false e⟩
    · rintro σ H1 ⟨y6, y7, y8, y9, rfl, sm, hF⟩
      rw [List.length_map] at hF
      exact ⟨_, rfl, k H1 F sm nF hF⟩
end
end Sh

namespace Sh
open PySem PySem.Spec PyProof.Rows L2
/-! ### who is afloat -/
theorem Lot.mem_eq {c : Nat} {L : List Nat} (h : Lot c L) : L = (List.range c).filter fun j => decide (j ∈ L) := by
  have h2 : Lot c ((List.range c).filter fun j => decide (j ∈ L)) := (Lot.all c).filter _
  refine List.Perm.eq_of_pairwise (le := (· < ·)) (fun a b _ _ h1 h2 => absurd (Nat.lt_trans h1 h2) (Nat.lt_irrefl _)) h.up h2.up ?_
  refine (List.perm_ext_iff_of_nodup (h.up.imp Nat.ne_of_lt) (h2.up.imp Nat.ne_of_lt)).mpr fun a => ?_
  rw [List.mem_filter, List.mem_range, decide_eq_true_eq]
  exact ⟨fun q => ⟨h.lt a q, q⟩, fun q => q.2⟩
theorem filter_filter_len (p q : Nat → Bool) : ∀ l : List Nat, (l.filter p).length = (l.filter fun j => p j && q j).length + (l.filter fun j => p j && !q j).length
  | [] => rfl
  | a :: l => by
    have ih := filter_filter_len p q l
    cases hp : p a <;> cases hq : q a <;> simp [List.filter_cons, hp, hq, ih] <;> omega
/-- how many mates: here, or there -/
def mates (c : Nat) (L : List Nat) (i : Nat) : List Nat := (List.range c).filter fun j => !decide (j = i) && (decide (j ∈ L) == decide (i ∈ L))
theorem near_in {c : Nat} {L : List Nat} (h : Lot c L) (i : Nat) : near L i = ((List.range c).filter fun j => decide (j ∈ L) && !decide (j = i)).length := by
  unfold near
  conv => lhs; rw [h.mem_eq]
  rw [List.filter_filter]
  congr 1
  refine List.filter_congr fun a _ => ?_
  cases decide (a ∈ L) <;> cases decide (a = i) <;> rfl
theorem mates_here {c : Nat} {L : List Nat} (h : Lot c L) {i : Nat} (hi : i ∈ L) : (mates c L i).length = near L i := by
  rw [near_in h, mates]
  congr 1
  refine List.filter_congr fun a _ => ?_
  rw [decide_eq_true hi]
  cases decide (a ∈ L) <;> cases decide (a = i) <;> rfl
theorem one_of {c i : Nat} (hi : i < c) : ((List.range c).filter fun j => decide (j = i)).length = 1 := by
  have e : ((List.range c).filter fun j => decide (j = i)) = [i] := by
    refine List.Perm.eq_of_pairwise (le := (· < ·)) (fun a b _ _ h1 h2 => absurd (Nat.lt_trans h1 h2) (Nat.lt_irrefl _)) (List.pairwise_lt_range.filter _) (List.pairwise_singleton _ _) ?_
    refine (List.perm_ext_iff_of_nodup ((List.pairwise_lt_range.filter _).imp Nat.ne_of_lt) (by simp)).mpr fun a => ?_
    rw [List.mem_filter, List.mem_range, decide_eq_true_eq, List.mem_singleton]
    exact ⟨fun q => q.2, fun q => ⟨q ▸ hi, q⟩⟩
  rw [e]
  rfl
theorem mates_there {c : Nat} {L : List Nat} (h : Lot c L) {i : Nat} (hc : i < c) (hi : i ∉ L) : ((mates c L i).length : Int) = (c : Int) - 1 - (near L i : Int) := by
  have e1 := filter_filter_len (fun j => !decide (j = i)) (fun j => decide (j ∈ L)) (List.range c)
  have e2 := filter_filter_len (fun _ => true) (fun j => decide (j = i)) (List.range c)
  have e3 : ((List.range c).filter fun j => true && decide (j = i)).length = 1 := one_of hc
  have e4 : ((List.range c).filter fun _ => true).length = c := by rw [List.filter_eq_self.mpr fun _ _ => rfl, List.length_range]
  have e5 : ((List.range c).filter fun j => !decide (j = i) && decide (j ∈ L)).length = near L i := by
    rw [near_in h]
    congr 1
    exact List.filter_congr fun a _ => Bool.and_comm _ _
  have e6 : ((List.range c).filter fun j => !decide (j = i) && !decide (j ∈ L)).length = (mates c L i).length := by
    unfold mates
    congr 1
    refine List.filter_congr fun a _ => ?_
    rw [decide_eq_false hi]
    cases decide (a ∈ L) <;> cases decide (a = i) <;> rfl
  have e7 : ((List.range c).filter fun j => true && !decide (j = i)).length = ((List.range c).filter fun j => !decide (j = i)).length := rfl
  rw [e5, e6] at e1
  rw [e3, e4, e7] at e2
  omega
/-- afloat where it lies -/
def aflB (h t : Int) (ds : List Int) (L : List Nat) (i : Nat) : Bool := if i ∈ L then decide (ds.getD i 0 ≤ h + (near L i : Int)) else decide (ds.getD i 0 ≤ t + ((ds.length : Int) - 1 - (near L i : Int)))
def afl (h t : Int) (ds : List Int) (L : List Nat) (n : Nat) : List Nat := (List.range n).filter (aflB h t ds L)
theorem aflB_mates {h t : Int} {ds : List Int} {L : List Nat} {i : Nat} (hL : Lot ds.length L) (hi : i < ds.length) :
    aflB h t ds L i = decide (ds.getD i 0 ≤ (if i ∈ L then h else t) + ((mates ds.length L i).length : Int)) := by
  unfold aflB
  by_cases z : i ∈ L
  · rw [if_pos z, if_pos z, mates_here hL z]
  · rw [if_neg z, if_neg z, mates_there hL hi z]
theorem in_ni {i : Nat} {L : List Nat} : inV (.int (i : Int)) (ni L) = decide (i ∈ L) := by
  unfold inV ni
  rw [List.any_map, Bool.eq_iff_iff, List.any_eq_true, decide_eq_true_eq]
  constructor
  · rintro ⟨x, hx, e⟩
    have e' : ((x : Int) == (i : Int)) = true := e
    have : x = i := by have := beq_iff_eq.mp e'; omega
    rw [← this]
    exact hx
  · intro hx
    exact ⟨i, hx, beq_self_eq_true (i : Int)⟩
def spAfl (K : PySem.W.Frag) : Sp := fun vs H Q _ => ∃ (v l : V) (h t : Int) (ds : List Int) (L : List Nat), vs = [v, l] ∧ SeaA K H v h t ds ∧ LotA K H l L ∧ ds.length ≤ 1000 ∧ Lot ds.length L ∧
  ∀ (H' : Hp) (p : Addr), Same H H' → H p = none → H' p = some (.lst (ni (afl h t ds L ds.length))) → Q (.ref p) H'
/-- the same of who may go: of a standing -/
def spMay (K : PySem.W.Frag) : Sp := fun vs H Q _ => ∃ (v l : V) (h t : Int) (ds : List Int) (L : List Nat), vs = [v, l] ∧ SeaA K H v h t ds ∧ LotA K H l L ∧ ds.length ≤ 1000 ∧ Lot ds.length L ∧
  ∀ (H' : Hp) (p : Addr), Same H H' → H p = none → H' p = some (.lst (ni (lets h t ds L ds.length))) → Q (.ref p) H'
end Sh

namespace Sh
open PySem PySem.Spec PyProof.Rows L2
theorem eqv_nil (ns : List Int) : PyData.eqv (.list (ns.map .int)) (.list []) = ns.isEmpty := by cases ns <;> rfl
end Sh

namespace Sh
open PySem PySem.Spec PyProof.Rows L2
/-! ### the program: steps -/
def mk (h t : Int) (k : Nat) (s : Int) : Int := if t + ((k : Int) - 1 - s) < h + s then t + ((k : Int) - 1 - s) else h + s
def gs (m : Int) (ds : List Int) (n : Nat) : List Nat := (List.range n).filter fun i => decide (ds.getD i 0 ≤ m)
def topI (h t : Int) (k : Nat) : Int := if (if (t + ((k : Int) - 1) - h) / 2 < (k : Int) - 1 then (t + ((k : Int) - 1) - h) / 2 else (k : Int) - 1) > 0 then (if (t + ((k : Int) - 1) - h) / 2 < (k : Int) - 1 then (t + ((k : Int) - 1) - h) / 2 else (k : Int) - 1) else 0
def lowI (h d : Int) : Int := if d - h > 0 then d - h else 0
def highI (t : Int) (k : Nat) (d : Int) : Int := if t + ((k : Int) - 1) - d < (k : Int) - 1 then t + ((k : Int) - 1) - d else (k : Int) - 1
def spMark (K : PySem.W.Frag) : Sp := fun vs H Q _ => ∃ (v : V) (h t s : Int) (ds : List Int), vs = [v, .int s] ∧ SeaA K H v h t ds ∧ Q (.int (mk h t ds.length s)) H
def spGoers (K : PySem.W.Frag) : Sp := fun vs H Q _ => ∃ (v : V) (h t s : Int) (ds : List Int), vs = [v, .int s] ∧ SeaA K H v h t ds ∧ ds.length ≤ 1000 ∧
  ∀ (H' : Hp) (p : Addr), Same H H' → H p = none → H' p = some (.lst (((gs (mk h t ds.length s) ds ds.length).map fun (i : Nat) => (i : Int)).map V.int)) → Q (.ref p) H'
def spTop (K : PySem.W.Frag) : Sp := fun vs H Q _ => ∃ (v : V) (h t : Int) (ds : List Int), vs = [v] ∧ SeaA K H v h t ds ∧ Q (.int (topI h t ds.length)) H
def spWindow (K : PySem.W.Frag) : Sp := fun vs H Q _ => ∃ (v : V) (h t d : Int) (j : Nat) (ds : List Int), vs = [v, .int (j : Int)] ∧ SeaA K H v h t ds ∧ ds[j]? = some d ∧
  (lowI h d > highI t ds.length d → Q .non H) ∧ (¬ lowI h d > highI t ds.length d → ∀ p, H p = none → Q (.ref p) (upd H p (.tup [.int (lowI h d), .int (highI t ds.length d)])))
theorem gs_succ {m : Int} {ds : List Int} {n : Nat} : gs m ds (n + 1) = gs m ds n ++ (if ds.getD n 0 ≤ m then [n] else []) := by
  unfold gs
  rw [List.range_succ, List.filter_append]
  congr 1
  by_cases h : ds.getD n 0 ≤ m
  · rw [if_pos h, List.filter_cons_of_pos (by simpa using h)]
    rfl
  · rw [if_neg h, List.filter_cons_of_neg (by simpa using h)]
    rfl
theorem gs_len {m : Int} {ds : List Int} {n : Nat} : (gs m ds n).length ≤ n := by
  unfold gs
  exact Nat.le_trans (List.length_filter_le _ _) (by simp)
theorem mk_alt (h t : Int) (k : Nat) (s : Int) : (if t + (k : Int) - 1 - s < h + s then t + (k : Int) - 1 - s else h + s) = mk h t k s := by
  unfold mk
  rw [show t + (k : Int) - 1 - s = t + ((k : Int) - 1 - s) by omega]
end Sh

namespace Sh
open PySem PySem.Spec PyProof.Rows L2
/-! ### steps: the mathematics -/
def ml (h t : Int) (k n : Nat) : List Int := (List.range n).map fun (i : Nat) => mk h t k (i : Int)
theorem ml_succ (h t : Int) (k n : Nat) : ml h t k (n + 1) = ml h t k n ++ [mk h t k (n : Int)] := by
  unfold ml
  rw [List.range_succ, List.map_append]
  rfl
theorem ml_len (h t : Int) (k n : Nat) : (ml h t k n).length = n := by
  unfold ml
  simp
theorem ml_get {h t : Int} {k n i : Nat} (hi : i < n) : (ml h t k n)[i]? = some (mk h t k (i : Int)) := by
  unfold ml
  simp [hi]
theorem top_lo (h t : Int) (k : Nat) : 0 ≤ topI h t k := by
  unfold topI
  split <;> omega
theorem top_hi (h t : Int) {k : Nat} (hk : 0 < k) : topI h t k < (k : Int) := by
  unfold topI
  repeat' split
  all_goals omega
theorem top_max (h t : Int) {k i : Nat} (hi : i < k) : mk h t k (i : Int) ≤ mk h t k (topI h t k) := by
  unfold mk topI
  repeat' split
  all_goals omega
theorem top_least (h t : Int) {k i : Nat} (hi : (i : Int) < topI h t k) : mk h t k (i : Int) < mk h t k (topI h t k) := by
  unfold mk topI at *
  repeat' split
  all_goals (repeat' split at hi)
  all_goals omega
theorem win_iff (h t d : Int) {k i : Nat} (hi : i < k) : d ≤ mk h t k (i : Int) ↔ lowI h d ≤ (i : Int) ∧ (i : Int) ≤ highI t k d := by
  unfold mk lowI highI
  constructor
  · intro z
    split at z <;> (constructor <;> split <;> omega)
  · intro z
    split <;> (obtain ⟨z1, z2⟩ := z; split at z1 <;> split at z2 <;> omega)
/-- the steps at which it may go -/
def fl (h t d : Int) (k n : Nat) : List Nat := (List.range n).filter fun (i : Nat) => decide (d ≤ mk h t k (i : Int))
theorem fl_succ {h t d : Int} {k n : Nat} : fl h t d k (n + 1) = fl h t d k n ++ (if d ≤ mk h t k (n : Int) then [n] else []) := by
  unfold fl
  rw [List.range_succ, List.filter_append]
  congr 1
  by_cases z : d ≤ mk h t k (n : Int)
  · rw [if_pos z, List.filter_cons_of_pos (by simpa using z)]
    rfl
  · rw [if_neg z, List.filter_cons_of_neg (by simpa using z)]
    rfl
theorem fl_len {h t d : Int} {k n : Nat} : (fl h t d k n).length ≤ n := by
  unfold fl
  exact Nat.le_trans (List.length_filter_le _ _) (by simp)
theorem fl_mem {h t d : Int} {k i : Nat} : i ∈ fl h t d k k ↔ i < k ∧ lowI h d ≤ (i : Int) ∧ (i : Int) ≤ highI t k d := by
  unfold fl
  rw [List.mem_filter, List.mem_range, decide_eq_true_eq]
  constructor
  · rintro ⟨a, b⟩
    exact ⟨a, (win_iff h t d a).mp b⟩
  · rintro ⟨a, b⟩
    exact ⟨a, (win_iff h t d a).mpr b⟩
theorem fl_sorted (h t d : Int) (k : Nat) : (fl h t d k k).Pairwise (· < ·) := by
  unfold fl
  exact List.Pairwise.filter _ List.pairwise_lt_range
theorem high_lt (t d : Int) {k : Nat} (hk : 0 < k) : highI t k d < (k : Int) := by
  unfold highI
  split <;> omega
theorem low_nn (h d : Int) : 0 ≤ lowI h d := by
  unfold lowI
  split <;> omega
theorem fl_nil {h t d : Int} {k : Nat} (z : lowI h d > highI t k d) : fl h t d k k = [] := by
  cases e : fl h t d k k with
  | nil => rfl
  | cons x r =>
    have m : x ∈ fl h t d k k := by rw [e]; exact List.mem_cons_self
    obtain ⟨_, a, b⟩ := fl_mem.mp m
    omega
/-- a rising list has its least first, its greatest last -/
theorem fl_ends {h t d : Int} {k : Nat} (hk : 0 < k) (z : ¬ lowI h d > highI t k d) : ∃ (l : List Nat) (r : List Nat) (a b : Nat), fl h t d k k = a :: r ∧ fl h t d k k = l ++ [b] ∧ (a : Int) = lowI h d ∧ (b : Int) = highI t k d := by
  have hh := high_lt t d hk
  have hl := low_nn h d
  have ml' : (lowI h d).toNat ∈ fl h t d k k := fl_mem.mpr ⟨by omega, by omega, by omega⟩
  have mh : (highI t k d).toNat ∈ fl h t d k k := fl_mem.mpr ⟨by omega, by omega, by omega⟩
  have ne : fl h t d k k ≠ [] := List.ne_nil_of_mem ml'
  have st := fl_sorted h t d k
  obtain ⟨a, r, e1⟩ : ∃ a r, fl h t d k k = a :: r := by
    cases e : fl h t d k k with
    | nil => exact absurd e ne
    | cons x r => exact ⟨x, r, rfl⟩
  have e2 : fl h t d k k = (fl h t d k k).dropLast ++ [(fl h t d k k).getLast ne] := (List.dropLast_concat_getLast ne).symm
  refine ⟨_, r, a, _, e1, e2, ?_, ?_⟩
  · have ma : a ∈ fl h t d k k := by rw [e1]; exact List.mem_cons_self
    obtain ⟨_, g1, g2⟩ := fl_mem.mp ma
    have le : a ≤ (lowI h d).toNat := by
      rw [e1] at ml' st
      rcases List.mem_cons.mp ml' with q | q
      · omega
      · have := (List.pairwise_cons.mp st).1 _ q
        omega
    omega
  · have mb := List.getLast_mem ne
    obtain ⟨_, g1, g2⟩ := fl_mem.mp mb
    have le : (highI t k d).toNat ≤ (fl h t d k k).getLast ne := by
      have st2 := st
      rw [e2] at mh st2
      rcases List.mem_append.mp mh with q | q
      · have := (List.pairwise_append.mp st2).2.2 _ q _ List.mem_cons_self
        omega
      · have : (highI t k d).toNat = (fl h t d k k).getLast ne := by simpa using q
        omega
    omega
end Sh

namespace Sh
open PySem PySem.Spec PyProof.Rows L2
/-! ### sorted lists of ships -/
theorem nat_list {c : Nat} : ∀ {ns : List Int}, (∀ z ∈ ns, 0 ≤ z ∧ z < (c : Int)) → ∃ L : List Nat, ns = L.map (fun (i : Nat) => (i : Int)) ∧ ∀ i ∈ L, i < c
  | [], _ => ⟨[], rfl, fun _ h => by cases h⟩
  | z :: ns, h => by
    obtain ⟨L, e, hL⟩ := nat_list (ns := ns) fun y hy => h y (List.mem_cons_of_mem _ hy)
    have hz := h z List.mem_cons_self
    refine ⟨z.toNat :: L, ?_, fun i hi => ?_⟩
    · rw [List.map_cons, ← e]
      congr 1
      omega
    · rcases List.mem_cons.mp hi with q | q
      · omega
      · exact hL i q
theorem map_inj {L M : List Nat} (h : (L.map fun (i : Nat) => (i : Int)).Perm (M.map fun (i : Nat) => (i : Int))) : L.Perm M := by
  have h2 := h.map Int.toNat
  rw [List.map_map, List.map_map] at h2
  have e : (Int.toNat ∘ fun (i : Nat) => (i : Int)) = id := by
    funext i
    exact Int.toNat_natCast i
  rw [e, List.map_id, List.map_id] at h2
  exact h2
/-- sorted ints that are a rearrangement of different ships: a lot -/
theorem lot_sorted {c : Nat} {ns : List Int} {M : List Nat} (pm : ns.Perm (M.map fun (i : Nat) => (i : Int))) (up : ns.Pairwise (· ≤ ·)) (nd : M.Nodup) (lt : ∀ i ∈ M, i < c) :
    ∃ L : List Nat, ns = L.map (fun (i : Nat) => (i : Int)) ∧ L.Perm M ∧ Lot c L := by
  obtain ⟨L, rfl, hL⟩ := nat_list (c := c) (ns := ns) fun z hz => by
    obtain ⟨i, hi, rfl⟩ := List.mem_map.mp (pm.mem_iff.mp hz)
    have := lt i hi
    omega
  have p2 := map_inj pm
  refine ⟨L, rfl, p2, ?_, hL⟩
  have ndL : L.Nodup := p2.nodup_iff.mpr nd
  have up2 : L.Pairwise (· ≤ ·) := by
    rw [List.pairwise_map] at up
    exact up.imp fun h => by omega
  exact (up2.and ndL).imp fun h => Nat.lt_of_le_of_ne h.1 h.2
theorem cut_take (xs : List V) (l : Nat) : cutV xs none (some (l : Int)) = xs.take l := by
  unfold cutV
  rw [HT.sIx_none, HT.sIx_nat]
  show (xs.drop 0).take (min l xs.length - 0) = xs.take l
  rw [List.drop_zero, Nat.sub_zero]
  by_cases h : l ≤ xs.length
  · rw [Nat.min_eq_left h]
  · rw [Nat.min_eq_right (by omega), List.take_length, List.take_of_length_le (by omega)]
theorem near_out {L : List Nat} {i : Nat} (h : i ∉ L) : near L i = L.length := by
  unfold near
  rw [List.filter_eq_self.mpr fun a ha => ?_]
  have : ¬ a = i := fun e => h (e ▸ ha)
  simpa using this
theorem near_perm {L M : List Nat} (i : Nat) (h : L.Perm M) : near L i = near M i := (h.filter _).length_eq
theorem near_add {L : List Nat} {i : Nat} (h : i ∉ L) : near (L ++ [i]) i = L.length := by
  rw [← near_out h]
  unfold near
  rw [List.filter_append]
  simp
end Sh

namespace Th
/-! ### counting ships below k -/
def cnt (k : Nat) (S : Nat → Bool) : Nat := (List.range k).countP S
theorem cnt_zero (S : Nat → Bool) : cnt 0 S = 0 := rfl
theorem cnt_succ (k : Nat) (S : Nat → Bool) : cnt (k + 1) S = cnt k S + (if S k = true then 1 else 0) := by
  unfold cnt
  rw [List.range_succ, List.countP_append]
  congr 1
  cases h : S k <;> simp [h]
theorem cnt_le (k : Nat) (S : Nat → Bool) : cnt k S ≤ k := by
  induction k with
  | zero => exact Nat.le_refl _
  | succ k ih => rw [cnt_succ]; split <;> omega
theorem cnt_congr {k : Nat} {S U : Nat → Bool} (h : ∀ i, i < k → S i = U i) : cnt k S = cnt k U := by
  induction k with
  | zero => rfl
  | succ k ih => rw [cnt_succ, cnt_succ, ih fun i hi => h i (by omega), h k (by omega)]
theorem cnt_mono {k : Nat} {S U : Nat → Bool} (h : ∀ i, i < k → S i = true → U i = true) : cnt k S ≤ cnt k U := by
  induction k with
  | zero => exact Nat.le_refl _
  | succ k ih =>
    have := ih fun i hi => h i (by omega)
    rw [cnt_succ, cnt_succ]
    by_cases e : S k = true
    · rw [if_pos e, if_pos (h k (by omega) e)]
      omega
    · rw [if_neg e]
      omega
/-- as many, and all of the one among the other: the same -/
theorem cnt_eq {k : Nat} {S U : Nat → Bool} (h : ∀ i, i < k → S i = true → U i = true) (e : cnt k U ≤ cnt k S) : ∀ i, i < k → U i = true → S i = true := by
  induction k with
  | zero => intro i hi; omega
  | succ k ih =>
    have hm := cnt_mono (k := k) fun i hi => h i (by omega)
    rw [cnt_succ, cnt_succ] at e
    intro i hi hu
    by_cases ek : S k = true
    · have uk := h k (by omega) ek
      rw [if_pos ek, if_pos uk] at e
      by_cases z : i = k
      · rw [z]; exact ek
      · exact ih (fun i hi => h i (by omega)) (by omega) i (by omega) hu
    · rw [if_neg ek] at e
      by_cases uk : U k = true
      · rw [if_pos uk] at e
        omega
      · rw [if_neg uk] at e
        by_cases z : i = k
        · rw [z] at hu; exact absurd hu uk
        · exact ih (fun i hi => h i (by omega)) (by omega) i (by omega) hu
theorem cnt_ex {k : Nat} {S U : Nat → Bool} (e : cnt k S < cnt k U) : ∃ i, i < k ∧ U i = true ∧ S i = false := by
  induction k with
  | zero => rw [cnt_zero, cnt_zero] at e; omega
  | succ k ih =>
    rw [cnt_succ, cnt_succ] at e
    by_cases uk : U k = true
    · by_cases sk : S k = true
      · rw [if_pos uk, if_pos sk] at e
        obtain ⟨i, h1, h2⟩ := ih (by omega)
        exact ⟨i, by omega, h2⟩
      · exact ⟨k, by omega, uk, by simpa using sk⟩
    · rw [if_neg uk] at e
      obtain ⟨i, h1, h2⟩ := ih (by omega)
      exact ⟨i, by omega, h2⟩
theorem cnt_pos_ex {k : Nat} {S : Nat → Bool} (e : 0 < cnt k S) : ∃ i, i < k ∧ S i = true := by
  induction k with
  | zero => rw [cnt_zero] at e; omega
  | succ k ih =>
    by_cases sk : S k = true
    · exact ⟨k, by omega, sk⟩
    · rw [cnt_succ, if_neg sk] at e
      obtain ⟨i, h1, h2⟩ := ih (by omega)
      exact ⟨i, by omega, h2⟩
def flip (S : Nat → Bool) (i : Nat) : Nat → Bool := fun j => if j = i then !S j else S j
theorem flip_self (S : Nat → Bool) (i : Nat) : flip S i i = !S i := by unfold flip; rw [if_pos rfl]
theorem flip_ne (S : Nat → Bool) {i j : Nat} (h : j ≠ i) : flip S i j = S j := by unfold flip; rw [if_neg h]
theorem flip_flip (S : Nat → Bool) (i : Nat) : flip (flip S i) i = S := by
  funext j
  by_cases h : j = i
  · subst h
    rw [flip_self, flip_self, Bool.not_not]
  · rw [flip_ne _ h, flip_ne _ h]
theorem cnt_flip_up {k : Nat} {S : Nat → Bool} {i : Nat} (hi : i < k) (h : S i = false) : cnt k (flip S i) = cnt k S + 1 := by
  induction k with
  | zero => omega
  | succ k ih =>
    rw [cnt_succ, cnt_succ]
    by_cases z : i = k
    · subst z
      rw [flip_self, h]
      rw [cnt_congr (k := i) (S := flip S i) (U := S) fun j hj => flip_ne S (by omega)]
      simp
    · rw [ih (by omega), flip_ne S (show k ≠ i by omega)]
      omega
theorem cnt_flip_dn {k : Nat} {S : Nat → Bool} {i : Nat} (hi : i < k) (h : S i = true) : cnt k (flip S i) + 1 = cnt k S := by
  have e : flip S i i = false := by rw [flip_self, h]; rfl
  have := cnt_flip_up hi e
  rw [flip_flip] at this
  omega
theorem cnt_pos {k : Nat} {S : Nat → Bool} {i : Nat} (hi : i < k) (h : S i = true) : 0 < cnt k S := by
  have := cnt_flip_dn hi h
  omega
theorem cnt_or_not {k : Nat} (S U : Nat → Bool) : cnt k (fun i => S i || U i) = cnt k S + cnt k (fun i => U i && !S i) := by
  induction k with
  | zero => rfl
  | succ k ih =>
    rw [cnt_succ, cnt_succ, cnt_succ, ih]
    cases S k <;> cases U k <;> simp <;> omega
theorem cnt_split {k : Nat} (S U : Nat → Bool) : cnt k S = cnt k (fun i => S i && U i) + cnt k (fun i => S i && !U i) := by
  induction k with
  | zero => rfl
  | succ k ih =>
    rw [cnt_succ, cnt_succ, cnt_succ, ih]
    cases S k <;> cases U k <;> simp <;> omega
theorem cnt_not {k : Nat} (S : Nat → Bool) : cnt k S + cnt k (fun i => !S i) = k := by
  induction k with
  | zero => rfl
  | succ k ih =>
    rw [cnt_succ, cnt_succ]
    cases S k <;> simp <;> omega

/-! ### crossings -/
section
variable (k : Nat) (G : Nat → Nat → Bool)
inductive Step : (Nat → Bool) → (Nat → Bool) → Prop
  | up {S : Nat → Bool} {i : Nat} (hi : i < k) (hs : S i = false) (hg : G (cnt k S) i = true) : Step S (flip S i)
  | dn {S : Nat → Bool} {i : Nat} (hi : i < k) (hs : S i = true) (hg : G (cnt k S - 1) i = true) : Step S (flip S i)
inductive Reach : (Nat → Bool) → (Nat → Bool) → Prop
  | refl (S : Nat → Bool) : Reach S S
  | step {S U W : Nat → Bool} : Reach S U → Step k G U W → Reach S W
end
section
variable {k : Nat} {G : Nat → Nat → Bool} {S U W : Nat → Bool}
theorem Step.symm (h : Step k G S U) : Step k G U S := by
  cases h with
  | @up i hi hs hg =>
    have e : Step k G (flip S i) (flip (flip S i) i) := .dn hi (by rw [flip_self, hs]; rfl) (by rw [cnt_flip_up hi hs, Nat.add_sub_cancel]; exact hg)
    rwa [flip_flip] at e
  | @dn i hi hs hg =>
    have e : Step k G (flip S i) (flip (flip S i) i) := .up hi (by rw [flip_self, hs]; rfl) (by have := cnt_flip_dn hi hs; rw [show cnt k (flip S i) = cnt k S - 1 by omega]; exact hg)
    rwa [flip_flip] at e
theorem Reach.trans (a : Reach k G S U) (b : Reach k G U W) : Reach k G S W := by
  induction b with
  | refl => exact a
  | step _ s ih => exact .step ih s
theorem Reach.one (s : Step k G S U) : Reach k G S U := .step (.refl _) s
theorem Reach.symm (a : Reach k G S U) : Reach k G U S := by
  induction a with
  | refl => exact .refl _
  | step _ s ih => exact (Reach.one s.symm).trans ih
/-- whatever every crossing keeps -/
theorem Reach.inv {P : (Nat → Bool) → Prop} (hp : ∀ S U, P S → Step k G S U → P U) (a : Reach k G S U) (h : P S) : P U := by
  induction a with
  | refl => exact h
  | step _ s ih => exact hp _ _ ih s
/-! ### filled from below -/
/-- between a and b goers grow -/
def Grow (G : Nat → Nat → Bool) (b : Nat) : Prop := ∀ s s' i, s ≤ s' → s' ≤ b → G s i = true → G s' i = true
/-- S can be filled to N, if at each number on the way somebody lacks -/
theorem fill {T : Nat} (gr : Grow G T) (N : Nat) (hN : N ≤ T + 1) (h0 : cnt k S ≤ N) (hl : ∀ n, cnt k S ≤ n → n < N → n < cnt k (fun i => S i || G n i)) :
    ∃ U, Reach k G S U ∧ cnt k U = N ∧ (∀ i, S i = true → U i = true) ∧ ∀ i, i < k → U i = true → S i = true ∨ (0 < N ∧ G (N - 1) i = true) := by
  induction N with
  | zero => exact ⟨S, .refl _, by omega, fun _ h => h, fun _ _ h => .inl h⟩
  | succ N ih =>
    by_cases e : cnt k S = N + 1
    · exact ⟨S, .refl _, e, fun _ h => h, fun _ _ h => .inl h⟩
    · obtain ⟨U, r, c, h1, h2⟩ := ih (by omega) (by omega) fun n a b => hl n a (by omega)
      have hlt := hl N (by omega) (by omega)
      obtain ⟨i, hi, g, u⟩ := cnt_ex (k := k) (S := U) (U := fun i => S i || G N i) (by omega)
      have gi : G N i = true := by
        cases hs : S i with
        | true => rw [h1 i hs] at u; cases u
        | false => rw [hs] at g; exact g
      refine ⟨flip U i, r.step (.up hi u (by rw [c]; exact gi)), by rw [cnt_flip_up hi u, c], fun j hj => ?_, fun j hj hf => ?_⟩
      · by_cases z : j = i
        · subst z
          rw [h1 j hj] at u
          cases u
        · rw [flip_ne _ z]
          exact h1 j hj
      · by_cases z : j = i
        · exact .inr ⟨by omega, by rw [z]; exact gi⟩
        · rw [flip_ne _ z] at hf
          rcases h2 j hj hf with q | ⟨q, g2⟩
          · exact .inl q
          · exact .inr ⟨by omega, gr _ _ _ (by omega) (by omega) g2⟩
/-- stuck at N: the fullest one is S with all goers at N -/
theorem stuck {T N : Nat} (gr : Grow G T) (hN : N ≤ T) (h0 : cnt k S ≤ N) (hl : ∀ n, cnt k S ≤ n → n < N → n < cnt k (fun i => S i || G n i)) (hs : cnt k (fun i => S i || G N i) ≤ N) :
    ∃ U, Reach k G S U ∧ cnt k U = N ∧ ∀ i, i < k → U i = (S i || G N i) := by
  obtain ⟨U, r, c, h1, h2⟩ := fill gr N (by omega) h0 hl
  have hm : ∀ i, i < k → U i = true → (S i || G N i) = true := fun i hi hu => by
    rcases h2 i hi hu with q | ⟨_, q⟩
    · rw [q]; rfl
    · rw [gr _ _ _ (by omega) hN q, Bool.or_true]
  have he := cnt_eq (k := k) (S := U) (U := fun i => S i || G N i) hm (by omega)
  refine ⟨U, r, c, fun i hi => ?_⟩
  cases hu : U i with
  | true => exact (hm i hi hu).symm
  | false =>
    cases hq : (S i || G N i) with
    | false => rfl
    | true => rw [he i hi hq] at hu; cases hu
/-- under a low bar at N nobody gets out -/
theorem low_inv {T N : Nat} (gr : Grow G T) (hN : N ≤ T) {F : Nat → Bool} (hF : cnt k F = N) (hG : ∀ i, i < k → G N i = true → F i = true) :
    ∀ S U, (cnt k S ≤ N ∧ ∀ i, i < k → (S i || G N i) = F i) → Step k G S U → (cnt k U ≤ N ∧ ∀ i, i < k → (U i || G N i) = F i) := by
  rintro S U ⟨c, h⟩ s
  have sub : ∀ i, i < k → S i = true → F i = true := fun i hi hs => by rw [← h i hi, hs]; rfl
  cases s with
  | @up i hi hs hg =>
    by_cases z : cnt k S = N
    · exfalso
      rw [z] at hg
      have := cnt_eq sub (by omega) i hi (hG i hi hg)
      rw [hs] at this
      cases this
    · refine ⟨by rw [cnt_flip_up hi hs]; omega, fun j hj => ?_⟩
      by_cases e : j = i
      · subst e
        have gN := gr _ _ _ (by omega) hN hg
        rw [gN, Bool.or_true, hG j hj gN]
      · rw [flip_ne _ e]
        exact h j hj
  | @dn i hi hs hg =>
    have := cnt_flip_dn hi hs
    refine ⟨by omega, fun j hj => ?_⟩
    by_cases e : j = i
    · subst e
      have gN := gr _ _ _ (by omega) hN hg
      rw [gN, Bool.or_true, hG j hj gN]
    · rw [flip_ne _ e]
      exact h j hj
end
end Th
namespace Th
section
variable {k : Nat} {G : Nat → Nat → Bool} {S U W : Nat → Bool}
/-! ### met from the other basin -/
def co (S : Nat → Bool) : Nat → Bool := fun i => !S i
def dual (k : Nat) (G : Nat → Nat → Bool) : Nat → Nat → Bool := fun s i => G (k - 1 - s) i
theorem co_co (S : Nat → Bool) : co (co S) = S := by funext i; exact Bool.not_not _
theorem cnt_co (k : Nat) (S : Nat → Bool) : cnt k S + cnt k (co S) = k := cnt_not S
theorem flip_co (S : Nat → Bool) (i : Nat) : flip (co S) i = co (flip S i) := by
  funext j
  unfold co flip
  split <;> rfl
theorem Step.dual (h : Step k G S U) : Step k (dual k G) (co S) (co U) := by
  cases h with
  | @up i hi hs hg =>
    rw [← flip_co]
    have c1 := cnt_co k S
    have c2 := cnt_le k (flip S i)
    rw [cnt_flip_up hi hs] at c2
    refine .dn hi (by unfold co; rw [hs]; rfl) ?_
    unfold Th.dual
    rw [show k - 1 - (cnt k (co S) - 1) = cnt k S by omega]
    exact hg
  | @dn i hi hs hg =>
    rw [← flip_co]
    have c1 := cnt_co k S
    have c2 := cnt_pos hi hs
    refine .up hi (by unfold co; rw [hs]; rfl) ?_
    unfold Th.dual
    rw [show k - 1 - cnt k (co S) = cnt k S - 1 by omega]
    exact hg
theorem dual_dual_at {s : Nat} (hs : s < k) (i : Nat) : Th.dual k (Th.dual k G) s i = G s i := by
  unfold Th.dual
  rw [show k - 1 - (k - 1 - s) = s by omega]
theorem Reach.dual (h : Reach k G S U) : Reach k (Th.dual k G) (co S) (co U) := by
  induction h with
  | refl => exact .refl _
  | step _ s ih => exact .step ih s.dual
theorem Step.congr {G' : Nat → Nat → Bool} (hg : ∀ s i, s < k → G s i = G' s i) (h : Step k G S U) : Step k G' S U := by
  cases h with
  | @up i hi hs g =>
    have := cnt_le k (flip S i)
    rw [cnt_flip_up hi hs] at this
    exact .up hi hs (by rw [← hg _ _ (by omega)]; exact g)
  | @dn i hi hs g =>
    have := cnt_le k S
    have := cnt_pos hi hs
    exact .dn hi hs (by rw [← hg _ _ (by omega)]; exact g)
theorem Reach.congr {G' : Nat → Nat → Bool} (hg : ∀ s i, s < k → G s i = G' s i) (h : Reach k G S U) : Reach k G' S U := by
  induction h with
  | refl => exact .refl _
  | step _ s ih => exact .step ih (s.congr hg)
theorem Reach.codual (h : Reach k (Th.dual k G) (co S) (co U)) : Reach k G S U := by
  have h2 := h.dual
  rw [co_co, co_co] at h2
  exact h2.congr fun s i hs => dual_dual_at hs i
/-! ### at the top -/
structure Top (k : Nat) (G : Nat → Nat → Bool) (T : Nat) : Prop where
  lt : T < k
  up : Grow G T
  dn : ∀ s s' i, T ≤ s → s ≤ s' → s' < k → G s' i = true → G s i = true
theorem Top.all {T : Nat} (t : Top k G T) {s i : Nat} (hs : s < k) (h : G s i = true) : G T i = true := by
  by_cases z : s ≤ T
  · exact t.up s T i z (Nat.le_refl _) h
  · exact t.dn T s i (Nat.le_refl _) (by omega) hs h
theorem Top.dual {T : Nat} (t : Top k G T) : Top k (Th.dual k G) (k - 1 - T) := by
  have := t.lt
  refine ⟨by omega, fun s s' i a b g => ?_, fun s s' i a b c g => ?_⟩
  · exact t.dn (k - 1 - s') (k - 1 - s) i (by omega) (by omega) (by omega) g
  · exact t.up (k - 1 - s') (k - 1 - s) i (by omega) (by omega) g
/-- who isn't a goer at the top never goes -/
theorem fast_inv {T : Nat} (t : Top k G T) (h : Reach k G S U) : ∀ i, i < k → G T i = false → U i = S i := by
  intro i hi hg
  refine Reach.inv (P := fun W => W i = S i) (fun A B e s => ?_) h rfl
  cases s with
  | @up j hj hs g =>
    have c := cnt_le k (flip A j)
    rw [cnt_flip_up hj hs] at c
    have : i ≠ j := fun z => by
      subst z
      rw [t.all (by omega) g] at hg
      cases hg
    rw [flip_ne _ this]
    exact e
  | @dn j hj hs g =>
    have c := cnt_le k A
    have c2 := cnt_pos hj hs
    have : i ≠ j := fun z => by
      subst z
      rw [t.all (by omega) g] at hg
      cases hg
    rw [flip_ne _ this]
    exact e
def diff (k : Nat) (S U : Nat → Bool) : Nat := cnt k (fun i => S i && !U i)
theorem reach_out (h : Reach k G S U) : ∀ i, ¬ i < k → U i = S i := by
  intro i hi
  refine Reach.inv (P := fun W => W i = S i) (fun A B e s => ?_) h rfl
  cases s with
  | @up j hj hs g =>
    rw [flip_ne _ (show i ≠ j by omega)]
    exact e
  | @dn j hj hs g =>
    rw [flip_ne _ (show i ≠ j by omega)]
    exact e
/-- at the top's own number goers can be exchanged -/
theorem swap {T : Nat} (t : Top k G T) : ∀ (n : Nat) (S U : Nat → Bool), diff k S U ≤ n → cnt k S = T → cnt k U = T → (∀ i, i < k → G T i = false → U i = S i) → (∀ i, ¬ i < k → U i = S i) → Reach k G S U := by
  intro n
  induction n with
  | zero =>
    intro S U hd cs cu hf ho
    have hsub : ∀ i, i < k → S i = true → U i = true := fun i hi hs => by
      cases hu : U i with
      | true => rfl
      | false =>
        have := cnt_pos (k := k) (S := fun i => S i && !U i) hi (by show (S i && !U i) = true; rw [hs, hu]; rfl)
        unfold diff at hd
        omega
    have heq := cnt_eq hsub (by omega)
    have : U = S := by
      funext i
      by_cases hi : i < k
      · cases hs : S i with
        | true => exact hsub i hi hs
        | false =>
          cases hu : U i with
          | false => rfl
          | true => rw [heq i hi hu] at hs; cases hs
      · exact ho i hi
    rw [this]
    exact .refl _
  | succ n ih =>
    intro S U hd cs cu hf ho
    by_cases z : diff k S U = 0
    · exact ih S U (by omega) cs cu hf ho
    · obtain ⟨i, hi, h1⟩ := cnt_pos_ex (k := k) (S := fun i => S i && !U i) (by unfold diff at z; omega)
      have si : S i = true := by revert h1; cases S i <;> simp
      have ui : U i = false := by revert h1; cases U i <;> simp
      have e1 := cnt_split (k := k) S U
      have e2 := cnt_split (k := k) U S
      have e3 : cnt k (fun i => S i && U i) = cnt k (fun i => U i && S i) := cnt_congr fun i _ => Bool.and_comm _ _
      obtain ⟨j, hj, h2⟩ := cnt_pos_ex (k := k) (S := fun i => U i && !S i) (by unfold diff at z; omega)
      have uj : U j = true := by revert h2; cases U j <;> simp
      have sj : S j = false := by revert h2; cases S j <;> simp
      have gi : G T i = true := by
        cases g : G T i with
        | true => rfl
        | false => rw [hf i hi g, si] at ui; cases ui
      have gj : G T j = true := by
        cases g : G T j with
        | true => rfl
        | false => rw [hf j hj g, sj] at uj; cases uj
      have ij : i ≠ j := fun e => by rw [e, sj] at si; cases si
      have s1 : Step k G S (flip S j) := .up hj sj (by rw [cs]; exact gj)
      have c1 : cnt k (flip S j) = T + 1 := by rw [cnt_flip_up hj sj, cs]
      have s2 : Step k G (flip S j) (flip (flip S j) i) := .dn hi (by rw [flip_ne _ ij]; exact si) (by rw [c1, Nat.add_sub_cancel]; exact gi)
      have c2 := cnt_flip_dn (k := k) (S := flip S j) hi (by rw [flip_ne _ ij]; exact si)
      refine ((Reach.one s1).trans (Reach.one s2)).trans (ih _ U ?_ (by omega) cu (fun l hl g => ?_) (fun l hl => ?_))
      · have e : (fun l => flip (flip S j) i l && !U l) = flip (fun l => S l && !U l) i := by
          funext l
          by_cases li : l = i
          · subst li
            rw [flip_self, flip_self, flip_ne _ ij, si, ui]
            rfl
          · rw [flip_ne _ li, flip_ne _ li]
            by_cases lj : l = j
            · subst lj
              rw [flip_self, sj, uj]
              rfl
            · rw [flip_ne _ lj]
        unfold diff
        rw [e]
        have := cnt_flip_dn (k := k) (S := fun l => S l && !U l) hi h1
        unfold diff at hd
        omega
      · have li : l ≠ i := fun e => by rw [e, gi] at g; cases g
        have lj : l ≠ j := fun e => by rw [e, gj] at g; cases g
        rw [flip_ne _ li, flip_ne _ lj]
        exact hf l hl g
      · rw [flip_ne _ (show l ≠ i by omega), flip_ne _ (show l ≠ j by omega)]
        exact ho l hl
/-! ### which lot a standing is in -/
/-- from below it gets to the top's number -/
def Rises (k : Nat) (G : Nat → Nat → Bool) (T : Nat) (S : Nat → Bool) : Prop := cnt k S ≤ T ∧ ∀ n, cnt k S ≤ n → n < T → n < cnt k (fun i => S i || G n i)
/-- from above -/
def Sinks (k : Nat) (G : Nat → Nat → Bool) (T : Nat) (S : Nat → Bool) : Prop := T < cnt k S ∧ ∀ s, T ≤ s → s < cnt k S → cnt k (fun i => S i && !G s i) ≤ s
theorem Rises.to {T : Nat} (t : Top k G T) (h : Rises k G T S) : ∃ U, Reach k G S U ∧ cnt k U = T := by
  obtain ⟨U, r, c, _⟩ := fill t.up T (by omega) h.1 h.2
  exact ⟨U, r, c⟩
theorem co_or (S : Nat → Bool) (f : Nat → Bool) : (fun i => co S i || f i) = co (fun i => S i && !f i) := by
  funext i
  show (!S i || f i) = !(S i && !f i)
  cases S i <;> cases f i <;> rfl
theorem Sinks.to {T : Nat} (t : Top k G T) (h : Sinks k G T S) : ∃ U, Reach k G S U ∧ cnt k U = T := by
  have tl := t.lt
  have c0 := cnt_co k S
  have cle := cnt_le k S
  obtain ⟨h1, h2⟩ := h
  obtain ⟨U, r, c, _⟩ := fill (k := k) (G := Th.dual k G) (S := co S) t.dual.up (k - 1 - T + 1) (by omega) (by omega) fun n a b => by
    have e : (fun i => co S i || Th.dual k G n i) = co (fun i => S i && !G (k - 1 - n) i) := co_or S _
    rw [e]
    have q := h2 (k - 1 - n) (by omega) (by omega)
    have c1 := cnt_co k (fun i => S i && !G (k - 1 - n) i)
    omega
  refine ⟨co U, ?_, ?_⟩
  · refine Reach.codual ?_
    rw [co_co]
    exact r
  · have := cnt_co k U
    omega
/-- two that get to the top's number and have the same fast ones here come to one another -/
theorem open_reach {T : Nat} (t : Top k G T) (hS : Rises k G T S ∨ Sinks k G T S) (hU : Rises k G T U ∨ Sinks k G T U) (hf : ∀ i, i < k → G T i = false → U i = S i) (ho : ∀ i, ¬ i < k → U i = S i) : Reach k G S U := by
  obtain ⟨S', rS, cS⟩ := hS.elim (fun h => h.to t) (fun h => h.to t)
  obtain ⟨U', rU, cU⟩ := hU.elim (fun h => h.to t) (fun h => h.to t)
  refine rS.trans (Reach.trans ?_ rU.symm)
  refine swap t _ S' U' (Nat.le_refl _) cS cU (fun i hi g => ?_) (fun i hi => ?_)
  · rw [fast_inv t rS i hi g, fast_inv t rU i hi g, hf i hi g]
  · rw [reach_out rS i hi, reach_out rU i hi, ho i hi]
/-- the first number at which filling is stuck -/
def StuckLow (k : Nat) (G : Nat → Nat → Bool) (N : Nat) (S : Nat → Bool) : Prop := cnt k S ≤ N ∧ (∀ n, cnt k S ≤ n → n < N → n < cnt k (fun i => S i || G n i)) ∧ cnt k (fun i => S i || G N i) ≤ N
theorem StuckLow.full {N : Nat} (h : StuckLow k G N S) {T : Nat} (t : Top k G T) (hN : N ≤ T) : ∃ U, Reach k G S U ∧ cnt k U = N ∧ ∀ i, i < k → U i = (S i || G N i) := stuck t.up hN h.1 h.2.1 h.2.2
theorem StuckLow.cnt_full {N : Nat} (h : StuckLow k G N S) {T : Nat} (t : Top k G T) (hN : N ≤ T) : cnt k (fun i => S i || G N i) = N := by
  obtain ⟨U, _, c, e⟩ := h.full t hN
  exact (cnt_congr e).symm.trans c
/-- nobody leaves the lot under it -/
theorem StuckLow.under {N T : Nat} (h : StuckLow k G N S) (t : Top k G T) (hN : N ≤ T) (r : Reach k G S U) : cnt k U ≤ N ∧ ∀ i, i < k → (U i || G N i) = (S i || G N i) := by
  refine Reach.inv (P := fun W => cnt k W ≤ N ∧ ∀ i, i < k → (W i || G N i) = (S i || G N i)) (low_inv t.up hN (h.cnt_full t hN) fun i _ g => by rw [g, Bool.or_true]) r ⟨h.1, fun _ _ => rfl⟩
/-- all of a lot are stuck alike -/
theorem StuckLow.same {N T : Nat} (h : StuckLow k G N S) (t : Top k G T) (hN : N ≤ T) (r : Reach k G S U) : StuckLow k G N U := by
  obtain ⟨c, e⟩ := h.under t hN r
  have ce : cnt k (fun i => U i || G N i) = N := by
    rw [cnt_congr e]
    exact h.cnt_full t hN
  refine ⟨c, fun n a b => ?_, by omega⟩
  -- stuck earlier it would never get to S's fullest one
  by_cases z : n < cnt k (fun i => U i || G n i)
  · exact z
  · exfalso
    -- the first such number
    have ex : ∃ m, cnt k U ≤ m ∧ m < N ∧ ¬ m < cnt k (fun i => U i || G m i) ∧ ∀ m', cnt k U ≤ m' → m' < m → m' < cnt k (fun i => U i || G m' i) := by
      clear ce e
      induction n using Nat.strongRecOn with
      | _ n ih =>
        by_cases q : ∀ m', cnt k U ≤ m' → m' < n → m' < cnt k (fun i => U i || G m' i)
        · exact ⟨n, a, b, z, q⟩
        · have : ∃ m', cnt k U ≤ m' ∧ m' < n ∧ ¬ m' < cnt k (fun i => U i || G m' i) := by
            refine Classical.byContradiction fun w => q fun m' x y => ?_
            refine Classical.byContradiction fun v => w ⟨m', x, y, v⟩
          obtain ⟨m', x, y, v⟩ := this
          exact ih m' y x (by omega) v
    obtain ⟨m, x, y, v, u⟩ := ex
    have sl : StuckLow k G m U := ⟨x, u, by omega⟩
    obtain ⟨F, rF, cF, _⟩ := h.full t hN
    have := (sl.under t (by omega) (r.symm.trans rF)).1
    omega
theorem StuckLow.iff {N T : Nat} (h : StuckLow k G N S) (t : Top k G T) (hN : N ≤ T) (ho : ∀ i, ¬ i < k → U i = S i) : Reach k G S U ↔ StuckLow k G N U ∧ ∀ i, i < k → (U i || G N i) = (S i || G N i) := by
  constructor
  · intro r
    exact ⟨h.same t hN r, (h.under t hN r).2⟩
  · rintro ⟨hu, e⟩
    obtain ⟨A, rA, _, eA⟩ := h.full t hN
    obtain ⟨B, rB, _, eB⟩ := hu.full t hN
    have : A = B := by
      funext i
      by_cases hi : i < k
      · rw [eA i hi, eB i hi, e i hi]
      · rw [reach_out rA i hi, reach_out rB i hi, ho i hi]
    rw [this] at rA
    exact rA.trans rB.symm
/-- each standing of no more than the top's number is stuck below it, or gets there -/
theorem low_or {T : Nat} (h : cnt k S ≤ T) : (∃ N, N < T ∧ StuckLow k G N S) ∨ Rises k G T S := by
  by_cases q : ∀ n, cnt k S ≤ n → n < T → n < cnt k (fun i => S i || G n i)
  · exact .inr ⟨h, q⟩
  · refine .inl ?_
    have : ∃ m, cnt k S ≤ m ∧ m < T ∧ ¬ m < cnt k (fun i => S i || G m i) := by
      refine Classical.byContradiction fun w => q fun m' x y => ?_
      refine Classical.byContradiction fun v => w ⟨m', x, y, v⟩
    obtain ⟨n, a, b, z⟩ := this
    clear q
    induction n using Nat.strongRecOn with
    | _ n ih =>
      by_cases q : ∀ m', cnt k S ≤ m' → m' < n → m' < cnt k (fun i => S i || G m' i)
      · exact ⟨n, b, a, q, by omega⟩
      · have : ∃ m', cnt k S ≤ m' ∧ m' < n ∧ ¬ m' < cnt k (fun i => S i || G m' i) := by
          refine Classical.byContradiction fun w => q fun m' x y => ?_
          refine Classical.byContradiction fun v => w ⟨m', x, y, v⟩
        obtain ⟨m', x, y, v⟩ := this
        exact ih m' y x (by omega) v
end
end Th
namespace Th
section
variable {k : Nat} {G : Nat → Nat → Bool} {S U W : Nat → Bool}
/-- i may go at U -/
def May (k : Nat) (G : Nat → Nat → Bool) (U : Nat → Bool) (i : Nat) : Prop := G (if U i = true then cnt k U - 1 else cnt k U) i = true
theorem May.step {i : Nat} (hi : i < k) (h : May k G U i) : Step k G U (flip U i) := by
  unfold May at h
  cases e : U i with
  | true => rw [e, if_pos rfl] at h; exact .dn hi e h
  | false => rw [e, if_neg Bool.false_ne_true] at h; exact .up hi e h
/-- ever goes -/
def Moves (k : Nat) (G : Nat → Nat → Bool) (S : Nat → Bool) (i : Nat) : Prop := ∃ U, Reach k G S U ∧ May k G U i
theorem moves_low {N T i : Nat} (h : StuckLow k G N S) (t : Top k G T) (hN : N ≤ T) (hi : i < k) : Moves k G S i ↔ 0 < N ∧ G (N - 1) i = true := by
  constructor
  · rintro ⟨U, r, m⟩
    obtain ⟨c, e⟩ := h.under t hN r
    unfold May at m
    cases u : U i with
    | true =>
      rw [u, if_pos rfl] at m
      have := cnt_pos hi u
      exact ⟨by omega, t.up _ _ _ (by omega) (by omega) m⟩
    | false =>
      rw [u, if_neg Bool.false_ne_true] at m
      by_cases z : cnt k U = N
      · exfalso
        rw [z] at m
        have cf := h.cnt_full t hN
        have hsub : ∀ j, j < k → U j = true → (S j || G N j) = true := fun j hj uj => by rw [← e j hj, uj]; rfl
        have := cnt_eq hsub (by omega) i hi (by rw [m, Bool.or_true])
        rw [u] at this
        cases this
      · exact ⟨by omega, t.up _ _ _ (by omega) (by omega) m⟩
  · rintro ⟨n0, g⟩
    obtain ⟨F, r, c, e⟩ := h.full t hN
    refine ⟨F, r, ?_⟩
    have fi : F i = true := by rw [e i hi, t.up _ _ _ (show N - 1 ≤ N by omega) hN g, Bool.or_true]
    unfold May
    rw [fi, if_pos rfl, c]
    exact g
/-- gets to the top's number, and there's somebody out who may go there -/
theorem moves_open {T i : Nat} (t : Top k G T) (hS : Rises k G T S ∨ Sinks k G T S) (hc : T < cnt k (fun i => S i || G T i)) (hi : i < k) : Moves k G S i ↔ G T i = true := by
  constructor
  · rintro ⟨U, r, m⟩
    unfold May at m
    have := cnt_le k U
    by_cases u : U i = true
    · rw [if_pos u] at m
      have := cnt_pos hi u
      exact t.all (by omega) m
    · rw [if_neg u] at m
      have u' : U i = false := by simpa using u
      have c := cnt_le k (flip U i)
      rw [cnt_flip_up hi u'] at c
      exact t.all (by omega) m
  · intro g
    obtain ⟨U, r, c⟩ := hS.elim (fun h => h.to t) (fun h => h.to t)
    by_cases u : U i = true
    · -- somebody j is out: exchange them
      have hf := fast_inv t r
      have ce : cnt k (fun i => U i || G T i) = cnt k (fun i => S i || G T i) := cnt_congr fun j hj => by
        cases q : G T j with
        | true => rw [Bool.or_true, Bool.or_true]
        | false => rw [Bool.or_false, Bool.or_false, hf j hj q]
      obtain ⟨j, hj, h1, h2⟩ := cnt_ex (k := k) (S := U) (U := fun i => U i || G T i) (by omega)
      have gj : G T j = true := by rw [h2] at h1; exact h1
      have ij : i ≠ j := fun e => by rw [e, h2] at u; cases u
      have s1 : Step k G U (flip U j) := .up hj h2 (by rw [c]; exact gj)
      have c1 : cnt k (flip U j) = T + 1 := by rw [cnt_flip_up hj h2, c]
      refine ⟨flip U j, r.step s1, ?_⟩
      unfold May
      rw [flip_ne _ ij, u, if_pos rfl, c1, Nat.add_sub_cancel]
      exact g
    · refine ⟨U, r, ?_⟩
      unfold May
      rw [if_neg u, c]
      exact g
/-- stuck at some number up to N, or not before it -/
theorem stuck_or (N : Nat) : (∃ n, n < N ∧ StuckLow k G n S) ∨ ∀ n, cnt k S ≤ n → n < N → n < cnt k (fun i => S i || G n i) := by
  by_cases h : cnt k S ≤ N
  · rcases low_or (k := k) (G := G) (S := S) h with ⟨n, a, b⟩ | r
    · exact .inl ⟨n, a, b⟩
    · exact .inr r.2
  · exact .inr fun n a b => by omega
/-- the three sorts of lots -/
theorem sorts {T : Nat} (t : Top k G T) : (∃ N, N ≤ T ∧ StuckLow k G N S) ∨ (∃ N, N ≤ k - 1 - T ∧ StuckLow k (Th.dual k G) N (co S)) ∨ ((Rises k G T S ∨ Sinks k G T S) ∧ T < cnt k (fun i => S i || G T i)) := by
  have tl := t.lt
  by_cases h : cnt k S ≤ T
  · rcases stuck_or (k := k) (G := G) (S := S) (T + 1) with ⟨N, a, b⟩ | r
    · exact .inl ⟨N, by omega, b⟩
    · exact .inr (.inr ⟨.inl ⟨h, fun n a b => r n a (by omega)⟩, r T h (by omega)⟩)
  · have c0 := cnt_co k S
    rcases stuck_or (k := k) (G := Th.dual k G) (S := co S) (k - 1 - T + 1) with ⟨N, a, b⟩ | r
    · exact .inr (.inl ⟨N, by omega, b⟩)
    · refine .inr (.inr ⟨.inr ⟨by omega, fun s a b => ?_⟩, ?_⟩)
      · have cle := cnt_le k S
        have q := r (k - 1 - s) (by omega) (by omega)
        have e : (fun i => co S i || Th.dual k G (k - 1 - s) i) = co (fun i => S i && !G s i) := by
          rw [co_or]
          funext i
          show (!(S i && !Th.dual k G (k - 1 - s) i)) = !(S i && !G s i)
          have := dual_dual_at (G := G) (k := k) (s := s) (by omega) i
          unfold Th.dual at this ⊢
          rw [this]
        rw [e] at q
        have c1 := cnt_co k (fun i => S i && !G s i)
        omega
      · have := cnt_mono (k := k) (S := S) (U := fun i => S i || G T i) fun i _ hs => by show (S i || G T i) = true; rw [hs]; rfl
        omega
theorem may_co {i : Nat} (hi : i < k) : May k (Th.dual k G) (co U) i ↔ May k G U i := by
  have c0 := cnt_co k U
  have cl := cnt_le k U
  unfold May Th.dual
  cases u : U i with
  | true =>
    have := cnt_pos hi u
    have e : co U i = false := by unfold co; rw [u]; rfl
    rw [e, if_neg Bool.false_ne_true, if_pos rfl, show k - 1 - cnt k (co U) = cnt k U - 1 by omega]
  | false =>
    have e : co U i = true := by unfold co; rw [u]; rfl
    have := cnt_pos (S := co U) hi e
    rw [e, if_pos rfl, if_neg Bool.false_ne_true, show k - 1 - (cnt k (co U) - 1) = cnt k U by omega]
theorem moves_co {i : Nat} (hi : i < k) : Moves k (Th.dual k G) (co S) i ↔ Moves k G S i := by
  constructor
  · rintro ⟨U, r, m⟩
    refine ⟨co U, ?_, ?_⟩
    · refine Reach.codual ?_
      rw [co_co]
      exact r
    · rw [← may_co hi, co_co]
      exact m
  · rintro ⟨U, r, m⟩
    exact ⟨co U, r.dual, (may_co hi).mpr m⟩
/-- stuck from above at N (of the turned sea): who moves -/
theorem moves_high {N T i : Nat} (h : StuckLow k (Th.dual k G) N (co S)) (t : Top k G T) (hN : N ≤ k - 1 - T) (hi : i < k) : Moves k G S i ↔ 0 < N ∧ G (k - N) i = true := by
  have tl := t.lt
  rw [← moves_co hi, moves_low h t.dual hN hi]
  constructor
  · rintro ⟨a, b⟩
    refine ⟨a, ?_⟩
    unfold Th.dual at b
    rw [show k - N = k - 1 - (N - 1) by omega]
    exact b
  · rintro ⟨a, b⟩
    refine ⟨a, ?_⟩
    unfold Th.dual
    rw [show k - 1 - (N - 1) = k - N by omega]
    exact b
end
end Th
namespace Th
section
variable {k : Nat} {G : Nat → Nat → Bool} {S U W : Nat → Bool}
def Sub (k : Nat) (A B : Nat → Bool) : Prop := ∀ i, i < k → A i = true → B i = true
/-- so many of Z, such that each set of a nested family is among them or they among it -/
theorem chain (F : Nat → Nat → Bool) (P : Nat → Prop) (nest : ∀ s s', P s → P s' → Sub k (F s) (F s') ∨ Sub k (F s') (F s)) (Z : Nat → Bool) (inZ : ∀ s, P s → Sub k (F s) Z) :
    ∀ m, m ≤ cnt k Z → ∃ A : Nat → Bool, Sub k A Z ∧ cnt k A = m ∧ (∀ i, ¬ i < k → A i = false) ∧ ∀ s, P s → Sub k A (F s) ∨ Sub k (F s) A := by
  intro m
  induction m with
  | zero =>
    intro _
    have e : ∀ n, cnt n (fun _ => false) = 0 := fun n => by
      induction n with
      | zero => rfl
      | succ n ih => rw [cnt_succ, ih]; rfl
    exact ⟨fun _ => false, (fun _ _ h => by cases h), e k, (fun _ _ => rfl), fun s _ => .inl (fun _ _ h => by cases h)⟩
  | succ m ih =>
    intro hm
    obtain ⟨A, a1, a2, a3, a4⟩ := ih (by omega)
    -- a smallest set of the family that isn't among them, or Z
    have pick : ∃ i, i < k ∧ A i = false ∧ Z i = true ∧ ∀ s, P s → ¬ Sub k (F s) A → F s i = true := by
      -- by how many members
      have go : ∀ n, (∃ s, P s ∧ ¬ Sub k (F s) A ∧ cnt k (F s) ≤ n) → ∃ i, i < k ∧ A i = false ∧ Z i = true ∧ ∀ s, P s → ¬ Sub k (F s) A → F s i = true := by
        intro n
        induction n using Nat.strongRecOn with
        | _ n ih2 =>
          rintro ⟨s, ps, hs, hn⟩
          by_cases q : ∃ s', P s' ∧ ¬ Sub k (F s') A ∧ cnt k (F s') < cnt k (F s)
          · obtain ⟨s', ps', hs', hlt⟩ := q
            exact ih2 (cnt k (F s')) (by omega) ⟨s', ps', hs', Nat.le_refl _⟩
          · have : ∃ i, i < k ∧ F s i = true ∧ A i = false := by
              refine Classical.byContradiction fun w => hs fun i hi f => ?_
              cases e : A i with
              | true => rfl
              | false => exact absurd ⟨i, hi, f, e⟩ w
            obtain ⟨i, hi, f, e⟩ := this
            refine ⟨i, hi, e, inZ s ps i hi f, fun s' ps' hs' => ?_⟩
            rcases nest s s' ps ps' with w | w
            · exact w i hi f
            · have hge : cnt k (F s) ≤ cnt k (F s') := by
                refine Classical.byContradiction fun v => q ⟨s', ps', hs', by omega⟩
              exact cnt_eq w hge i hi f
      by_cases q : ∃ s, P s ∧ ¬ Sub k (F s) A
      · obtain ⟨s, ps, hs⟩ := q
        exact go _ ⟨s, ps, hs, Nat.le_refl _⟩
      · obtain ⟨i, hi, z, e⟩ := cnt_ex (k := k) (S := A) (U := Z) (by omega)
        exact ⟨i, hi, e, z, fun s ps hs => absurd ⟨s, ps, hs⟩ q⟩
    obtain ⟨i, hi, e, z, hp⟩ := pick
    refine ⟨flip A i, fun j hj h => ?_, by rw [cnt_flip_up hi e, a2], fun j hj => ?_, fun s ps => ?_⟩
    · by_cases q : j = i
      · rw [q]; exact z
      · rw [flip_ne _ q] at h
        exact a1 j hj h
    · rw [flip_ne _ (show j ≠ i by omega)]
      exact a3 j hj
    · by_cases q : Sub k (F s) A
      · refine .inr fun j hj h => ?_
        by_cases w : j = i
        · subst w
          have := q j hj h
          rw [e] at this
          cases this
        · rw [flip_ne _ w]
          exact q j hj h
      · rcases a4 s ps with w | w
        · refine .inl fun j hj h => ?_
          by_cases v : j = i
          · rw [v]; exact hp s ps q
          · rw [flip_ne _ v] at h
            exact w j hj h
        · exact absurd w q
theorem cnt_diff {A B : Nat → Bool} (h : Sub k B A) : cnt k (fun i => A i && !B i) + cnt k B = cnt k A := by
  have e := cnt_split (k := k) A B
  have e2 : cnt k (fun i => A i && B i) = cnt k B := cnt_congr fun i hi => by
    cases b : B i with
    | true => rw [h i hi b]; rfl
    | false => rw [Bool.and_false]
  omega
theorem cnt_none {A : Nat → Bool} (h : ∀ i, i < k → A i = false) : cnt k A = 0 := by
  have := cnt_congr (k := k) (S := A) (U := fun _ => false) h
  have e : ∀ n, cnt n (fun _ => false) = 0 := fun n => by
    induction n with
    | zero => rfl
    | succ n ih => rw [cnt_succ, ih]; rfl
  rw [this, e]
/-- how few can come to lie here, of a lot that is stuck at N -/
theorem low_counts {N T n : Nat} (h : StuckLow k G N S) (t : Top k G T) (hN : N ≤ T) (hn : n ≤ N) : (∃ U, Reach k G S U ∧ cnt k U = n) ↔ ∀ m, m < N → m + 1 ≤ n + cnt k (G m) := by
  constructor
  · rintro ⟨U, r, c⟩ m hm
    by_cases z : n ≤ m
    · have q := (h.same t hN r).2.1 m (by omega) hm
      have e := cnt_or_not (k := k) U (G m)
      have e2 := cnt_mono (k := k) (S := fun i => G m i && !U i) (U := G m) fun i _ hh => by revert hh; cases G m i <;> simp
      omega
    · omega
  · intro hc
    have cf := h.cnt_full t hN
    -- the goers at N, so many of them out: the shallowest ones
    have cR : cnt k (fun i => S i && !G N i) + cnt k (G N) = N := by
      have e := cnt_or_not (k := k) (G N) S
      have e1 : (fun i => G N i || S i) = (fun i => S i || G N i) := funext fun i => Bool.or_comm _ _
      rw [e1] at e
      omega
    have hle : N - n ≤ cnt k (G N) := by
      by_cases z : N = 0
      · omega
      · have q := hc (N - 1) (by omega)
        have := cnt_mono (k := k) (S := G (N - 1)) (U := G N) fun i _ g => t.up _ _ _ (by omega) hN g
        omega
    obtain ⟨A, a1, a2, a3, a4⟩ := chain (k := k) G (fun m => m ≤ N) (fun s s' hs hs' => by
      by_cases z : s ≤ s'
      · exact .inl fun i _ g => t.up _ _ _ z (by omega) g
      · exact .inr fun i _ g => t.up _ _ _ (by omega) (by omega) g) (G N) (fun s hs i _ g => t.up _ _ _ hs hN g) (N - n) hle
    -- all others of the fullest one
    have hout : ∀ i, ¬ i < k → (fun i => if i < k then (S i || G N i) && !A i else S i) i = S i := fun i hi => by show (if i < k then (S i || G N i) && !A i else S i) = S i; rw [if_neg hi]
    have hin : ∀ i, i < k → (fun i => if i < k then (S i || G N i) && !A i else S i) i = ((S i || G N i) && !A i) := fun i hi => by show (if i < k then (S i || G N i) && !A i else S i) = _; rw [if_pos hi]
    have subA : Sub k A (fun i => S i || G N i) := fun i hi q => by show (S i || G N i) = true; rw [a1 i hi q, Bool.or_true]
    have cU : cnt k (fun i => if i < k then (S i || G N i) && !A i else S i) = n := by
      rw [cnt_congr hin]
      have := cnt_diff subA
      omega
    have or_eq : ∀ i, i < k → ((fun i => if i < k then (S i || G N i) && !A i else S i) i || G N i) = (S i || G N i) := fun i hi => by
      rw [hin i hi]
      cases q : A i with
      | true =>
        have := a1 i hi q
        rw [this, Bool.or_true, Bool.or_true]
      | false => cases S i <;> cases G N i <;> rfl
    have sl : StuckLow k G N (fun i => if i < k then (S i || G N i) && !A i else S i) := by
      refine ⟨by omega, fun m x y => ?_, ?_⟩
      · have q := hc m y
        -- all of the fullest one but those of A that aren't goers at m
        have e1 : cnt k (fun i => (fun i => if i < k then (S i || G N i) && !A i else S i) i || G m i) = cnt k (fun i => (S i || G N i) && !(A i && !G m i)) := cnt_congr fun i hi => by
          rw [hin i hi]
          cases g : G m i with
          | true =>
            rw [t.up _ _ _ (show m ≤ N by omega) hN g]
            cases S i <;> cases A i <;> rfl
          | false => cases S i <;> cases G N i <;> cases A i <;> rfl
        have sub2 : Sub k (fun i => A i && !G m i) (fun i => S i || G N i) := fun i hi w => subA i hi (by have w' : (A i && !G m i) = true := w; revert w'; cases A i <;> simp)
        have e2 := cnt_diff sub2
        rw [e1]
        rcases a4 m (by omega) with w | w
        · have e3 : cnt k (fun i => A i && !G m i) = 0 := cnt_none fun i hi => by
            cases q : A i with
            | false => rfl
            | true => rw [w i hi q]; rfl
          omega
        · have e3 := cnt_diff w
          omega
      · rw [cnt_congr or_eq]
        omega
    exact ⟨_, (h.iff t hN hout).mpr ⟨sl, or_eq⟩, cU⟩
/-- how many can come to lie here, of a lot that gets to the top's number -/
theorem open_counts {T n : Nat} (t : Top k G T) (hS : Rises k G T S ∨ Sinks k G T S) (hn : T ≤ n) : (∃ U, Reach k G S U ∧ cnt k U = n) ↔ n ≤ cnt k (fun i => S i || G T i) ∧ ∀ s, T ≤ s → s < k → n ≤ s + cnt k (G s) := by
  obtain ⟨V, rV, cV⟩ := hS.elim (fun h => h.to t) (fun h => h.to t)
  have tl := t.lt
  constructor
  · rintro ⟨U, r, c⟩
    have sub : Sub k U (fun i => S i || G T i) := fun i hi u => by
      cases g : G T i with
      | true => show (S i || G T i) = true; rw [g, Bool.or_true]
      | false =>
        rw [fast_inv t r i hi g] at u
        show (S i || G T i) = true
        rw [u]; rfl
    refine ⟨by rw [← c]; exact cnt_mono sub, fun s hs hk => ?_⟩
    by_cases z : n ≤ s
    · omega
    · -- U isn't stuck from above
      have c0 := cnt_co k U
      have cle := cnt_le k U
      rcases stuck_or (k := k) (G := Th.dual k G) (S := co U) (k - 1 - T + 1) with ⟨N, a, b⟩ | q
      · exfalso
        have hr := (rV.symm.trans r).symm.dual
        have := (b.under t.dual (by omega) hr).1
        have c1 := cnt_co k V
        omega
      · have q2 := q (k - 1 - s) (by omega) (by omega)
        have e : (fun i => co U i || Th.dual k G (k - 1 - s) i) = co (fun i => U i && !G s i) := by
          rw [co_or]
          funext i
          show (!(U i && !Th.dual k G (k - 1 - s) i)) = !(U i && !G s i)
          have := dual_dual_at (G := G) (k := k) (s := s) hk i
          unfold Th.dual at this ⊢
          rw [this]
        rw [e] at q2
        have c1 := cnt_co k (fun i => U i && !G s i)
        have c2 := cnt_split (k := k) U (G s)
        have c3 := cnt_mono (k := k) (S := fun i => U i && G s i) (U := G s) fun i _ h => by revert h; cases U i <;> simp
        omega
  · rintro ⟨h1, h2⟩
    have cR : cnt k (fun i => S i && !G T i) + cnt k (G T) = cnt k (fun i => S i || G T i) := by
      have e := cnt_or_not (k := k) (G T) S
      have e1 : (fun i => G T i || S i) = (fun i => S i || G T i) := funext fun i => Bool.or_comm _ _
      rw [e1] at e
      omega
    have rT : cnt k (fun i => S i && !G T i) ≤ T := by
      refine Nat.le_trans (cnt_mono (U := V) fun i hi q => ?_) (Nat.le_of_eq cV)
      have q' : (S i && !G T i) = true := q
      have g : G T i = false := by revert q'; cases G T i <;> cases S i <;> simp
      have s : S i = true := by revert q'; cases G T i <;> cases S i <;> simp
      rw [fast_inv t rV i hi g]
      exact s
    obtain ⟨A, a1, a2, a3, a4⟩ := chain (k := k) G (fun s => T ≤ s ∧ s < k) (fun s s' hs hs' => by
      by_cases z : s ≤ s'
      · exact .inr fun i _ g => t.dn _ _ _ hs.1 z hs'.2 g
      · exact .inl fun i _ g => t.dn _ _ _ hs'.1 (by omega) hs.2 g) (G T) (fun s hs i _ g => t.dn _ _ _ (Nat.le_refl _) hs.1 hs.2 g) (n - cnt k (fun i => S i && !G T i)) (by omega)
    have hout : ∀ i, ¬ i < k → (fun i => if i < k then (S i && !G T i) || A i else S i) i = S i := fun i hi => by show (if i < k then (S i && !G T i) || A i else S i) = S i; rw [if_neg hi]
    have hin : ∀ i, i < k → (fun i => if i < k then (S i && !G T i) || A i else S i) i = ((S i && !G T i) || A i) := fun i hi => by show (if i < k then (S i && !G T i) || A i else S i) = _; rw [if_pos hi]
    have cU : cnt k (fun i => if i < k then (S i && !G T i) || A i else S i) = n := by
      rw [cnt_congr hin, cnt_or_not]
      have : cnt k (fun i => A i && !(S i && !G T i)) = cnt k A := cnt_congr fun i hi => by
        cases q : A i with
        | false => rfl
        | true => rw [a1 i hi q]; cases S i <;> rfl
      omega
    refine ⟨_, open_reach t hS ?_ (fun i hi g => ?_) hout, cU⟩
    · by_cases z : n = T
      · exact .inl ⟨by omega, fun m x y => by omega⟩
      · refine .inr ⟨by omega, fun s x y => ?_⟩
        rw [cU] at y
        have sk : s < k := by
          have := cnt_le k (fun i => if i < k then (S i && !G T i) || A i else S i)
          omega
        have q := h2 s x sk
        have e1 : cnt k (fun i => (fun i => if i < k then (S i && !G T i) || A i else S i) i && !G s i) ≤ cnt k (fun i => S i && !G T i) + cnt k (fun i => A i && !G s i) := by
          have e : cnt k (fun i => (fun i => if i < k then (S i && !G T i) || A i else S i) i && !G s i) ≤ cnt k (fun i => (S i && !G T i) || (A i && !G s i)) := cnt_mono fun i hi w => by
            rw [hin i hi] at w
            show ((S i && !G T i) || (A i && !G s i)) = true
            revert w
            cases S i <;> cases G T i <;> cases A i <;> cases G s i <;> simp
          have e2 := cnt_or_not (k := k) (fun i => S i && !G T i) (fun i => A i && !G s i)
          have e3 := cnt_mono (k := k) (S := fun i => (A i && !G s i) && !(S i && !G T i)) (U := fun i => A i && !G s i) fun i _ w => by revert w; cases (A i && !G s i) <;> simp
          omega
        rcases a4 s ⟨x, sk⟩ with w | w
        · have e3 : cnt k (fun i => A i && !G s i) = 0 := cnt_none fun i hi => by
            cases q : A i with
            | false => rfl
            | true => rw [w i hi q]; rfl
          omega
        · have e3 := cnt_diff w
          omega
    · show (if i < k then S i && !G T i || A i else S i) = S i
      rw [if_pos hi, g]
      cases q : A i with
      | true => rw [a1 i hi q] at g; cases g
      | false => cases S i <;> rfl
end
end Th

namespace Sh
open PySem PySem.Spec PyProof.Rows L2
def spRight : Sp := fun vs H Q _ => ∃ b : Addr, vs = [.ref b] ∧ BoxAt H b 100000 ∧ ∀ H', But b H H' → Q (.bl true) H'
end Sh

namespace Sh
open PySem PySem.Spec PyProof.Rows L2
theorem lv_ni {n : Nat} (L : List Nat) (h : L.length ≤ 100000) : Lv (n + 2) (.list ((L.map fun (i : Nat) => (i : Int)).map .int)) := lv_ints _ (by rw [List.length_map]; exact h)
theorem lv_two {n : Nat} {a b : PyData} (ha : Lv n a) (hb : Lv n b) : Lv (n + 1) (.list [a, b]) := ⟨by show 2 ≤ 100000; decide, fun e he => by
  rcases List.mem_cons.mp he with z | z
  · rw [z]; exact ha
  · rw [List.mem_singleton.mp z]; exact hb⟩
end Sh

namespace Sh
open PySem PySem.Spec PyProof.Rows L2
/-! ### windows, goers, seas beside the box -/
theorem may_mk {h t : Int} {ds : List Int} {L : List Nat} {i : Nat} : mayB h t ds L i = decide (ds.getD i 0 ≤ mk h t ds.length (near L i : Int)) := by
  unfold mayB mk
  rw [Bool.eq_iff_iff, Bool.and_eq_true, decide_eq_true_eq, decide_eq_true_eq, decide_eq_true_eq]
  constructor
  · rintro ⟨a, b⟩
    split <;> omega
  · intro a
    split at a <;> omega
theorem in_lets {h t : Int} {ds : List Int} {L : List Nat} {i : Nat} (hi : i < ds.length) : inV (.int (i : Int)) (ni (lets h t ds L ds.length)) = mayB h t ds L i := by
  rw [in_ni, Bool.eq_iff_iff, decide_eq_true_eq]
  unfold lets
  rw [List.mem_filter, List.mem_range]
  exact ⟨fun q => q.2, fun q => ⟨hi, q⟩⟩
theorem in_gs {m : Int} {ds : List Int} {i : Nat} (hi : i < ds.length) : inV (.int (i : Int)) (((gs m ds ds.length).map fun (i : Nat) => (i : Int)).map V.int) = decide (ds.getD i 0 ≤ m) := by
  rw [← ni_ints, in_ni, Bool.eq_iff_iff, decide_eq_true_eq, decide_eq_true_eq]
  unfold gs
  rw [List.mem_filter, List.mem_range, decide_eq_true_eq]
  exact ⟨fun q => q.2, fun q => ⟨hi, q⟩⟩
/-- a sea that is none of the box -/
def SeaB (K : PySem.W.Frag) (H : Hp) (b : Addr) (v : V) (h t : Int) (ds : List Int) : Prop := ∃ p q, v = .ref p ∧ SqA K H p [.int h, .int t, .ref q] ∧ SqA K H q (ds.map V.int) ∧ p ≠ b ∧ q ≠ b
theorem SeaB.but {K : PySem.W.Frag} {H H' : Hp} {b : Addr} {v : V} {h t : Int} {ds : List Int} (s : SeaB K H b v h t ds) (u : But b H H') : SeaB K H' b v h t ds := let ⟨p, q, e, hp, hq, pb, qb⟩ := s; ⟨p, q, e, (Kp.ofB u pb).sa hp, (Kp.ofB u qb).sa hq, pb, qb⟩
theorem SeaB.a {K : PySem.W.Frag} {H : Hp} {b : Addr} {v : V} {h t : Int} {ds : List Int} (s : SeaB K H b v h t ds) : SeaA K H v h t ds := let ⟨p, q, e, hp, hq, _, _⟩ := s; ⟨p, q, e, hp, hq⟩
/-- a window as it is told: None, or a new pair -/
def WinAt (H H' : Hp) (sp : V) (lo hi : Int) : Prop := (lo > hi ∧ sp = .non) ∨ (¬ lo > hi ∧ ∃ a, sp = .ref a ∧ H a = none ∧ H' a = some (.tup [.int lo, .int hi]))
def spWin (K : PySem.W.Frag) : Sp := fun vs H Q _ => ∃ (v : V) (h t d : Int) (j : Nat) (ds : List Int), vs = [v, .int (j : Int)] ∧ SeaA K H v h t ds ∧ ds[j]? = some d ∧ ∀ (sp : V) (H' : Hp), Same H H' → WinAt H H' sp (lowI h d) (highI t ds.length d) → Q sp H'
theorem win_imp {K : PySem.W.Frag} (vs : List V) (H : Hp) (Q : VK) (E : XK) (z : spWin K vs H Q E) : spWindow K vs H Q E := by
  obtain ⟨v, h, t, d, j, ds, rfl, hv, hj, q⟩ := z
  exact ⟨v, h, t, d, j, ds, rfl, hv, hj, fun c => q .non H (Same.refl _) (.inl ⟨c, rfl⟩), fun c p np => q (.ref p) _ (same_new np) (.inr ⟨c, p, rfl, np, upd_same⟩)⟩
end Sh

namespace Sh
open PySem PySem.Spec PyProof.Rows L2
/-! ### lots as sets, crossings of lots -/
def mem (L : List Nat) : Nat → Bool := fun i => decide (i ∈ L)
theorem cnt_mem {c : Nat} {L : List Nat} (h : Lot c L) : Th.cnt c (mem L) = L.length := by
  unfold Th.cnt mem
  rw [List.countP_eq_length_filter]
  exact congrArg List.length h.mem_eq.symm
theorem mem_out {c : Nat} {L : List Nat} (h : Lot c L) {i : Nat} (hi : ¬ i < c) : mem L i = false := decide_eq_false fun z => hi (h.lt i z)
theorem lot_ext {c : Nat} {L M : List Nat} (h : Lot c L) (h' : Lot c M) (e : ∀ i, i < c → mem L i = mem M i) : L = M := by
  rw [h.mem_eq, h'.mem_eq]
  exact List.filter_congr fun i hi => e i (List.mem_range.mp hi)
/-- who goes at a step -/
def Gof (h t : Int) (ds : List Int) : Nat → Nat → Bool := fun s i => decide (ds.getD i 0 ≤ mk h t ds.length (s : Int))
theorem near_cnt {c : Nat} {L : List Nat} (h : Lot c L) {i : Nat} (hi : i < c) : near L i = if i ∈ L then L.length - 1 else L.length := by
  by_cases z : i ∈ L
  · rw [if_pos z, near_in h]
    have e := filter_filter_len (fun j => decide (j ∈ L)) (fun j => decide (j = i)) (List.range c)
    have e1 : ((List.range c).filter fun j => decide (j ∈ L)).length = L.length := congrArg List.length h.mem_eq.symm
    have e2 : ((List.range c).filter fun j => decide (j ∈ L) && decide (j = i)).length = 1 := by
      rw [← one_of hi]
      congr 1
      refine List.filter_congr fun a _ => ?_
      by_cases q : a = i
      · subst q
        rw [decide_eq_true z]
        rfl
      · rw [decide_eq_false q, Bool.and_false]
    omega
  · rw [if_neg z]
    exact near_out z
theorem may_G {h t : Int} {ds : List Int} {L : List Nat} {i : Nat} : mayB h t ds L i = Gof h t ds (near L i) i := may_mk
/-- the standing behind i's going over -/
def gone (L : List Nat) (i : Nat) : List Nat := if i ∈ L then L.filter (fun j => !decide (j = i)) else L.filter (fun j => decide (j < i)) ++ i :: L.filter (fun j => decide (i < j))
theorem gone_lot {c : Nat} {L : List Nat} (h : Lot c L) {i : Nat} (hi : i < c) : Lot c (gone L i) := by
  unfold gone
  split
  · exact h.filter _
  · refine ⟨List.pairwise_append.mpr ⟨h.up.filter _, List.pairwise_cons.mpr ⟨fun a ha => ?_, h.up.filter _⟩, fun a ha b hb => ?_⟩, fun a ha => ?_⟩
    · simpa using (List.mem_filter.mp ha).2
    · have h1 : a < i := by simpa using (List.mem_filter.mp ha).2
      rcases List.mem_cons.mp hb with q | q
      · omega
      · have : i < b := by simpa using (List.mem_filter.mp q).2
        omega
    · rcases List.mem_append.mp ha with q | q
      · exact h.lt a (List.mem_filter.mp q).1
      · rcases List.mem_cons.mp q with q | q
        · omega
        · exact h.lt a (List.mem_filter.mp q).1
theorem gone_mem {L : List Nat} {i : Nat} : mem (gone L i) = Th.flip (mem L) i := by
  funext j
  unfold mem gone
  by_cases z : i ∈ L
  · rw [if_pos z]
    by_cases e : j = i
    · subst e
      rw [Th.flip_self]
      simp [z]
    · rw [Th.flip_ne _ e]
      simp [e]
  · rw [if_neg z]
    by_cases e : j = i
    · subst e
      rw [Th.flip_self]
      simp [z]
    · rw [Th.flip_ne _ e]
      by_cases q : j < i
      · simp [e, q]
        omega
      · have : i < j := by omega
        simp [e, q, this]
/-- one comes to the other -/
def Rl (h t : Int) (ds : List Int) (L M : List Nat) : Prop := Th.Reach ds.length (Gof h t ds) (mem L) (mem M)
theorem rl_one {h t : Int} {ds : List Int} {L : List Nat} {i : Nat} (hL : Lot ds.length L) (hi : i < ds.length) (m : mayB h t ds L i = true) : Rl h t ds L (gone L i) := by
  unfold Rl
  rw [gone_mem]
  rw [may_G, near_cnt hL hi] at m
  refine .one ?_
  by_cases z : i ∈ L
  · rw [if_pos z] at m
    exact .dn hi (decide_eq_true z) (by rw [cnt_mem hL]; exact m)
  · rw [if_neg z] at m
    exact .up hi (decide_eq_false z) (by rw [cnt_mem hL]; exact m)
/-- behind its going over it may go back -/
theorem may_back {h t : Int} {ds : List Int} {L : List Nat} {i : Nat} (hL : Lot ds.length L) (hi : i < ds.length) : near (gone L i) i = near L i := by
  rw [near_cnt (gone_lot hL hi) hi, near_cnt hL hi]
  have m : mem (gone L i) i = !mem L i := by rw [gone_mem, Th.flip_self]
  have c1 := cnt_mem hL
  have c2 := cnt_mem (gone_lot hL hi)
  rw [gone_mem] at c2
  by_cases z : i ∈ L
  · have z2 : ¬ i ∈ gone L i := fun q => by
      have : mem (gone L i) i = true := decide_eq_true q
      rw [m, show mem L i = true from decide_eq_true z] at this
      cases this
    have := Th.cnt_flip_dn (k := ds.length) (S := mem L) hi (decide_eq_true z)
    rw [if_pos z, if_neg z2]
    omega
  · have z2 : i ∈ gone L i := by
      have : mem (gone L i) i = true := by rw [m, show mem L i = false from decide_eq_false z]; rfl
      exact of_decide_eq_true this
    have := Th.cnt_flip_up (k := ds.length) (S := mem L) hi (decide_eq_false z)
    rw [if_neg z, if_pos z2]
    omega
theorem top_of (h t : Int) (ds : List Int) (hk : 0 < ds.length) : Th.Top ds.length (Gof h t ds) (topI h t ds.length).toNat := by
  have t0 := top_lo h t ds.length
  have t1 := top_hi h t hk
  refine ⟨by omega, fun s s' i a b g => ?_, fun s s' i a b c g => ?_⟩
  · have g' : ds.getD i 0 ≤ mk h t ds.length (s : Int) := of_decide_eq_true g
    refine decide_eq_true (Int.le_trans g' ?_)
    have b' : (s' : Int) ≤ topI h t ds.length := by omega
    clear g g' t0 t1
    unfold mk topI at *
    repeat' split
    all_goals (repeat' split at b')
    all_goals omega
  · have g' : ds.getD i 0 ≤ mk h t ds.length (s' : Int) := of_decide_eq_true g
    refine decide_eq_true (Int.le_trans g' ?_)
    have b' : topI h t ds.length ≤ (s : Int) := by omega
    clear g g' t0 t1
    unfold mk topI at *
    repeat' split
    all_goals (repeat' split at b')
    all_goals omega
/-! ### what is told of it -/
def IsMost (h t : Int) (ds : List Int) (L : List Nat) (m : Nat) : Prop := (∃ M, Lot ds.length M ∧ Rl h t ds L M ∧ M.length = m) ∧ ∀ M, Lot ds.length M → Rl h t ds L M → M.length ≤ m
def IsLeast (h t : Int) (ds : List Int) (L : List Nat) (m : Nat) : Prop := (∃ M, Lot ds.length M ∧ Rl h t ds L M ∧ M.length = m) ∧ ∀ M, Lot ds.length M → Rl h t ds L M → m ≤ M.length
def IsMovers (h t : Int) (ds : List Int) (L ms : List Nat) : Prop := Lot ds.length ms ∧ ∀ i, i < ds.length → (i ∈ ms ↔ ∃ M, Lot ds.length M ∧ Rl h t ds L M ∧ mayB h t ds M i = true)
theorem IsMost.uniq {h t : Int} {ds : List Int} {L L' : List Nat} {m m' : Nat} (r : Rl h t ds L L') (a : IsMost h t ds L m) (b : IsMost h t ds L' m') : m = m' := by
  obtain ⟨⟨M, l1, r1, e1⟩, h1⟩ := a
  obtain ⟨⟨M', l2, r2, e2⟩, h2⟩ := b
  have := h1 M' l2 (r.trans r2)
  have := h2 M l1 (r.symm.trans r1)
  omega
theorem IsLeast.uniq {h t : Int} {ds : List Int} {L L' : List Nat} {m m' : Nat} (r : Rl h t ds L L') (a : IsLeast h t ds L m) (b : IsLeast h t ds L' m') : m = m' := by
  obtain ⟨⟨M, l1, r1, e1⟩, h1⟩ := a
  obtain ⟨⟨M', l2, r2, e2⟩, h2⟩ := b
  have := h1 M' l2 (r.trans r2)
  have := h2 M l1 (r.symm.trans r1)
  omega
theorem IsMovers.uniq {h t : Int} {ds : List Int} {L L' ms ms' : List Nat} (r : Rl h t ds L L') (a : IsMovers h t ds L ms) (b : IsMovers h t ds L' ms') : ms = ms' := by
  refine lot_ext a.1 b.1 fun i hi => ?_
  unfold mem
  rw [decide_eq_decide, a.2 i hi, b.2 i hi]
  exact ⟨fun ⟨M, l, q, m⟩ => ⟨M, l, r.symm.trans q, m⟩, fun ⟨M, l, q, m⟩ => ⟨M, l, r.trans q, m⟩⟩
/-- a sea whose draughts are a tuple is handed in -/
def SeaD (K : PySem.W.Frag) (H : Hp) (v : V) (h t : Int) (ds : List Int) : Prop := ∃ p q, v = .ref p ∧ SqA K H p [.int h, .int t, .ref q] ∧ SqT K H q (ds.map V.int)
theorem SeaD.same {K : PySem.W.Frag} {H H' : Hp} {v : V} {h t : Int} {ds : List Int} (s : SeaD K H v h t ds) (e : Same H H') : SeaD K H' v h t ds := let ⟨p, q, a, b, c⟩ := s; ⟨p, q, a, Same.sqA e b, Same.tup e c⟩
theorem SeaD.a {K : PySem.W.Frag} {H : Hp} {v : V} {h t : Int} {ds : List Int} (s : SeaD K H v h t ds) : SeaA K H v h t ds := let ⟨p, q, a, b, c⟩ := s; ⟨p, q, a, b, .inr c⟩
def spMost (K : PySem.W.Frag) : Sp := fun vs H Q _ => ∃ (v l : V) (h t : Int) (ds : List Int) (L : List Nat), vs = [v, l] ∧ SeaD K H v h t ds ∧ LotA K H l L ∧ ds.length ≤ 60 ∧ 0 < ds.length ∧ Lot ds.length L ∧ ∀ (H' : Hp) (m : Nat), Same H H' → IsMost h t ds L m → Q (.int (m : Int)) H'
def spLeast (K : PySem.W.Frag) : Sp := fun vs H Q _ => ∃ (v l : V) (h t : Int) (ds : List Int) (L : List Nat), vs = [v, l] ∧ SeaD K H v h t ds ∧ LotA K H l L ∧ ds.length ≤ 60 ∧ 0 < ds.length ∧ Lot ds.length L ∧ ∀ (H' : Hp) (m : Nat), Same H H' → IsLeast h t ds L m → Q (.int (m : Int)) H'
def spMovers (K : PySem.W.Frag) : Sp := fun vs H Q _ => ∃ (v l : V) (h t : Int) (ds : List Int) (L : List Nat), vs = [v, l] ∧ SeaD K H v h t ds ∧ LotA K H l L ∧ ds.length ≤ 60 ∧ 0 < ds.length ∧ Lot ds.length L ∧
  ∀ (H' : Hp) (p : Addr) (ms : List Nat), Same H H' → H p = none → H' p = some (.lst (ni ms)) → IsMovers h t ds L ms → Q (.ref p) H'
def spComes (K : PySem.W.Frag) : Sp := fun vs H Q _ => ∃ (v l m : V) (h t : Int) (ds : List Int) (L M : List Nat), vs = [v, l, m] ∧ SeaD K H v h t ds ∧ LotA K H l L ∧ LotA K H m M ∧ ds.length ≤ 60 ∧ 0 < ds.length ∧ Lot ds.length L ∧ Lot ds.length M ∧
  ∀ (H' : Hp) (b : Bool), Same H H' → (b = true ↔ Rl h t ds L M) → Q (.bl b) H'
/-! ### turned about -/
def away (c : Nat) (L : List Nat) : List Nat := (List.range c).filter fun i => !decide (i ∈ L)
theorem away_lot (c : Nat) (L : List Nat) : Lot c (away c L) := (Lot.all c).filter _
theorem mk_turn {h t : Int} {k s : Nat} (hs : s < k) : mk t h k (s : Int) = mk h t k ((k - 1 - s : Nat) : Int) := by
  unfold mk
  split <;> split <;> omega
theorem mem_away {c : Nat} {L : List Nat} {i : Nat} (hi : i < c) : mem (away c L) i = !mem L i := by
  unfold mem away
  rw [Bool.eq_iff_iff, decide_eq_true_eq, List.mem_filter, List.mem_range]
  simp [hi]
end Sh

namespace Sh
/-! ### fleets: sums over sorts, and ships one by one -/
abbrev Srt := Int × Nat × Nat
def mny (ss : List Srt) : Nat := (ss.map fun x => x.2.1 + x.2.2).sum
theorem mny_cons (x : Srt) (l : List Srt) : mny (x :: l) = x.2.1 + x.2.2 + mny l := by
  unfold mny
  rw [List.map_cons, List.sum_cons]
theorem mny_snoc (l : List Srt) (x : Srt) : mny (l ++ [x]) = mny l + (x.2.1 + x.2.2) := by
  unfold mny
  rw [List.map_append, List.sum_append]
  simp
def ourn (ss : List Srt) : Nat := (ss.map fun x => x.2.1).sum
def gmF (ss : List Srt) (m : Int) : Nat := ((ss.filter fun x => decide (x.1 ≤ m)).map fun x => x.2.1 + x.2.2).sum
def filF (ss : List Srt) (m : Int) : Nat := (ss.map fun x => x.2.1 + if x.1 ≤ m then x.2.2 else 0).sum
def fxF (ss : List Srt) (m : Int) : List Nat := (ss.filter fun x => decide (x.1 > m)).map fun x => x.2.1
def turnF (ss : List Srt) : List Srt := ss.map fun x => (x.1, x.2.2, x.2.1)
theorem mny_turn (ss : List Srt) : mny (turnF ss) = mny ss := by
  unfold mny turnF
  rw [List.map_map]
  congr 1
  exact List.map_congr_left fun x _ => Nat.add_comm _ _
theorem turn_turn (ss : List Srt) : turnF (turnF ss) = ss := by
  unfold turnF
  rw [List.map_map]
  exact (List.map_congr_left fun x _ => rfl).trans (List.map_id ss)
/-- the ships of a fleet one by one -/
structure Rp (ss : List Srt) (k : Nat) (D : Nat → Int) (S : Nat → Bool) : Prop where
  here : ∀ P : Int → Bool, ((ss.filter fun x => P x.1).map fun x => x.2.1).sum = Th.cnt k (fun i => P (D i) && S i)
  there : ∀ P : Int → Bool, ((ss.filter fun x => P x.1).map fun x => x.2.2).sum = Th.cnt k (fun i => P (D i) && !S i)
theorem sum_two (f g : Srt → Nat) : ∀ l : List Srt, (l.map fun x => f x + g x).sum = (l.map f).sum + (l.map g).sum
  | [] => rfl
  | a :: l => by
    simp only [List.map_cons, List.sum_cons, sum_two f g l]
    omega
theorem sum_filter (P : Srt → Bool) (f : Srt → Nat) : ∀ l : List Srt, (l.map fun x => if P x = true then f x else 0).sum = ((l.filter P).map f).sum
  | [] => rfl
  | a :: l => by
    cases h : P a <;> simp [h, sum_filter P f l]
section
variable {ss : List Srt} {k : Nat} {D : Nat → Int} {S : Nat → Bool}
theorem Rp.gm (r : Rp ss k D S) (m : Int) : gmF ss m = Th.cnt k (fun i => decide (D i ≤ m)) := by
  unfold gmF
  rw [sum_two (fun x => x.2.1) (fun x => x.2.2), r.here fun d => decide (d ≤ m), r.there fun d => decide (d ≤ m)]
  exact (Th.cnt_split _ S).symm
theorem Rp.ourn (r : Rp ss k D S) : ourn ss = Th.cnt k S := by
  have e := r.here fun _ => true
  rw [List.filter_eq_self.mpr fun _ _ => rfl] at e
  exact e
theorem Rp.mny (r : Rp ss k D S) : mny ss = k := by
  have e := r.there fun _ => true
  rw [List.filter_eq_self.mpr fun _ _ => rfl] at e
  unfold Sh.mny
  rw [sum_two (fun x => x.2.1) (fun x => x.2.2), e]
  have e2 := r.ourn
  unfold Sh.ourn at e2
  rw [e2]
  exact Th.cnt_not S
theorem Rp.fil (r : Rp ss k D S) (m : Int) : filF ss m = Th.cnt k (fun i => S i || decide (D i ≤ m)) := by
  unfold filF
  rw [sum_two (fun x => x.2.1) (fun x => if x.1 ≤ m then x.2.2 else 0)]
  have e1 := r.ourn
  unfold Sh.ourn at e1
  have e2 : (ss.map fun x => if x.1 ≤ m then x.2.2 else 0).sum = Th.cnt k (fun i => decide (D i ≤ m) && !S i) := by
    rw [← r.there fun d => decide (d ≤ m), ← sum_filter]
    congr 1
    refine List.map_congr_left fun x _ => ?_
    by_cases z : x.1 ≤ m
    · rw [if_pos z, if_pos (decide_eq_true z)]
    · rw [if_neg z, if_neg (by simpa using z)]
  rw [e1, e2, Th.cnt_or_not]
theorem Rp.fx (r : Rp ss k D S) (m : Int) : (fxF ss m).sum = Th.cnt k (fun i => S i && !decide (D i ≤ m)) := by
  unfold fxF
  rw [r.here fun d => decide (d > m)]
  refine Th.cnt_congr fun i _ => ?_
  rw [Bool.and_comm]
  congr 1
  by_cases z : D i ≤ m
  · rw [decide_eq_true z, decide_eq_false (by omega)]; rfl
  · rw [decide_eq_false z, decide_eq_true (by omega)]; rfl
theorem Rp.turn (r : Rp ss k D S) : Rp (turnF ss) k D (Th.co S) := by
  refine ⟨fun P => ?_, fun P => ?_⟩
  · have e := r.there P
    unfold turnF
    rw [List.filter_map, List.map_map]
    exact e
  · have e := r.here P
    unfold turnF
    rw [List.filter_map, List.map_map]
    refine Eq.trans e ?_
    refine Th.cnt_congr fun i _ => ?_
    unfold Th.co
    rw [Bool.not_not]
end
/-- who goes at a step -/
def Gd (h t : Int) (k : Nat) (D : Nat → Int) : Nat → Nat → Bool := fun s i => decide (D i ≤ mk h t k (s : Int))
theorem top_lo' (h t : Int) (k : Nat) : 0 ≤ topI h t k := by
  unfold topI
  split <;> omega
theorem top_hi' (h t : Int) {k : Nat} (hk : 0 < k) : topI h t k < (k : Int) := by
  unfold topI
  repeat' split
  all_goals omega
theorem mk_le {h t : Int} {k : Nat} {s s' : Int} (s0 : 0 ≤ s) (a : s ≤ s') (b : s' ≤ topI h t k) : mk h t k s ≤ mk h t k s' := by
  unfold mk topI at *
  repeat' split
  all_goals (repeat' split at b)
  all_goals omega
theorem mk_dn {h t : Int} {k : Nat} {s s' : Int} (c : topI h t k ≤ s) (a : s ≤ s') (d : s' < (k : Int)) : mk h t k s' ≤ mk h t k s := by
  unfold mk topI at *
  repeat' split
  all_goals (repeat' split at c)
  all_goals omega
theorem mk_turn' {h t : Int} {k : Nat} {s : Int} : mk t h k s = mk h t k ((k : Int) - 1 - s) := by
  unfold mk
  split <;> split <;> omega
/-- up to the top the water here bounds -/
theorem mk_low {h t : Int} {k : Nat} {s : Int} (s0 : 0 ≤ s) (b : s < topI h t k) : mk h t k s = h + s := by
  unfold mk topI at *
  repeat' split at b
  all_goals split
  all_goals omega
theorem mk_high {h t : Int} {k : Nat} {s : Int} (s0 : 0 ≤ s) (b : s < (k : Int) - 1 - topI h t k) : mk t h k s = t + s := by
  unfold mk topI at *
  repeat' split at b
  all_goals split
  all_goals omega
theorem top_D (h t : Int) {k : Nat} (D : Nat → Int) (hk : 0 < k) : Th.Top k (Gd h t k D) (topI h t k).toNat := by
  have t0 := top_lo' h t k
  have t1 := top_hi' h t hk
  refine ⟨by omega, fun s s' i a b g => ?_, fun s s' i a b c g => ?_⟩
  · have g' : D i ≤ mk h t k (s : Int) := of_decide_eq_true g
    exact decide_eq_true (Int.le_trans g' (mk_le (by omega) (by omega) (by omega)))
  · have g' : D i ≤ mk h t k (s' : Int) := of_decide_eq_true g
    exact decide_eq_true (Int.le_trans g' (mk_dn (by omega) (by omega) (by omega)))
theorem Gd_turn {h t : Int} {k : Nat} {D : Nat → Int} {s i : Nat} (hs : s < k) : Gd t h k D s i = Th.dual k (Gd h t k D) s i := by
  unfold Gd Th.dual
  rw [mk_turn', show ((k : Int) - 1 - (s : Int)) = ((k - 1 - s : Nat) : Int) by omega]
/-! ### stuck, by sums -/
def StuckF (h t : Int) (ss : List Srt) (N : Nat) : Prop := ourn ss ≤ N ∧ (∀ n : Nat, ourn ss ≤ n → n < N → n < filF ss (mk h t (mny ss) (n : Int))) ∧ filF ss (mk h t (mny ss) (N : Int)) ≤ N
theorem Rp.stuck {ss : List Srt} {k : Nat} {D : Nat → Int} {S : Nat → Bool} (r : Rp ss k D S) (h t : Int) (N : Nat) : StuckF h t ss N ↔ Th.StuckLow k (Gd h t k D) N S := by
  unfold StuckF Th.StuckLow
  rw [r.ourn, r.mny, r.fil]
  have e : ∀ n : Nat, filF ss (Sh.mk h t k (n : Int)) = Th.cnt k (fun i => S i || Gd h t k D n i) := fun n => r.fil _
  simp only [e]
  exact Iff.rfl
end Sh
namespace Th
theorem StuckLow.congr {k : Nat} {G G' : Nat → Nat → Bool} {S : Nat → Bool} {N : Nat} (hN : N < k) (e : ∀ s i, s < k → G s i = G' s i) (h : StuckLow k G N S) : StuckLow k G' N S := by
  have e2 : ∀ n, n < k → cnt k (fun i => S i || G n i) = cnt k (fun i => S i || G' n i) := fun n hn => cnt_congr fun i _ => by rw [e n i hn]
  refine ⟨h.1, fun n a b => ?_, ?_⟩
  · rw [← e2 n (by omega)]
    exact h.2.1 n a b
  · rw [← e2 N hN]
    exact h.2.2
/-- gets to the top's number, and somebody may go there -/
def Open (k : Nat) (G : Nat → Nat → Bool) (T : Nat) (S : Nat → Bool) : Prop := (Rises k G T S ∨ Sinks k G T S) ∧ T < cnt k (fun i => S i || G T i)
theorem Open.congr {k : Nat} {G G' : Nat → Nat → Bool} {T : Nat} {S : Nat → Bool} (hT : T < k) (e : ∀ s i, s < k → G s i = G' s i) (h : Open k G T S) : Open k G' T S := by
  have e2 : ∀ n, n < k → cnt k (fun i => S i || G n i) = cnt k (fun i => S i || G' n i) := fun n hn => cnt_congr fun i _ => by rw [e n i hn]
  have e3 : ∀ n, n < k → cnt k (fun i => S i && !G n i) = cnt k (fun i => S i && !G' n i) := fun n hn => cnt_congr fun i _ => by rw [e n i hn]
  have cl := cnt_le k S
  refine ⟨h.1.imp (fun q => ⟨q.1, fun n a b => ?_⟩) (fun q => ⟨q.1, fun s a b => ?_⟩), ?_⟩
  · rw [← e2 n (by omega)]
    exact q.2 n a b
  · rw [← e3 s (by omega)]
    exact q.2 s a b
  · rw [← e2 T hT]
    exact h.2
theorem cnt_and_or {k : Nat} (S f : Nat → Bool) : cnt k (fun i => S i && !f i) + cnt k f = cnt k (fun i => S i || f i) := by
  have e := cnt_or_not (k := k) f S
  have e1 : (fun i => f i || S i) = (fun i => S i || f i) := funext fun i => Bool.or_comm _ _
  rw [e1] at e
  omega
theorem Open.dual {k : Nat} {G : Nat → Nat → Bool} {T : Nat} {S : Nat → Bool} (t : Top k G T) (h : Open k G T S) : Open k (Th.dual k G) (k - 1 - T) (co S) := by
  have tl := t.lt
  have c0 := cnt_co k S
  have cle := cnt_le k S
  have key : ∀ n, n < k → cnt k (fun i => co S i && !Th.dual k G (k - 1 - n) i) + cnt k (fun i => S i || G n i) = k := fun n hn => by
    have e : (fun i => co S i && !Th.dual k G (k - 1 - n) i) = co (fun i => S i || G n i) := by
      funext i
      have := dual_dual_at (G := G) (k := k) (s := n) hn i
      unfold Th.dual at this
      show (!S i && !G (k - 1 - (k - 1 - n)) i) = !(S i || G n i)
      rw [this]
      cases S i <;> cases G n i <;> rfl
    rw [e, Nat.add_comm]
    exact cnt_co k _
  have key2 : ∀ n, n < k → cnt k (fun i => co S i || Th.dual k G (k - 1 - n) i) + cnt k (fun i => S i && !G n i) = k := fun n hn => by
    have e : (fun i => co S i || Th.dual k G (k - 1 - n) i) = co (fun i => S i && !G n i) := by
      rw [co_or]
      funext i
      have := dual_dual_at (G := G) (k := k) (s := n) hn i
      unfold Th.dual at this
      show (!(S i && !G (k - 1 - (k - 1 - n)) i)) = !(S i && !G n i)
      rw [this]
    rw [e, Nat.add_comm]
    exact cnt_co k _
  obtain ⟨rs, hc⟩ := h
  have hf : cnt k (fun i => S i && !G T i) ≤ T := by
    rcases rs with q | q
    · exact Nat.le_trans (cnt_mono fun i _ w => by revert w; cases S i <;> simp) q.1
    · exact q.2 T (Nat.le_refl _) q.1
  refine ⟨?_, ?_⟩
  · rcases rs with ⟨q1, q2⟩ | ⟨q1, q2⟩
    · refine .inr ⟨by omega, fun s a b => ?_⟩
      have hk := key (k - 1 - s) (by omega)
      rw [show k - 1 - (k - 1 - s) = s by omega] at hk
      have : k - 1 - s < cnt k (fun i => S i || G (k - 1 - s) i) := by
        by_cases z : k - 1 - s = T
        · rw [z]; exact hc
        · exact q2 _ (by omega) (by omega)
      omega
    · refine .inl ⟨by omega, fun n a b => ?_⟩
      have hk := key2 (k - 1 - n) (by omega)
      rw [show k - 1 - (k - 1 - n) = n by omega] at hk
      have := q2 (k - 1 - n) (by omega) (by omega)
      omega
  · have hk := key2 T tl
    omega
/-- how few can come to lie here, of a lot that gets to the top's number -/
theorem open_counts_low {k : Nat} {G : Nat → Nat → Bool} {T n : Nat} {S : Nat → Bool} (t : Top k G T) (h : Open k G T S) (hn : n ≤ T + 1) : (∃ U, Reach k G S U ∧ cnt k U = n) ↔ cnt k (fun i => S i && !G T i) ≤ n ∧ ∀ m, m ≤ T → m + 1 ≤ n + cnt k (G m) := by
  have tl := t.lt
  have hd := h.dual t
  have oc := open_counts (n := k - n) t.dual hd.1 (by omega)
  have e1 : (∃ U, Reach k G S U ∧ cnt k U = n) ↔ ∃ U, Reach k (Th.dual k G) (co S) U ∧ cnt k U = k - n := by
    constructor
    · rintro ⟨U, r, c⟩
      refine ⟨co U, r.dual, ?_⟩
      have := cnt_co k U
      omega
    · rintro ⟨U, r, c⟩
      refine ⟨co U, ?_, ?_⟩
      · refine Reach.codual ?_
        rw [co_co]
        exact r
      · have := cnt_co k U
        omega
  have e2 : cnt k (fun i => co S i || Th.dual k G (k - 1 - T) i) + cnt k (fun i => S i && !G T i) = k := by
    have e : (fun i => co S i || Th.dual k G (k - 1 - T) i) = co (fun i => S i && !G T i) := by
      rw [co_or]
      funext i
      have := dual_dual_at (G := G) (k := k) (s := T) tl i
      unfold Th.dual at this
      show (!(S i && !G (k - 1 - (k - 1 - T)) i)) = !(S i && !G T i)
      rw [this]
    rw [e, Nat.add_comm]
    exact cnt_co k _
  rw [e1, oc]
  constructor
  · rintro ⟨a, b⟩
    refine ⟨by omega, fun m hm => ?_⟩
    have := b (k - 1 - m) (by omega) (by omega)
    unfold Th.dual at this
    rw [show k - 1 - (k - 1 - m) = m by omega] at this
    have this' : k - n ≤ k - 1 - m + cnt k (G m) := this
    omega
  · rintro ⟨a, b⟩
    refine ⟨by omega, fun s hs hk => ?_⟩
    have := b (k - 1 - s) (by omega)
    show k - n ≤ s + cnt k (G (k - 1 - s))
    omega
def IsMin (k : Nat) (G : Nat → Nat → Bool) (S : Nat → Bool) (n : Nat) : Prop := (∃ U, Reach k G S U ∧ cnt k U = n) ∧ ∀ U, Reach k G S U → n ≤ cnt k U
def IsMax (k : Nat) (G : Nat → Nat → Bool) (S : Nat → Bool) (n : Nat) : Prop := (∃ U, Reach k G S U ∧ cnt k U = n) ∧ ∀ U, Reach k G S U → cnt k U ≤ n
theorem IsMin.co {k : Nat} {G : Nat → Nat → Bool} {S : Nat → Bool} {n : Nat} (h : IsMin k (Th.dual k G) (co S) n) : n ≤ k ∧ IsMax k G S (k - n) := by
  obtain ⟨⟨U, r, c⟩, hm⟩ := h
  have cu := cnt_le k U
  refine ⟨by omega, ⟨Th.co U, ?_, ?_⟩, fun W rW => ?_⟩
  · refine Reach.codual ?_
    rw [co_co]
    exact r
  · have := cnt_co k U
    omega
  · have := hm _ rW.dual
    have := cnt_co k W
    omega
theorem IsMin.congr {k : Nat} {G G' : Nat → Nat → Bool} {S : Nat → Bool} {n : Nat} (e : ∀ s i, s < k → G s i = G' s i) (h : IsMin k G S n) : IsMin k G' S n := by
  obtain ⟨⟨U, r, c⟩, hm⟩ := h
  exact ⟨⟨U, r.congr e, c⟩, fun W rW => hm W (rW.congr fun s i hs => (e s i hs).symm)⟩
theorem stuck_min_high {k : Nat} {G : Nat → Nat → Bool} {T N : Nat} {S : Nat → Bool} (t : Top k G T) (hN : N ≤ T) (h : StuckLow k G N S) : IsMax k G S N := by
  obtain ⟨U, r, c, _⟩ := h.full t hN
  exact ⟨⟨U, r, c⟩, fun W rW => (h.under t hN rW).1⟩
end Th
namespace Sh
/-! ### the least number, as it's told -/
/-- m is the greatest of what least_in looks at -/
def LeastI (h t : Int) (ss : List Srt) (step : Int) (m : Int) : Prop :=
  (m = ((fxF ss (mk h t (mny ss) step)).sum : Int) ∨ ∃ e : Int, (e = step ∨ (∃ x ∈ ss, e = x.1 - h ∧ e < step)) ∧ 0 < e ∧ m = e - (gmF ss (mk h t (mny ss) (e - 1)) : Int)) ∧
  ((fxF ss (mk h t (mny ss) step)).sum : Int) ≤ m ∧ ∀ e : Int, (e = step ∨ (∃ x ∈ ss, e = x.1 - h ∧ e < step)) → 0 < e → e - (gmF ss (mk h t (mny ss) (e - 1)) : Int) ≤ m
/-- the ends are enough -/
theorem least_ends {h t : Int} {ss : List Srt} {N : Nat} {m0 : Int} (hm : ∀ m : Nat, m < N → mk h t (mny ss) (m : Int) = h + m)
    (ub : ∀ e : Int, (e = (N : Int) ∨ (∃ x ∈ ss, e = x.1 - h ∧ e < (N : Int))) → 0 < e → e - (gmF ss (mk h t (mny ss) (e - 1)) : Int) ≤ m0) :
    ∀ (j m : Nat), m < N → N - m = j → (m : Int) + 1 - (gmF ss (mk h t (mny ss) (m : Int)) : Int) ≤ m0 := by
  intro j
  induction j with
  | zero => intro m a b; omega
  | succ j ih =>
    intro m a b
    by_cases z : m + 1 = N
    · have := ub N (.inl rfl) (by omega)
      rw [show (N : Int) - 1 = (m : Int) by omega] at this
      omega
    · by_cases q : ∃ x ∈ ss, x.1 - h = (m : Int) + 1
      · obtain ⟨x, hx, e⟩ := q
        have := ub ((m : Int) + 1) (.inr ⟨x, hx, e.symm, by omega⟩) (by omega)
        rw [show (m : Int) + 1 - 1 = (m : Int) by omega] at this
        exact this
      · have i2 := ih (m + 1) (by omega) (by omega)
        rw [hm (m + 1) (by omega)] at i2
        rw [hm m a]
        have e : gmF ss (h + ((m + 1 : Nat) : Int)) = gmF ss (h + (m : Int)) := by
          unfold gmF
          congr 2
          refine List.filter_congr fun x hx => ?_
          rw [decide_eq_decide]
          have : ¬ x.1 - h = (m : Int) + 1 := fun w => q ⟨x, hx, w⟩
          omega
        rw [e] at i2
        omega
section
variable {ss : List Srt} {k : Nat} {D : Nat → Int} {S : Nat → Bool} {h t : Int}
theorem least_low (r : Rp ss k D S) {T N : Nat} (tp : Th.Top k (Gd h t k D) T) (hN : N ≤ T) (sl : Th.StuckLow k (Gd h t k D) N S) (hm : ∀ m : Nat, m < N → mk h t k (m : Int) = h + m) {m0 : Int} (L : LeastI h t ss (N : Int) m0) :
    ∃ n : Nat, m0 = (n : Int) ∧ Th.IsMin k (Gd h t k D) S n := by
  obtain ⟨l1, l2, l3⟩ := L
  have km := r.mny
  have hends := least_ends (h := h) (t := t) (ss := ss) (N := N) (by rw [km]; exact hm) l3
  have efx := r.fx (mk h t (mny ss) (N : Int))
  rw [km] at efx hends l1 l2 l3
  have gme : ∀ m : Nat, gmF ss (mk h t k (m : Int)) = Th.cnt k (Gd h t k D m) := fun m => r.gm _
  have fxle : (fxF ss (mk h t k (N : Int))).sum ≤ Th.cnt k S := by
    rw [efx]
    exact Th.cnt_mono fun i _ w => by revert w; cases S i <;> simp
  have m0N : m0 ≤ (N : Int) := by
    have := sl.1
    rcases l1 with e | ⟨e, he, e0, e1⟩
    · omega
    · rcases he with he | ⟨x, _, _, he⟩ <;> omega
  have cond : ∀ m, m < N → m + 1 ≤ m0.toNat + Th.cnt k (Gd h t k D m) := fun m a => by
    have := hends _ m a rfl
    rw [gme] at this
    omega
  refine ⟨m0.toNat, by omega, (Th.low_counts sl tp hN (by omega)).mpr cond, fun U rU => ?_⟩
  have ur := sl.under tp hN rU
  have lc := (Th.low_counts sl tp hN ur.1).mp ⟨U, rU, rfl⟩
  rcases l1 with e | ⟨e, he, e0, e1⟩
  · have : Th.cnt k (fun i => S i && !Gd h t k D N i) ≤ Th.cnt k U := Th.cnt_mono fun i hi w => by
      have := ur.2 i hi
      revert w this
      cases S i <;> cases U i <;> cases Gd h t k D N i <;> simp
    have e3 : (fxF ss (mk h t k (N : Int))).sum = Th.cnt k (fun i => S i && !Gd h t k D N i) := efx
    omega
  · have eN : e ≤ (N : Int) := by rcases he with he | ⟨x, _, _, he⟩ <;> omega
    have := lc (e - 1).toNat (by omega)
    rw [show e - 1 = (((e - 1).toNat : Nat) : Int) by omega, gme] at e1
    omega
theorem least_open (r : Rp ss k D S) {T : Nat} (tp : Th.Top k (Gd h t k D) T) (op : Th.Open k (Gd h t k D) T S) (hm : ∀ m : Nat, m < T → mk h t k (m : Int) = h + m) {m0 : Int} (L : LeastI h t ss (T : Int) m0) :
    ∃ n : Nat, m0 = (n : Int) ∧ Th.IsMin k (Gd h t k D) S n := by
  obtain ⟨l1, l2, l3⟩ := L
  have km := r.mny
  have hends := least_ends (h := h) (t := t) (ss := ss) (N := T) (by rw [km]; exact hm) l3
  have efx := r.fx (mk h t (mny ss) (T : Int))
  rw [km] at efx hends l1 l2 l3
  have e3 : (fxF ss (mk h t k (T : Int))).sum = Th.cnt k (fun i => S i && !Gd h t k D T i) := efx
  have gme : ∀ m : Nat, gmF ss (mk h t k (m : Int)) = Th.cnt k (Gd h t k D m) := fun m => r.gm _
  have fT : Th.cnt k (fun i => S i && !Gd h t k D T i) ≤ T := by
    rcases op.1 with q | q
    · exact Nat.le_trans (Th.cnt_mono fun i _ w => by revert w; cases S i <;> simp) q.1
    · exact q.2 T (Nat.le_refl _) q.1
  have m0N : m0 ≤ (T : Int) := by
    rcases l1 with e | ⟨e, he, e0, e1⟩
    · omega
    · rcases he with he | ⟨x, _, _, he⟩ <;> omega
  have ca := Th.cnt_and_or (k := k) S (Gd h t k D T)
  have opc := op.2
  refine ⟨m0.toNat, by omega, (Th.open_counts_low tp op (by omega)).mpr ⟨by omega, fun m a => ?_⟩, fun U rU => ?_⟩
  · by_cases z : m = T
    · subst z
      omega
    · have := hends _ m (by omega) rfl
      rw [gme] at this
      omega
  · by_cases z : Th.cnt k U ≤ T + 1
    · have lc := (Th.open_counts_low tp op z).mp ⟨U, rU, rfl⟩
      rcases l1 with e | ⟨e, he, e0, e1⟩
      · have := lc.1
        omega
      · have eN : e ≤ (T : Int) := by rcases he with he | ⟨x, _, _, he⟩ <;> omega
        have := lc.2 (e - 1).toNat (by omega)
        rw [show e - 1 = (((e - 1).toNat : Nat) : Int) by omega, gme] at e1
        omega
    · omega
end
end Sh

namespace Sh
open PySem PySem.Spec PyProof.Rows L2
theorem may_May {h t : Int} {ds : List Int} {L : List Nat} {i : Nat} (hL : Lot ds.length L) (hi : i < ds.length) : mayB h t ds L i = true ↔ Th.May ds.length (Gof h t ds) (mem L) i := by
  rw [may_G, near_cnt hL hi]
  unfold Th.May
  rw [cnt_mem hL]
  unfold mem
  by_cases z : i ∈ L
  · rw [if_pos z, decide_eq_true z, if_pos rfl]
  · rw [if_neg z, decide_eq_false z, if_neg Bool.false_ne_true]
/-- the lot of a set -/
def lotOf (c : Nat) (U : Nat → Bool) : List Nat := (List.range c).filter U
theorem lotOf_lot (c : Nat) (U : Nat → Bool) : Lot c (lotOf c U) := (Lot.all c).filter _
theorem lotOf_mem {c : Nat} {U : Nat → Bool} {i : Nat} (hi : i < c) : mem (lotOf c U) i = U i := by
  unfold mem lotOf
  rw [Bool.eq_iff_iff, decide_eq_true_eq, List.mem_filter, List.mem_range]
  exact ⟨fun q => q.2, fun q => ⟨hi, q⟩⟩
theorem lotOf_eq {h t : Int} {ds : List Int} {L : List Nat} {U : Nat → Bool} (hL : Lot ds.length L) (r : Th.Reach ds.length (Gof h t ds) (mem L) U) : mem (lotOf ds.length U) = U := by
  funext i
  by_cases hi : i < ds.length
  · exact lotOf_mem hi
  · rw [Th.reach_out r i hi, mem_out hL hi, mem_out (lotOf_lot _ _) hi]
/-- to be one of those that ever go, by lots or by sets -/
theorem ex_moves {h t : Int} {ds : List Int} {L : List Nat} (hL : Lot ds.length L) {i : Nat} (hi : i < ds.length) : (∃ M, Lot ds.length M ∧ Rl h t ds L M ∧ mayB h t ds M i = true) ↔ Th.Moves ds.length (Gof h t ds) (mem L) i := by
  constructor
  · rintro ⟨M, l, r, m⟩
    exact ⟨mem M, r, (may_May l hi).mp m⟩
  · rintro ⟨U, r, m⟩
    have e := lotOf_eq hL r
    refine ⟨lotOf ds.length U, lotOf_lot _ _, ?_, ?_⟩
    · unfold Rl
      rw [e]
      exact r
    · rw [may_May (lotOf_lot _ _) hi, e]
      exact m
theorem movers_moves {h t : Int} {ds : List Int} {L ms : List Nat} (hL : Lot ds.length L) (im : IsMovers h t ds L ms) {i : Nat} (hi : i < ds.length) : i ∈ ms ↔ Th.Moves ds.length (Gof h t ds) (mem L) i := by
  rw [im.2 i hi, ex_moves hL hi]
/-- the most, the least, by sets -/
theorem isMost_of {h t : Int} {ds : List Int} {L : List Nat} {n : Nat} (hL : Lot ds.length L) (q : Th.IsMax ds.length (Gof h t ds) (mem L) n) : IsMost h t ds L n := by
  obtain ⟨⟨U, r, c⟩, hm⟩ := q
  have e := lotOf_eq hL r
  refine ⟨⟨lotOf ds.length U, lotOf_lot _ _, ?_, ?_⟩, fun M l rM => ?_⟩
  · unfold Rl
    rw [e]
    exact r
  · rw [← cnt_mem (lotOf_lot _ _), e]
    exact c
  · rw [← cnt_mem l]
    exact hm _ rM
theorem isLeast_of {h t : Int} {ds : List Int} {L : List Nat} {n : Nat} (hL : Lot ds.length L) (q : Th.IsMin ds.length (Gof h t ds) (mem L) n) : IsLeast h t ds L n := by
  obtain ⟨⟨U, r, c⟩, hm⟩ := q
  have e := lotOf_eq hL r
  refine ⟨⟨lotOf ds.length U, lotOf_lot _ _, ?_, ?_⟩, fun M l rM => ?_⟩
  · unfold Rl
    rw [e]
    exact r
  · rw [← cnt_mem (lotOf_lot _ _), e]
    exact c
  · rw [← cnt_mem l]
    exact hm _ rM
end Sh

namespace Sh
open PySem PySem.Spec PyProof.Rows L2
def spGone (K : PySem.W.Frag) : Sp := fun vs H Q _ => ∃ (l : V) (L : List Nat) (c i : Nat), vs = [l, .int (i : Int)] ∧ LotA K H l L ∧ Lot c L ∧ c ≤ 1000 ∧ i < c ∧ ∀ (H' : Hp) (p : Addr), Same H H' → H p = none → H' p = some (.tup (ni (gone L i))) → Q (.ref p) H'
abbrev s__law_gone : Stmt := topS 22
theorem sc__law_gone : FnScope (["_law_lot_here", "_law_whom", "_law_mate"] : List Str) (["_law_lot_here", "_law_whom"] : List Str) (defScope s__law_gone) := ⟨rfl, rfl, rfl, by decide +kernel, rfl, by decide +kernel, by decide +kernel⟩
theorem b__law_gone (kV doc pm : Value) (an : Option Addr) (cdv ct : Value) (us : List Value) (hl : us.length = (["_law_lot_here", "_law_whom"] : List Str).length) : bindArgs (PySem.W.fnOf "_law_gone" "_law_gone" (defArgs s__law_gone) (defBody s__law_gone) (defScope s__law_gone) .none kV doc pm an cdv ct) ⟨us, []⟩ = pure ((["_law_lot_here", "_law_whom"] : List Str).zip us) :=
  match us, hl with | [_, _], _ => rfl
section
variable {P : Program} {w : World} {K : PySem.W.Frag} {mg : Str → Option Value} {base : Heap}
theorem ok_gone {k : Nat} (D : Df K mg "_law_gone" s__law_gone) (T : Bt mg) : Ok P w K mg base (k + 1) "_law_gone" s__law_gone ["_law_lot_here", "_law_whom"] (spGone K) := by
  refine D.ok sc__law_gone b__law_gone (fun vs H Q E h => ?_) (fun f cdv A outer s H vs Q E hr h => ?_)
  · obtain ⟨l, L, c, i, rfl, _⟩ := h
    rfl
  · obtain ⟨l, L, c, i, rfl, ⟨pl, rfl, hl⟩, hL, c1, hi, q⟩ := h
    have ll := hL.len
    refine ⟨_, (pss_cons (ps_if (pt_cmpR op_in_seq (pv 1) (pv 0) (by rfl))
        (pss_one (ps_ret (pe_callTy call_tuple_of (by rfl) T.tuple_ (by decide +kernel) (pa_cons (pe_lc (own := [("_law_mate", 2)]) (g := (gName 2)) (by rfl) sc__law_gone.nd (pi_seq (pv 0)) (blkOk_by (own := [("_law_mate", 2)]) (N := (["_law_lot_here", "_law_whom", "_law_mate"] : List Str)) (sc := defScope s__law_gone) (by decide +kernel)) (fun _ _ _ _ _ => (pg_name (i := 2) sc__law_gone.nd rfl (.inl rfl))) (fun _ _ _ _ _ => (pts_one (pt_cmpR op_ne (pv 2) (pv 1) (nomark _)))) (fun _ _ _ _ _ => (pv 2))) pa_nil))))
        pss_nil)
      (pss_one (ps_ret (pe_callTy call_tuple_of (by rfl) T.tuple_ (by decide +kernel) (pa_cons (pe_callB cr_sortedI (by rfl) T.sorted_ (by decide +kernel) (pa_cons (pe_op op_cat (pe_callTy call_list_of (by rfl) T.list_ (by decide +kernel) (pa_cons (pv 0) pa_nil)) (pe_lst (pa_cons (pv 1) pa_nil))) pa_nil)) pa_nil))))), ?_⟩
    refine ⟨_, rfl, _, rfl, pl, _, rfl, hl, rfl, ni_flat L, _, rfl, ?_⟩
    rw [if_neg Bool.false_ne_true, in_ni]
    by_cases z : i ∈ L
    · rw [decide_eq_true z]
      refine iteT ?_
      refine ⟨_, rfl, pl, _, H, rfl, hl, Kp.refl _ _, fun J hJ C nC => ?_⟩
      obtain ⟨G, g, W⟩ := hJ.walk
      refine lc_it W (fun j H' => Same H H' ∧ H' C = some (.lst (ni ((L.take j).filter fun m => !decide (m = i))))) ⟨same_new nC, upd_same⟩ (fun j H' _ z => g H' (.ofS z.1)) ?_ ?_
      · rintro j x H3 H4 hj ⟨s3, hC⟩ ⟨rfl, gx⟩
        rw [ni_len] at hj
        obtain rfl : .int ((L[j] : Nat) : Int) = x := Option.some.inj ((ni_get hj).symm.trans gx)
        refine ⟨rfl, ?_⟩
        refine ⟨_, rfl, _, rfl, rfl, _, rfl, ite2 (fun c => ?_) (fun c => ?_)⟩
        · have c0 : ¬ L[j] = i := fun e => by
            rw [e] at c
            simp at c
          refine ⟨_, rfl, _, hC, ?_, same_over s3 nC, ?_⟩
          · rw [ni_len]
            have h1 := List.length_filter_le (fun m => !decide (m = i)) (L.take j)
            rw [List.length_take] at h1
            exact small1000 (by omega)
          · rw [upd_same, take_succ_get hj, List.filter_append, ni_app, List.filter_cons_of_pos (by simpa using c0)]
            rfl
        · have c0 : L[j] = i := by
            by_cases e : L[j] = i
            · exact e
            · exfalso
              refine c ?_
              have z2 : ¬ V.int ((L[j] : Nat) : Int) = V.int (i : Int) := fun w => e (by have := V.int.inj w; omega)
              rw [decide_eq_false z2]
              rfl
          refine ⟨s3, ?_⟩
          rw [hC, take_succ_get hj, List.filter_append, List.filter_cons_of_neg (by simpa using c0)]
          simp
      rintro H3 ⟨s3, hC⟩
      rw [ni_len, List.take_length] at hC
      refine ⟨C, _, rfl, .inl ⟨SqL.of hC, fun p np => ?_⟩⟩
      refine q _ p (s3.trans (same_new np)) (s3.free np) ?_
      rw [upd_same, gone, if_pos z]
    · rw [decide_eq_false z]
      refine iteF ?_
      refine ⟨_, rfl, pl, _, rfl, hl, fun a na => ?_⟩
      have s1 : Same H (upd H a (.lst (ni L))) := same_new na
      have e1 : upd H a (.lst (ni L)) a = _ := upd_same
      generalize upd H a (.lst (ni L)) = H1 at s1 e1
      refine ⟨_, rfl, (by show 1 ≤ sizeLine; decide), fun o no => ?_⟩
      have s2 : Same H1 (upd H1 o (.lst [.int (i : Int)])) := same_new no
      have e2 : upd H1 o (.lst [.int (i : Int)]) o = _ := upd_same
      generalize upd H1 o (.lst [.int (i : Int)]) = H2 at s2 e2
      refine ⟨a, o, _, _, rfl, rfl, s2 _ _ e1, e2, ?_, fun ct nct => ?_⟩
      · rw [ni_len]
        show L.length + 1 ≤ sizeLine
        exact Nat.le_trans (show L.length + 1 ≤ 1001 by omega) (by decide)
      have s3 : Same H2 (upd H2 ct (.lst (ni L ++ [.int (i : Int)]))) := same_new nct
      have e3 : upd H2 ct (.lst (ni L ++ [.int (i : Int)])) ct = some (.lst (((L ++ [i]).map fun (i : Nat) => (i : Int)).map V.int)) := by
        rw [upd_same, ← ni_ints, ni_app]
        rfl
      generalize upd H2 ct (.lst (ni L ++ [.int (i : Int)])) = H3 at s3 e3
      refine ⟨ct, _, rfl, SqL.of e3, fun ns2 p2 pm2 up2 np2 => ?_⟩
      obtain ⟨L2, rfl, pL2, hL2⟩ := lot_sorted (c := c) pm2 up2 (List.nodup_append.mpr ⟨hL.up.imp Nat.ne_of_lt, by simp, fun a ha y hy => by rw [List.mem_singleton.mp hy]; exact fun e => z (e ▸ ha)⟩) fun j hj => by
        rcases List.mem_append.mp hj with y | y
        · exact hL.lt j y
        · rw [List.mem_singleton.mp y]
          exact hi
      have eg : L2 = gone L i := by
        refine lot_ext hL2 (gone_lot hL hi) fun j _ => ?_
        rw [gone_mem]
        unfold mem
        by_cases e : j = i
        · subst e
          rw [Th.flip_self]
          simp [z, pL2.mem_iff]
        · rw [Th.flip_ne _ e]
          simp [e, pL2.mem_iff]
      have s4 : Same H3 (upd H3 p2 (.lst ((L2.map fun (i : Nat) => (i : Int)).map V.int))) := same_new np2
      have e4 : upd H3 p2 (.lst ((L2.map fun (i : Nat) => (i : Int)).map V.int)) p2 = some (.lst (ni L2)) := by rw [upd_same, ni_ints]
      generalize upd H3 p2 (.lst ((L2.map fun (i : Nat) => (i : Int)).map V.int)) = H4 at s4 e4
      refine ⟨p2, _, rfl, .inl ⟨SqL.of e4, fun p np => ?_⟩⟩
      have s14 := s1.trans (s2.trans (s3.trans s4))
      refine q _ p (s14.trans (same_new np)) (s14.free np) ?_
      rw [upd_same, eg]
end
end Sh

/-! set(xs) of a list of ints, by the walk of the list -/
namespace Sh
open PySem PySem.Spec PyProof.Rows L2
section
variable {P : Program} {w : World} {A : Around} {E : Value → Shared → Prop} {s : Shared}
/-- a set as it is born -/
abbrev Bare (w : World) : Obj := { cls := .type "set", dict := none, data := .set #[] 0 (.fresh 0 0 (!w.params.followText "set-order")) }
/-- what is left: a set of the ints; all that stood stands -/
def Made (w : World) (s : Shared) (ns : List Int) (t : Shared) : Prop := ∃ (h' : Heap) (tk c : Nat), t = { s with heap := h', toks := tk } ∧ SetR w h' s.heap.objs.size (fun j => decide (j ∈ ns)) c ∧ c ≤ ns.length ∧ ∀ b o, s.heap.get? b = some o → h'.get? b = some o
/-- the ints of the list, one by one, into the set that was born at the end of the heap -/
theorem fill_lst {A3 : Around} {l : Addr} {items : Array Value} {ns : List Int} {R : Result → Shared → Prop} (hh : A3.in1.handled = none) (hl : s.heap.IsList l items) (hit : IntsAre items.toList ns) (hb : ns.length + 1 < scanBound)
    (hR : ∀ t, Made w s ns t → R (.ok (.ret .none)) t) :
    codeAny (model P w) A3 (.builtin "set.update.loop" ⟨[.ref s.heap.objs.size, .ref (s.heap.push (Bare w)).objs.size], []⟩) R { s with heap := (s.heap.push (Bare w)).push { cls := .type "list_iterator", data := .fields #[.ref l, .int 0 0] } } := by
  have n1 : items.size = ns.length := by rw [← Array.length_toList]; exact hit.length
  obtain ⟨ol, e1, e2, e3⟩ := id hl
  have l1 : l < s.heap.objs.size := Heap.lt_size e1
  have z1 : (s.heap.push (Bare w)).objs.size = s.heap.objs.size + 1 := Heap.size_push ..
  have l2 : l ≠ (s.heap.push (Bare w)).objs.size := by rw [z1]; exact Nat.ne_of_lt (Nat.lt_succ_of_lt l1)
  have vals : ∀ (i : Nat) (v : Value), items[i]? = some v → ∃ k t, ns[i]? = some k ∧ v = .int k t := by
    intro i v hv
    have hi : i < ns.length := n1 ▸ (Array.getElem?_eq_some_iff.mp hv).1
    obtain ⟨t, e⟩ := IntsAre.int_at hit i v (by rw [Array.getElem?_toList]; exact hv)
    exact ⟨ns[i], t, List.getElem?_eq_getElem hi, by rw [e, List.getD_eq_getElem?_getD, List.getElem?_eq_getElem hi]; rfl⟩
  have born : ((s.heap.push (Bare w)).push { cls := .type "list_iterator", data := .fields #[.ref l, .int 0 0] }).get? s.heap.objs.size = some (Bare w) := Heap.get?_push_of_some _ (Heap.get?_push_size _ rfl)
  refine set_update_ints ((Walks.list hh _ l l2 items).toS) s.heap.objs.size (by rw [z1]; simp only [List.mem_cons, List.not_mem_nil, or_false, not_or]; exact ⟨Nat.ne_of_lt (Nat.lt_succ_self _), Nat.ne_of_gt l1⟩) ns n1 hb vals (items.size - 0) 0 _ (by omega) (Nat.zero_le _) ⟨⟨_, Heap.get?_push_size _ rfl, rfl, rfl⟩, (hl.push _).push _⟩ ⟨0, Nat.le_refl 0, setR_new_at born⟩ ?_
  rintro ⟨h', g2, d', tk', os'⟩ c' mv hc' hS'
  obtain rfl : g2 = s.gens := mv.gens
  obtain rfl : d' = s.drawn := mv.drawn
  obtain rfl : os' = s.os := mv.os
  refine hR _ ⟨h', tk', c', rfl, hS', by omega, fun b o e => ?_⟩
  have b0 := Heap.lt_size e
  exact mv.heap b o (by rw [z1]; simp only [List.mem_cons, List.not_mem_nil, or_false, not_or]; exact ⟨Nat.ne_of_lt b0, Nat.ne_of_lt (Nat.lt_succ_of_lt b0)⟩) (Heap.get?_push_of_some _ (Heap.get?_push_of_some _ e))
set_option maxHeartbeats 4000000 in
/-- set(xs) -/
theorem call_set_lst {l : Addr} {items : Array Value} {ns : List Int} {Q : Value → Shared → Prop} (hh : A.handled = none) (hl : s.heap.IsList l items) (hit : IntsAre items.toList ns) (hb : ns.length + 1 < scanBound)
    (h : ∀ t, Made w s ns t → Q (.ref s.heap.objs.size) t) : wpAny (model P w) A (call (.type "set") [.ref l]) Q E s := by
  have ⟨_, _, m1⟩ := F.called_set.mro; have m2 := F.called_set.made; have m3 := F.called_set.sub; have m4 := F.called_set.notType; have m5 := F.called_set.canCreate; have m6 := F.typeCall_set_1 (.ref l)
  refine wpAny_call (codeAny_of_tree (show wpAny _ _ (callAny (.type "set") _) _ _ _ from wpAny_pure ⟨Code.quiet_builtin _ (by decide +kernel), codeAny_builtin F.entry_type_call ?_⟩))
  rw [Around.under_plain (weight_type_call_type "set" [.ref l] []) rfl]
  repeat (any_goals (first | assumption | wp_step))
  refine codeAny_mono (code_set_led1 (.ref l) (E := E) (Q₁ := fun x t => x = .ref s.heap.objs.size ∧ t = { s with heap := s.heap.push (Bare w) }) ⟨rfl, rfl⟩) fun r t hr => ?_
  rcases r with e | fl
  · exact hr
  · rcases fl with x | _ | _ | _
    all_goals try exact hr.elim
    obtain ⟨rfl, rfl⟩ := hr
    have born : (s.heap.push (Bare w)).get? s.heap.objs.size = some (Bare w) := Heap.get?_push_size _ rfl
    have ty : Shared.TypeIs { s with heap := s.heap.push (Bare w) } (.ref s.heap.objs.size) "set" := ⟨_, born, rfl⟩
    have i1 := F.called_set.init.lookup; have i2 := F.called_set.init.bind (.ref s.heap.objs.size)
    repeat (any_goals (first | assumption | wp_step))
    refine codeAny_mono (codeAny_call_builtin (R := wants (fun x t => x = .none ∧ Made w s ns t) E) F.called_set.init.plain F.entry_set_init (check_set_init_1 ty ?_)) fun r2 t2 hr2 => ?_
    · obtain ⟨⟨ocls, odict, odata, oslots⟩, e1, e2, nl, e3⟩ := id hl
      simp only at e2 e3
      subst e2 e3
      have l1 : (s.heap.push (Bare w)).IsList l items := hl.push _
      have e4 : (s.heap.push (Bare w)).get? l = some { cls := .type "list", dict := odict, data := .seq items nl, slots := oslots } := Heap.get?_push_of_some _ e1
      have f1 := F.sub_list_set; have f2 := F.sub_list_frozenset; have f3 : (Value.type "list" == Value.type "dict") = false := by decide
      unfold Builtin.«set.__init__» noKeywords Builtin.Frozenset.updateFrom
      generalize eI : pyIter = it; wp_walk; subst eI
      refine wpAny_pyIter_list l1 (wpAny_bind (wpAny_runValue (fill_lst (by simp [hh]) hl hit hb fun t m => ?_)))
      exact wpAny_pure (wpAny_pure ⟨rfl, m⟩)
    · rcases r2 with e | fl
      · exact hr2
      · rcases fl with x | _ | _ | _
        all_goals try exact hr2.elim
        obtain ⟨rfl, m⟩ := hr2
        repeat (any_goals (first | assumption | wp_step))
        exact h _ m
/-- the members, each once -/
theorem SetR.keys {h : Heap} {a : Addr} {ns : List Int} {c : Nat} (R : SetR w h a (fun j => decide (j ∈ ns)) c) : ∃ ks : List Int, ks.Nodup ∧ (∀ k, k ∈ ks ↔ k ∈ ns) ∧ c = ks.length := by
  obtain ⟨o, es, ep, t, _, _, _, _, nd, hm, _, _, hn, _⟩ := R
  refine ⟨es.toList.map keyOf, nd, fun k => ?_, ?_⟩
  · rw [← hm k, decide_eq_true_eq]
  · rw [List.length_map, Array.length_toList, hn]
/-- set(xs) of a list or a tuple of ints, as a thing that stands -/
def rSetA (K : PySem.W.Frag) (w : World) : List V → Hp → VK → Prop := fun xs H Q => ∃ (q : Addr) (ns : List Int), xs = [.ref q] ∧ SqA K H q (ns.map V.int) ∧ ns.length ≤ 1000 ∧ ∀ (a : Addr) (ks : List Int), H a = none → ks.Nodup → (∀ k, k ∈ ks ↔ k ∈ ns) → Q (.ref a) (upd H a (SetO w a (fun j => decide (j ∈ ns)) ks.length))
theorem cr_setA {X : Cx} (hc : X.calm = true) : CallR X (.type "set") (rSetA X.K X.w) := by
  intro pins s σ H xs us Q I r h
  obtain ⟨q, ns, rfl, hq | hq, hl, k⟩ := h
  · rw [Vals.ref1 r]
    obtain ⟨its, rv, pl, hz⟩ := I.list hq
    refine call_set_lst (ns := ns) (I.ok.hd hc) pl.isList (ints_of_vals rv) (by unfold scanBound; omega) ?_
    rintro t ⟨h', tk, c, rfl, R1, hcn, kk⟩
    obtain ⟨ks, k1, k2, rfl⟩ := SetR.keys R1
    exact ⟨.ref _, upd H s.heap.objs.size (SetO X.w s.heap.objs.size _ ks.length), I.laid (t' := tk) kk (Nat.le_refl _) (setO_new R1), rfl, k _ _ (I.hok.fresh (Nat.le_refl _)) k1 k2⟩
  · rw [Vals.ref1 r]
    obtain ⟨its, rv, pt, hz⟩ := I.tuple hq
    refine call_set_tupI ns (I.ok.hd hc) (show s.heap.IsTuple q its.toArray from pt) (ints_of_vals rv) (by unfold scanBound; omega) fun h' tk c R1 hcn kk => ?_
    obtain ⟨ks, k1, k2, rfl⟩ := SetR.keys R1
    exact ⟨.ref _, upd H s.heap.objs.size (SetO X.w s.heap.objs.size _ ks.length), I.laid (t' := tk) kk (Nat.le_refl _) (setO_new R1), rfl, k _ _ (I.hok.fresh (Nat.le_refl _)) k1 k2⟩
theorem cr_setAw {X : Cx} (w : World) (hc : X.calm = true) (hw : X.w = w := by rfl) : CallR X (.type "set") (rSetA X.K w) := hw ▸ cr_setA hc
end
end Sh

namespace Sh
open PySem PySem.Spec PyProof.Rows L2
/-! ### the program: water -/
def spMarkOf : Sp := fun vs H Q _ => ∃ (h t s : Int) (n : Nat), vs = [.int h, .int t, .int (n : Int), .int s] ∧ Q (.int (mk h t n s)) H
def spTopOf : Sp := fun vs H Q _ => ∃ (h t : Int) (n : Nat), vs = [.int h, .int t, .int (n : Int)] ∧ Q (.int (topI h t n)) H
abbrev s_mark_of : Stmt := topS 6
theorem sc_mark_of : FnScope (["here", "there", "many", "step"] : List Str) (["here", "there", "many", "step"] : List Str) (defScope s_mark_of) := ⟨rfl, rfl, rfl, by decide +kernel, rfl, by decide +kernel, by decide +kernel⟩
theorem b_mark_of (kV doc pm : Value) (an : Option Addr) (cdv ct : Value) (us : List Value) (hl : us.length = (["here", "there", "many", "step"] : List Str).length) : bindArgs (PySem.W.fnOf "mark_of" "mark_of" (defArgs s_mark_of) (defBody s_mark_of) (defScope s_mark_of) .none kV doc pm an cdv ct) ⟨us, []⟩ = pure ((["here", "there", "many", "step"] : List Str).zip us) :=
  match us, hl with | [_, _, _, _], _ => rfl
section
variable {P : Program} {w : World} {K : PySem.W.Frag} {mg : Str → Option Value} {base : Heap}
theorem ok_mark_of {k : Nat} (D : Df K mg "mark_of" s_mark_of) (T : Bt mg) : Ok P w K mg base (k + 1) "mark_of" s_mark_of ["here", "there", "many", "step"] spMarkOf := by
  refine D.ok sc_mark_of b_mark_of (fun vs H Q E h => ?_) (fun f cdv A outer s H vs Q E hr h => ?_)
  · obtain ⟨h, t, s, n, rfl, _⟩ := h
    rfl
  · obtain ⟨h, t, s, n, rfl, k⟩ := h
    refine ⟨_, (pss_one (ps_ret (pe_callB (call_min2 rfl) (by rfl) T.min_ (by decide +kernel) (pa_cons (pe_op op_add (pv 0) (pv 3)) (pa_cons (pe_op op_sub (pe_op op_sub (pe_op op_add (pv 1) (pv 2)) pe_int) (pv 3)) pa_nil))))), ?_⟩
    refine ⟨_, rfl, _, rfl, h, s, rfl, rfl, _, rfl, _, rfl, t, _, rfl, rfl, _, 1, rfl, rfl, _, rfl, _, s, rfl, rfl, _, _, rfl, ?_⟩
    rw [← mk_alt] at k
    exact k
end
end Sh

namespace Sh
open PySem PySem.Spec PyProof.Rows L2
/-! ### the program: steps -/
abbrev s_mark_at : Stmt := topS 8
theorem sc_mark_at : FnScope (["sea", "step", "here", "there", "draughts"] : List Str) (["sea", "step"] : List Str) (defScope s_mark_at) := ⟨rfl, rfl, rfl, by decide +kernel, rfl, by decide +kernel, by decide +kernel⟩
theorem b_mark_at (kV doc pm : Value) (an : Option Addr) (cdv ct : Value) (us : List Value) (hl : us.length = (["sea", "step"] : List Str).length) : bindArgs (PySem.W.fnOf "mark_at" "mark_at" (defArgs s_mark_at) (defBody s_mark_at) (defScope s_mark_at) .none kV doc pm an cdv ct) ⟨us, []⟩ = pure ((["sea", "step"] : List Str).zip us) :=
  match us, hl with | [_, _], _ => rfl
section
variable {P : Program} {w : World} {K : PySem.W.Frag} {mg : Str → Option Value} {base : Heap}
theorem ok_mark {k : Nat} (D : Df K mg "mark_at" s_mark_at) (T : Bt mg) (O_mark_of : Ok P w K mg base k "mark_of" s_mark_of ["here", "there", "many", "step"] spMarkOf) : Ok P w K mg base (k + 1) "mark_at" s_mark_at ["sea", "step"] (spMark K) := by
  refine D.ok sc_mark_at b_mark_at (fun vs H Q E h => ?_) (fun f cdv A outer s H vs Q E hr h => ?_)
  · obtain ⟨v, h, t, s, ds, rfl, _⟩ := h
    rfl
  · obtain ⟨v, h, t, s, ds, rfl, ⟨p, q, rfl, hp, hq⟩, k⟩ := h
    refine ⟨_, (pss_cons (ps_asg (pv 0) (pg_seq rfl (pgs_cons (pg_name (i := 2) sc_mark_at.nd rfl (.inl rfl)) (pgs_cons (pg_name (i := 3) sc_mark_at.nd rfl (.inl rfl)) (pgs_cons (pg_name (i := 4) sc_mark_at.nd rfl (.inl rfl)) pgs_nil)))))
      (pss_one (ps_ret (pe_fn O_mark_of (hr.mono (by omega)) (pa_cons (pv 2) (pa_cons (pv 3) (pa_cons (pe_callB call_len_seq (by rfl) T.len_ PySem.boot_len (pa_cons (pv 4) pa_nil)) (pa_cons (pv 1) pa_nil)))))))), ?_⟩
    refine ⟨_, rfl, p, _, rfl, hp, rfl, _, _, rfl, _, _, rfl, _, _, rfl, rfl, ?_⟩
    refine ⟨_, rfl, _, rfl, _, rfl, q, _, rfl, hq, _, rfl, h, t, s, ds.length, ?_, k⟩
    rw [List.length_map]
    rfl
end
end Sh

namespace Sh
open PySem PySem.Spec PyProof.Rows L2
/-! ### comprehensions in short -/
/-- [x for x in xs if test], xs ships: those of whom the test says p -/
theorem lc_filter {σ : L2.St} {H : Hp} {C : Addr} {vs : List Nat} {i : Nat} {tt : TT} {Qd : Hp → Prop} {X : List Nat} {J : It} {G : Hp → Prop} (p : Nat → Bool) (W : Walk J (ni X).length G (YAt (ni X))) (g : ∀ H', Same H H' → G H') (nC : H C = none) (lX : X.length ≤ 1000)
    (hw : ∀ v, wipe ((wipe σ vs).set i (some v)) vs = wipe σ vs) (hv : ∀ v : V, ((wipe σ vs).set i (some v))[i]? = some (some v))
    (ht : ∀ x ∈ X, ∀ H', Same H H' → ∀ Q : Bool → Hp → Prop, Q (p x) H' → tt ((wipe σ vs).set i (some (.int (x : Int)))) H' Q) (hd : ∀ H', Same H H' → H' C = some (.lst (ni (X.filter p))) → Qd H') :
    ∃ W : Nat → Nat → Hp → Prop, (∃ m, W 0 m (upd H C (.lst []))) ∧ ∀ j m H, W j m H →
      (J.stop j H ∧ Qd H) ∨ (J.go j H ∧ ∃ Nx : Hp → Prop, (∀ H', Nx H' → ∃ m', m' < m ∧ W (j + 1) m' H') ∧ ∀ x H', J.yld j H x H' → gName i x (wipe σ vs) H' fun σ2 H2 => wipe σ2 vs = wipe σ vs ∧ tt σ2 H2 fun b H3 =>
        if b = true then tVar i σ2 H3 fun y H4 => ∃ acc, H4 C = some (.lst acc) ∧ acc.length < sizeLine ∧ Nx (upd H4 C (.lst (acc ++ [y]))) else Nx H3) := by
  refine lc_it W (fun j H' => Same H H' ∧ H' C = some (.lst (ni ((X.take j).filter p)))) ⟨same_new nC, upd_same⟩ (fun j H' _ z => g H' z.1) ?_ ?_
  · rintro j x H3 H4 hj ⟨s3, hC⟩ ⟨rfl, gx⟩
    rw [ni_len] at hj
    obtain rfl : .int ((X[j] : Nat) : Int) = x := Option.some.inj ((ni_get hj).symm.trans gx)
    refine ⟨hw _, ht X[j] (List.getElem_mem hj) _ s3 _ ?_⟩
    cases e : p X[j] with
    | true =>
      rw [if_pos rfl]
      refine ⟨_, hv _, _, hC, ?_, same_over s3 nC, ?_⟩
      · rw [ni_len]
        have h1 := List.length_filter_le p (X.take j)
        rw [List.length_take] at h1
        exact small1000 (by omega)
      · rw [upd_same, take_succ_get hj, List.filter_append, ni_app, List.filter_cons_of_pos e]
        rfl
    | false =>
      rw [if_neg Bool.false_ne_true]
      refine ⟨s3, ?_⟩
      rw [hC, take_succ_get hj, List.filter_append, List.filter_cons_of_neg (by rw [e]; exact Bool.false_ne_true)]
      simp
  · rintro H3 ⟨s3, hC⟩
    rw [ni_len, List.take_length] at hC
    exact hd H3 s3 hC
/-- all ships below n, as range walks them -/
theorem walk_rg (n : Nat) : Walk (Itr 0 n) (ni (List.range n)).length (fun _ => True) (YAt (ni (List.range n))) := by
  have e : (ni (List.range n)).length = n := by rw [ni_len, List.length_range]
  rw [e]
  refine ⟨fun _ _ hi _ => hi, fun _ _ => Nat.le_refl _, fun i H x H' hi _ y => ⟨y.1, ?_⟩⟩
  rw [ni_get (by rw [List.length_range]; exact hi), y.2, List.getElem_range, Int.zero_add]
/-- truths, one a ship: all([..]) -/
theorem lc_truths {σ : L2.St} {H : Hp} {C : Addr} {vs : List Nat} {i : Nat} {te : TE} {Qd : Hp → Prop} {X : List Nat} {J : It} {G : Hp → Prop} (W : Walk J (ni X).length G (YAt (ni X))) (g : ∀ H', Same H H' → G H') (nC : H C = none) (lX : X.length ≤ 1000)
    (hw : ∀ v, wipe ((wipe σ vs).set i (some v)) vs = wipe σ vs)
    (ht : ∀ x ∈ X, ∀ H', Same H H' → ∀ Q : V → Hp → Prop, (∀ H2, Same H' H2 → Q (.bl true) H2) → te ((wipe σ vs).set i (some (.int (x : Int)))) H' Q) (hd : ∀ H', Same H H' → H' C = some (.lst ((List.replicate X.length true).map V.bl)) → Qd H') :
    ∃ W : Nat → Nat → Hp → Prop, (∃ m, W 0 m (upd H C (.lst []))) ∧ ∀ j m H, W j m H →
      (J.stop j H ∧ Qd H) ∨ (J.go j H ∧ ∃ Nx : Hp → Prop, (∀ H', Nx H' → ∃ m', m' < m ∧ W (j + 1) m' H') ∧ ∀ x H', J.yld j H x H' → gName i x (wipe σ vs) H' fun σ2 H2 => wipe σ2 vs = wipe σ vs ∧ tYes σ2 H2 fun b H3 =>
        if b = true then te σ2 H3 fun y H4 => ∃ acc, H4 C = some (.lst acc) ∧ acc.length < sizeLine ∧ Nx (upd H4 C (.lst (acc ++ [y]))) else Nx H3) := by
  refine lc_it W (fun j H' => Same H H' ∧ H' C = some (.lst ((List.replicate j true).map V.bl))) ⟨same_new nC, upd_same⟩ (fun j H' _ z => g H' z.1) ?_ ?_
  · rintro j x H3 H4 hj ⟨s3, hC⟩ ⟨rfl, gx⟩
    rw [ni_len] at hj
    obtain rfl : .int ((X[j] : Nat) : Int) = x := Option.some.inj ((ni_get hj).symm.trans gx)
    refine ⟨hw _, tyes (iteT (ht X[j] (List.getElem_mem hj) _ s3 _ fun H5 s5 => ?_))⟩
    refine ⟨_, s5 _ _ hC, ?_, same_over (s3.trans s5) nC, ?_⟩
    · rw [List.length_map, List.length_replicate]
      exact small1000 (by omega)
    · rw [upd_same, List.replicate_succ', List.map_append]
      rfl
  · rintro H3 ⟨s3, hC⟩
    rw [ni_len] at hC
    exact hd H3 s3 hC
theorem all_true (n : Nat) : (List.replicate n true).all id = true := by simp
end Sh

namespace Sh
open PySem PySem.Spec PyProof.Rows L2
/-! ### what is told: seas and standings -/
/-- a standing told: a tuple that is read -/
def LotT (K : PySem.W.Frag) (H : Hp) (v : V) (L : List Nat) : Prop := ∃ p, v = .ref p ∧ SqT K H p (ni L)
theorem LotT.a {K : PySem.W.Frag} {H : Hp} {v : V} {L : List Nat} (h : LotT K H v L) : LotA K H v L := let ⟨p, e, q⟩ := h; ⟨p, e, .inr q⟩
theorem LotT.same {K : PySem.W.Frag} {H H' : Hp} {v : V} {L : List Nat} (h : LotT K H v L) (s : Same H H') : LotT K H' v L := let ⟨p, e, q⟩ := h; ⟨p, e, Same.tup s q⟩
theorem tup_but {K : PySem.W.Frag} {H H' : Hp} {b p : Addr} {n : Nat} {xs : List V} (q : SqT K H p xs) (x : BoxAt H b n) (u : But b H H') : SqT K H' p xs := by
  obtain ⟨ys, hb, _⟩ := x
  rcases q with (q | ⟨o, q⟩) | q
  · exact .inl (.inl (u _ _ (ne_of q hb (by intro z; cases z)) q))
  · exact .inl (.inr ⟨o, u _ _ (ne_of q hb (by intro z; cases z)) q⟩)
  · exact .inr q
theorem LotT.but {K : PySem.W.Frag} {H H' : Hp} {b : Addr} {n : Nat} {v : V} {L : List Nat} (h : LotT K H v L) (x : BoxAt H b n) (u : But b H H') : LotT K H' v L := let ⟨p, e, q⟩ := h; ⟨p, e, tup_but q x u⟩
theorem LotT.dp {K : PySem.W.Frag} {H : Hp} {v : V} {L : List Nat} (h : LotT K H v L) : Dp K H v (.tuple ((L.map fun (i : Nat) => (i : Int)).map .int)) := by
  obtain ⟨p, e, q⟩ := h
  rw [e]
  rw [ni_ints] at q
  exact .tup q (DpAll.ints _)
/-- a sea told -/
def SeaT (K : PySem.W.Frag) (H : Hp) (v : V) (h t : Int) (ds : List Int) : Prop := ∃ p q, v = .ref p ∧ SqT K H p [.int h, .int t, .ref q] ∧ SqT K H q (ds.map V.int)
theorem SeaT.a {K : PySem.W.Frag} {H : Hp} {v : V} {h t : Int} {ds : List Int} (s : SeaT K H v h t ds) : SeaA K H v h t ds := let ⟨p, q, e, a, b⟩ := s; ⟨p, q, e, .inr a, .inr b⟩
theorem SeaT.same {K : PySem.W.Frag} {H H' : Hp} {v : V} {h t : Int} {ds : List Int} (s : SeaT K H v h t ds) (e : Same H H') : SeaT K H' v h t ds := let ⟨p, q, e1, a, b⟩ := s; ⟨p, q, e1, Same.tup e a, Same.tup e b⟩
theorem SeaT.but {K : PySem.W.Frag} {H H' : Hp} {b : Addr} {n : Nat} {v : V} {h t : Int} {ds : List Int} (s : SeaT K H v h t ds) (x : BoxAt H b n) (u : But b H H') : SeaT K H' v h t ds := let ⟨p, q, e1, a, c⟩ := s; ⟨p, q, e1, tup_but a x u, tup_but c x u⟩
theorem SeaT.dp {K : PySem.W.Frag} {H : Hp} {v : V} {h t : Int} {ds : List Int} (s : SeaT K H v h t ds) : Dp K H v (.tuple [.int h, .int t, .tuple (ds.map .int)]) := by
  obtain ⟨p, q, e, a, b⟩ := s
  rw [e]
  exact .tup a (.cons (.int _) (.cons (.int _) (.cons (.tup b (DpAll.ints _)) .nil)))
theorem lv_sea {n : Nat} {h t : Int} {ds : List Int} (l : ds.length ≤ 100000) : Lv (n + 3) (.tuple [.int h, .int t, .tuple (ds.map .int)]) := ⟨by show 3 ≤ 100000; decide, fun e he => by
  rcases List.mem_cons.mp he with z | z
  · rw [z]; exact trivial
  · rcases List.mem_cons.mp z with z | z
    · rw [z]; exact trivial
    · rw [List.mem_singleton.mp z]; exact lv_intsT _ l⟩
theorem lv_lot {n : Nat} {L : List Nat} (l : L.length ≤ 100000) : Lv (n + 2) (.tuple ((L.map fun (i : Nat) => (i : Int)).map .int)) := lv_intsT _ (by rw [List.length_map]; exact l)
end Sh

namespace Th
section
variable {k : Nat} {G : Nat → Nat → Bool} {S U : Nat → Bool}
/-- what lies beyond the ships doesn't matter -/
theorem Reach.ext (h : Reach k G S U) : ∀ {S' U' : Nat → Bool}, (∀ i, i < k → S' i = S i) → (∀ i, i < k → U' i = U i) → (∀ i, ¬ i < k → U' i = S' i) → Reach k G S' U' := by
  induction h with
  | refl =>
    intro S' U' a b c
    have : U' = S' := by
      funext i
      by_cases hi : i < k
      · rw [b i hi, a i hi]
      · exact c i hi
    rw [this]
    exact .refl _
  | @step B W r s ih =>
    intro S' U' a b c
    have r' := ih (S' := S') (U' := fun i => if i < k then B i else S' i) a (fun i hi => by show (if i < k then B i else S' i) = B i; rw [if_pos hi]) (fun i hi => by show (if i < k then B i else S' i) = S' i; rw [if_neg hi])
    refine r'.step ?_
    have cB : cnt k (fun i => if i < k then B i else S' i) = cnt k B := cnt_congr fun i hi => by show (if i < k then B i else S' i) = B i; rw [if_pos hi]
    have fl : ∀ i, i < k → W = flip B i → U' = flip (fun i => if i < k then B i else S' i) i := fun i hi e => by
      funext j
      by_cases hj : j < k
      · rw [b j hj, e]
        by_cases z : j = i
        · subst z
          rw [flip_self, flip_self]
          show _ = !(if j < k then B j else S' j)
          rw [if_pos hj]
        · rw [flip_ne _ z, flip_ne _ z]
          show _ = (if j < k then B j else S' j)
          rw [if_pos hj]
      · rw [c j hj, flip_ne _ (show j ≠ i by omega)]
        show _ = (if j < k then B j else S' j)
        rw [if_neg hj]
    cases s with
    | @up i hi hs hg =>
      rw [fl i hi rfl]
      exact .up hi (by show (if i < k then B i else S' i) = false; rw [if_pos hi]; exact hs) (by rw [cB]; exact hg)
    | @dn i hi hs hg =>
      rw [fl i hi rfl]
      exact .dn hi (by show (if i < k then B i else S' i) = true; rw [if_pos hi]; exact hs) (by rw [cB]; exact hg)
end
end Th
namespace Sh
open PySem PySem.Spec PyProof.Rows L2
theorem away_away {c : Nat} {L : List Nat} (h : Lot c L) : away c (away c L) = L := lot_ext (away_lot c _) h fun i hi => by rw [mem_away hi, mem_away hi, Bool.not_not]
theorem away_len {c : Nat} {L : List Nat} (h : Lot c L) : (away c L).length + L.length = c := by
  rw [← cnt_mem h, ← cnt_mem (away_lot c L), Th.cnt_congr (S := mem (away c L)) (U := Th.co (mem L)) fun i hi => mem_away hi]
  have := Th.cnt_co c (mem L)
  omega
theorem gof_turn {h t : Int} {ds : List Int} {s i : Nat} (hs : s < ds.length) : Th.dual ds.length (Gof h t ds) s i = Gof t h ds s i := by
  unfold Th.dual Gof
  rw [mk_turn hs]
theorem rl_turn {h t : Int} {ds : List Int} {L M : List Nat} (hL : Lot ds.length L) (hM : Lot ds.length M) (r : Rl h t ds L M) : Rl t h ds (away ds.length L) (away ds.length M) := by
  have r2 := (Th.Reach.dual r).congr (G' := Gof t h ds) fun s i hs => gof_turn hs
  exact r2.ext (fun i hi => mem_away hi) (fun i hi => mem_away hi) (fun i hi => by rw [mem_out (away_lot _ _) hi, mem_out (away_lot _ _) hi])
theorem near_away {c : Nat} {L : List Nat} (h : Lot c L) {i : Nat} (hi : i < c) : near (away c L) i = c - 1 - near L i := by
  have l1 := away_len h
  have l2 := h.len
  rw [near_cnt h hi, near_cnt (away_lot c L) hi]
  have m := mem_away (L := L) hi
  unfold mem at m
  by_cases z : i ∈ L
  · have z2 : ¬ i ∈ away c L := fun q => by rw [decide_eq_true q, decide_eq_true z] at m; cases m
    have lp : 0 < L.length := List.length_pos_iff.mpr (List.ne_nil_of_mem z)
    rw [if_pos z, if_neg z2]
    omega
  · have z2 : i ∈ away c L := by
      rw [decide_eq_false z] at m
      exact of_decide_eq_true m
    rw [if_neg z, if_pos z2]
    omega
theorem may_turn {h t : Int} {ds : List Int} {L : List Nat} (hL : Lot ds.length L) {i : Nat} (hi : i < ds.length) : mayB t h ds (away ds.length L) i = mayB h t ds L i := by
  rw [may_G, may_G, near_away hL hi]
  have hn : near L i < ds.length := by
    have l2 := hL.len
    rw [near_cnt hL hi]
    split
    · omega
    · rename_i z
      have : L.length ≠ ds.length := fun e => by
        have l1 := away_len hL
        have e0 : away ds.length L = [] := List.eq_nil_of_length_eq_zero (by omega)
        have m := mem_away (L := L) hi
        unfold mem at m
        rw [e0, decide_eq_false z] at m
        simp at m
      omega
  unfold Gof
  rw [mk_turn (h := h) (t := t) (by omega), show ds.length - 1 - (ds.length - 1 - near L i) = near L i by omega]
theorem most_turn {h t : Int} {ds : List Int} {L : List Nat} {m : Nat} (hL : Lot ds.length L) (a : IsLeast h t ds L m) : IsMost t h ds (away ds.length L) (ds.length - m) := by
  obtain ⟨⟨M, l1, r1, e1⟩, h1⟩ := a
  refine ⟨⟨away ds.length M, away_lot _ _, rl_turn hL l1 r1, ?_⟩, fun M' l2 r2 => ?_⟩
  · have := away_len l1
    omega
  · have r3 := rl_turn (away_lot _ _) l2 r2
    rw [away_away hL] at r3
    have := h1 _ (away_lot _ _) r3
    have := away_len l2
    omega
theorem least_turn {h t : Int} {ds : List Int} {L : List Nat} {m : Nat} (hL : Lot ds.length L) (a : IsMost h t ds L m) : IsLeast t h ds (away ds.length L) (ds.length - m) := by
  obtain ⟨⟨M, l1, r1, e1⟩, h1⟩ := a
  refine ⟨⟨away ds.length M, away_lot _ _, rl_turn hL l1 r1, ?_⟩, fun M' l2 r2 => ?_⟩
  · have := away_len l1
    omega
  · have r3 := rl_turn (away_lot _ _) l2 r2
    rw [away_away hL] at r3
    have := h1 _ (away_lot _ _) r3
    have := away_len l2
    omega
theorem movers_turn {h t : Int} {ds : List Int} {L ms : List Nat} (hL : Lot ds.length L) (a : IsMovers h t ds L ms) : IsMovers t h ds (away ds.length L) ms := by
  refine ⟨a.1, fun i hi => ?_⟩
  rw [a.2 i hi]
  constructor
  · rintro ⟨M, l, r, m⟩
    exact ⟨away ds.length M, away_lot _ _, rl_turn hL l r, by rw [may_turn l hi]; exact m⟩
  · rintro ⟨M, l, r, m⟩
    have r3 := rl_turn (away_lot _ _) l r
    rw [away_away hL] at r3
    exact ⟨away ds.length M, away_lot _ _, r3, by rw [may_turn l hi]; exact m⟩
/-! ### rows of crossings -/
def goes (h t : Int) (ds : List Int) : List Nat → List Nat → Option (List Nat)
  | L, [] => some L
  | L, i :: r => if i < ds.length ∧ mayB h t ds L i = true then goes h t ds (gone L i) r else none
theorem goes_app {h t : Int} {ds : List Int} : ∀ {r : List Nat} {L M : List Nat} (s : List Nat), goes h t ds L r = some M → goes h t ds L (r ++ s) = goes h t ds M s
  | [], L, M, s, e => by
    cases e
    rfl
  | i :: r, L, M, s, e => by
    unfold goes at e
    by_cases c : i < ds.length ∧ mayB h t ds L i = true
    · rw [if_pos c] at e
      show (if i < ds.length ∧ mayB h t ds L i = true then goes h t ds (gone L i) (r ++ s) else none) = _
      rw [if_pos c]
      exact goes_app s e
    · rw [if_neg c] at e
      cases e
theorem goes_rl {h t : Int} {ds : List Int} : ∀ {r : List Nat} {L M : List Nat}, Lot ds.length L → goes h t ds L r = some M → Lot ds.length M ∧ Rl h t ds L M
  | [], L, M, hL, e => by
    cases e
    exact ⟨hL, .refl _⟩
  | i :: r, L, M, hL, e => by
    unfold goes at e
    by_cases c : i < ds.length ∧ mayB h t ds L i = true
    · rw [if_pos c] at e
      obtain ⟨a, b⟩ := goes_rl (gone_lot hL c.1) e
      exact ⟨a, (rl_one hL c.1 c.2).trans b⟩
    · rw [if_neg c] at e
      cases e
theorem gone_gone {c : Nat} {L : List Nat} {i : Nat} (hL : Lot c L) (hi : i < c) : gone (gone L i) i = L := lot_ext (gone_lot (gone_lot hL hi) hi) hL fun j _ => by rw [gone_mem, gone_mem, Th.flip_flip]
theorem goes_back {h t : Int} {ds : List Int} : ∀ {r : List Nat} {L M : List Nat}, Lot ds.length L → goes h t ds L r = some M → goes h t ds M r.reverse = some L
  | [], L, M, hL, e => by
    cases e
    rfl
  | i :: r, L, M, hL, e => by
    unfold goes at e
    by_cases c : i < ds.length ∧ mayB h t ds L i = true
    · rw [if_pos c] at e
      have b := goes_back (gone_lot hL c.1) e
      rw [List.reverse_cons, goes_app [i] b]
      show (if i < ds.length ∧ mayB h t ds (gone L i) i = true then goes h t ds (gone (gone L i) i) [] else none) = _
      have m : mayB h t ds (gone L i) i = true := by rw [may_G, may_back (h := h) (t := t) hL c.1, ← may_G]; exact c.2
      rw [if_pos ⟨c.1, m⟩, gone_gone hL c.1]
      rfl
    · rw [if_neg c] at e
      cases e
theorem SeaT.d {K : PySem.W.Frag} {H : Hp} {v : V} {h t : Int} {ds : List Int} (s : SeaT K H v h t ds) : SeaD K H v h t ds := let ⟨p, q, e, a, b⟩ := s; ⟨p, q, e, .inr a, b⟩
def spOther (K : PySem.W.Frag) : Sp := fun vs H Q _ => ∃ (v l : V) (h t : Int) (ds : List Int) (L : List Nat), vs = [v, l] ∧ SeaA K H v h t ds ∧ LotA K H l L ∧ ds.length ≤ 100 ∧ Lot ds.length L ∧ ∀ (H' : Hp) (r : V), Same H H' → LotT K H' r (away ds.length L) → Q r H'
def spTurned (K : PySem.W.Frag) : Sp := fun vs H Q _ => ∃ (v : V) (h t : Int) (ds : List Int), vs = [v] ∧ SeaA K H v h t ds ∧ ds.length ≤ 100 ∧ ∀ (H' : Hp) (r : V), Same H H' → SeaT K H' r t h ds → Q r H'
/-- a row of ships is handed in: all may go -/
def spCrossedAll (K : PySem.W.Frag) : Sp := fun vs H Q _ => ∃ (v l r : V) (h t : Int) (ds : List Int) (L M row : List Nat), vs = [v, l, r] ∧ SeaA K H v h t ds ∧ LotA K H l L ∧ LotA K H r row ∧ ds.length ≤ 100 ∧ row.length ≤ 1000 ∧ Lot ds.length L ∧ goes h t ds L row = some M ∧
  ∀ (H' : Hp) (z : V), Same H H' → LotT K H' z M → Q z H'
end Sh

namespace Sh
open PySem PySem.Spec PyProof.Rows L2
theorem lets_mem {h t : Int} {ds : List Int} {L : List Nat} {i : Nat} : i ∈ lets h t ds L ds.length ↔ i < ds.length ∧ mayB h t ds L i = true := by
  unfold lets
  rw [List.mem_filter, List.mem_range]
theorem sqT_upd {K : PySem.W.Frag} {H : Hp} {p q : Addr} {xs ys : List V} {o : HO} (e : H p = some (.lst xs)) (h : SqT K H q ys) : SqT K (upd H p o) q ys := by
  rcases h with (h | ⟨u, h⟩) | h
  · exact .inl (.inl (by rw [upd_ne (ne_of h e (by intro z; cases z))]; exact h))
  · exact .inl (.inr ⟨u, by rw [upd_ne (ne_of h e (by intro z; cases z))]; exact h⟩)
  · exact .inr h
end Sh

namespace Sh
open PySem PySem.Spec PyProof.Rows L2
/-! ### drawn crossings -/
def spWalk (K : PySem.W.Frag) : Sp := fun vs H Q _ => ∃ (b : Addr) (n most : Nat) (v l : V) (h t : Int) (ds : List Int) (L : List Nat), vs = [.ref b, v, l, .int (most : Int)] ∧ most ≤ 1000 ∧ BoxAt H b (n + most) ∧ SeaT K H v h t ds ∧ LotT K H l L ∧ ds.length ≤ 60 ∧ Lot ds.length L ∧
  ∀ (H' : Hp) (p pw : Addr) (z : V) (M row : List Nat), But b H H' → BoxAt H' b n → H p = none → H' p = some (.tup [z, .ref pw]) → LotT K H' z M → H pw = none → H' pw = some (.lst (ni row)) → row.length ≤ most → goes h t ds L row = some M → ((z = l ∧ M = L) ∨ ∃ pz, z = .ref pz ∧ H pz = none ∧ H' pz = some (.tup (ni M))) → Q (.ref p) H'
abbrev s__law_walk : Stmt := topS 23
theorem sc__law_walk : FnScope (["_law_box_here", "_law_sea_here", "_law_lot_here", "_law_most", "_law_went", "_law_turn", "_law_some", "_law_whom"] : List Str) (["_law_box_here", "_law_sea_here", "_law_lot_here", "_law_most"] : List Str) (defScope s__law_walk) := ⟨rfl, rfl, rfl, by decide +kernel, rfl, by decide +kernel, by decide +kernel⟩
theorem b__law_walk (kV doc pm : Value) (an : Option Addr) (cdv ct : Value) (us : List Value) (hl : us.length = (["_law_box_here", "_law_sea_here", "_law_lot_here", "_law_most"] : List Str).length) : bindArgs (PySem.W.fnOf "_law_walk" "_law_walk" (defArgs s__law_walk) (defBody s__law_walk) (defScope s__law_walk) .none kV doc pm an cdv ct) ⟨us, []⟩ = pure ((["_law_box_here", "_law_sea_here", "_law_lot_here", "_law_most"] : List Str).zip us) :=
  match us, hl with | [_, _, _, _], _ => rfl
section
variable {P : Program} {w : World} {K : PySem.W.Frag} {mg : Str → Option Value} {base : Heap}
theorem ok_walk {k : Nat} (D : Df K mg "_law_walk" s__law_walk) (T : Bt mg) (O__law_lets : Ok P w K mg base k "_law_lets" s__law_lets ["_law_sea_here", "_law_lot_here"] (spLets K)) (O__law_of : Ok P w K mg base k "_law_of" s__law_of ["_law_box_here", "_law_some"] (spOf K))
    (O__law_gone : Ok P w K mg base k "_law_gone" s__law_gone ["_law_lot_here", "_law_whom"] (spGone K)) : Ok P w K mg base (k + 1) "_law_walk" s__law_walk ["_law_box_here", "_law_sea_here", "_law_lot_here", "_law_most"] (spWalk K) := by
  refine D.ok sc__law_walk b__law_walk (fun vs H Q E h => ?_) (fun f cdv A outer s H vs Q E hr h => ?_)
  · obtain ⟨b, n, most, v, l, h, t, ds, L, rfl, _⟩ := h
    rfl
  · obtain ⟨b, n, most, v, l, h, t, ds, L, rfl, m1, hb, hv, hl, d1, hL, q⟩ := h
    refine ⟨_, (pss_cons (ps_set (i := 4) sc__law_walk.nd rfl (.inl rfl) (pe_lst pa_nil))
      (pss_cons (ps_for PassesOwn.never rfl (pi_range1 (by rfl) T.range_ (pa_cons (pv 3) pa_nil)) (pg_name (i := 5) sc__law_walk.nd rfl (.inl rfl))
        (pss_cons (ps_set (i := 6) sc__law_walk.nd rfl (.inl rfl) (pe_fn O__law_lets (hr.mono (by omega)) (pa_cons (pv 1) (pa_cons (pv 2) pa_nil))))
          (pss_one (ps_if (pt_cmpR (op_neD hr.units) (pv 6) (pe_lst pa_nil) (nomark _))
            (pss_cons (ps_set (i := 7) sc__law_walk.nd rfl (.inl rfl) (pe_fn O__law_of (hr.mono (by omega)) (pa_cons (pv 0) (pa_cons (pv 6) pa_nil))))
              (pss_cons (ps_set (i := 2) sc__law_walk.nd rfl (.inl rfl) (pe_fn O__law_gone (hr.mono (by omega)) (pa_cons (pv 2) (pa_cons (pv 7) pa_nil))))
              (pss_one (ps_expr (pe_bm PySem.F.plainAttrs_list PySem.F.slot_list_append PySem.F.type_list_append mt_append (pv 4) (pa_cons (pv 7) pa_nil))))))
            pss_nil))))
      (pss_one (ps_ret (pe_tup (pa_cons (pv 2) (pa_cons (pv 4) pa_nil))))))), ?_⟩
    refine ⟨Nat.zero_le _, fun pw nw => ?_⟩
    have s1 : Same H (upd H pw (.lst [])) := same_new nw
    have e1 : upd H pw (.lst []) pw = some (.lst (ni [])) := upd_same
    have wb : pw ≠ b := (hb.ne nw).symm
    generalize upd H pw (.lst []) = H1 at s1 e1
    refine ⟨_, rfl, (most : Int), rfl, by omega, by omega, for_range (lo := 0) (n := most) (fun i σ H' => ∃ (z : V) (M row : List Nat) (y5 y6 y7 : Option V), σ = [some (.ref b), some v, some z, some (.int (most : Int)), some (.ref pw), y5, y6, y7] ∧ But b H H' ∧ BoxAt H' b (n + (most - i)) ∧ SeaT K H' v h t ds ∧ LotT K H' z M ∧ Lot ds.length M ∧ H' pw = some (.lst (ni row)) ∧ row.length ≤ i ∧ goes h t ds L row = some M ∧ ((z = l ∧ M = L) ∨ ∃ pz, z = .ref pz ∧ H pz = none ∧ H' pz = some (.tup (ni M))))
      ⟨l, L, [], none, none, none, rfl, Same.but s1, (hb.same s1).mono (by omega), hv.same s1, hl.same s1, hL, e1, Nat.zero_le _, rfl, .inl ⟨rfl, rfl⟩⟩ ?_ ?_⟩
    · rintro i σ Ha hi ⟨z, M, row, y5, y6, y7, rfl, ua, xa, sa, la, hM, ea, lr, go, zz⟩
      have hi2 : i < most := hi
      have lM := hM.len
      refine ⟨_, rfl, _, rfl, v, z, h, t, ds, M, rfl, sa.a, la.a, by omega, by omega, fun Hb ps sb nps eps => ?_⟩
      have ub := ua.trans (Same.but (b := b) sb)
      have xb := xa.same sb
      refine ⟨_, rfl, Nat.zero_le _, fun em nem => ?_⟩
      have sc : Same Hb (upd Hb em (.lst [])) := same_new nem
      have ec : upd Hb em (.lst []) em = some (.lst []) := upd_same
      generalize upd Hb em (.lst []) = Hc at sc ec
      have lls : (lets h t ds M ds.length).length ≤ 60 := by
        have := List.length_filter_le (mayB h t ds M) (List.range ds.length)
        rw [List.length_range] at this
        unfold lets
        omega
      have epc := sc _ _ eps
      rw [ni_ints] at epc
      refine ⟨.list (((lets h t ds M ds.length).map fun (i : Nat) => (i : Int)).map .int), .list [], .lst (SqL.of epc) (DpAll.ints _), .lst (SqL.of ec) .nil, shaped_ints _, rfl, _, rfl, ?_⟩
      rw [eqv_nil]
      have s_ac := sb.trans sc
      have uc := ua.trans (Same.but (b := b) s_ac)
      by_cases e0 : lets h t ds M ds.length = []
      · rw [e0]
        exact iteF ⟨z, M, row, _, _, _, rfl, uc, (xa.same s_ac).mono (by omega), sa.same s_ac, la.same s_ac, hM, s_ac _ _ ea, by omega, go, zz.imp id fun ⟨pz, a1, a2, a3⟩ => ⟨pz, a1, a2, s_ac _ _ a3⟩⟩
      have ie : (!((lets h t ds M ds.length).map fun (i : Nat) => (i : Int)).isEmpty) = true := by
        cases e : lets h t ds M ds.length with
        | nil => exact absurd e e0
        | cons => rfl
      rw [ie]
      refine iteT ?_
      have epsc := sc _ _ eps
      have pb : ps ≠ b := (xa.ne nps).symm
      refine ⟨_, rfl, _, rfl, b, ps, n + (most - (i + 1)), _, rfl, SqA.l epsc, pb, ?_, ?_, (xa.same s_ac).mono (by omega), fun x ys hx hy => ?_⟩
      · rw [ni_len]
        exact List.length_pos_iff.mpr e0
      · rw [ni_len]
        omega
      obtain ⟨g, hg, rfl⟩ : ∃ g ∈ lets h t ds M ds.length, x = .int (g : Int) := by
        obtain ⟨g, hg, e⟩ := List.mem_map.mp hx
        exact ⟨g, hg, e.symm⟩
      obtain ⟨hg1, hg2⟩ := lets_mem.mp hg
      have ud : But b Hc (upd Hc b (.lst ys)) := But.ups
      have xd : BoxAt (upd Hc b (.lst ys)) b (n + (most - (i + 1))) := .put hy
      have sad := sa.same s_ac
      have sd' := sad.but (xa.same s_ac) ud
      have ld' := (la.same s_ac).but (xa.same s_ac) ud
      have ed := ud _ _ wb (s_ac _ _ ea)
      generalize upd Hc b (.lst ys) = Hd at ud xd sd' ld' ed
      replace ud := uc.trans ud
      refine ⟨_, rfl, _, rfl, z, M, ds.length, g, rfl, ld'.a, hM, by omega, hg1, fun He pz se nz ez => ?_⟩
      refine ⟨_, rfl, .inl ⟨rfl, _, SqL.of (se _ _ ed)⟩, _, rfl, pw, _, _, rfl, rfl, se _ _ ed, ?_, ?_⟩
      · rw [ni_len]
        exact small1000 (by omega)
      have ne : pz ≠ pw := fun e => by rw [e, ed] at nz; cases nz
      have nw0 : H pw = none := nw
      have zb : pz ≠ b := (xd.ne nz).symm
      have gM := gone_lot hM hg1
      have nze : H pz = none := ud.free zb nz
      have ezw : upd He pw (.lst (ni row ++ [V.int (g : Int)])) pz = some (.tup (ni (gone M g))) := by
        rw [upd_ne ne]
        exact ez
      have vne : ∀ {q : Addr} {xs : List V}, He q = some (.tup xs) → q ≠ pw := fun e => ne_of e (se _ _ ed) (by intro w; cases w)
      refine ⟨.ref pz, gone M g, row ++ [g], _, _, _, rfl, (ud.trans (Same.but se)).put nw0, (xd.same se).at wb.symm, ?_, ⟨pz, rfl, SqT.of ezw⟩, gM, ?_, ?_, ?_, .inr ⟨pz, rfl, nze, ezw⟩⟩
      · obtain ⟨p1, q1, e3, e4, e5⟩ := sd'.same se
        refine ⟨p1, q1, e3, ?_, ?_⟩
        · exact sqT_upd (se _ _ ed) e4
        · exact sqT_upd (se _ _ ed) e5
      · rw [upd_same, ni_app]
        rfl
      · rw [List.length_append, List.length_singleton]
        omega
      · rw [goes_app [g] go]
        show (if g < ds.length ∧ mayB h t ds M g = true then goes h t ds (gone M g) [] else none) = _
        rw [if_pos ⟨hg1, hg2⟩]
        rfl
    · rintro σ Hz ⟨z, M, row, y5, y6, y7, rfl, uz, xz, sz, lz, hM, ez, lr, go, zz⟩
      refine ⟨_, rfl, _, rfl, (by show 2 ≤ sizeLine; decide), fun p np => ?_⟩
      have sp : Same Hz (upd Hz p (.tup [z, .ref pw])) := same_new np
      have pb : p ≠ b := (xz.ne np).symm
      exact q _ p pw z M row (uz.trans (Same.but sp)) ((xz.same sp).mono (by omega)) (uz.free pb np) upd_same (lz.same sp) nw (sp _ _ ez) lr go (zz.imp id fun ⟨pz, a1, a2, a3⟩ => ⟨pz, a1, a2, sp _ _ a3⟩)
end
end Sh

namespace Sh
open PySem PySem.Spec PyProof.Rows L2
/-! ### texts of data: no longer than so much -/
structure Fit (n m : Nat) (d : PyData) : Prop where
  len : d.shown.length ≤ n
  sh : d.showable = true
  lay : d.canLay0 = true
  dp : d.depth ≤ m
structure FitAll (n m : Nat) (ds : List PyData) : Prop where
  len : ((PyData.shownAll ds).map (·.length)).sum + 2 * ds.length ≤ n
  sh : PyData.showableAll ds = true
  lay : PyData.canLayAll0 ds = true
  dp : PyData.depthAll ds ≤ m
theorem shownAll_len : ∀ ds : List PyData, (PyData.shownAll ds).length = ds.length
  | [] => rfl
  | d :: ds => by
    show (PyData.shown d :: PyData.shownAll ds).length = _
    rw [List.length_cons, List.length_cons, shownAll_len ds]
theorem Fit.mono {n m n' m' : Nat} {d : PyData} (f : Fit n m d) (h : n ≤ n') (h' : m ≤ m') : Fit n' m' d := ⟨Nat.le_trans f.len h, f.sh, f.lay, Nat.le_trans f.dp h'⟩
theorem FitAll.mono {n m n' m' : Nat} {ds : List PyData} (f : FitAll n m ds) (h : n ≤ n') (h' : m ≤ m') : FitAll n' m' ds := ⟨Nat.le_trans f.len h, f.sh, f.lay, Nat.le_trans f.dp h'⟩
theorem fit_int {i : Int} (h : i.natAbs < 10 ^ 14) : Fit 15 0 (.int i) := by
  refine ⟨?_, ?_, rfl, Nat.le_refl 0⟩
  · show (Str.ofString (toString i)).length ≤ 15
    rw [PySem.ofString_length]
    exact int_text_length_le10 (k := 14) (by decide) h
  · show decide (i.natAbs.log2 < 1920) = true
    refine decide_eq_true ?_
    by_cases z : i.natAbs = 0
    · rw [z]
      decide
    · exact (Nat.log2_lt z).mpr (Nat.lt_trans h (by decide +kernel))
theorem FitAll.nil (m : Nat) : FitAll 0 m [] := ⟨Nat.le_refl 0, rfl, rfl, Nat.zero_le m⟩
theorem FitAll.cons {a b m : Nat} {d : PyData} {ds : List PyData} (f : Fit a m d) (g : FitAll b m ds) : FitAll (a + 2 + b) m (d :: ds) := by
  refine ⟨?_, ?_, ?_, ?_⟩
  · show ((PyData.shown d :: PyData.shownAll ds).map (·.length)).sum + 2 * (d :: ds).length ≤ _
    rw [List.map_cons, List.sum_cons, List.length_cons]
    have := f.len
    have := g.len
    omega
  · show (PyData.showable d && PyData.showableAll ds) = true
    rw [f.sh, g.sh]
    rfl
  · show (PyData.canLay0 d && PyData.canLayAll0 ds) = true
    rw [f.lay, g.lay]
    rfl
  · show max (PyData.depth d) (PyData.depthAll ds) ≤ m
    exact Nat.max_le.mpr ⟨f.dp, g.dp⟩
theorem FitAll.ints : ∀ {ns : List Int}, (∀ i ∈ ns, i.natAbs < 10 ^ 14) → FitAll (17 * ns.length) 0 (ns.map .int)
  | [], _ => FitAll.nil 0
  | i :: ns, h => by
    have g := FitAll.ints (ns := ns) fun j hj => h j (List.mem_cons_of_mem _ hj)
    have f := fit_int (h i List.mem_cons_self)
    refine (FitAll.cons f g).mono ?_ (Nat.le_refl 0)
    rw [List.length_cons]
    omega
theorem Fit.list {n m : Nat} {ds : List PyData} (f : FitAll n m ds) : Fit (n + 3) (m + 1) (.list ds) := by
  refine ⟨?_, f.sh, f.lay, ?_⟩
  · show (listText (PyData.shownAll ds)).length ≤ _
    have a := listText_len_le (PyData.shownAll ds)
    rw [shownAll_len] at a
    have := f.len
    omega
  · show PyData.depthAll ds + 1 ≤ m + 1
    exact Nat.succ_le_succ f.dp
theorem Fit.tup {n m : Nat} {ds : List PyData} (f : FitAll n m ds) : Fit (n + 3) (m + 1) (.tuple ds) := by
  refine ⟨?_, f.sh, f.lay, ?_⟩
  · show (tupleText (PyData.shownAll ds)).length ≤ _
    have a := tupleText_len_le (PyData.shownAll ds)
    rw [shownAll_len] at a
    have := f.len
    omega
  · show PyData.depthAll ds + 1 ≤ m + 1
    exact Nat.succ_le_succ f.dp
theorem Fit.shaped {n m : Nat} {d : PyData} (f : Fit n m d) (h : m ≤ 64) : SeqAt.shaped d = true := by
  unfold SeqAt.shaped
  rw [f.lay, decide_eq_true (Nat.le_trans f.dp h)]
  rfl
theorem Fit.sz {n m : Nat} {d : PyData} (f : Fit n m d) (h : n ≤ 1000000) : d.shown.length ≤ sizeLine := by
  rw [sizeLine_eq]
  have := f.len
  omega
/-- a sea, a standing -/
theorem fit_lot {L : List Nat} (c : L.length ≤ 100) (h : ∀ i ∈ L, i < 100000) : FitAll 1700 0 ((L.map fun (i : Nat) => (i : Int)).map .int) := by
  refine (FitAll.ints fun i hi => ?_).mono (by rw [List.length_map]; omega) (Nat.le_refl 0)
  obtain ⟨j, hj, rfl⟩ := List.mem_map.mp hi
  have := h j hj
  show ((j : Int)).natAbs < 100000000000000
  omega
theorem fit_sea {h t : Int} {ds : List Int} {m : Nat} (so : SeaOk m h t ds) (c : m ≤ 100) : Fit 2000 2 (.tuple [.int h, .int t, .tuple (ds.map .int)]) := by
  have f : FitAll 1700 0 (ds.map .int) := by
    refine (FitAll.ints fun i hi => ?_).mono (by have := so.l1; omega) (Nat.le_refl 0)
    have := so.d0 i hi
    show i.natAbs < 100000000000000
    omega
  have fh : h.natAbs < 10 ^ 14 := by
    have := so.h0
    have := so.h1
    show h.natAbs < 100000000000000
    omega
  have ft : t.natAbs < 10 ^ 14 := by
    have := so.t0
    have := so.t1
    show t.natAbs < 100000000000000
    omega
  exact (Fit.tup (.cons ((fit_int fh).mono (Nat.le_refl _) (Nat.zero_le 1)) (.cons ((fit_int ft).mono (Nat.le_refl _) (Nat.zero_le 1)) (.cons (Fit.tup f) (.nil 1))))).mono (by omega) (Nat.le_refl 2)
end Sh

namespace Sh
open PySem PySem.Spec PyProof.Rows L2
/-! ### the program: crossing -/
theorem near_lt {c : Nat} {L : List Nat} (h : Lot c L) {i : Nat} (hi : i < c) : near L i < c := by
  have hm := mates_here h (i := i)
  by_cases z : i ∈ L
  · have := hm z
    rw [near_cnt h hi, if_pos z]
    have := h.len
    have : 0 < L.length := List.length_pos_iff.mpr (List.ne_nil_of_mem z)
    omega
  · have := mates_there h hi z
    omega
def spMayGo (K : PySem.W.Frag) : Sp := fun vs H Q _ => ∃ (v l : V) (h t : Int) (ds : List Int) (L : List Nat) (i : Nat), vs = [v, l, .int (i : Int)] ∧ SeaA K H v h t ds ∧ LotA K H l L ∧ Lot ds.length L ∧ i < ds.length ∧ Q (.bl (mayB h t ds L i)) H
abbrev s_may_go : Stmt := topS 10
theorem sc_may_go : FnScope (["sea", "standing", "ship", "draughts", "step"] : List Str) (["sea", "standing", "ship"] : List Str) (defScope s_may_go) := ⟨rfl, rfl, rfl, by decide +kernel, rfl, by decide +kernel, by decide +kernel⟩
theorem b_may_go (kV doc pm : Value) (an : Option Addr) (cdv ct : Value) (us : List Value) (hl : us.length = (["sea", "standing", "ship"] : List Str).length) : bindArgs (PySem.W.fnOf "may_go" "may_go" (defArgs s_may_go) (defBody s_may_go) (defScope s_may_go) .none kV doc pm an cdv ct) ⟨us, []⟩ = pure ((["sea", "standing", "ship"] : List Str).zip us) :=
  match us, hl with | [_, _, _], _ => rfl
section
variable {P : Program} {w : World} {K : PySem.W.Frag} {mg : Str → Option Value} {base : Heap}
theorem ok_may_go {k : Nat} (D : Df K mg "may_go" s_may_go) (T : Bt mg) (O_mark_at : Ok P w K mg base k "mark_at" s_mark_at ["sea", "step"] (spMark K)) : Ok P w K mg base (k + 1) "may_go" s_may_go ["sea", "standing", "ship"] (spMayGo K) := by
  refine D.ok sc_may_go b_may_go (fun vs H Q E h => ?_) (fun f cdv A outer s H vs Q E hr h => ?_)
  · obtain ⟨v, l, h, t, ds, L, i, rfl, _⟩ := h
    rfl
  · obtain ⟨v, l, h, t, ds, L, i, rfl, hv, ⟨pl, rfl, hl⟩, hL, hi, k⟩ := h
    obtain ⟨p, q, rfl, hp, hq⟩ := id hv
    have ed : ds.getD i 0 = ds[i] := by simp [hi]
    have hn := near_cnt hL hi
    rw [may_mk, ed] at k
    refine ⟨_, (pss_cons (ps_set (i := 3) sc_may_go.nd rfl (.inl rfl) (pe_ix ix_lt (pv 0) pe_int (fun _ _ => rfl)))
      (pss_cons (ps_set (i := 4) sc_may_go.nd rfl (.inl rfl) (pe_ifExp (pt_cmpR op_in_seq (pv 2) (pv 1) (by rfl)) (pe_op op_sub (pe_callB call_len_seq (by rfl) T.len_ PySem.boot_len (pa_cons (pv 1) pa_nil)) pe_int) (pe_callB call_len_seq (by rfl) T.len_ PySem.boot_len (pa_cons (pv 1) pa_nil))))
      (pss_one (ps_ret (pe_cmpR op_le (pe_ix ix_lt (pv 3) (pv 2) (fun _ _ => rfl)) (pe_fn O_mark_at (hr.mono (by omega)) (pa_cons (pv 0) (pa_cons (pv 4) pa_nil))) (nomark _)))))), ?_⟩
    refine ⟨_, rfl, p, _, 2, .ref q, rfl, rfl, hp, rfl, ?_⟩
    refine ⟨_, rfl, _, rfl, pl, _, rfl, hl, rfl, ni_flat L, _, rfl, ?_⟩
    rw [if_neg Bool.false_ne_true, in_ni]
    by_cases z : i ∈ L
    · rw [decide_eq_true z]
      refine iteT ?_
      have l1 : 0 < L.length := List.length_pos_iff.mpr (List.ne_nil_of_mem z)
      refine ⟨_, rfl, pl, _, rfl, hl, _, 1, rfl, rfl, ?_⟩
      rw [show (near L i : Int) = ((ni L).length : Int) - 1 by rw [hn, if_pos z, ni_len]; omega] at k
      refine ⟨_, rfl, _, rfl, q, _, _, .int ds[i], rfl, rfl, hq, at_nat rfl (by simp [hi]), ?_⟩
      exact ⟨_, rfl, _, rfl, .ref p, h, t, _, ds, rfl, hv, _, _, rfl, rfl, k⟩
    · rw [decide_eq_false z]
      refine iteF ?_
      refine ⟨_, rfl, pl, _, rfl, hl, ?_⟩
      rw [show (near L i : Int) = ((ni L).length : Int) by rw [hn, if_neg z, ni_len]] at k
      refine ⟨_, rfl, _, rfl, q, _, _, .int ds[i], rfl, rfl, hq, at_nat rfl (by simp [hi]), ?_⟩
      exact ⟨_, rfl, _, rfl, .ref p, h, t, _, ds, rfl, hv, _, _, rfl, rfl, k⟩
end
end Sh

namespace Sh
open PySem PySem.Spec PyProof.Rows L2
/-! ### the program: crossed, where one may go -/
def spCrossed (K : PySem.W.Frag) : Sp := fun vs H Q _ => ∃ (v l : V) (h t : Int) (ds : List Int) (L : List Nat) (i : Nat), vs = [v, l, .int (i : Int)] ∧ SeaA K H v h t ds ∧ LotA K H l L ∧ ds.length ≤ 100 ∧ Lot ds.length L ∧ i < ds.length ∧ mayB h t ds L i = true ∧ ∀ (H' : Hp) (z : V), Same H H' → LotT K H' z (gone L i) → Q z H'
abbrev s_crossed : Stmt := topS 11
theorem sc_crossed : FnScope (["sea", "standing", "ship", "mate"] : List Str) (["sea", "standing", "ship"] : List Str) (defScope s_crossed) := ⟨rfl, rfl, rfl, by decide +kernel, rfl, by decide +kernel, by decide +kernel⟩
theorem b_crossed (kV doc pm : Value) (an : Option Addr) (cdv ct : Value) (us : List Value) (hl : us.length = (["sea", "standing", "ship"] : List Str).length) : bindArgs (PySem.W.fnOf "crossed" "crossed" (defArgs s_crossed) (defBody s_crossed) (defScope s_crossed) .none kV doc pm an cdv ct) ⟨us, []⟩ = pure ((["sea", "standing", "ship"] : List Str).zip us) :=
  match us, hl with | [_, _, _], _ => rfl
abbrev s_crossed_all : Stmt := topS 12
theorem sc_crossed_all : FnScope (["sea", "standing", "row", "reached", "ship"] : List Str) (["sea", "standing", "row"] : List Str) (defScope s_crossed_all) := ⟨rfl, rfl, rfl, by decide +kernel, rfl, by decide +kernel, by decide +kernel⟩
theorem b_crossed_all (kV doc pm : Value) (an : Option Addr) (cdv ct : Value) (us : List Value) (hl : us.length = (["sea", "standing", "row"] : List Str).length) : bindArgs (PySem.W.fnOf "crossed_all" "crossed_all" (defArgs s_crossed_all) (defBody s_crossed_all) (defScope s_crossed_all) .none kV doc pm an cdv ct) ⟨us, []⟩ = pure ((["sea", "standing", "row"] : List Str).zip us) :=
  match us, hl with | [_, _, _], _ => rfl
section
variable {P : Program} {w : World} {K : PySem.W.Frag} {mg : Str → Option Value} {base : Heap}
theorem ok_crossed {k : Nat} (D : Df K mg "crossed" s_crossed) (T : Bt mg) (O_may_go : Ok P w K mg base k "may_go" s_may_go ["sea", "standing", "ship"] (spMayGo K)) : Ok P w K mg base (k + 1) "crossed" s_crossed ["sea", "standing", "ship"] (spCrossed K) := by
  refine D.ok sc_crossed b_crossed (fun vs H Q E h => ?_) (fun f cdv A outer s H vs Q E hr h => ?_)
  · obtain ⟨v, l, h, t, ds, L, i, rfl, _⟩ := h
    rfl
  · obtain ⟨v, l, h, t, ds, L, i, rfl, hv, hl0, d1, hL, hi, hm, q⟩ := h
    have ll := hL.len
    refine ⟨_, (pss_cons (ps_if (pt_not (pt_val (pe_fn O_may_go (hr.mono (by omega)) (pa_cons (pv 0) (pa_cons (pv 1) (pa_cons (pv 2) pa_nil))))))
        (pss_one ps_never)
        pss_nil)
      (pss_cons (ps_if (pt_cmpR op_in_seq (pv 2) (pv 1) (by rfl))
        (pss_one (ps_ret (pe_callTy call_tuple_of (by rfl) T.tuple_ (by decide +kernel) (pa_cons (pe_lc (own := [("mate", 3)]) (g := (gName 3)) (by rfl) sc_crossed.nd (pi_seq (pv 1)) (blkOk_by (own := [("mate", 3)]) (N := (["sea", "standing", "ship", "mate"] : List Str)) (sc := defScope s_crossed) (by decide +kernel)) (fun _ _ _ _ _ => (pg_name (i := 3) sc_crossed.nd rfl (.inl rfl))) (fun _ _ _ _ _ => (pts_one (pt_cmpR op_ne (pv 3) (pv 2) (nomark _)))) (fun _ _ _ _ _ => (pv 3))) pa_nil))))
        pss_nil)
      (pss_one (ps_ret (pe_callTy call_tuple_of (by rfl) T.tuple_ (by decide +kernel) (pa_cons (pe_callB cr_sortedI (by rfl) T.sorted_ (by decide +kernel) (pa_cons (pe_lst (StX.pa_star (pv 1) (pa_cons (pv 2) pa_nil))) pa_nil)) pa_nil)))))), ?_⟩
    refine ⟨_, rfl, _, rfl, _, rfl, v, l, h, t, ds, L, i, rfl, hv, hl0, hL, hi, _, rfl, ?_⟩
    rw [hm]
    refine iteF ?_
    obtain ⟨pl, rfl, hl⟩ := hl0
    refine ⟨_, rfl, _, rfl, pl, _, rfl, hl, rfl, ni_flat L, _, rfl, ?_⟩
    rw [if_neg Bool.false_ne_true, in_ni]
    by_cases z : i ∈ L
    · rw [decide_eq_true z]
      refine iteT ?_
      refine ⟨_, rfl, pl, _, H, rfl, hl, Kp.refl _ _, fun J hJ C nC => ?_⟩
      obtain ⟨G, g, W⟩ := hJ.walk
      refine lc_it W (fun j H' => Same H H' ∧ H' C = some (.lst (ni ((L.take j).filter fun m => !decide (m = i))))) ⟨same_new nC, upd_same⟩ (fun j H' _ z => g H' (.ofS z.1)) ?_ ?_
      · rintro j x H3 H4 hj ⟨s3, hC⟩ ⟨rfl, gx⟩
        rw [ni_len] at hj
        obtain rfl : .int ((L[j] : Nat) : Int) = x := Option.some.inj ((ni_get hj).symm.trans gx)
        refine ⟨rfl, ?_⟩
        refine ⟨_, rfl, _, rfl, rfl, _, rfl, ite2 (fun c => ?_) (fun c => ?_)⟩
        · have c0 : ¬ L[j] = i := fun e => by
            rw [e] at c
            simp at c
          refine ⟨_, rfl, _, hC, ?_, same_over s3 nC, ?_⟩
          · rw [ni_len]
            have h1 := List.length_filter_le (fun m => !decide (m = i)) (L.take j)
            rw [List.length_take] at h1
            exact small1000 (by omega)
          · rw [upd_same, take_succ_get hj, List.filter_append, ni_app, List.filter_cons_of_pos (by simpa using c0)]
            rfl
        · have c0 : L[j] = i := by
            by_cases e : L[j] = i
            · exact e
            · exfalso
              refine c ?_
              have z2 : ¬ V.int ((L[j] : Nat) : Int) = V.int (i : Int) := fun w => e (by have := V.int.inj w; omega)
              rw [decide_eq_false z2]
              rfl
          refine ⟨s3, ?_⟩
          rw [hC, take_succ_get hj, List.filter_append, List.filter_cons_of_neg (by simpa using c0)]
          simp
      rintro H3 ⟨s3, hC⟩
      rw [ni_len, List.take_length] at hC
      refine ⟨C, _, rfl, .inl ⟨SqL.of hC, fun p np => ?_⟩⟩
      refine q _ _ (s3.trans (same_new np)) ⟨p, rfl, SqT.of ?_⟩
      rw [upd_same, gone, if_pos z]
    · rw [decide_eq_false z]
      refine iteF ?_
      refine ⟨_, rfl, pl, _, rfl, hl.symm, _, rfl, ?_, fun ct nct => ?_⟩
      · rw [List.length_append, ni_len]
        show L.length + 1 ≤ sizeLine
        exact Nat.le_trans (show L.length + 1 ≤ 1001 by omega) (by decide)
      have s3 : Same H (upd H ct (.lst (ni L ++ [.int (i : Int)]))) := same_new nct
      have e3 : upd H ct (.lst (ni L ++ [.int (i : Int)])) ct = some (.lst (((L ++ [i]).map fun (i : Nat) => (i : Int)).map V.int)) := by
        rw [upd_same, ← ni_ints, ni_app]
        rfl
      generalize upd H ct (.lst (ni L ++ [.int (i : Int)])) = H3 at s3 e3
      refine ⟨ct, _, rfl, SqL.of e3, fun ns2 p2 pm2 up2 np2 => ?_⟩
      obtain ⟨L2, rfl, pL2, hL2⟩ := lot_sorted (c := ds.length) pm2 up2 (List.nodup_append.mpr ⟨hL.up.imp Nat.ne_of_lt, by simp, fun a ha y hy => by rw [List.mem_singleton.mp hy]; exact fun e => z (e ▸ ha)⟩) fun j hj => by
        rcases List.mem_append.mp hj with y | y
        · exact hL.lt j y
        · rw [List.mem_singleton.mp y]
          exact hi
      have eg : L2 = gone L i := by
        refine lot_ext hL2 (gone_lot hL hi) fun j _ => ?_
        rw [gone_mem]
        unfold mem
        by_cases e : j = i
        · subst e
          rw [Th.flip_self]
          simp [z, pL2.mem_iff]
        · rw [Th.flip_ne _ e]
          simp [e, pL2.mem_iff]
      have s4 : Same H3 (upd H3 p2 (.lst ((L2.map fun (i : Nat) => (i : Int)).map V.int))) := same_new np2
      have e4 : upd H3 p2 (.lst ((L2.map fun (i : Nat) => (i : Int)).map V.int)) p2 = some (.lst (ni L2)) := by rw [upd_same, ni_ints]
      generalize upd H3 p2 (.lst ((L2.map fun (i : Nat) => (i : Int)).map V.int)) = H4 at s4 e4
      refine ⟨p2, _, rfl, .inl ⟨SqL.of e4, fun p np => ?_⟩⟩
      have s14 := s3.trans s4
      refine q _ _ (s14.trans (same_new np)) ⟨p, rfl, SqT.of ?_⟩
      rw [upd_same, eg]
theorem ok_crossed_all {k : Nat} (D : Df K mg "crossed_all" s_crossed_all) (T : Bt mg) (O_crossed : Ok P w K mg base k "crossed" s_crossed ["sea", "standing", "ship"] (spCrossed K)) : Ok P w K mg base (k + 1) "crossed_all" s_crossed_all ["sea", "standing", "row"] (spCrossedAll K) := by
  refine D.ok sc_crossed_all b_crossed_all (fun vs H Q E h => ?_) (fun f cdv A outer s H vs Q E hr h => ?_)
  · obtain ⟨v, l, r, h, t, ds, L, M, row, rfl, _⟩ := h
    rfl
  · obtain ⟨v, l, r, h, t, ds, L, M, row, rfl, hv, ⟨pl, rfl, hl⟩, ⟨pr, rfl, hr'⟩, d1, r1, hL, hg, q⟩ := h
    refine ⟨_, (pss_cons (ps_set (i := 3) sc_crossed_all.nd rfl (.inl rfl) (pe_callTy call_tuple_of (by rfl) T.tuple_ (by decide +kernel) (pa_cons (pv 1) pa_nil)))
      (pss_cons (ps_for PassesOwn.never rfl (pi_seq (pv 2)) (pg_name (i := 4) sc_crossed_all.nd rfl (.inl rfl))
        (pss_one (ps_set (i := 3) sc_crossed_all.nd rfl (.inl rfl) (pe_fn O_crossed (hr.mono (by omega)) (pa_cons (pv 0) (pa_cons (pv 3) (pa_cons (pv 4) pa_nil)))))))
      (pss_one (ps_ret (pv 3))))), ?_⟩
    rcases hl with hl | hl
    · refine ⟨_, rfl, pl, ni L, rfl, .inl ⟨hl, fun a na => ?_⟩⟩
      have s1 : Same H (upd H a (.tup (ni L))) := same_new na
      have hz : LotT K (upd H a (.tup (ni L))) (.ref a) L := ⟨a, rfl, SqT.of upd_same⟩
      generalize upd H a (.tup (ni L)) = H1 at s1 hz
      refine ⟨_, rfl, pr, _, H1, rfl, Same.sqA s1 hr', Kp.refl _ _, fun J hJ => ?_⟩
      obtain ⟨G, g, W⟩ := hJ.walk
      refine for_it W (fun i σ H' => ∃ (z : V) (y : Option V) (X : List Nat), σ = [some v, some (.ref pl), some (.ref pr), some z, y] ∧ Same H1 H' ∧ LotT K H' z X ∧ Lot ds.length X ∧ goes h t ds X (row.drop i) = some M) ⟨_, none, L, rfl, Same.refl _, hz, hL, hg⟩ (fun i σ H' _ ⟨_, _, _, _, z, _⟩ => g H' (.ofS z)) ?_ ?_
      · rintro i x σ H2 H3 hi ⟨z, y, X, rfl, s2, hX, lX, gX⟩ ⟨rfl, gx⟩
        rw [ni_len] at hi
        obtain rfl : .int ((row[i] : Nat) : Int) = x := Option.some.inj ((ni_get hi).symm.trans gx)
        rw [List.drop_eq_getElem_cons hi] at gX
        unfold goes at gX
        by_cases c : row[i] < ds.length ∧ mayB h t ds X row[i] = true
        · rw [if_pos c] at gX
          have s12 := s1.trans s2
          exact ⟨_, rfl, _, rfl, _, rfl, v, z, h, t, ds, X, row[i], rfl, hv.same s12, hX.a, d1, lX, c.1, c.2, fun H4 z' s4 hz' => ⟨z', _, _, rfl, s2.trans s4, hz', gone_lot lX c.1, gX⟩⟩
        · rw [if_neg c] at gX
          cases gX
      · rintro σ H2 ⟨z, y, X, rfl, s2, hX, lX, gX⟩
        rw [ni_len, List.drop_length] at gX
        have e : X = M := Option.some.inj gX
        subst e
        exact ⟨_, rfl, q H2 z (s1.trans s2) hX⟩
    · refine ⟨_, rfl, pl, ni L, rfl, .inr ⟨hl, ?_⟩⟩
      have s1 : Same H H := Same.refl H
      have hz : LotT K H (.ref pl) L := ⟨pl, rfl, hl⟩
      refine ⟨_, rfl, pr, _, H, rfl, Same.sqA s1 hr', Kp.refl _ _, fun J hJ => ?_⟩
      obtain ⟨G, g, W⟩ := hJ.walk
      refine for_it W (fun i σ H' => ∃ (z : V) (y : Option V) (X : List Nat), σ = [some v, some (.ref pl), some (.ref pr), some z, y] ∧ Same H H' ∧ LotT K H' z X ∧ Lot ds.length X ∧ goes h t ds X (row.drop i) = some M) ⟨_, none, L, rfl, Same.refl _, hz, hL, hg⟩ (fun i σ H' _ ⟨_, _, _, _, z, _⟩ => g H' (.ofS z)) ?_ ?_
      · rintro i x σ H2 H3 hi ⟨z, y, X, rfl, s2, hX, lX, gX⟩ ⟨rfl, gx⟩
        rw [ni_len] at hi
        obtain rfl : .int ((row[i] : Nat) : Int) = x := Option.some.inj ((ni_get hi).symm.trans gx)
        rw [List.drop_eq_getElem_cons hi] at gX
        unfold goes at gX
        by_cases c : row[i] < ds.length ∧ mayB h t ds X row[i] = true
        · rw [if_pos c] at gX
          have s12 := s1.trans s2
          exact ⟨_, rfl, _, rfl, _, rfl, v, z, h, t, ds, X, row[i], rfl, hv.same s12, hX.a, d1, lX, c.1, c.2, fun H4 z' s4 hz' => ⟨z', _, _, rfl, s2.trans s4, hz', gone_lot lX c.1, gX⟩⟩
        · rw [if_neg c] at gX
          cases gX
      · rintro σ H2 ⟨z, y, X, rfl, s2, hX, lX, gX⟩
        rw [ni_len, List.drop_length] at gX
        have e : X = M := Option.some.inj gX
        subst e
        exact ⟨_, rfl, q H2 z (s1.trans s2) hX⟩
end
end Sh

namespace Sh
open PySem PySem.Spec PyProof.Rows L2
/-! ### the program: crossed, wherever it is asked -/
theorem log2_le {n m : Nat} (h : n ≤ m) : n.log2 ≤ m := Nat.le_trans (Nat.log2_le_self n) h
def spCrossedX (K : PySem.W.Frag) (C : Addr) : Sp := fun vs H Q E => ∃ (v l : V) (h t : Int) (ds : List Int) (L : List Nat) (i : Nat), vs = [v, l, .int (i : Int)] ∧ SeaA K H v h t ds ∧ LotA K H l L ∧ ds.length ≤ 100 ∧ Lot ds.length L ∧ i < ds.length ∧
  (mayB h t ds L i = true → ∀ (H' : Hp) (z : V), Same H H' → LotT K H' z (gone L i) → Q z H') ∧ (mayB h t ds L i = false → ∀ d, H d = none → E (.ref C) (some d) (upd H d (.xd [("ship", .int (i : Int))])))
/-- a row, gone as far as one may: where it ends, and who may not go on -/
def goesX (h t : Int) (ds : List Int) : List Nat → List Nat → List Nat × Option Nat
  | L, [] => (L, none)
  | L, i :: r => if i < ds.length ∧ mayB h t ds L i = true then goesX h t ds (gone L i) r else (L, some i)
theorem goesX_cons {h t : Int} {ds : List Int} {L r : List Nat} {i : Nat} : goesX h t ds L (i :: r) = if i < ds.length ∧ mayB h t ds L i = true then goesX h t ds (gone L i) r else (L, some i) := rfl
section
variable {P : Program} {w : World} {K : PySem.W.Frag} {mg : Str → Option Value} {base : Heap}
theorem ok_crossedX {k : Nat} {C : Addr} (D : Df K mg "crossed" s_crossed) (T : Bt mg) (O_may_go : Ok P w K mg base (k + 1) "may_go" s_may_go ["sea", "standing", "ship"] (spMayGo K)) (XM : ExcOk P w K mg base k "MayNot" C "ship" okInt) : OkX P w K mg base (k + 2) "crossed" s_crossed ["sea", "standing", "ship"] (spCrossedX K C) := by
  refine D.okX sc_crossed b_crossed (fun vs H Q E h => ?_) (fun f cdv A outer s H vs Q E hr h => ?_)
  · obtain ⟨v, l, h, t, ds, L, i, rfl, _⟩ := h
    rfl
  · obtain ⟨v, l, h, t, ds, L, i, rfl, hv, hl0, d1, hL, hi, q, qx⟩ := h
    have ll := hL.len
    refine ⟨_, (pss_cons (ps_if (pt_not (pt_val (pe_fn O_may_go (hr.mono (by omega)) (pa_cons (pv 0) (pa_cons (pv 1) (pa_cons (pv 2) pa_nil))))))
        (pss_one (ps_raise1 rfl XM (hr.mono (by omega)) (takes_of rfl rfl rfl rfl) (pa_cons (pv 2) pa_nil)))
        pss_nil)
      (pss_cons (ps_if (pt_cmpR op_in_seq (pv 2) (pv 1) (by rfl))
        (pss_one (ps_ret (pe_callTy call_tuple_of (by rfl) T.tuple_ (by decide +kernel) (pa_cons (pe_lc (own := [("mate", 3)]) (g := (gName 3)) (by rfl) sc_crossed.nd (pi_seq (pv 1)) (blkOk_by (own := [("mate", 3)]) (N := (["sea", "standing", "ship", "mate"] : List Str)) (sc := defScope s_crossed) (by decide +kernel)) (fun _ _ _ _ _ => (pg_name (i := 3) sc_crossed.nd rfl (.inl rfl))) (fun _ _ _ _ _ => (pts_one (pt_cmpR op_ne (pv 3) (pv 2) (nomark _)))) (fun _ _ _ _ _ => (pv 3))) pa_nil))))
        pss_nil)
      (pss_one (ps_ret (pe_callTy call_tuple_of (by rfl) T.tuple_ (by decide +kernel) (pa_cons (pe_callB cr_sortedI (by rfl) T.sorted_ (by decide +kernel) (pa_cons (pe_lst (StX.pa_star (pv 1) (pa_cons (pv 2) pa_nil))) pa_nil)) pa_nil)))))), ?_⟩
    refine ⟨_, rfl, _, rfl, _, rfl, v, l, h, t, ds, L, i, rfl, hv, hl0, hL, hi, _, rfl, ?_⟩
    cases hm : mayB h t ds L i with
    | false =>
      refine iteT ?_
      exact ⟨_, rfl, _, rfl, ⟨(i : Int), rfl, Nat.lt_of_le_of_lt (log2_le (by omega : ((i : Int)).natAbs ≤ 100)) (by decide)⟩, fun d nd => qx hm d nd⟩
    | true =>
    replace q := q hm
    refine iteF ?_
    obtain ⟨pl, rfl, hl⟩ := hl0
    refine ⟨_, rfl, _, rfl, pl, _, rfl, hl, rfl, ni_flat L, _, rfl, ?_⟩
    rw [if_neg Bool.false_ne_true, in_ni]
    by_cases z : i ∈ L
    · rw [decide_eq_true z]
      refine iteT ?_
      refine ⟨_, rfl, pl, _, H, rfl, hl, Kp.refl _ _, fun J hJ C nC => ?_⟩
      obtain ⟨G, g, W⟩ := hJ.walk
      refine lc_it W (fun j H' => Same H H' ∧ H' C = some (.lst (ni ((L.take j).filter fun m => !decide (m = i))))) ⟨same_new nC, upd_same⟩ (fun j H' _ z => g H' (.ofS z.1)) ?_ ?_
      · rintro j x H3 H4 hj ⟨s3, hC⟩ ⟨rfl, gx⟩
        rw [ni_len] at hj
        obtain rfl : .int ((L[j] : Nat) : Int) = x := Option.some.inj ((ni_get hj).symm.trans gx)
        refine ⟨rfl, ?_⟩
        refine ⟨_, rfl, _, rfl, rfl, _, rfl, ite2 (fun c => ?_) (fun c => ?_)⟩
        · have c0 : ¬ L[j] = i := fun e => by
            rw [e] at c
            simp at c
          refine ⟨_, rfl, _, hC, ?_, same_over s3 nC, ?_⟩
          · rw [ni_len]
            have h1 := List.length_filter_le (fun m => !decide (m = i)) (L.take j)
            rw [List.length_take] at h1
            exact small1000 (by omega)
          · rw [upd_same, take_succ_get hj, List.filter_append, ni_app, List.filter_cons_of_pos (by simpa using c0)]
            rfl
        · have c0 : L[j] = i := by
            by_cases e : L[j] = i
            · exact e
            · exfalso
              refine c ?_
              have z2 : ¬ V.int ((L[j] : Nat) : Int) = V.int (i : Int) := fun w => e (by have := V.int.inj w; omega)
              rw [decide_eq_false z2]
              rfl
          refine ⟨s3, ?_⟩
          rw [hC, take_succ_get hj, List.filter_append, List.filter_cons_of_neg (by simpa using c0)]
          simp
      rintro H3 ⟨s3, hC⟩
      rw [ni_len, List.take_length] at hC
      refine ⟨C, _, rfl, .inl ⟨SqL.of hC, fun p np => ?_⟩⟩
      refine q _ _ (s3.trans (same_new np)) ⟨p, rfl, SqT.of ?_⟩
      rw [upd_same, gone, if_pos z]
    · rw [decide_eq_false z]
      refine iteF ?_
      refine ⟨_, rfl, pl, _, rfl, hl.symm, _, rfl, ?_, fun ct nct => ?_⟩
      · rw [List.length_append, ni_len]
        show L.length + 1 ≤ sizeLine
        exact Nat.le_trans (show L.length + 1 ≤ 1001 by omega) (by decide)
      have s3 : Same H (upd H ct (.lst (ni L ++ [.int (i : Int)]))) := same_new nct
      have e3 : upd H ct (.lst (ni L ++ [.int (i : Int)])) ct = some (.lst (((L ++ [i]).map fun (i : Nat) => (i : Int)).map V.int)) := by
        rw [upd_same, ← ni_ints, ni_app]
        rfl
      generalize upd H ct (.lst (ni L ++ [.int (i : Int)])) = H3 at s3 e3
      refine ⟨ct, _, rfl, SqL.of e3, fun ns2 p2 pm2 up2 np2 => ?_⟩
      obtain ⟨L2, rfl, pL2, hL2⟩ := lot_sorted (c := ds.length) pm2 up2 (List.nodup_append.mpr ⟨hL.up.imp Nat.ne_of_lt, by simp, fun a ha y hy => by rw [List.mem_singleton.mp hy]; exact fun e => z (e ▸ ha)⟩) fun j hj => by
        rcases List.mem_append.mp hj with y | y
        · exact hL.lt j y
        · rw [List.mem_singleton.mp y]
          exact hi
      have eg : L2 = gone L i := by
        refine lot_ext hL2 (gone_lot hL hi) fun j _ => ?_
        rw [gone_mem]
        unfold mem
        by_cases e : j = i
        · subst e
          rw [Th.flip_self]
          simp [z, pL2.mem_iff]
        · rw [Th.flip_ne _ e]
          simp [e, pL2.mem_iff]
      have s4 : Same H3 (upd H3 p2 (.lst ((L2.map fun (i : Nat) => (i : Int)).map V.int))) := same_new np2
      have e4 : upd H3 p2 (.lst ((L2.map fun (i : Nat) => (i : Int)).map V.int)) p2 = some (.lst (ni L2)) := by rw [upd_same, ni_ints]
      generalize upd H3 p2 (.lst ((L2.map fun (i : Nat) => (i : Int)).map V.int)) = H4 at s4 e4
      refine ⟨p2, _, rfl, .inl ⟨SqL.of e4, fun p np => ?_⟩⟩
      have s14 := s3.trans s4
      refine q _ _ (s14.trans (same_new np)) ⟨p, rfl, SqT.of ?_⟩
      rw [upd_same, eg]
def spCrossedAllX (K : PySem.W.Frag) (C : Addr) : Sp := fun vs H Q E => ∃ (v l r : V) (h t : Int) (ds : List Int) (L row : List Nat), vs = [v, l, r] ∧ SeaA K H v h t ds ∧ LotA K H l L ∧ LotA K H r row ∧ ds.length ≤ 100 ∧ row.length ≤ 1000 ∧ Lot ds.length L ∧ (∀ i ∈ row, i < ds.length) ∧
  ((goesX h t ds L row).2 = none → ∀ (H' : Hp) (z : V), Same H H' → LotT K H' z (goesX h t ds L row).1 → Q z H') ∧
  (∀ i, (goesX h t ds L row).2 = some i → ∀ (H' : Hp) (d : Addr), Same H H' → H' d = none → E (.ref C) (some d) (upd H' d (.xd [("ship", .int (i : Int))])))
theorem ok_crossed_allX {k : Nat} {C : Addr} (D : Df K mg "crossed_all" s_crossed_all) (T : Bt mg) (O_crossed : OkX P w K mg base k "crossed" s_crossed ["sea", "standing", "ship"] (spCrossedX K C)) : OkX P w K mg base (k + 1) "crossed_all" s_crossed_all ["sea", "standing", "row"] (spCrossedAllX K C) := by
  refine D.okX sc_crossed_all b_crossed_all (fun vs H Q E h => ?_) (fun f cdv A outer s H vs Q E hr h => ?_)
  · obtain ⟨v, l, r, h, t, ds, L, row, rfl, _⟩ := h
    rfl
  · obtain ⟨v, l, r, h, t, ds, L, row, rfl, hv, ⟨pl, rfl, hl⟩, ⟨pr, rfl, hr'⟩, d1, r1, hL, hin, q, qx⟩ := h
    refine ⟨_, (pss_cons (ps_set (i := 3) sc_crossed_all.nd rfl (.inl rfl) (pe_callTy call_tuple_of (by rfl) T.tuple_ (by decide +kernel) (pa_cons (pv 1) pa_nil)))
      (pss_cons (ps_for (passes_of rfl) rfl (pi_seq (pv 2)) (pg_name (i := 4) sc_crossed_all.nd rfl (.inl rfl))
        (pss_one (ps_set (i := 3) sc_crossed_all.nd rfl (.inl rfl) (pe_fnX O_crossed (hr.mono (by omega)) (takes_of rfl rfl rfl rfl) (pa_cons (pv 0) (pa_cons (pv 3) (pa_cons (pv 4) pa_nil)))))))
      (pss_one (ps_ret (pv 3))))), ?_⟩
    rcases hl with hl | hl
    · refine ⟨_, rfl, pl, ni L, rfl, .inl ⟨hl, fun a na => ?_⟩⟩
      have s1 : Same H (upd H a (.tup (ni L))) := same_new na
      have hz : LotT K (upd H a (.tup (ni L))) (.ref a) L := ⟨a, rfl, SqT.of upd_same⟩
      generalize upd H a (.tup (ni L)) = H1 at s1 hz
      refine ⟨_, rfl, pr, _, H1, rfl, Same.sqA s1 hr', Kp.refl _ _, fun J hJ => ?_⟩
      obtain ⟨G, g, W⟩ := hJ.walk
      refine for_it W (fun i σ H' => ∃ (z : V) (y : Option V) (X : List Nat), σ = [some v, some (.ref pl), some (.ref pr), some z, y] ∧ Same H1 H' ∧ LotT K H' z X ∧ Lot ds.length X ∧ goesX h t ds X (row.drop i) = goesX h t ds L row) ⟨_, none, L, rfl, Same.refl _, hz, hL, rfl⟩ (fun i σ H' _ ⟨_, _, _, _, z, _⟩ => g H' (.ofS z)) ?_ ?_
      · rintro i x σ H2 H3 hi ⟨z, y, X, rfl, s2, hX, lX, gX⟩ ⟨rfl, gx⟩
        rw [ni_len] at hi
        obtain rfl : .int ((row[i] : Nat) : Int) = x := Option.some.inj ((ni_get hi).symm.trans gx)
        rw [List.drop_eq_getElem_cons hi] at gX
        rw [goesX_cons] at gX
        have ix := hin _ (List.getElem_mem hi)
        have s12 := s1.trans s2
        refine ⟨_, rfl, _, rfl, _, rfl, v, z, h, t, ds, X, row[i], rfl, hv.same s12, hX.a, d1, lX, ix, fun c H4 z' s4 hz' => ?_, fun c d nd => ?_⟩
        · rw [if_pos ⟨ix, c⟩] at gX
          exact ⟨z', _, _, rfl, s2.trans s4, hz', gone_lot lX ix, gX⟩
        · rw [if_neg (fun y => by rw [c] at y; cases y.2)] at gX
          exact qx row[i] (by rw [← gX]) _ d s12 nd
      · rintro σ H2 ⟨z, y, X, rfl, s2, hX, lX, gX⟩
        rw [ni_len, List.drop_length] at gX
        exact ⟨_, rfl, q (by rw [← gX]; rfl) H2 z (s1.trans s2) (by rw [← gX]; exact hX)⟩
    · refine ⟨_, rfl, pl, ni L, rfl, .inr ⟨hl, ?_⟩⟩
      have s1 : Same H H := Same.refl H
      have hz : LotT K H (.ref pl) L := ⟨pl, rfl, hl⟩
      refine ⟨_, rfl, pr, _, H, rfl, Same.sqA s1 hr', Kp.refl _ _, fun J hJ => ?_⟩
      obtain ⟨G, g, W⟩ := hJ.walk
      refine for_it W (fun i σ H' => ∃ (z : V) (y : Option V) (X : List Nat), σ = [some v, some (.ref pl), some (.ref pr), some z, y] ∧ Same H H' ∧ LotT K H' z X ∧ Lot ds.length X ∧ goesX h t ds X (row.drop i) = goesX h t ds L row) ⟨_, none, L, rfl, Same.refl _, hz, hL, rfl⟩ (fun i σ H' _ ⟨_, _, _, _, z, _⟩ => g H' (.ofS z)) ?_ ?_
      · rintro i x σ H2 H3 hi ⟨z, y, X, rfl, s2, hX, lX, gX⟩ ⟨rfl, gx⟩
        rw [ni_len] at hi
        obtain rfl : .int ((row[i] : Nat) : Int) = x := Option.some.inj ((ni_get hi).symm.trans gx)
        rw [List.drop_eq_getElem_cons hi] at gX
        rw [goesX_cons] at gX
        have ix := hin _ (List.getElem_mem hi)
        have s12 := s1.trans s2
        refine ⟨_, rfl, _, rfl, _, rfl, v, z, h, t, ds, X, row[i], rfl, hv.same s12, hX.a, d1, lX, ix, fun c H4 z' s4 hz' => ?_, fun c d nd => ?_⟩
        · rw [if_pos ⟨ix, c⟩] at gX
          exact ⟨z', _, _, rfl, s2.trans s4, hz', gone_lot lX ix, gX⟩
        · rw [if_neg (fun y => by rw [c] at y; cases y.2)] at gX
          exact qx row[i] (by rw [← gX]) _ d s12 nd
      · rintro σ H2 ⟨z, y, X, rfl, s2, hX, lX, gX⟩
        rw [ni_len, List.drop_length] at gX
        exact ⟨_, rfl, q (by rw [← gX]; rfl) H2 z (s1.trans s2) (by rw [← gX]; exact hX)⟩
end
end Sh

namespace Sh
open PySem PySem.Spec PyProof.Rows L2
/-! ### what is told of one who may not go -/
/-- the four classes: M MayNot, A Apart, R BadRow, B BadText -/
structure K4 (K : PySem.W.Frag) (mg : Str → Option Value) (M A R B : Addr) : Prop where
  gM : mg "MayNot" = some (.ref M)
  gA : mg "Apart" = some (.ref A)
  gR : mg "BadRow" = some (.ref R)
  gB : mg "BadText" = some (.ref B)
  e : ExcC K M
  no : PySem.W.findIn K (.ref M) "ship" = some none
  exm : PySem.W.exmAny K (.ref M) [.ref A, .ref R, .ref B, .ref M] = some true
  i1 : PySem.W.kitOne K (.ref M) (.ref M) = some true
  i2 : PySem.W.kitOne K (.ref M) (.type "ValueError") = some true
  i3 : PySem.W.kitAny K (.ref M) [.ref A, .ref R, .ref B] = some false
theorem with_k4 {K : PySem.W.Frag} {mg : Str → Option Value} {Rr : Prop} {h : Heap} {M A R B : Addr} {q : Str} {st : Stmt} (X : K.In h) (G : h.Ns mainGlobals mg) (D : Xc K mg "MayNot" q "ship" st M) (a : PySem.W.nsIn K mainGlobals "Apart" = some (some (.ref A))) (b : PySem.W.nsIn K mainGlobals "BadRow" = some (some (.ref R))) (c : PySem.W.nsIn K mainGlobals "BadText" = some (some (.ref B)))
    (e : PySem.W.exmAny K (.ref M) [.ref A, .ref R, .ref B, .ref M] = some true) (i1 : PySem.W.kitOne K (.ref M) (.ref M) = some true) (i2 : PySem.W.kitOne K (.ref M) (.type "ValueError") = some true) (i3 : PySem.W.kitAny K (.ref M) [.ref A, .ref R, .ref B] = some false) (r : K4 K mg M A R B → Rr) : Rr :=
  r ⟨D.g, PySem.W.mg_of X G a, PySem.W.mg_of X G b, PySem.W.mg_of X G c, D.e, D.no, e, i1, i2, i3⟩
def spTold (K : PySem.W.Frag) : Sp := fun vs H Q _ => ∃ (v l : V) (pr : Addr) (b : Bool) (h t : Int) (ds : List Int) (L row : List Nat) (i : Nat), vs = [v, l, .ref pr, .bl b] ∧ SeaA K H v h t ds ∧ LotA K H l L ∧ SqL K H pr (ni row) ∧ ds.length ≤ 100 ∧ row.length ≤ 1000 ∧ Lot ds.length L ∧ (∀ i ∈ row, i < ds.length) ∧
  (b = false → (goesX h t ds L row).2 = some i) ∧ (b = true → row = [i] ∧ mayB h t ds L i = false) ∧
  ∀ (H' : Hp) (p : Addr), Same H H' → H p = none → H' p = some (.lst [.str "may not", .int (i : Int)]) → Q (.ref p) H'
abbrev s__law_told : Stmt := topS 24
theorem sc__law_told : FnScope (["_law_pool", "_law_lot_here", "_law_went", "_law_alone_one", "_law_found", "_law_caught", "error", "_law_alone"] : List Str) (["_law_pool", "_law_lot_here", "_law_went", "_law_alone_one"] : List Str) (defScope s__law_told) := ⟨rfl, rfl, rfl, by decide +kernel, rfl, by decide +kernel, by decide +kernel⟩
theorem b__law_told (kV doc pm : Value) (an : Option Addr) (cdv ct : Value) (us : List Value) (hl : us.length = (["_law_pool", "_law_lot_here", "_law_went", "_law_alone_one"] : List Str).length) : bindArgs (PySem.W.fnOf "_law_told" "_law_told" (defArgs s__law_told) (defBody s__law_told) (defScope s__law_told) .none kV doc pm an cdv ct) ⟨us, []⟩ = pure ((["_law_pool", "_law_lot_here", "_law_went", "_law_alone_one"] : List Str).zip us) :=
  match us, hl with | [_, _, _, _], _ => rfl
section
variable {P : Program} {w : World} {K : PySem.W.Frag} {mg : Str → Option Value} {base : Heap}
theorem ok_told {k : Nat} {M A' R B : Addr} (D : Df K mg "_law_told" s__law_told) (T : Bt mg) (VE : mg "ValueError" = none) (Z : K4 K mg M A' R B) (O_crossed : OkX P w K mg base k "crossed" s_crossed ["sea", "standing", "ship"] (spCrossedX K M))
    (O_crossed_all : OkX P w K mg base k "crossed_all" s_crossed_all ["sea", "standing", "row"] (spCrossedAllX K M)) : Ok P w K mg base (k + 1) "_law_told" s__law_told ["_law_pool", "_law_lot_here", "_law_went", "_law_alone_one"] (spTold K) := by
  refine D.ok sc__law_told b__law_told (fun vs H Q E h => ?_) (fun f cdv A outer s H vs Q E hr h => ?_)
  · obtain ⟨v, l, pr, b, h, t, ds, L, row, i, rfl, _⟩ := h
    rfl
  · obtain ⟨v, l, pr, b, h, t, ds, L, row, i, rfl, hv, hl, hp, d1, r1, hL, hin, h1, h2, q⟩ := h
    refine ⟨_, (pss_cons (ps_asg (pe_tup (pa_cons pe_non (pa_cons pe_non pa_nil))) (pg_seq rfl (pgs_cons (pg_name (i := 4) sc__law_told.nd rfl (.inl rfl)) (pgs_cons (pg_name (i := 5) sc__law_told.nd rfl (.inl rfl)) pgs_nil))))
      (pss_cons (ps_try_keep (n := "error") (i := 6) rfl rfl rfl sc__law_told.nd rfl rfl (.tup (.cons ⟨_, _, rfl, by rfl, by decide, .inl Z.gA⟩ (.cons ⟨_, _, rfl, by rfl, by decide, .inl Z.gR⟩ (.cons ⟨_, _, rfl, by rfl, by decide, .inl Z.gB⟩ (.cons ⟨_, _, rfl, by rfl, by decide, .inl Z.gM⟩ .nil)))) (by decide)) takes_none5 (fun W pn xe tk po =>
        (pss_one (ps_set (i := 4) sc__law_told.nd rfl (.inl rfl) (pe_ifExp (pt_val (pv 3)) (pe_fnK0X (ks := ["ship", "standing", "sea"]) [2, 1, 0] O_crossed (hr.mono (by omega)) tk (fun _ _ _ _ _ _ ws hk => match ws, hk with | [_, _, _], _ => rfl) (pk_cons (pe_ix (ix_ltK K) (pv 2) pe_int (fun _ _ => rfl)) (pk_cons (pv 1) (pk_cons (pv 0) pk_nil)))) (pe_fnX O_crossed_all (hr.mono (by omega)) tk (pa_cons (pv 0) (pa_cons (pv 1) (pa_cons (pv 2) pa_nil))))))))
        (fun a oe cls d pn hz hf => (pss_one (ps_set (i := 5) sc__law_told.nd rfl (.inl rfl) (pv 6)))))
      (pss_cons (ps_if (pt_cmpR op_isN (pv 5) pe_non (nomark _))
        (pss_one (ps_ret (pv 4)))
        pss_nil)
      (pss_cons (ps_set (i := 7) sc__law_told.nd rfl (.inl rfl) (pe_and (pe_callB call_isX (by rfl) T.isinstance_ (by decide +kernel) (pa_cons (pv 5) (pa_cons (pe_glob (v := .ref M) (by rfl) Z.gM rfl) pa_nil))) (pe_one (pe_callB call_isX (by rfl) T.isinstance_ (by decide +kernel) (pa_cons (pv 5) (pa_cons (pe_bltn (v := .ty "ValueError") (by rfl) VE (by decide +kernel) rfl) pa_nil))))))
      (pss_one (ps_ret (pe_ifExp (PW.pt (pw_and (pt_truth (pv 7) (by intro _; rfl)) (pw_and1 (pt_not (pt_val (pe_callB call_isXT (by rfl) T.isinstance_ (by decide +kernel) (pa_cons (pv 5) (pa_cons (pe_tup (pa_cons (pe_glob (v := .ref A') (by rfl) Z.gA rfl) (pa_cons (pe_glob (v := .ref R) (by rfl) Z.gR rfl) (pa_cons (pe_glob (v := .ref B) (by rfl) Z.gB rfl) pa_nil)))) pa_nil)))))))) (pe_lst (pa_cons pe_str (pa_cons (pe_xk (pv 5)) pa_nil))) pe_non))))))), ?_⟩
    refine ⟨(by show 2 ≤ sizeLine; decide), fun pt nt => ?_⟩
    have s1 : Same H (upd H pt (.tup [.non, .non])) := same_new nt
    refine ⟨pt, _, rfl, SqA.t upd_same, rfl, _, _, rfl, _, _, rfl, rfl, ?_⟩
    generalize upd H pt (.tup [.non, .non]) = H1 at s1
    cases b with
    | true =>
      obtain ⟨er, hm⟩ := h2 rfl
      subst er
      have hi := hin i List.mem_cons_self
      refine ⟨_, rfl, _, rfl, iteT ?_⟩
      refine ⟨_, rfl, pr, _, 0, .int (i : Int), rfl, rfl, .inl (s1.seq hp), rfl, _, rfl, _, rfl, ⟨rfl, rfl⟩, v, l, h, t, ds, L, i, rfl, hv.same s1, hl.same s1, d1, hL, hi, fun c => ?_, fun _ d nd => ?_⟩
      · rw [hm] at c
        cases c
      refine ⟨true, Z.exm, fun _ a na => ?_, fun z => nomatch z⟩
      refine ⟨_, rfl, ?_⟩
      have x : ExAt (upd (upd H1 d (.xd [("ship", .int (i : Int))])) a (exk a (.ref M) (some d))) a M (some [("ship", .int (i : Int))]) := ⟨some d, upd_same, d, rfl, (upd_ne (ne_of_none upd_same na)).trans upd_same⟩
      have s3 : Same H (upd (upd H1 d (.xd [("ship", .int (i : Int))])) a (exk a (.ref M) (some d))) := s1.trans ((same_new nd).trans (same_new na))
      refine ⟨_, rfl, rfl, _, rfl, ite2 (fun c => by simp at c) fun _ => ?_⟩
      refine ⟨_, rfl, a, M, _, _, _, true, rfl, x, Z.e, .own M, Z.i1, _, rfl, iteT ⟨_, rfl, a, M, _, _, _, true, rfl, x, Z.e, .ty "ValueError", Z.i2, ?_⟩⟩
      refine ⟨_, rfl, true, rfl, iteT ?_⟩
      refine ⟨_, rfl, (by show 3 ≤ sizeLine; decide), fun pc nc => ⟨a, M, pc, _, _, _, false, rfl, upd_same, .cons (.own _) (.cons (.own _) (.cons (.own _) .nil)), x.same (same_new nc), Z.e, Z.i3, _, rfl, iteT ?_⟩⟩
      have s4 := s3.trans (same_new (o := .tup [.ref A', .ref R, .ref B]) nc)
      refine ⟨_, rfl, a, M, _, _, rfl, x.same (same_new nc), Z.e, Z.no, rfl, (by show 2 ≤ sizeLine; decide), fun pl nl => ?_⟩
      exact q _ pl (s4.trans (same_new nl)) (s4.free nl) upd_same
    | false =>
      refine ⟨_, rfl, _, rfl, iteF ?_⟩
      refine ⟨_, rfl, _, rfl, _, rfl, v, l, .ref pr, h, t, ds, L, row, rfl, hv.same s1, hl.same s1, ⟨pr, rfl, .inl (s1.seq hp)⟩, d1, r1, hL, hin, fun c => ?_, fun j ej H2 d s2 nd => ?_⟩
      · rw [h1 rfl] at c
        cases c
      · rw [h1 rfl] at ej
        cases ej
        refine ⟨true, Z.exm, fun _ a na => ?_, fun z => nomatch z⟩
        refine ⟨_, rfl, ?_⟩
        have x : ExAt (upd (upd H2 d (.xd [("ship", .int (i : Int))])) a (exk a (.ref M) (some d))) a M (some [("ship", .int (i : Int))]) := ⟨some d, upd_same, d, rfl, (upd_ne (ne_of_none upd_same na)).trans upd_same⟩
        have s3 : Same H (upd (upd H2 d (.xd [("ship", .int (i : Int))])) a (exk a (.ref M) (some d))) := (s1.trans s2).trans ((same_new nd).trans (same_new na))
        refine ⟨_, rfl, rfl, _, rfl, ite2 (fun c => by simp at c) fun _ => ?_⟩
        refine ⟨_, rfl, a, M, _, _, _, true, rfl, x, Z.e, .own M, Z.i1, _, rfl, iteT ⟨_, rfl, a, M, _, _, _, true, rfl, x, Z.e, .ty "ValueError", Z.i2, ?_⟩⟩
        refine ⟨_, rfl, true, rfl, iteT ?_⟩
        refine ⟨_, rfl, (by show 3 ≤ sizeLine; decide), fun pc nc => ⟨a, M, pc, _, _, _, false, rfl, upd_same, .cons (.own _) (.cons (.own _) (.cons (.own _) .nil)), x.same (same_new nc), Z.e, Z.i3, _, rfl, iteT ?_⟩⟩
        have s4 := s3.trans (same_new (o := .tup [.ref A', .ref R, .ref B]) nc)
        refine ⟨_, rfl, a, M, _, _, rfl, x.same (same_new nc), Z.e, Z.no, rfl, (by show 2 ≤ sizeLine; decide), fun pl nl => ?_⟩
        exact q _ pl (s4.trans (same_new nl)) (s4.free nl) upd_same
end
end Sh

namespace Sh
open PySem PySem.Spec PyProof.Rows L2
theorem ni_rev4 (L : List Nat) : (ni L).reverse = ni L.reverse := by unfold ni; rw [List.map_reverse]
theorem cutN_to {L : List Nat} {c : Nat} (h : c ≤ L.length) : cutV (ni L) none (some (c : Int)) = ni (L.take c) := by
  unfold cutV
  rw [HT.sIx_nat, HT.sIx_none, List.drop_zero, Nat.sub_zero, ni_len, Nat.min_eq_left h]
  unfold ni
  rw [List.map_take]
theorem cutN_from {L : List Nat} {c : Nat} (h : c ≤ L.length) : cutV (ni L) (some (c : Int)) none = ni (L.drop c) := by
  unfold cutV
  rw [HT.sIx_nat, HT.sIx_none, ni_len, Nat.min_eq_left h]
  unfold ni
  rw [List.map_drop, List.take_of_length_le (by rw [List.length_drop, List.length_map]; exact Nat.le_refl _)]
theorem goes_split4 {h t : Int} {ds : List Int} : ∀ {L M row : List Nat} (c : Nat), goes h t ds L row = some M → ∃ N, goes h t ds L (row.take c) = some N ∧ goes h t ds N (row.drop c) = some M
  | L, M, row, 0, e => ⟨L, rfl, e⟩
  | L, M, [], c + 1, e => ⟨L, rfl, e⟩
  | L, M, i :: r, c + 1, e => by
    unfold goes at e
    by_cases z : i < ds.length ∧ mayB h t ds L i = true
    · rw [if_pos z] at e
      obtain ⟨N, a, b⟩ := goes_split4 c e
      refine ⟨N, ?_, b⟩
      rw [List.take_succ_cons]
      unfold goes
      rw [if_pos z]
      exact a
    · rw [if_neg z] at e
      cases e
theorem goesX_of : ∀ {h t : Int} {ds : List Int} {L M row : List Nat}, goes h t ds L row = some M → goesX h t ds L row = (M, none)
  | _, _, _, _, _, [], e => by cases e; rfl
  | h, t, ds, L, M, i :: r, e => by
    unfold goes at e
    rw [goesX_cons]
    by_cases c : i < ds.length ∧ mayB h t ds L i = true
    · rw [if_pos c] at e ⊢
      exact goesX_of e
    · rw [if_neg c] at e
      cases e
theorem goes_in : ∀ {h t : Int} {ds : List Int} {L M row : List Nat}, goes h t ds L row = some M → ∀ i ∈ row, i < ds.length
  | _, _, _, _, _, [], _ => fun i hi => nomatch hi
  | h, t, ds, L, M, j :: r, e => by
    unfold goes at e
    by_cases c : j < ds.length ∧ mayB h t ds L j = true
    · rw [if_pos c] at e
      intro i hi
      rcases List.mem_cons.mp hi with rfl | hi
      · exact c.1
      · exact goes_in e i hi
    · rw [if_neg c] at e
      cases e
theorem goes_lotM {h t : Int} {ds : List Int} : ∀ {r L M : List Nat}, Lot ds.length L → goes h t ds L r = some M → Lot ds.length M
  | [], L, M, hL, e => by
    cases e
    exact hL
  | i :: r, L, M, hL, e => by
    have e' : (if i < ds.length ∧ mayB h t ds L i = true then goes h t ds (gone L i) r else none) = some M := e
    by_cases c : i < ds.length ∧ mayB h t ds L i = true
    · rw [if_pos c] at e'
      exact goes_lotM (gone_lot hL c.1) e'
    · rw [if_neg c] at e'
      cases e'
/-- one who may not go, put in somewhere -/
theorem goesX_stop {h t : Int} {ds : List Int} : ∀ {L M r : List Nat} {i : Nat} (r2 : List Nat), goes h t ds L r = some M → mayB h t ds M i = false → (goesX h t ds L (r ++ i :: r2)).2 = some i
  | L, M, [], i, r2, e, hm => by
    cases e
    rw [List.nil_append, goesX_cons, if_neg (fun c => by rw [hm] at c; cases c.2)]
  | L, M, j :: r, i, r2, e, hm => by
    unfold goes at e
    rw [List.cons_append, goesX_cons]
    by_cases c : j < ds.length ∧ mayB h t ds L j = true
    · rw [if_pos c] at e ⊢
      exact goesX_stop r2 e hm
    · rw [if_neg c] at e
      cases e
/-- what stands between two steps -/
structure C04 (K : PySem.W.Frag) (b wa : Addr) (pool first there : V) (h t : Int) (ds : List Int) (L M row : List Nat) (n : Nat) (H0 H : Hp) : Prop where
  box : BoxAt H b n
  but : But b H0 H
  sea : SeaT K H pool h t ds
  fst : LotT K H first L
  thr : LotT K H there M
  went : H wa = some (.lst (ni row))
  wb : wa ≠ b
section
variable {K : PySem.W.Frag} {b wa : Addr} {pool first there : V} {h t : Int} {ds : List Int} {L M row : List Nat} {n n' : Nat} {H0 H H' : Hp}
theorem C04.move (c : C04 K b wa pool first there h t ds L M row n H0 H) (u : But b H H') (x : BoxAt H' b n') : C04 K b wa pool first there h t ds L M row n' H0 H' :=
  ⟨x, c.but.trans u, c.sea.but c.box u, c.fst.but c.box u, c.thr.but c.box u, u _ _ c.wb c.went, c.wb⟩
theorem C04.same (c : C04 K b wa pool first there h t ds L M row n H0 H) (s : Same H H') : C04 K b wa pool first there h t ds L M row n H0 H' := c.move (Same.but s) (c.box.same s)
end
abbrev s__law_right : Stmt := topS 25
theorem sc__law_right : FnScope (["_law_box_here", "_law_turn", "_law_pool", "_law_lot_here", "_law_there", "_law_went", "_law_kept", "_law_told_here", "_law_here", "_law_whom", "_law_at", "_law_midst", "_law_fast", "_law_heard"] : List Str) (["_law_box_here"] : List Str) (defScope s__law_right) := ⟨rfl, rfl, rfl, by decide +kernel, rfl, by decide +kernel, by decide +kernel⟩
theorem b__law_right (kV doc pm : Value) (an : Option Addr) (cdv ct : Value) (us : List Value) (hl : us.length = (["_law_box_here"] : List Str).length) : bindArgs (PySem.W.fnOf "_law_right" "_law_right" (defArgs s__law_right) (defBody s__law_right) (defScope s__law_right) .none kV doc pm an cdv ct) ⟨us, []⟩ = pure ((["_law_box_here"] : List Str).zip us) :=
  match us, hl with | [_], _ => rfl
section
variable {P : Program} {w : World} {K : PySem.W.Frag} {mg : Str → Option Value} {base : Heap}
set_option maxHeartbeats 8000000 in
theorem ok_right {k : Nat} {C : Addr} (D : Df K mg "_law_right" s__law_right) (T : Bt mg) (O__law_sea : Ok P w K mg base k "_law_sea" s__law_sea ["_law_box_here", "_law_most"] spSea) (O__law_lot : Ok P w K mg base k "_law_lot" s__law_lot ["_law_box_here", "_law_count"] spLot)
    (O__law_take : Ok P w K mg base k "_law_take" s__law_take ["_law_box_here", "_law_span"] spTake) (O__law_of : Ok P w K mg base k "_law_of" s__law_of ["_law_box_here", "_law_some"] (spOf K)) (O__law_walk : Ok P w K mg base k "_law_walk" s__law_walk ["_law_box_here", "_law_sea_here", "_law_lot_here", "_law_most"] (spWalk K))
    (O__law_same : Ok P w K mg base 4 "_law_same" s__law_same ["_law_found", "_law_due"] (spSame K 4)) (hk : 4 ≤ k) (O__law_lets : Ok P w K mg base k "_law_lets" s__law_lets ["_law_sea_here", "_law_lot_here"] (spLets K)) (O__law_gone : Ok P w K mg base k "_law_gone" s__law_gone ["_law_lot_here", "_law_whom"] (spGone K))
    (O__law_told : Ok P w K mg base k "_law_told" s__law_told ["_law_pool", "_law_lot_here", "_law_went", "_law_alone_one"] (spTold K)) (O_crossed : OkX P w K mg base k "crossed" s_crossed ["sea", "standing", "ship"] (spCrossedX K C)) (O_crossed_all : OkX P w K mg base k "crossed_all" s_crossed_all ["sea", "standing", "row"] (spCrossedAllX K C)) :
    OkG P w K mg base (k + 1) "_law_right" s__law_right ["_law_box_here"] spRight := by
  refine D.okG sc__law_right b__law_right (fun vs H Q E h => ?_) (fun f cdv A outer s H vs Q E hr hG h => ?_)
  · obtain ⟨b, rfl, _⟩ := h
    rfl
  · obtain ⟨b, rfl, hb, q⟩ := h
    refine ⟨_, (pss_cons (ps_for PassesOwn.never rfl (pi_range1 (by rfl) T.range_ (pa_cons pe_int pa_nil)) (pg_name (i := 1) sc__law_right.nd rfl (.inl rfl))
        (pss_cons (ps_set (i := 2) sc__law_right.nd rfl (.inr rfl) (pe_fn O__law_sea (hr.mono (by omega)) (pa_cons (pv 0) (pa_cons pe_int pa_nil))))
          (pss_cons (ps_set (i := 3) sc__law_right.nd rfl (.inl rfl) (pe_fn O__law_lot (hr.mono (by omega)) (pa_cons (pv 0) (pa_cons (pe_callB call_len_seq (by rfl) T.len_ PySem.boot_len (pa_cons (pe_ix ix_lt (pv 2) pe_int (fun _ _ => rfl)) pa_nil)) pa_nil))))
          (pss_cons (ps_asg (pe_fn O__law_walk (hr.mono (by omega)) (pa_cons (pv 0) (pa_cons (pv 2) (pa_cons (pv 3) (pa_cons (pe_fn O__law_take (hr.mono (by omega)) (pa_cons (pv 0) (pa_cons pe_int pa_nil))) pa_nil))))) (pg_seq rfl (pgs_cons (pg_name (i := 4) sc__law_right.nd rfl (.inl rfl)) (pgs_cons (pg_name (i := 5) sc__law_right.nd rfl (.inl rfl)) pgs_nil))))
          (pss_cons (ps_set (i := 6) sc__law_right.nd rfl (.inl rfl) (pe_callB (cr_repr hG (reprU hr)) (by rfl) T.repr_ (by decide +kernel) (pa_cons (pe_lst (pa_cons (pv 2) (pa_cons (pv 3) (pa_cons (pv 5) pa_nil)))) pa_nil)))
          (pss_cons (ps_set (i := 7) sc__law_right.nd rfl (.inl rfl) (pe_lst (pa_cons (pe_fnL O_crossed_all (hr.mono (by omega)) (pa_cons (pv 2) (pa_cons (pv 3) (pa_cons (pv 5) pa_nil)))) (pa_cons (pe_fnK0L (ks := ["row", "standing", "sea"]) [2, 1, 0] O_crossed_all (hr.mono (by omega)) (fun _ _ _ _ _ _ ws hk => match ws, hk with | [_, _, _], _ => rfl) (pk_cons (pe_callTy call_tuple_of (by rfl) T.tuple_ (by decide +kernel) (pa_cons (pv 5) pa_nil)) (pk_cons (pe_callTy call_list_of (by rfl) T.list_ (by decide +kernel) (pa_cons (pv 3) pa_nil)) (pk_cons (pv 2) pk_nil)))) pa_nil))))
          (pss_cons (ps_if (PW.pt (pw_or (pt_not (pt_val (pe_fn O__law_same (hr.mono (by omega)) (pa_cons (pv 7) (pa_cons (pe_lst (pa_cons (pv 4) (pa_cons (pv 4) pa_nil))) pa_nil))))) (pw_or1 (pt_not (pt_val (pe_fn O__law_same (hr.mono (by omega)) (pa_cons (pe_fnL O_crossed_all (hr.mono (by omega)) (pa_cons (pv 2) (pa_cons (pv 4) (pa_cons (pe_revL (pv 5)) pa_nil)))) (pa_cons (pv 3) pa_nil))))))))
            (pss_one (ps_ret pe_bl))
            pss_nil)
          (pss_cons (ps_set (i := 8) sc__law_right.nd rfl (.inl rfl) (pv 3))
          (pss_cons (ps_for PassesOwn.never rfl (pi_seq (pv 5)) (pg_name (i := 9) sc__law_right.nd rfl (.inl rfl))
            (pss_cons (ps_if (pt_not (pt_val (pe_fn O__law_same (hr.mono (by omega)) (pa_cons (pe_fnL O_crossed (hr.mono (by omega)) (pa_cons (pv 2) (pa_cons (pv 8) (pa_cons (pv 9) pa_nil)))) (pa_cons (pe_fn O__law_gone (hr.mono (by omega)) (pa_cons (pv 8) (pa_cons (pv 9) pa_nil))) pa_nil)))))
                (pss_one (ps_ret pe_bl))
                pss_nil)
              (pss_one (ps_set (i := 8) sc__law_right.nd rfl (.inl rfl) (pe_fn O__law_gone (hr.mono (by omega)) (pa_cons (pv 8) (pa_cons (pv 9) pa_nil)))))))
          (pss_cons (ps_set (i := 10) sc__law_right.nd rfl (.inl rfl) (pe_fn O__law_take (hr.mono (by omega)) (pa_cons (pv 0) (pa_cons (pe_op op_add (pe_callB call_len_seq (by rfl) T.len_ PySem.boot_len (pa_cons (pv 5) pa_nil)) pe_int) pa_nil))))
          (pss_cons (ps_set (i := 11) sc__law_right.nd rfl (.inr rfl) (pe_fnL O_crossed_all (hr.mono (by omega)) (pa_cons (pv 2) (pa_cons (pv 3) (pa_cons (pe_slice sl_list (pv 5) po_none (po_some (pv 10))) pa_nil)))))
          (pss_cons (ps_setLc (i := 12) (own := [("_law_whom", 9)]) (g := (gName 9)) (by rfl) sc__law_right.nd rfl rfl (sw_true rfl rfl rfl (by decide +kernel)) (pi_range1 (by rfl) T.range_ (pa_cons (pe_callB call_len_seq (by rfl) T.len_ PySem.boot_len (pa_cons (pe_ix ix_lt (pv 2) pe_int (fun _ _ => rfl)) pa_nil)) pa_nil)) (blkOk_by (own := [("_law_whom", 9)]) (N := (["_law_box_here", "_law_turn", "_law_pool", "_law_lot_here", "_law_there", "_law_went", "_law_kept", "_law_told_here", "_law_here", "_law_whom", "_law_at", "_law_midst", "_law_fast", "_law_heard"] : List Str)) (sc := defScope s__law_right) (by decide +kernel)) (fun _ _ _ _ _ => (pg_name (i := 9) sc__law_right.nd rfl (.inl rfl))) (fun _ _ _ _ _ => (pts_one (pt_cmpR (op_notInK K) (pv 9) (pe_fn O__law_lets (hr.mono (by omega)) (pa_cons (pv 2) (pa_cons (pv 11) pa_nil))) (by rfl)))) (fun _ _ _ _ _ => (pv 9)))
          (Evl.pss_cut (ps_if (pt_cmpR (op_neD hr.units) (pv 12) (pe_lst pa_nil) (nomark _))
            (pss_cons (ps_set (i := 9) sc__law_right.nd rfl (.inl rfl) (pe_fn O__law_of (hr.mono (by omega)) (pa_cons (pv 0) (pa_cons (pv 12) pa_nil))))
              (pss_cons (ps_set (i := 13) sc__law_right.nd rfl (.inl rfl) (pe_lst (pa_cons (pe_fn O__law_told (hr.mono (by omega)) (pa_cons (pv 2) (pa_cons (pv 3) (pa_cons (pe_op op_cat (pe_op op_cat (pe_slice sl_list (pv 5) po_none (po_some (pv 10))) (pe_lst (pa_cons (pv 9) pa_nil))) (pe_slice sl_list (pv 5) (po_some (pv 10)) po_none)) (pa_cons pe_bl pa_nil))))) (pa_cons (pe_fn O__law_told (hr.mono (by omega)) (pa_cons (pv 2) (pa_cons (pv 11) (pa_cons (pe_lst (pa_cons (pv 9) pa_nil)) (pa_cons pe_bl pa_nil))))) pa_nil))))
              (pss_one (ps_if (pt_not (pt_val (pe_fn O__law_same (hr.mono (by omega)) (pa_cons (pv 13) (pa_cons (pe_op op_rep (pe_lst (pa_cons (pe_lst (pa_cons pe_str (pa_cons (pv 9) pa_nil))) pa_nil)) pe_int) pa_nil)))))
                (pss_one (ps_ret pe_bl))
                pss_nil))))
            pss_nil)
          (pss_one (ps_if (PW.pt (pw_or (pt_cmpR op_ne (pe_callB (cr_repr hG (reprU hr)) (by rfl) T.repr_ (by decide +kernel) (pa_cons (pe_lst (pa_cons (pv 2) (pa_cons (pv 3) (pa_cons (pv 5) pa_nil)))) pa_nil)) (pv 6) (nomark _)) (pw_or1 (pt_not (pt_val (pe_fn O__law_same (hr.mono (by omega)) (pa_cons (pe_fnL O_crossed_all (hr.mono (by omega)) (pa_cons (pv 2) (pa_cons (pe_callTy call_list_of (by rfl) T.list_ (by decide +kernel) (pa_cons (pv 3) pa_nil)) (pa_cons (pe_lst pa_nil) pa_nil)))) (pa_cons (pv 3) pa_nil))))))))
            (pss_one (ps_ret pe_bl))
            pss_nil)))))))))))))))
      (pss_one (ps_ret pe_bl))), ?_⟩
    refine ⟨3, rfl, by decide, by decide, for_range (lo := 0) (n := 3) (fun i σ H' => ∃ y1 y2 y3 y4 y5 y6 y7 y8 y9 y10 y11 y12 y13 : Option V, σ = [some (.ref b), y1, y2, y3, y4, y5, y6, y7, y8, y9, y10, y11, y12, y13] ∧ BoxAt H' b (100000 - 1000 * i) ∧ But b H H')
      ⟨none, none, none, none, none, none, none, none, none, none, none, none, none, rfl, hb, But.refl b H⟩ ?_ ?_⟩
    · rintro i σ Hc hi ⟨y1, y2, y3, y4, y5, y6, y7, y8, y9, y10, y11, y12, y13, rfl, xc, uc⟩
      have hi3 : i < 3 := hi
      refine ⟨_, rfl, b, 100000 - 1000 * i - 200, 12, rfl, by decide, by decide, xc.mono (by omega), fun H1 p q' h t ds u1 x1 np nq hp hq so => ?_⟩
      have k0 := so.l0
      have k1 : ds.length ≤ 12 := so.l1
      have sea1 : SeaT K H1 (.ref p) h t ds := ⟨p, q', rfl, SqT.of hp, SqT.of hq⟩
      refine ⟨_, rfl, _, rfl, p, _, 2, .ref q', rfl, rfl, SqA.t hp, rfl, q', _, rfl, .inr (SqT.of hq), b, 100000 - 1000 * i - 300, ds.length, ?_, by omega, x1.mono (by omega), fun H2 pf L u2 x2 npf hpf hL => ?_⟩
      · rw [List.length_map]
        rfl
      have sea2 := sea1.but x1 u2
      have fst2 : LotT K H2 (.ref pf) L := ⟨pf, rfl, SqT.of hpf⟩
      have u12 := (uc.trans u1).trans u2
      clear hp hq np nq sea1 hpf npf
      -- crossings
      refine ⟨_, rfl, _, rfl, _, rfl, _, rfl, b, 100000 - 1000 * i - 310, 31, rfl, by decide, by decide, x2.mono (by omega), fun mo ys mo0 mo1 hy => ?_⟩
      obtain ⟨m, rfl⟩ : ∃ m : Nat, mo = (m : Int) := ⟨mo.toNat, by omega⟩
      have u3 : But b H2 (upd H2 b (.lst ys)) := But.ups
      have x3 : BoxAt (upd H2 b (.lst ys)) b (100000 - 1000 * i - 310) := .put hy
      have sea3 := sea2.but x2 u3
      have fst3 := fst2.but x2 u3
      generalize upd H2 b (.lst ys) = H3 at u3 x3 sea3 fst3
      refine ⟨b, 100000 - 1000 * i - 400, m, .ref p, .ref pf, h, t, ds, L, rfl, by omega, x3.mono (by omega), sea3, fst3, by omega, hL, fun H4 pz pw z M row u4 x4 npz hpz hz npw hpw lrow gs _ => ?_⟩
      refine ⟨pz, _, rfl, SqA.t hpz, rfl, _, _, rfl, _, _, rfl, rfl, ?_⟩
      have c4 : C04 K b pw (.ref p) (.ref pf) z h t ds L M row (100000 - 1000 * i - 400) H H4 := ⟨x4, (u12.trans u3).trans u4, sea3.but x3 u4, fst3.but x3 u4, hz, hpw, (x3.ne npw).symm⟩
      have hM : Lot ds.length M := goes_lotM hL gs
      have rin := goes_in gs
      have lr : row.length ≤ 30 := by omega
      clear hpz npz hz npw hpw u4 x4 sea3 fst3 u3 x3 hy sea2 fst2 u12 u2 x2 u1 x1 xc uc
      -- kept

      have gX := goesX_of gs
      have lM := hM.len
      have lL := hL.len
      refine ⟨_, rfl, _, rfl, _, rfl, (by show 3 ≤ sizeLine; decide), fun kl nkl => ?_⟩
      have s5 : Same H4 (upd H4 kl (.lst [.ref p, .ref pf, .ref pw])) := same_new nkl
      have e5 : upd H4 kl (.lst [.ref p, .ref pf, .ref pw]) kl = some (.lst [.ref p, .ref pf, .ref pw]) := upd_same
      generalize upd H4 kl (.lst [.ref p, .ref pf, .ref pw]) = H5 at s5 e5
      have c5 := c4.same s5
      have fl : ∀ {X : List Nat}, Lot ds.length X → Fit 1703 2 (.tuple ((X.map fun (i : Nat) => (i : Int)).map .int)) := fun hX => (Fit.tup (fit_lot (by have := hX.len; omega) fun i hi => by have := hX.lt i hi; omega)).mono (Nat.le_refl _) (by decide)
      have fw : Fit 1703 2 (.list ((row.map fun (i : Nat) => (i : Int)).map .int)) := (Fit.list (fit_lot (by omega) fun i hi => by have := rin i hi; omega)).mono (Nat.le_refl _) (by decide)
      have fitK : Fit 6000 3 (.list [.tuple [.int h, .int t, .tuple (ds.map .int)], .tuple ((L.map fun (i : Nat) => (i : Int)).map .int), .list ((row.map fun (i : Nat) => (i : Int)).map .int)]) :=
        (Fit.list (.cons (fit_sea so (by decide)) (.cons (fl hL) (.cons fw (.nil 2))))).mono (by decide) (Nat.le_refl 3)
      have dK : ∀ {H' : Hp} {kl : Addr} {n : Nat}, C04 K b pw (.ref p) (.ref pf) z h t ds L M row n H H' → H' kl = some (.lst [.ref p, .ref pf, .ref pw]) → Dp K H' (.ref kl) (.list [.tuple [.int h, .int t, .tuple (ds.map .int)], .tuple ((L.map fun (i : Nat) => (i : Int)).map .int), .list ((row.map fun (i : Nat) => (i : Int)).map .int)]) := fun c x => .lst (SqL.of x) (.cons c.sea.dp (.cons c.fst.dp (.cons (dp_ni c.went) .nil)))
      refine ⟨kl, _, rfl, dK c5 e5, fitK.shaped (by decide), fitK.sh, fitK.sz (by decide), ?_⟩
      generalize hX : PyData.shown (.list [.tuple [.int h, .int t, .tuple (ds.map .int)], .tuple ((L.map fun (i : Nat) => (i : Int)).map .int), .list ((row.map fun (i : Nat) => (i : Int)).map .int)]) = txt
      clear e5 nkl c4
      -- told twice
      refine ⟨_, rfl, _, rfl, _, rfl, .ref p, .ref pf, .ref pw, h, t, ds, L, row, rfl, c5.sea.a, c5.fst.a, ⟨pw, rfl, SqA.l c5.went⟩, by omega, by omega, hL, rin, fun _ H6 z1 s6 hz1 => ?_, fun i e => by rw [gX] at e; cases e⟩
      rw [gX] at hz1
      replace hz1 : LotT K H6 z1 M := hz1
      have c6 := c5.same s6

      refine ⟨_, rfl, pw, ni row, rfl, .inl ⟨SqL.of c6.went, fun tw ntw => ?_⟩⟩
      have s7 : Same H6 (upd H6 tw (.tup (ni row))) := same_new ntw
      have e7 : upd H6 tw (.tup (ni row)) tw = some (.tup (ni row)) := upd_same
      generalize upd H6 tw (.tup (ni row)) = H7 at s7 e7
      obtain ⟨pl, epl, hl⟩ := (c6.same s7).fst
      cases epl
      refine ⟨_, rfl, pf, ni L, rfl, .inr hl, fun ll nll => ?_⟩
      have s8 : Same H7 (upd H7 ll (.lst (ni L))) := same_new nll
      have e8 : upd H7 ll (.lst (ni L)) ll = some (.lst (ni L)) := upd_same
      replace e7 := s8 _ _ e7
      generalize upd H7 ll (.lst (ni L)) = H8 at s8 e8 e7
      have c8 := (c6.same s7).same s8
      refine ⟨_, rfl, ⟨rfl, rfl⟩, .ref p, .ref ll, .ref tw, h, t, ds, L, row, rfl, c8.sea.a, ⟨ll, rfl, SqA.l e8⟩, ⟨tw, rfl, SqA.t e7⟩, by omega, by omega, hL, rin, fun _ H9 z2 s9 hz2 => ?_, fun i e => by rw [gX] at e; cases e⟩
      rw [gX] at hz2
      replace hz2 : LotT K H9 z2 M := hz2
      replace hz1 := hz1.same (s7.trans (s8.trans s9))
      have c9 := c8.same s9
      refine ⟨(by show 2 ≤ sizeLine; decide), fun t1 nt1 => ?_⟩
      have s10 : Same H9 (upd H9 t1 (.lst [z1, z2])) := same_new nt1
      have e10 : upd H9 t1 (.lst [z1, z2]) t1 = some (.lst [z1, z2]) := upd_same
      generalize upd H9 t1 (.lst [z1, z2]) = H10 at s10 e10
      replace hz1 := hz1.same s10
      replace hz2 := hz2.same s10
      have c10 := c9.same s10
      clear e7 e8 hl s5 s6 s7 s8 s9 s10 c5 c6 c8 c9 ntw nll nt1
      -- the first test
      refine ⟨_, rfl, _, rfl, _, rfl, (by show 2 ≤ sizeLine; decide), fun t2 nt2 => ?_⟩
      have s11 : Same H10 (upd H10 t2 (.lst [z, z])) := same_new nt2
      have e11 : upd H10 t2 (.lst [z, z]) t2 = some (.lst [z, z]) := upd_same
      replace e10 := s11 _ _ e10
      replace hz1 := hz1.same s11
      replace hz2 := hz2.same s11
      generalize upd H10 t2 (.lst [z, z]) = H11 at s11 e11 e10 hz1 hz2
      have c11 := c10.same s11
      refine ⟨.ref t1, .ref t2, _, rfl, .lst (SqL.of e10) (.cons hz1.dp (.cons hz2.dp .nil)), .lst (SqL.of e11) (.cons c11.thr.dp (.cons c11.thr.dp .nil)), lv_two (lv_lot (by omega)) (lv_lot (by omega)), fun H12 s12 => ⟨true, rfl, iteF ?_⟩⟩
      have c12 := c11.same s12
      clear e10 e11 hz1 hz2 s11 s12 c10 c11 nt2
      refine ⟨_, rfl, _, rfl, _, rfl, pw, _, rfl, SqL.of c12.went, fun rv nrv => ?_⟩
      rw [ni_rev4]
      have s13 : Same H12 (upd H12 rv (.lst (ni row.reverse))) := same_new nrv
      have e13 : upd H12 rv (.lst (ni row.reverse)) rv = some (.lst (ni row.reverse)) := upd_same
      generalize upd H12 rv (.lst (ni row.reverse)) = H13 at s13 e13
      have c13 := c12.same s13
      have gB := goesX_of (goes_back hL gs)
      refine ⟨.ref p, z, .ref rv, h, t, ds, M, row.reverse, rfl, c13.sea.a, c13.thr.a, ⟨rv, rfl, SqA.l e13⟩, by omega, by rw [List.length_reverse]; omega, hM, fun i hi => rin i (List.mem_reverse.mp hi), fun _ H14 z3 s14 hz3 => ?_, fun i e => by rw [gB] at e; cases e⟩
      rw [gB] at hz3
      replace hz3 : LotT K H14 z3 L := hz3
      have c14 := c13.same s14
      refine ⟨_, rfl, z3, .ref pf, _, rfl, hz3.dp, c14.fst.dp, lv_lot (by omega), fun H15 s15 => ⟨true, rfl, iteF ?_⟩⟩
      have c15 := c14.same s15
      clear c12 c13 c14 s13 e13 s14 s15 hz3 nrv
      -- one by one
      refine ⟨_, rfl, _, rfl, pw, _, H15, rfl, .inl (SqL.of c15.went), Kp.refl _ _, fun J hJ => ?_⟩
      obtain ⟨G, g, W⟩ := hJ.walk
      refine for_it W (fun j σ H' => ∃ (x : V) (X : List Nat) (y9 : Option V), σ = [some (.ref b), some (.int (0 + (i : Int))), some (.ref p), some (.ref pf), some z, some (.ref pw), some (.str txt), some (.ref t1), some x, y9, y10, y11, y12, y13] ∧ Same H15 H' ∧ LotT K H' x X ∧ Lot ds.length X ∧ goes h t ds X (row.drop j) = some M)
        ⟨.ref pf, L, _, rfl, Same.refl _, c15.fst, hL, gs⟩ (fun j σ H' _ ⟨_, _, _, _, s, _⟩ => g H' (.ofS s)) ?_ ?_
      · rintro j x σ H16 H17 hj ⟨x', X, y9, rfl, s16, hX', lX, gX'⟩ ⟨rfl, gx⟩
        rw [ni_len] at hj
        obtain rfl : .int ((row[j] : Nat) : Int) = x := Option.some.inj ((ni_get hj).symm.trans gx)
        have c16 := c15.same s16
        rw [List.drop_eq_getElem_cons hj] at gX'
        unfold goes at gX'
        have ix := rin _ (List.getElem_mem hj)
        have my : mayB h t ds X row[j] = true := by
          by_cases c : row[j] < ds.length ∧ mayB h t ds X row[j] = true
          · exact c.2
          · rw [if_neg c] at gX'
            cases gX'
        rw [if_pos ⟨ix, my⟩] at gX'
        have lXl := lX.len
        refine ⟨_, rfl, _, rfl, _, rfl, .ref p, x', h, t, ds, X, row[j], rfl, c16.sea.a, hX'.a, by omega, lX, ix, fun _ Ha za sa hza => ?_, fun e => by rw [my] at e; cases e⟩
        refine ⟨_, rfl, _, rfl, x', X, ds.length, row[j], rfl, (hX'.same sa).a, lX, by omega, ix, fun Hb pb sb npb hpb => ?_⟩
        have lg := (gone_lot lX ix).len
        refine ⟨za, .ref pb, _, rfl, (hza.same sb).dp, LotT.dp ⟨pb, rfl, SqT.of hpb⟩, lv_lot (by omega), fun Hd sd => ⟨true, rfl, iteF ?_⟩⟩
        have sad := sa.trans (sb.trans sd)
        refine ⟨_, rfl, _, rfl, x', X, ds.length, row[j], rfl, (hX'.same sad).a, lX, by omega, ix, fun He pe se npe hpe => ?_⟩
        exact ⟨.ref pe, gone X row[j], _, rfl, s16.trans (sad.trans se), ⟨pe, rfl, SqT.of hpe⟩, gone_lot lX ix, gX'⟩
      · rintro σ H16 ⟨x', X, y9, rfl, s16, hX', lX, gX'⟩
        have c16 := c15.same s16
        clear c15 hX' gX' lX s16 W g hJ
        refine ⟨_, rfl, _, rfl, pw, _, rfl, .inl (SqL.of c16.went), _, _, rfl, rfl, b, 100000 - 1000 * i - 410, _, rfl, by rw [ni_len]; omega, by rw [ni_len]; omega, c16.box.mono (by omega), fun at' ys at0 at1 hy => ?_⟩
        rw [ni_len] at at1
        obtain ⟨c, rfl⟩ : ∃ c : Nat, at' = (c : Int) := ⟨at'.toNat, by omega⟩
        have hc : c ≤ row.length := by omega
        have u17 : But b H16 (upd H16 b (.lst ys)) := But.ups
        have x17 : BoxAt (upd H16 b (.lst ys)) b (100000 - 1000 * i - 410) := .put hy
        have c17 := c16.move u17 x17
        generalize upd H16 b (.lst ys) = H17 at c17
        clear c16 u17 x17 hy
        -- in the midst
        refine ⟨_, rfl, _, rfl, _, rfl, _, rfl, (c : Int), rfl, pw, _, rfl, SqL.of c17.went, fun wp nwp => ?_⟩
        rw [cutN_to hc]
        have s18 : Same H17 (upd H17 wp (.lst (ni (row.take c)))) := same_new nwp
        have e18 : upd H17 wp (.lst (ni (row.take c))) wp = some (.lst (ni (row.take c))) := upd_same
        generalize upd H17 wp (.lst (ni (row.take c))) = H18 at s18 e18
        have c18 := c17.same s18
        obtain ⟨N, g1, g2⟩ := goes_split4 c gs
        have gN := goesX_of g1
        have hN : Lot ds.length N := goes_lotM hL g1
        have lN := hN.len
        refine ⟨.ref p, .ref pf, .ref wp, h, t, ds, L, row.take c, rfl, c18.sea.a, c18.fst.a, ⟨wp, rfl, SqA.l e18⟩, by omega, by rw [List.length_take]; omega, hL, fun i hi => rin i (List.mem_of_mem_take hi), fun _ H19 z4 s19 hz4 => ?_, fun i e => by rw [gN] at e; cases e⟩
        rw [gN] at hz4
        replace hz4 : LotT K H19 z4 N := hz4
        have c19 := c18.same s19
        clear c17 c18 s18 e18 s19 nwp
        -- those that lie fast there
        obtain ⟨sp, sq, esp, hsp, hsq⟩ := id c19.sea
        refine ⟨_, rfl, sp, _, 2, .ref sq, esp, rfl, .inr hsp, rfl, sq, _, rfl, .inr hsq, _, rfl, by omega, ?_, fun C nC => ?_⟩
        · rw [List.length_map]
          omega
        rw [List.length_map, show ((ds.length : Int)).toNat = ds.length by omega]
        refine lc_range (fun j H' => Same H19 H' ∧ H' C = some (.lst (ni ((List.range j).filter fun m => !mayB h t ds N m)))) ⟨same_new nC, upd_same⟩ ?_ ?_
        · rintro j Ha hj ⟨sa, hC⟩
          refine ⟨rfl, ?_⟩
          rw [Int.zero_add (j : Int)]
          refine ⟨_, rfl, _, rfl, _, rfl, .ref p, z4, h, t, ds, N, rfl, (c19.same sa).sea.a, (hz4.same sa).a, by omega, by omega, fun Hb la sb nla hla => ?_⟩
          refine ⟨la, _, rfl, .inl (SqL.of hla), rfl, ni_flat _, _, rfl, ?_⟩
          have em : decide (j ∈ lets h t ds N ds.length) = mayB h t ds N j := by
            rw [Bool.eq_iff_iff, decide_eq_true_eq, lets_mem]
            exact ⟨fun z => z.2, fun z => ⟨hj, z⟩⟩
          rw [if_pos rfl, in_ni, em]
          have s2 := sa.trans sb
          have hCb := sb _ _ hC
          cases c0 : mayB h t ds N j with
          | true =>
            refine iteF ⟨s2, ?_⟩
            rw [hCb, filter_succ, if_neg (by rw [c0]; decide), List.append_nil]
          | false =>
            refine iteT ⟨_, rfl, _, hCb, ?_, same_over s2 nC, ?_⟩
            · rw [ni_len]
              exact Nat.lt_of_le_of_lt (filter_len _ _) (small1000 (by omega))
            · rw [upd_same, filter_succ, if_pos (by rw [c0]; rfl), ni_app]
              rfl
        rintro H20 ⟨s20, hC⟩
        have hF : ∀ g ∈ (List.range ds.length).filter (fun m => !mayB h t ds N m), g < ds.length ∧ mayB h t ds N g = false := fun g hg => by
          rw [List.mem_filter, List.mem_range] at hg
          exact ⟨hg.1, by simpa using hg.2⟩
        have lF : ((List.range ds.length).filter fun m => !mayB h t ds N m).length ≤ ds.length := filter_len _ _
        generalize ((List.range ds.length).filter fun m => !mayB h t ds N m) = F at hC hF lF
        have c20 := c19.same s20
        replace hz4 := hz4.same s20
        have Cb : C ≠ b := (c19.box.ne nC).symm
        clear c19 s20 nC hsp hsq esp
        refine ⟨fun σ' H' => ∃ (y9 y13 : Option V), σ' = [some (.ref b), some (.int (0 + (i : Int))), some (.ref p), some (.ref pf), some z, some (.ref pw), some (.str txt), some (.ref t1), some x', y9, some (.int (c : Int)), some z4, some (.ref C), y13] ∧ C04 K b pw (.ref p) (.ref pf) z h t ds L M row (100000 - 1000 * i - 500) H H', ?_, ?_⟩
        · refine ⟨_, rfl, Nat.zero_le _, fun em nem => ?_⟩
          have s21 : Same H20 (upd H20 em (.lst [])) := same_new nem
          have e21 : upd H20 em (.lst []) em = some (.lst []) := upd_same
          generalize upd H20 em (.lst []) = H21 at s21 e21
          replace hC := s21 _ _ hC
          have c21 := c20.same s21
          replace hz4 := hz4.same s21
          refine ⟨_, .list [], dp_ni hC, .lst (SqL.of e21) .nil, shaped_ints _, rfl, _, rfl, ?_⟩
          rw [eqv_nil]
          by_cases e0 : F = []
          · rw [e0]
            exact iteF ⟨_, _, rfl, c21.move (But.refl _ _) (c21.box.mono (by omega))⟩
          have ie : (!(F.map fun (i : Nat) => (i : Int)).isEmpty) = true := by
            cases e : F with
            | nil => exact absurd e e0
            | cons => rfl
          rw [ie]
          refine iteT ?_
          refine ⟨_, rfl, _, rfl, b, C, 100000 - 1000 * i - 420, _, rfl, SqA.l hC, Cb, ?_, ?_, c21.box.mono (by omega), fun x ys hx hy => ?_⟩
          · rw [ni_len]
            exact List.length_pos_iff.mpr e0
          · rw [ni_len]
            omega
          obtain ⟨gg, hgF, rfl⟩ : ∃ gg ∈ F, x = .int (gg : Int) := by
            obtain ⟨gg, hg, e⟩ := List.mem_map.mp hx
            exact ⟨gg, hg, e.symm⟩
          obtain ⟨hg1, hg2⟩ := hF gg hgF
          have u22 : But b H21 (upd H21 b (.lst ys)) := But.ups
          have x22 : BoxAt (upd H21 b (.lst ys)) b (100000 - 1000 * i - 420) := .put hy
          have c22 := c21.move u22 x22
          have hz22 := hz4.but c21.box u22
          generalize upd H21 b (.lst ys) = H22 at c22 hz22
          clear u22 x22 hy c21 hz4 e21 s21 nem hC ie hx
          -- told by the whole row
          refine ⟨_, rfl, _, rfl, _, rfl, _, rfl, (c : Int), rfl, pw, _, rfl, SqL.of c22.went, fun wa nwa => ?_⟩
          rw [cutN_to hc]
          have sA : Same H22 (upd H22 wa (.lst (ni (row.take c)))) := same_new nwa
          have eA : upd H22 wa (.lst (ni (row.take c))) wa = some (.lst (ni (row.take c))) := upd_same
          generalize upd H22 wa (.lst (ni (row.take c))) = H23 at sA eA
          refine ⟨_, rfl, (by show 1 ≤ sizeLine; decide), fun wb nwb => ?_⟩
          have sB : Same H23 (upd H23 wb (.lst [.int (gg : Int)])) := same_new nwb
          have eB : upd H23 wb (.lst [.int (gg : Int)]) wb = some (.lst (ni [gg])) := upd_same
          replace eA := sB _ _ eA
          generalize upd H23 wb (.lst [.int (gg : Int)]) = H24 at sB eB eA
          refine ⟨wa, wb, _, _, rfl, rfl, eA, eB, ?_, fun wc nwc => ?_⟩
          · rw [ni_len, ni_len, List.length_take]
            exact Nat.le_trans (show _ ≤ 1000 by simp; omega) (by decide)
          rw [← ni_app]
          have sC : Same H24 (upd H24 wc (.lst (ni (row.take c ++ [gg])))) := same_new nwc
          have eC : upd H24 wc (.lst (ni (row.take c ++ [gg]))) wc = some (.lst (ni (row.take c ++ [gg]))) := upd_same
          generalize upd H24 wc (.lst (ni (row.take c ++ [gg]))) = H25 at sC eC
          have sAC := sA.trans (sB.trans sC)
          have c25 := c22.same sAC
          have hz25 := hz22.same sAC
          clear sA sB sC eA eB nwa nwb nwc c22 hz22 sAC
          refine ⟨_, rfl, _, rfl, (c : Int), rfl, pw, _, rfl, SqL.of c25.went, fun wd nwd => ?_⟩
          rw [cutN_from hc]
          have sD : Same H25 (upd H25 wd (.lst (ni (row.drop c)))) := same_new nwd
          have eD : upd H25 wd (.lst (ni (row.drop c))) wd = some (.lst (ni (row.drop c))) := upd_same
          replace eC := sD _ _ eC
          generalize upd H25 wd (.lst (ni (row.drop c))) = H26 at sD eD eC
          refine ⟨wc, wd, _, _, rfl, rfl, eC, eD, ?_, fun we nwe => ?_⟩
          · rw [ni_len, ni_len, List.length_append, List.length_take, List.length_drop]
            exact Nat.le_trans (show _ ≤ 1000 by simp; omega) (by decide)
          rw [← ni_app]
          have sE : Same H26 (upd H26 we (.lst (ni ((row.take c ++ [gg]) ++ row.drop c)))) := same_new nwe
          have eE : upd H26 we (.lst (ni ((row.take c ++ [gg]) ++ row.drop c))) we = some (.lst (ni (row.take c ++ gg :: row.drop c))) := by
            rw [upd_same, List.append_assoc]
            rfl
          generalize upd H26 we (.lst (ni ((row.take c ++ [gg]) ++ row.drop c))) = H27 at sE eE
          have c27 := c25.same (sD.trans sE)
          have hz27 := hz25.same (sD.trans sE)
          clear sD sE eC eD nwd nwe c25 hz25
          refine ⟨.ref p, .ref pf, we, false, h, t, ds, L, _, gg, rfl, c27.sea.a, c27.fst.a, SqL.of eE, by omega, ?_, hL, ?_, fun _ => goesX_stop (row.drop c) g1 hg2, (fun z => by cases z), fun H28 h1 s28 nh1 eh1 => ?_⟩
          · rw [List.length_append, List.length_cons, List.length_take, List.length_drop]
            omega
          · intro j hj
            rcases List.mem_append.mp hj with z | z
            · exact rin j (List.mem_of_mem_take z)
            · rcases List.mem_cons.mp z with rfl | z
              · exact hg1
              · exact rin j (List.mem_of_mem_drop z)
          have c28 := c27.same s28
          have hz28 := hz27.same s28
          -- told by one alone
          refine ⟨_, rfl, _, rfl, _, rfl, (by show 1 ≤ sizeLine; decide), fun wf nwf => ?_⟩
          have sF : Same H28 (upd H28 wf (.lst [.int (gg : Int)])) := same_new nwf
          have eF : upd H28 wf (.lst [.int (gg : Int)]) wf = some (.lst (ni [gg])) := upd_same
          replace eh1 := sF _ _ eh1
          generalize upd H28 wf (.lst [.int (gg : Int)]) = H29 at sF eF eh1
          have c29 := c28.same sF
          have hz29 := hz28.same sF
          refine ⟨.ref p, z4, wf, true, h, t, ds, N, [gg], gg, rfl, c29.sea.a, hz29.a, SqL.of eF, by omega, by show 1 ≤ 1000; decide, hN, fun j hj => by rw [List.mem_singleton.mp hj]; exact hg1, (fun z => by cases z), fun _ => ⟨rfl, hg2⟩, fun H30 h2 s30 nh2 eh2 => ?_⟩
          replace eh1 := s30 _ _ eh1
          have c30 := c29.same s30
          refine ⟨(by show 2 ≤ sizeLine; decide), fun hl nhl => ?_⟩
          have sG : Same H30 (upd H30 hl (.lst [.ref h1, .ref h2])) := same_new nhl
          have eG : upd H30 hl (.lst [.ref h1, .ref h2]) hl = some (.lst [.ref h1, .ref h2]) := upd_same
          replace eh1 := sG _ _ eh1
          replace eh2 := sG _ _ eh2
          generalize upd H30 hl (.lst [.ref h1, .ref h2]) = H31 at sG eG eh1 eh2
          have c31 := c30.same sG
          clear c27 c28 c29 c30 hz27 hz28 hz29 s28 sF s30 sG eE eF nwf nh1 nh2 nhl
          -- the same as due
          refine ⟨_, rfl, _, rfl, (by show 2 ≤ sizeLine; decide), fun li nli => ?_⟩
          have sI : Same H31 (upd H31 li (.lst [.str "may not", .int (gg : Int)])) := same_new nli
          have eI : upd H31 li (.lst [.str "may not", .int (gg : Int)]) li = some (.lst [.str "may not", .int (gg : Int)]) := upd_same
          generalize upd H31 li (.lst [.str "may not", .int (gg : Int)]) = H32 at sI eI
          refine ⟨(by show 1 ≤ sizeLine; decide), fun lo nlo => ?_⟩
          have sJ : Same H32 (upd H32 lo (.lst [.ref li])) := same_new nlo
          have eJ : upd H32 lo (.lst [.ref li]) lo = some (.lst [.ref li]) := upd_same
          replace eI := sJ _ _ eI
          generalize upd H32 lo (.lst [.ref li]) = H33 at sJ eJ eI
          refine ⟨lo, 2, _, rfl, rfl, eJ, by decide, by decide, (by show 2 ≤ sizeLine; decide), fun rp nrp => ?_⟩
          have sK : Same H33 (upd H33 rp (.lst [.ref li, .ref li])) := same_new nrp
          have eK : upd H33 rp (.lst [.ref li, .ref li]) rp = some (.lst [.ref li, .ref li]) := upd_same
          replace eI := sK _ _ eI
          show _
          have sIK := sI.trans (sJ.trans sK)
          replace eG := sIK _ _ eG
          replace eh1 := sIK _ _ eh1
          replace eh2 := sIK _ _ eh2
          have c33 := c31.same sIK
          refine ⟨.ref hl, .ref rp, .list [.list [.str "may not", .int (gg : Int)], .list [.str "may not", .int (gg : Int)]], rfl, .lst (SqL.of eG) (.cons (.lst (SqL.of eh1) (.cons (.str _) (.cons (.int _) .nil))) (.cons (.lst (SqL.of eh2) (.cons (.str _) (.cons (.int _) .nil))) .nil)), .lst (SqL.of eK) (.cons (.lst (SqL.of eI) (.cons (.str _) (.cons (.int _) .nil))) (.cons (.lst (SqL.of eI) (.cons (.str _) (.cons (.int _) .nil))) .nil)),
            lv_two (lv_two trivial trivial) (lv_two trivial trivial), fun H34 s34 => ⟨true, rfl, iteF ?_⟩⟩
          exact ⟨_, _, rfl, (c33.same s34).move (But.refl _ _) ((c33.same s34).box.mono (by omega))⟩
        rintro σ H20 ⟨y9, y13, rfl, c20⟩
        refine ⟨_, rfl, _, rfl, _, rfl, (by show 3 ≤ sizeLine; decide), fun kl nkl => ?_⟩
        have s21 : Same H20 (upd H20 kl (.lst [.ref p, .ref pf, .ref pw])) := same_new nkl
        have e21 : upd H20 kl (.lst [.ref p, .ref pf, .ref pw]) kl = some (.lst [.ref p, .ref pf, .ref pw]) := upd_same
        generalize upd H20 kl (.lst [.ref p, .ref pf, .ref pw]) = H21 at s21 e21
        have c21 := c20.same s21
        refine ⟨kl, _, rfl, dK c21 e21, fitK.shaped (by decide), fitK.sh, fitK.sz (by decide), ?_⟩
        rw [hX]
        refine ⟨_, rfl, rfl, _, rfl, ite2 (fun c => by simp at c) fun _ => ?_⟩
        obtain ⟨pl, epl, hl⟩ := id c21.fst
        cases epl
        refine ⟨_, rfl, _, rfl, pf, ni L, rfl, .inr hl, fun ll nll => ?_⟩
        have s22 : Same H21 (upd H21 ll (.lst (ni L))) := same_new nll
        have e22 : upd H21 ll (.lst (ni L)) ll = some (.lst (ni L)) := upd_same
        generalize upd H21 ll (.lst (ni L)) = H22 at s22 e22
        refine ⟨Nat.zero_le _, fun el nel => ?_⟩
        have s23 : Same H22 (upd H22 el (.lst [])) := same_new nel
        have e23 : upd H22 el (.lst []) el = some (.lst (ni [])) := upd_same
        replace e22 := s23 _ _ e22
        generalize upd H22 el (.lst []) = H23 at s23 e23 e22
        have c23 := c21.same (s22.trans s23)
        refine ⟨.ref p, .ref ll, .ref el, h, t, ds, L, [], rfl, c23.sea.a, ⟨ll, rfl, SqA.l e22⟩, ⟨el, rfl, SqA.l e23⟩, by omega, by show 0 ≤ 1000; decide, hL, (fun i hi => by cases hi), fun _ H24 z5 s24 hz5 => ?_, fun i e => by cases e⟩
        replace hz5 : LotT K H24 z5 L := hz5
        have c24 := c23.same s24
        refine ⟨_, rfl, z5, .ref pf, _, rfl, hz5.dp, c24.fst.dp, lv_lot (by omega), fun H25 s25 => ⟨true, rfl, iteF ?_⟩⟩
        have c25 := c24.same s25
        exact ⟨_, _, _, _, _, _, _, _, _, _, _, _, _, rfl, c25.box.mono (by omega), c25.but⟩
    · rintro σ H' ⟨y1, y2, y3, y4, y5, y6, y7, y8, y9, y10, y11, y12, y13, rfl, x', u'⟩
      exact q _ (by first | exact u' | exact ⟨x', u'⟩)
end
end Sh

namespace Sh
open PySem PySem.Spec PyProof.Rows L2
/-! ### the law itself -/
def spLaw (K : PySem.W.Frag) : Sp := fun vs H Q _ => ∃ (a : Addr) (ns : List Int), vs = [.ref a] ∧ SqL K H a (ns.map V.int) ∧ ns.length ≤ 63 ∧ ∀ H', Q (.bl true) H'
abbrev s_law : Stmt := topS 26
theorem sc_law : FnScope (["_law_script", "_law_k"] : List Str) (["_law_script"] : List Str) (defScope s_law) := ⟨rfl, rfl, rfl, by decide +kernel, rfl, by decide +kernel, by decide +kernel⟩
theorem b_law (kV doc pm : Value) (an : Option Addr) (cdv ct : Value) (us : List Value) (hl : us.length = (["_law_script"] : List Str).length) : bindArgs (PySem.W.fnOf "law" "law" (defArgs s_law) (defBody s_law) (defScope s_law) .none kV doc pm an cdv ct) ⟨us, []⟩ = pure ((["_law_script"] : List Str).zip us) :=
  match us, hl with | [_], _ => rfl
section
variable {P : Program} {w : World} {K : PySem.W.Frag} {mg : Str → Option Value} {base : Heap}
theorem ok_law {k : Nat} (D : Df K mg "law" s_law) (T : Bt mg) (O__law_box : Ok P w K mg base k "_law_box" s__law_box ["_law_script", "_law_k"] (spBox K)) (O__law_right : OkG P w K mg base k "_law_right" s__law_right ["_law_box_here"] spRight) :
    OkG P w K mg base (k + 1) "law" s_law ["_law_script"] (spLaw K) := by
  refine D.okG sc_law b_law (fun vs H Q E h => ?_) (fun f cdv A outer s H vs Q E hr hG h => ?_)
  · obtain ⟨a, ns, rfl, _⟩ := h
    rfl
  · obtain ⟨a, ns, rfl, hS, hl, q⟩ := h
    refine ⟨_, (pss_one (ps_ret (pe_callB (cr_all rfl) (by rfl) T.all_ (by decide +kernel) (pa_cons (pe_lc (own := [("_law_k", 1)]) (g := (gName 1)) (tt := tYes) (by rfl) sc_law.nd (pi_range1 (by rfl) T.range_ (pa_cons (pe_op op_add pe_int (pe_callB (call_min2 rfl) (by rfl) T.min_ (by decide +kernel) (pa_cons pe_int (pa_cons (pe_callB call_len_seq (by rfl) T.len_ PySem.boot_len (pa_cons (pv 0) pa_nil)) pa_nil)))) pa_nil)) (blkOk_by (own := [("_law_k", 1)]) (N := (["_law_script", "_law_k"] : List Str)) (sc := defScope s_law) (by decide +kernel)) (fun _ _ _ _ _ => (pg_name (i := 1) sc_law.nd rfl (.inl rfl))) (fun _ _ _ _ _ => pts_nil) (fun _ _ _ _ _ => (pe_fnG O__law_right (hr.mono (by omega)) hG (pa_cons (pe_fn O__law_box (hr.mono (by omega)) (pa_cons (pv 0) (pa_cons (pv 1) pa_nil))) pa_nil)))) pa_nil)))), ?_⟩
    refine ⟨_, rfl, a, _, rfl, .inl hS, _, _, rfl, 1, _, rfl, rfl, _, rfl, ?_, ?_, fun C nC => ?_⟩
    · split <;> omega
    · rw [List.length_map]
      split <;> omega
    rw [List.length_map]
    generalize en : (1 + if (ns.length : Int) < 3 then (ns.length : Int) else 3).toNat = n
    have hn : n ≤ 4 := by
      rw [← en]
      split <;> omega
    refine lc_range (fun i H' => Same H H' ∧ H' C = some (.lst ((List.replicate i true).map V.bl))) ⟨same_new nC, upd_same⟩ ?_ ?_
    · rintro i H1 hi ⟨sm, hC⟩
      refine ⟨rfl, tyes (iteT ?_)⟩
      refine ⟨_, rfl, _, rfl, a, ns, i, ?_, by omega, sm.seq hS, fun b xs nb bx => ?_⟩
      · show [V.ref a, V.int (0 + (i : Int))] = _
        rw [Int.zero_add]
      refine ⟨b, rfl, (BoxAt.put bx).mono (by decide), fun H2 u2 => ?_⟩
      have nCb : C ≠ b := ne_of_none hC nb
      refine ⟨_, u2 _ _ nCb (by rw [upd_ne nCb]; exact hC), ?_, fun p o ho => ?_, ?_⟩
      · rw [List.length_map, List.length_replicate]
        exact small1000 (by omega)
      · have npb : p ≠ b := ne_of_none (sm _ _ ho) nb
        rw [upd_ne (ne_of_none ho nC)]
        exact u2 _ _ npb (by rw [upd_ne npb]; exact sm _ _ ho)
      · rw [upd_same, List.replicate_succ', List.map_append]
        rfl
    · rintro H1 ⟨sm, hC⟩
      refine ⟨C, _, rfl, SqL.of hC, ?_⟩
      have e : (List.replicate n true).all id = true := by simp
      rw [e]
      exact q _
theorem law_end {k : Nat} {fa : Addr} {sp : Sp} (D : Df K mg "law" s_law) (hfa : mg "law" = some (.ref fa)) (O : ∀ base, OkG P w K mg base k "law" s_law ["_law_script"] sp) :
    ∃ fd : FuncData, (∀ (s : Shared) (v : Value), BindsTo s fd ⟨[v], []⟩ [("_law_script", v)]) ∧ ∀ base : Heap, K.In base → base.Ns mainGlobals mg → FnG P w K mg base k fa fd ["_law_script"] sp := by
  obtain ⟨f, fd, F, g⟩ := D.ex
  obtain rfl : fa = f := by
    have e := hfa.symm.trans g
    cases e
    rfl
  refine ⟨fd, fun s v => ?_, fun base _ _ => ?_⟩
  · obtain ⟨oc, od, kV, doc, pm, an, cdv, ct, osl, rfl, lk, hcd⟩ := F.ex
    exact .of_eq (b_law kV doc pm an cdv ct [v] rfl)
  · obtain ⟨f', fd', F', g', _, G⟩ := (O base).ex
    obtain rfl : fa = f' := by
      have e := g.symm.trans g'
      cases e
      rfl
    obtain ⟨_, _, _, _, _, _, _, _, _, _, lk, _⟩ := F.ex
    obtain ⟨_, _, _, _, _, _, _, _, _, _, lk', _⟩ := F'.ex
    have e := lk.symm.trans lk'
    cases e
    exact G
theorem df_mk {x : Str} {st : Stmt} {h : Heap} {f : Addr} {oc : Value} {od an : Option Addr} {sl : Array (Option Value)} {kV dc pm cd ct : Value} (X : K.In h) (G : h.Ns mainGlobals mg)
    (a : PySem.W.nsIn K mainGlobals x = some (some (.ref f))) (l : K.lookup f = some ⟨oc, od, .func (PySem.W.fnOf x x (defArgs st) (defBody st) (defScope st) .none kV dc pm an cd ct), sl⟩)
    (c : PySem.W.codeIn K cd x = true) (k : PySem.W.keepIn K (.ref f) = true) : Df K mg x st := ⟨f, _, fun_mk l c k, PySem.W.mg_of X G a⟩
theorem with_df {R : Prop} {x : Str} {st : Stmt} {h : Heap} {f : Addr} {oc : Value} {od an : Option Addr} {sl : Array (Option Value)} {kV dc pm cd ct : Value} (X : K.In h) (G : h.Ns mainGlobals mg)
    (a : PySem.W.nsIn K mainGlobals x = some (some (.ref f))) (l : K.lookup f = some ⟨oc, od, .func (PySem.W.fnOf x x (defArgs st) (defBody st) (defScope st) .none kV dc pm an cd ct), sl⟩)
    (c : PySem.W.codeIn K cd x = true) (k : PySem.W.keepIn K (.ref f) = true) (r : Df K mg x st → R) : R := r (df_mk X G a l c k)
end
end Sh

open PySem PySem.W PyProof.Rows
set_option maxHeartbeats 0 in
theorem PySem.Challenge.cw_shoalmates_k04_crossings_one_by_one_holds : PySem.Challenge.rw_shoalmates_k04_crossings_one_by_one.Holds := by
  w_on; o_law; k_head; (case hw => w_witness2)
  k_fill
  refine Sh.walk_ofG (l := PySem.Challenge.rw_shoalmates_k04_crossings_one_by_one) (n := 63) (k := 10) (x := "_law_script") (sp := fun w => Sh.spLaw _) rfl (by decide) rfl ⟨rfl, by decide, by decide⟩ (fun w h Y => PySem.W.kIn_of Y) ?F (fun _ _ a ns hl _ hS => ⟨a, ns, rfl, hS, hl, fun _ => rfl⟩)
  case F =>
    intro w mg fa h KX G hmg
    have T : Sh.Bt mg := by
      constructor <;> (refine PySem.W.mg_none_of KX G ?_; k_is)
    refine' Sh.with_df (x := "mark_of") (st := Sh.s_mark_of) KX G ?a ?l ?c ?k fun D_mark_of => ?_
    (case a => k_is); (case l => k_is); (case c => k_is); (case k => k_is)
    refine' Sh.with_df (x := "mark_at") (st := Sh.s_mark_at) KX G ?a ?l ?c ?k fun D_mark_at => ?_
    (case a => k_is); (case l => k_is); (case c => k_is); (case k => k_is)
    refine' Sh.with_df (x := "may_go") (st := Sh.s_may_go) KX G ?a ?l ?c ?k fun D_may_go => ?_
    (case a => k_is); (case l => k_is); (case c => k_is); (case k => k_is)
    refine' Sh.with_df (x := "crossed") (st := Sh.s_crossed) KX G ?a ?l ?c ?k fun D_crossed => ?_
    (case a => k_is); (case l => k_is); (case c => k_is); (case k => k_is)
    refine' Sh.with_df (x := "crossed_all") (st := Sh.s_crossed_all) KX G ?a ?l ?c ?k fun D_crossed_all => ?_
    (case a => k_is); (case l => k_is); (case c => k_is); (case k => k_is)
    refine' Sh.with_df (x := "_law_cell_at") (st := Sh.s__law_cell_at) KX G ?a ?l ?c ?k fun D__law_cell_at => ?_
    (case a => k_is); (case l => k_is); (case c => k_is); (case k => k_is)
    refine' Sh.with_df (x := "_law_box") (st := Sh.s__law_box) KX G ?a ?l ?c ?k fun D__law_box => ?_
    (case a => k_is); (case l => k_is); (case c => k_is); (case k => k_is)
    refine' Sh.with_df (x := "_law_take") (st := Sh.s__law_take) KX G ?a ?l ?c ?k fun D__law_take => ?_
    (case a => k_is); (case l => k_is); (case c => k_is); (case k => k_is)
    refine' Sh.with_df (x := "_law_of") (st := Sh.s__law_of) KX G ?a ?l ?c ?k fun D__law_of => ?_
    (case a => k_is); (case l => k_is); (case c => k_is); (case k => k_is)
    refine' Sh.with_df (x := "_law_same") (st := Sh.s__law_same) KX G ?a ?l ?c ?k fun D__law_same => ?_
    (case a => k_is); (case l => k_is); (case c => k_is); (case k => k_is)
    refine' Sh.with_df (x := "_law_sea") (st := Sh.s__law_sea) KX G ?a ?l ?c ?k fun D__law_sea => ?_
    (case a => k_is); (case l => k_is); (case c => k_is); (case k => k_is)
    refine' Sh.with_df (x := "_law_lot") (st := Sh.s__law_lot) KX G ?a ?l ?c ?k fun D__law_lot => ?_
    (case a => k_is); (case l => k_is); (case c => k_is); (case k => k_is)
    refine' Sh.with_df (x := "_law_lets") (st := Sh.s__law_lets) KX G ?a ?l ?c ?k fun D__law_lets => ?_
    (case a => k_is); (case l => k_is); (case c => k_is); (case k => k_is)
    refine' Sh.with_df (x := "_law_gone") (st := Sh.s__law_gone) KX G ?a ?l ?c ?k fun D__law_gone => ?_
    (case a => k_is); (case l => k_is); (case c => k_is); (case k => k_is)
    refine' Sh.with_df (x := "_law_walk") (st := Sh.s__law_walk) KX G ?a ?l ?c ?k fun D__law_walk => ?_
    (case a => k_is); (case l => k_is); (case c => k_is); (case k => k_is)
    refine' Sh.with_df (x := "_law_told") (st := Sh.s__law_told) KX G ?a ?l ?c ?k fun D__law_told => ?_
    (case a => k_is); (case l => k_is); (case c => k_is); (case k => k_is)
    refine' Sh.with_df (x := "_law_right") (st := Sh.s__law_right) KX G ?a ?l ?c ?k fun D__law_right => ?_
    (case a => k_is); (case l => k_is); (case c => k_is); (case k => k_is)
    refine' Sh.with_df (x := "law") (st := Sh.s_law) KX G ?a ?l ?c ?k fun D_law => ?_
    (case a => k_is); (case l => k_is); (case c => k_is); (case k => k_is)
    refine' Sh.with_xc (x := "MayNot") (q := "MayNot.__init__") (f := "ship") (st := Sh.s_MayNot_init) KX G ?a ?T ?i ?ti ?l ?c ?k ?no ?e fun DM => ?_
    (case a => k_is)
    (case T => exact ⟨⟨_, _, _, _, _, _, _, _, _, _, _, _, _, _, _, by k_is, by decide +kernel⟩, by k_is, by k_is, by k_is, by k_is⟩)
    (case i => k_is)
    (case ti => k_is)
    (case l => k_is)
    (case c => k_is)
    (case k => k_is)
    (case no => k_is)
    (case e => exact ⟨by k_is, by k_is, by k_is, by k_is, by k_is, by k_is, by k_is, by k_is⟩)
    refine' Sh.with_xb G KX ?a ?b fun XBb => ?_
    (case a => k_is)
    (case b => k_is)
    refine' Sh.with_k4 KX G DM ?a ?b ?c ?e ?i1 ?i2 ?i3 fun Z => ?_
    (case a => k_is)
    (case b => k_is)
    (case c => k_is)
    (case e => kts_exm)
    (case i1 => kit_is)
    (case i2 => kit_is)
    (case i3 => kit_is)
    exact Sh.law_end D_law hmg fun base =>
      let O__law_take := Sh.ok_take (base := base) (k := 0) D__law_take T
      let O__law_cell_at := Sh.ok_cell_at (base := base) (k := 0) D__law_cell_at T
      let O__law_box := Sh.ok_box (k := 1) D__law_box T O__law_cell_at
      let O__law_of := Sh.ok_of (k := 1) D__law_of T O__law_take
      let O__law_sea := Sh.ok_sea (k := 2) D__law_sea T (O__law_take.mono (by decide)) O__law_of
      let O__law_lot := Sh.ok_lot (k := 2) D__law_lot T (O__law_take.mono (by decide)) O__law_of
      let O__law_lets := Sh.ok_lets (base := base) (k := 0) D__law_lets T
      let O__law_gone := Sh.ok_gone (base := base) (k := 0) D__law_gone T
      let O_mark_of := Sh.ok_mark_of (base := base) (k := 0) D_mark_of T
      let O_mark_at := Sh.ok_mark (k := 1) D_mark_at T O_mark_of
      let O_may_go := Sh.ok_may_go (k := 2) D_may_go T O_mark_at
      let O_crossed := Sh.ok_crossed (k := 3) D_crossed T O_may_go
      let O_crossed_all := Sh.ok_crossed_all (k := 4) D_crossed_all T O_crossed
      let XM := Sh.ok_MayNot (base := base) (k := 1) XBb DM
      let Ocx := Sh.ok_crossedX (k := 2) D_crossed T O_may_go XM
      let Oax := Sh.ok_crossed_allX (k := 4) D_crossed_all T Ocx
      let Otd := Sh.ok_told (k := 5) D__law_told T XBb.VE Z (Ocx.mono (by decide)) Oax
      let Owk := Sh.ok_walk (k := 2) D__law_walk T (O__law_lets.mono (by decide)) (O__law_of.mono (by decide)) (O__law_gone.mono (by decide))
      Sh.ok_law (k := 9) D_law T (O__law_box.mono (by decide)) (Sh.ok_right (k := 8) D__law_right T (O__law_sea.mono (by decide)) (O__law_lot.mono (by decide)) (O__law_take.mono (by decide)) (O__law_of.mono (by decide)) (Owk.mono (by decide)) (Sh.ok_same D__law_same T 4) (by decide) (O__law_lets.mono (by decide)) (O__law_gone.mono (by decide)) (Otd.mono (by decide)) (Ocx.mono (by decide)) (Oax.mono (by decide)))
