import PyProof.Rows.All
import Wide.All
import OpenK.AllK
import Wide.FinOn
import KE.GoesEnum
import HandS.ForMost
import HandS.Walk
import HandS.Zip
import HandS.IsInst
import HandS.NoneIn
import HandS.SortInts
import HandS.Evl
import HandS.Conv
import HandS.Style
import HandS.Star
import HandS.More
import HandS.Strs
import HandS.SetFor
import HandS.Wide
import HandS.TupAny
import HandS.RevRange
import PyProof.ReprRoads
import PyProof.ReprLen
import HandS.Lambda
import HandS.EndTab
import KE.KNestM
import HandS.Set
import PyProof.FactsAll.set_2
import KE.KMinKey
import KE.KTupSum
import PySem.Challenge.RW_shoalmates_k47_known_counts
set_option Elab.async false
set_option linter.all false
set_option maxRecDepth 100000
set_option maxHeartbeats 1000000
/-! Own layer over the hand layer: sequences (a list or a tuple), enumerate of a tuple, defs by one fact each, what is told kept under a growing heap. -/
namespace Sh
open PySem PySem.Spec PyProof.Rows L2

/-! ### heaps -/
theorem same_new {H : Hp} {p : Addr} {o : HO} (h : H p = none) : Same H (upd H p o) := fun b x e => by
  rw [upd_ne (ne_of_none e h)]
  exact e
theorem Same.tup {K : PySem.W.Frag} {H H' : Hp} {a : Addr} {xs : List V} (e : Same H H') (h : SqT K H a xs) : SqT K H' a xs := by
  rcases h with (h | ⟨o, h⟩) | h
  · exact .inl (.inl (e _ _ h))
  · exact .inl (.inr ⟨o, e _ _ h⟩)
  · exact .inr h
/-- a list or a tuple of xs is to be read at a -/
def SqA (K : PySem.W.Frag) (H : Hp) (a : Addr) (xs : List V) : Prop := SqL K H a xs ∨ SqT K H a xs
theorem Same.sqA {K : PySem.W.Frag} {H H' : Hp} {a : Addr} {xs : List V} (e : Same H H') (h : SqA K H a xs) : SqA K H' a xs := h.elim (fun q => .inl (e.seq q)) fun q => .inr (Same.tup e q)
theorem SqA.l {K : PySem.W.Frag} {H : Hp} {a : Addr} {xs : List V} (h : H a = some (.lst xs)) : SqA K H a xs := .inl (SqL.of h)
theorem SqA.t {K : PySem.W.Frag} {H : Hp} {a : Addr} {xs : List V} (h : H a = some (.tup xs)) : SqA K H a xs := .inr (SqT.of h)
/-- nothing but b has changed of what was tracked -/
def But (b : Addr) (H H' : Hp) : Prop := ∀ a o, a ≠ b → H a = some o → H' a = some o
theorem But.refl (b : Addr) (H : Hp) : But b H H := fun _ _ _ e => e
theorem But.trans {b : Addr} {H H1 H2 : Hp} (x : But b H H1) (y : But b H1 H2) : But b H H2 := fun a o n e => y a o n (x a o n e)
theorem Same.but {b : Addr} {H H' : Hp} (e : Same H H') : But b H H' := fun a o _ h => e a o h
theorem But.ups {b : Addr} {H : Hp} {o : HO} : But b H (upd H b o) := fun a x n e => by rw [upd_ne n]; exact e
theorem But.same {b : Addr} {G H H' : Hp} (x : But b H H') (g : Same G H) (n : G b = none) : Same G H' := fun a o e => x a o (ne_of_none e n) (g a o e)

section
variable {K : PySem.W.Frag} {H H' : Hp}
mutual
theorem Dp.same (e : Same H H') : ∀ {v : V} {d : PyData}, Dp K H v d → Dp K H' v d
  | _, _, .non => .non
  | _, _, .bl b => .bl b
  | _, _, .int i => .int i
  | _, _, .str x => .str x
  | _, _, .lst h a => .lst (e.seq h) (DpAll.same e a)
  | _, _, .tup h a => .tup (Same.tup e h) (DpAll.same e a)
theorem DpAll.same (e : Same H H') : ∀ {vs : List V} {ds : List PyData}, DpAll K H vs ds → DpAll K H' vs ds
  | _, _, .nil => .nil
  | _, _, .cons h a => .cons (Dp.same e h) (DpAll.same e a)
end
theorem DpAll.ints : ∀ ns : List Int, DpAll K H (ns.map V.int) (ns.map PyData.int)
  | [] => .nil
  | n :: ns => .cons (.int n) (DpAll.ints ns)
theorem DpAll.len : ∀ {vs : List V} {ds : List PyData}, DpAll K H vs ds → vs.length = ds.length
  | _, _, .nil => rfl
  | _, _, .cons _ a => congrArg Nat.succ (DpAll.len a)
theorem DpAll.get : ∀ {vs : List V} {ds : List PyData} {i : Nat} {v : V}, DpAll K H vs ds → vs[i]? = some v → ∃ d, ds[i]? = some d ∧ Dp K H v d
  | _, _, _, _, .nil, h => by simp at h
  | _, _, 0, _, .cons x _, h => by
    cases Option.some.inj h
    exact ⟨_, rfl, x⟩
  | _, _, i + 1, _, .cons _ a, h => DpAll.get (i := i) a h
end

/-! ### rules for a list or a tuple -/
section
variable {X : Cx}
def rIxA (K : PySem.W.Frag) : R2 := fun x y H Q => ∃ p xs i v, x = .ref p ∧ y = .int i ∧ SqA K H p xs ∧ atI xs i = some v ∧ Q v H
theorem ix_lt : IxR X (rIxA X.K) := fun value slice pins s σ H x y v u Q I rx ry h hs => by
  obtain ⟨p, xs, i, z, e1, e2, hq | hq, he, q⟩ := h
  · exact ix_list value slice pins s σ H x y v u Q I rx ry ⟨p, xs, i, z, e1, e2, hq, he, q⟩ hs
  · exact ix_tup value slice pins s σ H x y v u Q I rx ry ⟨p, xs, i, z, e1, e2, hq, he, q⟩ hs
/-- a written power, its worth written -/
theorem op_powC (v : Int) : OpR X (binaryOp .Pow) (rI (fun i j => CPow i j ∧ i ^ j.toNat = v) fun _ _ => .int v) := fun pins s σ H x y u w Q I rx ry h => by
  obtain ⟨i, j, e1, e2, ⟨hc, hv⟩, q⟩ := h
  exact op_pow pins s σ H x y u w Q I rx ry ⟨i, j, e1, e2, hc, show Q (.int (i ^ j.toNat)) H by rw [hv]; exact q⟩
/-- a < b < c < d -/
def tChain3 (r r' r'' : R2) (ta tb tc td : TE) : TE := fun σ H Q => ta σ H fun x H1 => tb σ H1 fun y H2 => r x y H2 fun z H3 => ∃ k, z = .bl k ∧
  (if k = true then tc σ H3 fun y' H4 => r' y y' H4 fun z' H5 => ∃ k', z' = .bl k' ∧ (if k' = true then td σ H5 fun y'' H6 => r'' y' y'' H6 Q else Q (.bl false) H5) else Q (.bl false) H3)
theorem pe_chain3 {a b c d : Expr} {ta tb tc td : TE} {pos : Pos} {op op' op'' : CmpOp} {r r' r'' : R2} (ho : OpR X (compareOp op) r) (ho' : OpR X (compareOp op') r') (ho'' : OpR X (compareOp op'') r'') (ha : PE X a ta) (hb : PE X b tb) (hc : PE X c tc) (hd : PE X d td)
    (hm : lastMarks [op, op', op''] [b, c, d] = false := by with_unfolding_all rfl) : PE X (.Compare a [op, op', op''] [b, c, d] pos) (tChain3 r r' r'' ta tb tc td) := by
  refine ⟨fun pins s σ H Q I h => ?_⟩
  refine Compare_chain (thn (ha.run pins s σ H _ I h) fun v s1 ⟨x, H1, I1, r1, q1⟩ => chain_link (thn (hb.run pins s1 σ H1 _ I1 q1) fun u s2 ⟨y, H2, I2, r2, q2⟩ =>
    thn (ho pins s2 σ H2 x y v u _ I2 r1 r2 q2) fun e s3 ⟨z, H3, I3, r3, k, ez, q3⟩ => ?_)) hm
  subst ez
  cases r3
  refine wpAny_truthy_bool ?_
  cases k with
  | false => exact ite_ff ⟨.bl false, H3, I3, rfl, q3⟩
  | true =>
    refine ite_tt (chain_link (thn (hc.run pins s3 σ H3 _ I3 q3) fun u' s4 ⟨y', H4, I4, r4, q4⟩ => thn (ho' pins s4 σ H4 y y' u u' _ I4 r2 r4 q4) fun e s5 ⟨z', H5, I5, r5, k', ez', q5⟩ => ?_))
    subst ez'
    cases r5
    refine wpAny_truthy_bool ?_
    cases k' with
    | false => exact ite_ff ⟨.bl false, H5, I5, rfl, q5⟩
    | true => exact ite_tt (chain_last (thn (hd.run pins s5 σ H5 _ I5 q5) fun w' s6 ⟨y'', H6, I6, r6, q6⟩ => ho'' pins s6 σ H6 y' y'' u' w' Q I6 r4 r6 q6))
theorem pt_chain3 {a b c d : Expr} {ta tb tc td : TE} {pos : Pos} {op op' op'' : CmpOp} {r r' r'' : R2} (ho : OpR X (compareOp op) r) (ho' : OpR X (compareOp op') r') (ho'' : OpR X (compareOp op'') r'') (ha : PE X a ta) (hb : PE X b tb) (hc : PE X c tc) (hd : PE X d td)
    (hm : lastMarks [op, op', op''] [b, c, d] = false := by with_unfolding_all rfl) : PT X (.Compare a [op, op', op''] [b, c, d] pos) (tTest (tChain3 r r' r'' ta tb tc td)) := by
  refine ⟨fun pins s σ H Q I h => ?_⟩
  refine isTrue_chain (thn (ha.run pins s σ H _ I h) fun v s1 ⟨x, H1, I1, r1, q1⟩ => test_link (thn (hb.run pins s1 σ H1 _ I1 q1) fun u s2 ⟨y, H2, I2, r2, q2⟩ =>
    thn (ho pins s2 σ H2 x y v u _ I2 r1 r2 q2) fun e s3 ⟨z, H3, I3, r3, k, ez, q3⟩ => ?_)) hm
  subst ez
  cases r3
  refine wpAny_truthy_bool ?_
  cases k with
  | false =>
    obtain ⟨k', e', q'⟩ := q3
    cases e'
    exact ite_ff ⟨H3, I3, q'⟩
  | true =>
    refine ite_tt (test_link (thn (hc.run pins s3 σ H3 _ I3 q3) fun u' s4 ⟨y', H4, I4, r4, q4⟩ => thn (ho' pins s4 σ H4 y y' u u' _ I4 r2 r4 q4) fun e s5 ⟨z', H5, I5, r5, k', ez', q5⟩ => ?_))
    subst ez'
    cases r5
    refine wpAny_truthy_bool ?_
    cases k' with
    | false =>
      obtain ⟨k', e', q'⟩ := q5
      cases e'
      exact ite_ff ⟨H5, I5, q'⟩
    | true =>
      refine ite_tt (test_last (thn (hd.run pins s5 σ H5 _ I5 q5) fun w' s6 ⟨y'', H6, I6, r6, q6⟩ => thn (ho'' pins s6 σ H6 y' y'' u' w' _ I6 r4 r6 q6) fun e s7 ⟨z2, H7, I7, r7, k2, e2, q7⟩ => ?_))
      subst e2
      cases r7
      exact wpAny_truthy_bool ⟨H7, I7, q7⟩
/-- the same, the written part by its own name (within a comprehension) -/
theorem ix_ltK (K : PySem.W.Frag) (hK : X.K = K := by rfl) : IxR X (rIxA K) := hK ▸ ix_lt
theorem call_lenK (K : PySem.W.Frag) (hK : X.K = K := by rfl) : CallR X (.builtin "len") (fun xs H Q => ∃ p ys, xs = [.ref p] ∧ (SqL K H p ys ∨ SqT K H p ys) ∧ Q (.int ys.length) H) := hK ▸ call_len_seq
theorem op_inK (K : PySem.W.Frag) (hK : X.K = K := by rfl) : OpR X (compareOp .In) (rIn K false) := hK ▸ op_in_seq
theorem op_notInK (K : PySem.W.Frag) (hK : X.K = K := by rfl) : OpR X (compareOp .NotIn) (rIn K true) := hK ▸ op_notIn_seq
def gSeq (K : PySem.W.Frag) (n : Nat) (t : TGs) : TG := fun v σ H Q => ∃ a xs, v = .ref a ∧ SqA K H a xs ∧ xs.length = n ∧ t xs σ H Q
theorem pg_seq {es : List Expr} {k : Nat} {t : TGs} {n : Nat} {pos : Pos} (hc : X.calm = true) (h : PGs X es t)
    (hn : (assignEach es X.env).length = n := by rfl) (hst : (assignEach es X.env).findIdx? (·.1) = none := by rfl) : PG X (.Tuple es k pos) (gSeq X.K n t) := by
  refine ⟨fun pins s σ H v u Q I r hw => ?_⟩
  obtain ⟨a, xs, e1, hq | hq, hl, hw⟩ := hw
  · exact (pg_unl hc h hn hst).run pins s σ H v u Q I r ⟨a, xs, e1, hq, hl, hw⟩
  · exact (pg_tup hc h hn hst).run pins s σ H v u Q I r ⟨a, xs, e1, hq, hl, hw⟩
/-- what stands at a stands -/
def Kp (a : Addr) (H H' : Hp) : Prop := ∀ o, H a = some o → H' a = some o
theorem Kp.ofS {a : Addr} {H H' : Hp} (e : Same H H') : Kp a H H' := fun o h => e a o h
theorem Kp.ofB {a b : Addr} {H H' : Hp} (e : But b H H') (n : a ≠ b) : Kp a H H' := fun o h => e a o n h
theorem Kp.refl (a : Addr) (H : Hp) : Kp a H H := fun _ h => h
theorem Kp.sl {K : PySem.W.Frag} {a : Addr} {xs : List V} {H H' : Hp} (k : Kp a H H') (h : SqL K H a xs) : SqL K H' a xs := by
  rcases h with (h | ⟨o, h⟩) | h
  · exact .inl (.inl (k _ h))
  · exact .inl (.inr ⟨o, k _ h⟩)
  · exact .inr h
theorem Kp.st {K : PySem.W.Frag} {a : Addr} {xs : List V} {H H' : Hp} (k : Kp a H H') (h : SqT K H a xs) : SqT K H' a xs := by
  rcases h with (h | ⟨o, h⟩) | h
  · exact .inl (.inl (k _ h))
  · exact .inl (.inr ⟨o, k _ h⟩)
  · exact .inr h
theorem Kp.sa {K : PySem.W.Frag} {a : Addr} {xs : List V} {H H' : Hp} (k : Kp a H H') (h : SqA K H a xs) : SqA K H' a xs := h.elim (fun q => .inl (k.sl q)) fun q => .inr (k.st q)
/-- the walk over what stood at a in H0 -/
def ItA (K : PySem.W.Frag) (H0 : Hp) (a : Addr) (xs : List V) (J : It) : Prop := (J = Itl K a ∧ SqL K H0 a xs) ∨ (J = Itt K a ∧ SqT K H0 a xs)
def iSeq (K : PySem.W.Frag) (tl : TE) : TI := fun σ H R => tl σ H fun x H1 => ∃ (a : Addr) (xs : List V) (H0 : Hp), x = .ref a ∧ SqA K H0 a xs ∧ Kp a H0 H1 ∧ ∀ J, ItA K H0 a xs J → R J H1
theorem pi_seq {tg l : Expr} {tl : TE} (hl : PE X l tl) : PI X tg l (iSeq X.K tl) := by
  refine ⟨fun pins s σ H R I h => ?_⟩
  refine thn (hl.run pins s σ H _ I h) fun v s1 ⟨x, H1, I1, r1, q1⟩ => ?_
  obtain ⟨a, xs, H0, e, hq | hq, hk, q⟩ := q1
  · replace q := q _ (.inl ⟨rfl, hq⟩)
    replace hq := hk.sl hq
    subst e
    cases r1
    obtain ⟨its, rv, p, hz⟩ := I1.list hq
    refine wpAny_pyIter_list p.isList ?_
    refine ⟨s1.heap.objs.size, [s1.heap.objs.size], _, _, H1, rfl, I1.kept (t' := s1.toks) fun b o e => Heap.get?_push_of_some _ e, turn_list a _, ⟨_, Heap.get?_push_size _ rfl, rfl, rfl⟩, fun b hb => ?_, q⟩
    have e : b = s1.heap.objs.size := by simpa using hb
    subst e
    exact I1.fpOk (Nat.le_refl _) (I1.hok.fresh (Nat.le_refl _))
  · replace q := q _ (.inr ⟨rfl, hq⟩)
    replace hq := hk.st hq
    subst e
    cases r1
    obtain ⟨its, rv, p, hz⟩ := I1.tuple hq
    refine wpAny_pyIter_tuple (show s1.heap.IsTuple a its.toArray from p) ?_
    refine ⟨s1.heap.objs.size, [s1.heap.objs.size], _, _, H1, rfl, I1.kept (t' := s1.toks) fun b o e => Heap.get?_push_of_some _ e, turn_tuple a _, ⟨_, Heap.get?_push_size _ rfl, rfl, rfl⟩, fun b hb => ?_, q⟩
    have e : b = s1.heap.objs.size := by simpa using hb
    subst e
    exact I1.fpOk (Nat.le_refl _) (I1.hok.fresh (Nat.le_refl _))
end

theorem ItA.walk {K : PySem.W.Frag} {H0 : Hp} {a : Addr} {xs : List V} {J : It} (h : ItA K H0 a xs J) : ∃ G : Hp → Prop, (∀ H', Kp a H0 H' → G H') ∧ Walk J xs.length G (YAt xs) := by
  rcases h with ⟨rfl, q⟩ | ⟨rfl, q⟩
  · exact ⟨_, fun _ k => k.sl q, walk_list⟩
  · exact ⟨_, fun _ k => k.st q, walk_tup⟩

/-! ### enumerate of a tuple -/
set_option maxHeartbeats 1000000 in
theorem meets_enum1 {v : Value} {o : Obj} {H : Heap → Prop} (B : Begins v o H) :
    Meets (Builtin.«enumerate.__new__» ⟨[.type "enumerate", v], []⟩) (fun _ R s => H s.heap ∧
      R (.ok (.ret (.ref (s.heap.push o).objs.size))) { s with heap := (s.heap.push o).push { cls := .type "enumerate", data := .fields #[.none, .bool false, .ref s.heap.objs.size, rawInt 0, .none, .none] } }) :=
  .of_wp fun prog w A R s h => by
    obtain ⟨hp, g, d, tk, os⟩ := s; obtain ⟨h1, h⟩ := h
    have hsub := sub_enumerate
    have q1 : ∀ {A' : Around} {E : Value → Shared → Prop} {Q : Value → Shared → Prop}, Q (.ref hp.objs.size) ⟨hp.push o, g, d, tk, os⟩ → wpAny (model prog w) A' (pyIter v) Q E ⟨hp, g, d, tk, os⟩ :=
      fun q => B.iter prog w _ _ ⟨hp, g, d, tk, os⟩ _ h1 q
    wp_walk using q1
    refine wpAny_stack_any fun st => wpAny_pure ?_
    split
    · rename_i c _ _ _ _ _
      cases (c == Value.type "enumerate")
      · wp_walk using q1
        exact ⟨_, rfl, h⟩
      · wp_walk using q1
        exact ⟨_, rfl, h⟩
    · wp_walk using q1
      exact ⟨_, rfl, h⟩
section
variable {prog : Program} {w : World} {A : Around} {E : Value → Shared → Prop} {s : Shared}
theorem enum1_begins {v : Value} {o : Obj} {H : Heap → Prop} {Q : Value → Shared → Prop} (B : Begins v o H) (h1 : H s.heap)
    (h : ∀ h', IsEnum h' (s.heap.objs.size + 1) s.heap.objs.size 0 .none → h'.get? s.heap.objs.size = some o → h'.objs.size = s.heap.objs.size + 2 →
      (∀ b o, s.heap.get? b = some o → h'.get? b = some o) → Q (.ref (s.heap.objs.size + 1)) { s with heap := h' }) :
    wpAny (model prog w) A (call (.type "enumerate") [v]) Q E s := by
  refine callType_new F.called_enumerate (by decide) (F.typeCall_enumerate_1 _) (F.newCall_enumerate_1 _) (fun obj => F.args_object_init_2 obj _) F.entry_enumerate_new
    (meets_enum1 B) ⟨h1, ?_⟩
  have hz : (s.heap.push o).objs.size = s.heap.objs.size + 1 := Heap.size_push ..
  show _ ∧ _
  rw [hz]
  have he : IsEnum ((s.heap.push o).push { cls := .type "enumerate", data := .fields #[.none, .bool false, .ref s.heap.objs.size, rawInt 0, .none, .none] }) (s.heap.objs.size + 1) s.heap.objs.size 0 .none := by
    have := Heap.get?_push_size (s.heap.push o) (o := { cls := .type "enumerate", data := .fields #[.none, .bool false, .ref s.heap.objs.size, rawInt 0, .none, .none] }) rfl
    rw [hz] at this; exact this
  refine ⟨⟨_, he, rfl⟩, h _ he (Heap.get?_push_of_some _ (Heap.get?_push_size _ B.free)) (by rw [Heap.size_push, hz]) fun b o x => Heap.get?_push_of_some _ (Heap.get?_push_of_some _ x)⟩
end
/-- the tuple at a as it stands at each turn, each item in a new pair -/
def IteT (K : PySem.W.Frag) (a : Addr) : It :=
  ⟨fun i H => ∃ (xs : List V) (x : V), SqT K H a xs ∧ xs[i]? = some x, fun i H v H' => ∃ T x, v = .ref T ∧ H T = none ∧ H' = upd H T (.tup [.int (i : Nat), x]) ∧ ∀ xs, SqT K H a xs → xs[i]? = some x, fun i H => ∃ xs : List V, SqT K H a xs ∧ xs.length ≤ i⟩
end Sh

namespace Sh
open PySem PySem.Spec PyProof.Rows L2
section
variable {prog : Program} {w : World} {A : Around} {E : Value → Shared → Prop} {s : Shared}
theorem enum_endT {e it t : Addr} {n : Nat} {i : Int} {old : Value} {items : Array Value} {Q : Option Value → Shared → Prop} (hh : A.handled = none)
    (he : IsEnum s.heap e it i old) (hit : s.heap.IsTupleIter it t n) (ht : s.heap.IsTuple t items) (hx : items[n]? = none)
    (hQ : ∀ h', Heap.ExtBut it s.heap h' → Q none { s with heap := h' }) : wpAny (model prog w) A (pyNext (.ref e)) Q E s := by
  have hT : s.TypeIs (.ref e) "enumerate" := ⟨_, he, rfl⟩
  unfold pyNext
  refine wpAny_bind (wpAny_attempt (wpAny_callSpecial?_slot (name := Str.ofString "__next__") hT F.slot_enumerate_next
    (wpAny_call_entry F.slot_enumerate_next hT F.entry_enumerate_next ?_ (F.args_enumerate_next_1 _))))
  show wpAny _ _ (field (.ref e) 2 >>= _) _ _ _
  refine wpAny_bind (wpAny_field he rfl (x := .ref it) rfl ?_)
  refine wpAny_bind (wpAny_nextOf_tuple_end (show _ = none from hh) hit ht hx fun h' x he' hx' => ?_)
  obtain ⟨o, ho, hc⟩ := hx'
  refine wpAny_bind (wpAny_isInstance (T := "StopIteration") (b := true) ⟨o, ho, hc⟩ isSubtype_stop ?_)
  exact wpAny_pure (hQ _ he')
end
theorem turn_enumT {P : Program} {w : World} {K : PySem.W.Frag} {elts : List Expr} {kk : Nat} {tpos : Pos} (a e it : Addr) :
    Turn P w K (.Tuple elts kk tpos) (IteT K a) [e, it] e (fun i h => (∃ old, IsEnum h e it ((i : Nat) : Int) old) ∧ h.IsTupleIter it a i ∧ e ≠ it ∧ a ≠ it ∧ e ≠ a) where
  mem := by simp
  obj := fun i h st b hb => by
    obtain ⟨⟨old, he⟩, ⟨o, ho, hc, hd⟩, _⟩ := st
    have e' : b = e ∨ b = it := by simpa using hb
    rcases e' with z | z
    · rw [z]; exact ⟨_, he, fun v q => nomatch q⟩
    · rw [z]; exact ⟨o, ho, fun v q => by rw [hd] at q; cases q⟩
  keep := fun i h h' st k => let ⟨⟨old, he⟩, hi, hne⟩ := st; ⟨⟨old, k e (by simp) _ he⟩, hi.at fun o q => k it (by simp) o q, hne⟩
  item := by
    intro X hP hw hK hc i pins s σ H E I hf st hg
    subst hP hw hK
    obtain ⟨⟨old, he⟩, hit, hne, hai, hea⟩ := st
    obtain ⟨xs, x, hq, hx⟩ := hg
    obtain ⟨its, rv, p, hz⟩ := I.tuple hq
    obtain ⟨u, hu, ru⟩ := rv.get hx
    have hel : e < s.heap.objs.size := Heap.lt_size he
    have hil : it < s.heap.objs.size := by obtain ⟨_, q, _⟩ := hit; exact Heap.lt_size q
    have D := Draws.tuple (prog := X.prog) (w := X.w) (A := X.A.in1) (show X.A.in1.handled = none from I.ok.hd hc) it a hai its.toArray
    have hlt : i < its.toArray.size := by
      have q := (List.getElem?_eq_some_iff.mp hu).1
      simpa using q
    refine wpAny_pyNext_enum_itemC D he ⟨hit, p⟩ hlt hne (by simp [hne, hea]) fun u' h' tk hP ho hst' hT hsz hk => ?_
    have eu : u' = u := by
      have q : its.toArray[i]? = some u' := hP
      have q2 : its.toArray[i]? = some u := by simpa using hu
      exact Option.some.inj (q.symm.trans q2)
    subst eu
    obtain ⟨hit', _⟩ := hst'
    refine ⟨_, rfl, wpAny_letOwnedTupleGo_enum (s := { s with heap := h', toks := tk + 1 }) ho fun h'' he' sb => ?_⟩
    have hT2 : h''.get? s.heap.objs.size = some { cls := .type "tuple", data := .seq #[.int i tk, u'] } := (sb.2 _ (Nat.ne_of_gt hel)).trans hT
    have new : ObjOk X.prog X.w (upd H s.heap.objs.size (.tup [.int (i : Nat), x])) h'' s.heap.objs.size (.tup [.int (i : Nat), x]) :=
      ⟨by show 2 ≤ sizeLine; decide, [.int i tk, u'], .cons ⟨_, rfl⟩ (.cons ru .nil), ⟨_, hT2, rfl, _, rfl⟩⟩
    have I1 : Inv X pins σ (upd H s.heap.objs.size (.tup [.int (i : Nat), x])) { s with heap := h'', toks := tk + 1 } :=
      I.turnedNew (ch := [e, it]) (fun b ob hb q => (sb.2 b (fun z => hb (by simp [z]))).trans (hk b ob (fun z => hb (by simp [z])) (fun z => hb (by simp [z])) q)) hf (Nat.le_refl _) new
    refine ⟨.ref s.heap.objs.size, _, I1, rfl, ⟨_, x, rfl, I.hok.fresh (Nat.le_refl _), rfl, fun ys hy => by rw [I.tuple_inj hy hq]; exact hx⟩, ⟨⟨u', ?_⟩, hit'.at fun o q => (sb.2 it (Ne.symm hne)).trans q, hne, hai, hea⟩, fun b hb => ?_⟩
    · have e1 : ((i + 1 : Nat) : Int) = (i : Int) + 1 := by omega
      rw [e1]; exact he'
    · have hb' : b < s.heap.objs.size := by
        have e' : b = e ∨ b = it := by simpa using hb
        rcases e' with z | z
        · rw [z]; exact hel
        · rw [z]; exact hil
      rw [upd_ne (Nat.ne_of_lt hb')]
      exact (hf b hb).1
  done := by
    intro X hP hw hK hc i pins s σ H E I hf st hg
    subst hP hw hK
    obtain ⟨⟨old, he⟩, hit, hne, hai, hea⟩ := st
    obtain ⟨xs, hq, hx⟩ := hg
    obtain ⟨its, rv, p, hz⟩ := I.tuple hq
    obtain ⟨f0, f1, f2, f3, f4, f5⟩ := hf it (by simp)
    have hl := rv.length
    exact enum_endT (I.ok.hd hc) he hit p (by simp; omega) fun h' eb => ⟨rfl, I.turned (t' := s.toks) (fun b o hb q => eb b o hb q) f0 f1 f3 f4 f5⟩
  self := fun A i s Q E st h => let ⟨⟨_, he⟩, _⟩ := st; wpAny_pyIter_enum he h
def ItE (K : PySem.W.Frag) (H0 : Hp) (a : Addr) (xs : List V) (J : It) : Prop := (J = Ite K a ∧ SqL K H0 a xs) ∨ (J = IteT K a ∧ SqT K H0 a xs)
def iEnumA (K : PySem.W.Frag) (ta : TA) : TI := fun σ H R => ta σ H fun vs H1 => ∃ (a : Addr) (xs : List V) (H0 : Hp), vs = [.ref a] ∧ SqA K H0 a xs ∧ Kp a H0 H1 ∧ ∀ J, ItE K H0 a xs J → R J H1
theorem pi_enumA {X : Cx} {e : Expr} {ta : TA} {p pos tpos : Pos} {elts : List Expr} {kk : Nat} (hg : Gl X "enumerate") (hm : X.mg "enumerate" = none) (ha : PA X [e] ta) (hs : starEach [e] X.env = [(false, eval e X.env)] := by rfl) :
    PI X (.Tuple elts kk tpos) (.Call (.Name "enumerate" p) [e] [] pos) (iEnumA X.K ta) := by
  refine ⟨fun pins s σ H R I h => ?_⟩
  refine Call_ (ld_blt I hg hm boot_enumerate (PyProof.Rows.callWith_type1 (thn (ha.run pos pins s σ H _ I h) fun us s1 ⟨vs, H1, I1, r1, q1⟩ => ?_) hs rfl))
  obtain ⟨a, xs, H0, ex, hs0, hk, q1⟩ := q1
  subst ex
  cases r1 with
  | cons r rr =>
    cases rr
    cases r
    have fr : ∀ b ∈ [s1.heap.objs.size + 1, s1.heap.objs.size], FpOk X pins H1 b := fun b hb => by
      have e' : b = s1.heap.objs.size + 1 ∨ b = s1.heap.objs.size := by simpa using hb
      have hle : s1.heap.objs.size ≤ b := by
        rcases e' with z | z
        · rw [z]; exact Nat.le_add_right _ _
        · rw [z]; exact Nat.le_refl _
      exact I1.fpOk hle (I1.hok.fresh hle)
    rcases hs0 with hq | hq
    · have q := q1 _ (.inl ⟨rfl, hq⟩)
      replace hq := hk.sl hq
      obtain ⟨its, rv, p', hz⟩ := I1.list hq
      refine call_enumerate_list p'.isList fun h' he hit hsz hk => wpAny_pyIter_enum he ?_
      have I2 : Inv X pins σ H1 { s1 with heap := h' } := I1.kept (t' := s1.toks) hk
      exact ⟨s1.heap.objs.size + 1, [s1.heap.objs.size + 1, s1.heap.objs.size], _, _, H1, rfl, I2, turn_enum a (s1.heap.objs.size + 1) s1.heap.objs.size, ⟨⟨.none, he⟩, hit, Nat.succ_ne_self _⟩, fr, q⟩
    · have q := q1 _ (.inr ⟨rfl, hq⟩)
      replace hq := hk.st hq
      obtain ⟨its, rv, p', hz⟩ := I1.tuple hq
      have al : a < s1.heap.objs.size := by obtain ⟨_, q, _⟩ := id p'; exact Heap.lt_size q
      refine enum1_begins (begins_tuple a its.toArray) p' fun h' he hit hsz hk => wpAny_pyIter_enum he ?_
      have I2 : Inv X pins σ H1 { s1 with heap := h' } := I1.kept (t' := s1.toks) hk
      exact ⟨s1.heap.objs.size + 1, [s1.heap.objs.size + 1, s1.heap.objs.size], _, _, H1, rfl, I2, turn_enumT a (s1.heap.objs.size + 1) s1.heap.objs.size, ⟨⟨.none, he⟩, ⟨_, hit, rfl, rfl⟩, Nat.succ_ne_self _, Nat.ne_of_lt al, Nat.ne_of_gt (Nat.lt_succ_of_lt al)⟩, fr, q⟩
theorem walk_enumT {K : PySem.W.Frag} {a : Addr} {xs : List V} : Walk (IteT K a) xs.length (fun H => SqT K H a xs) (YPair (fun i => some (.int (i : Nat))) (fun i => xs[i]?)) := by
  refine ⟨fun i _ hi q => ⟨xs, xs[i], q, by simp [hi]⟩, fun _ q => ⟨xs, q, Nat.le_refl _⟩, fun i H v H' _ q y => ?_⟩
  obtain ⟨T, x, h1, h2, h3, h4⟩ := y
  exact ⟨T, .int (i : Nat), x, h1, h2, h3, rfl, h4 xs q⟩
theorem ItE.walk {K : PySem.W.Frag} {H0 : Hp} {a : Addr} {xs : List V} {J : It} (h : ItE K H0 a xs J) : ∃ G : Hp → Prop, (∀ H', Kp a H0 H' → G H') ∧ Walk J xs.length G (YPair (fun i => some (.int (i : Nat))) (fun i => xs[i]?)) := by
  rcases h with ⟨rfl, q⟩ | ⟨rfl, q⟩
  · exact ⟨_, fun _ k => k.sl q, walk_enum⟩
  · exact ⟨_, fun _ k => k.st q, walk_enumT⟩
theorem walk_zipT {K : PySem.W.Frag} {a b : Addr} {xs ys : List V} {n : Nat} (hn : n = min xs.length ys.length) : Walk (RZ.ItzT K a b) n (fun H => SqT K H a xs ∧ SqT K H b ys) (YPair (fun i => xs[i]?) (fun i => ys[i]?)) := by
  subst hn
  refine ⟨fun i _ hi q => ?_, fun _ q => ⟨xs, ys, q.1, q.2, by omega⟩, fun i H v H' _ q y => ?_⟩
  · have h1 : i < xs.length := by omega
    have h2 : i < ys.length := by omega
    exact ⟨xs, ys, xs[i], ys[i], q.1, q.2, by simp [h1], by simp [h2]⟩
  · obtain ⟨T, x, z, h1, h2, h3, h4, h5⟩ := y
    exact ⟨T, x, z, h1, h2, h3, h4 xs q.1, h5 ys q.2⟩
end Sh

namespace Sh
open PySem PySem.Spec PyProof.Rows L2
/-- a def of the top: where it stands, and the global name -/
structure Df (K : PySem.W.Frag) (mg : Str → Option Value) (x : Str) (st : Stmt) : Prop where
  ex : ∃ (f : Addr) (fd : FuncData), Fun K x x st f fd ∧ mg x = some (.ref f)
/-- it keeps its promise -/
structure Ok (P : Program) (w : World) (K : PySem.W.Frag) (mg : Str → Option Value) (base : Heap) (k : Nat) (x : Str) (st : Stmt) (ps : List Str) (sp : Sp) : Prop where
  ex : ∃ (f : Addr) (fd : FuncData), Fun K x x st f fd ∧ mg x = some (.ref f) ∧ Binds K fd ps [] ∧ FnOk P w K mg base CX0 k f fd ps sp
section
variable {P : Program} {w : World} {K : PySem.W.Frag} {mg : Str → Option Value} {base : Heap}
theorem Df.ok {x : Str} {st : Stmt} {N ps : List Str} {k : Nat} {sp : Sp} (D : Df K mg x st) (S : FnScope N ps (defScope st))
    (hb : ∀ (kV doc pm : Value) (an : Option Addr) (cdv ct : Value) (us : List Value), us.length = ps.length → bindArgs (PySem.W.fnOf x x (defArgs st) (defBody st) (defScope st) .none kV doc pm an cdv ct) ⟨us, []⟩ = pure (ps.zip us))
    (len : ∀ vs H Q E, sp vs H Q E → vs.length = ps.length)
    (hbody : ∀ (f : Addr) (cdv : Value) (A : Around) (outer : List Env) (s : Shared) (H : Hp) (vs : List V) (Q : VK) (E : XK), Room k (A.deeper (envOfC x (defScope st) s.heap.objs.size f cdv)) → sp vs H Q E →
      ∃ t, PSs (cxOf CX0 P w K mg base N x (defScope st) f cdv A outer s H E).nox (defBody st) t ∧ t { nx := fun _ H' => Q .non H', rt := Q } (start N vs) H) : Ok P w K mg base (k + 1) x st ps sp := by
  obtain ⟨f, fd, F, g⟩ := D.ex
  exact ⟨f, fd, F, g, F.binds hb, F.ok S len (fun cdv A outer s H vs Q E hr h => hbody f cdv A outer s H vs Q E hr h)⟩
theorem Ok.mono {x : Str} {st : Stmt} {ps : List Str} {j k : Nat} {sp : Sp} (O : Ok P w K mg base j x st ps sp) (h : j ≤ k) : Ok P w K mg base k x st ps sp := by
  obtain ⟨f, fd, F, g, b, G⟩ := O.ex
  exact ⟨f, fd, F, g, b, G.mono h⟩
theorem Ok.imp {x : Str} {st : Stmt} {ps : List Str} {k : Nat} {sp sp' : Sp} (O : Ok P w K mg base k x st ps sp) (h : ∀ vs H Q E, sp' vs H Q E → sp vs H Q E) : Ok P w K mg base k x st ps sp' := by
  obtain ⟨f, fd, F, g, b, G⟩ := O.ex
  exact ⟨f, fd, F, g, b, G.imp h⟩
end
/-- the values at the places js -/
def pk {α : Type} (js : List Nat) (l : List α) : List α := js.filterMap fun j => l[j]?
theorem vals_get : ∀ {vs : List V} {us : List Value} (j : Nat), Vals vs us → (vs[j]? = none ∧ us[j]? = none) ∨ ∃ v u, vs[j]? = some v ∧ us[j]? = some u ∧ RelV v u
  | _, _, _, .nil => .inl ⟨by simp, by simp⟩
  | _, _, 0, .cons r _ => .inr ⟨_, _, rfl, rfl, r⟩
  | _, _, j + 1, .cons _ t => by simpa using vals_get j t
theorem vals_app : ∀ {vs zs : List V} {us ws : List Value}, Vals vs us → Vals zs ws → Vals (vs ++ zs) (us ++ ws)
  | _, _, _, _, .nil, h => h
  | _, _, _, _, .cons r t, h => .cons r (vals_app t h)
theorem vals_pk {vs : List V} {us : List Value} (h : Vals vs us) : ∀ js : List Nat, Vals (pk js vs) (pk js us)
  | [] => .nil
  | j :: js => by
    unfold pk
    rcases vals_get j h with ⟨a, b⟩ | ⟨v, u, a, b, r⟩
    · rw [List.filterMap_cons_none a, List.filterMap_cons_none b]
      exact vals_pk h js
    · rw [List.filterMap_cons_some a, List.filterMap_cons_some b]
      exact .cons r (vals_pk h js)
section
variable {X : Cx} {k : Nat} {x : Str} {st : Stmt} {ps : List Str} {sp : Sp} {e : Expr} {es : List Expr} {t tk : TA} {p pos : Pos} {kws : List Keyword} {ks : List Str}
/-- f(e, ..) -/
theorem pe_fn (O : Ok X.prog X.w X.K X.mg X.base k x st ps sp) (hr : Room k X.A) (ha : PA X (e :: es) t) (hg : Gl X x := by rfl)
    (hdb : (x == ("__debug__" : Str)) = false := by decide) (he : starEach (e :: es) X.env = (false, eval e X.env) :: starEach es X.env := by rfl) (hpl : (backTo pos (starEach es X.env)).any (·.1) = false := by rfl) :
    PE X (.Call (.Name x p) (e :: es) [] pos) (tCall sp [] E0 t) := by
  obtain ⟨f, fd, F, g, b, G⟩ := O.ex
  exact pe_call G hr hg g F.kp b .nil pass0 ha hdb he hpl
/-- f(e, .., k = v, ..): the parameters are the places js of all that is handed in -/
def tCallJ (js : List Nat) (n : Nat) (sp : Sp) (t tk : TA) : TE := fun σ H Q => t σ H fun vs H1 => tk σ H1 fun zs H2 => (vs.length + zs.length = n ∧ zs.length = n - vs.length) ∧ sp (pk js (vs ++ zs)) H2 Q E0
theorem run_fnJ {pins : List (Addr × Obj)} {σ : L2.St} {H : Hp} {s : Shared} {Q : VK} {us ws : List Value} {vs zs : List V} {js : List Nat} {f : Addr} {fd : FuncData} (F : Fun X.K x x st f fd) (G : FnOk X.prog X.w X.K X.mg X.base CX0 k f fd ps sp) (hr : Room k X.A)
    (hb : ∀ (kV doc pm : Value) (an : Option Addr) (cdv ct : Value), bindArgs (PySem.W.fnOf x x (defArgs st) (defBody st) (defScope st) .none kV doc pm an cdv ct) ⟨us, ks.zip ws⟩ = pure (ps.zip (pk js (us ++ ws))))
    (I : Inv X pins σ H s) (r : Vals vs us) (rz : Vals zs ws) (h : sp (pk js (vs ++ zs)) H Q E0) : wpAny (model X.prog X.w) X.A (call (.ref f) us (ks.zip ws)) (EP X pins σ Q) X.xe s := by
  obtain ⟨oc, od, kV, doc, pm, an, cdv, ct, osl, rfl, lk, hcd⟩ := F.ex
  refine wpAny_call (codeAny_mono (G.run X.A X.stack s H ⟨us, ks.zip ws⟩ (pk js (us ++ ws)) (pk js (vs ++ zs)) Q E0 hr I.env0 (.of_eq (hb kV doc pm an cdv ct)) (vals_pk (vals_app r rz) js) h) fun r s' hq => ?_)
  cases r with
  | error e => exact pass0 pins σ H s e s' I hq
  | ok fl =>
    cases fl with
    | ret u => exact I.after hq
    | next => exact False.elim hq
    | brk => exact False.elim hq
    | cont => exact False.elim hq
/-- f(k = v, ..) -/
theorem pe_fnK0 (js : List Nat) (O : Ok X.prog X.w X.K X.mg X.base k x st ps sp) (hr : Room k X.A)
    (hb : ∀ (kV doc pm : Value) (an : Option Addr) (cdv ct : Value) (ws : List Value), ws.length = ks.length → bindArgs (PySem.W.fnOf x x (defArgs st) (defBody st) (defScope st) .none kV doc pm an cdv ct) ⟨[], ks.zip ws⟩ = pure (ps.zip (pk js ws)))
    (hkw : PK X kws tk) (hg : Gl X x := by rfl) (hall : (backToKw pos (keywordEach kws X.env)).all (·.1.isSome) = true := by rfl) (hks : (backToKw pos (keywordEach kws X.env)).filterMap (·.1) = ks := by rfl) (hdb : (x == ("__debug__" : Str)) = false := by decide)
    (hpl : ((backTo pos (starEach [] X.env)).any (·.1) || (backToKw pos (keywordEach kws X.env)).any (·.1.isNone)) = false := by rfl) :
    PE X (.Call (.Name x p) [] kws pos) (tCallJ js ks.length sp tNil tk) := by
  obtain ⟨f, fd, F, g, b, G⟩ := O.ex
  refine ⟨fun pins s σ H Q I h => ?_⟩
  refine wpAny_Call_Name_kw (ld_glob I hg g ?_ hdb)
  refine PySem.W.callWith_KW0 (h₀ := X.base) I.ok.mod.kin F.kp hall ?_ hpl
  refine thn (hkw.run pos pins s σ H _ I h) fun ws s2 ⟨zs, H2, I2, rz, l2, q2⟩ => ⟨I2.kIn, ?_⟩
  rw [hks]
  exact run_fnJ (us := []) (vs := []) (js := js) F G hr (fun kV doc pm an cdv ct => hb kV doc pm an cdv ct ws (rz.length.symm.trans l2.2)) I2 .nil rz q2
/-- f(e, .., k = v, ..), n positional ones -/
theorem pe_fnK (js : List Nat) (n : Nat) (O : Ok X.prog X.w X.K X.mg X.base k x st ps sp) (hr : Room k X.A)
    (hb : ∀ (kV doc pm : Value) (an : Option Addr) (cdv ct : Value) (us ws : List Value), us.length = n → ws.length = ks.length → bindArgs (PySem.W.fnOf x x (defArgs st) (defBody st) (defScope st) .none kV doc pm an cdv ct) ⟨us, ks.zip ws⟩ = pure (ps.zip (pk js (us ++ ws))))
    (ha : PA X (e :: es) t) (hkw : PK X kws tk) (hg : Gl X x := by rfl) (hall : (backToKw pos (keywordEach kws X.env)).all (·.1.isSome) = true := by rfl) (hks : (backToKw pos (keywordEach kws X.env)).filterMap (·.1) = ks := by rfl)
    (hdb : (x == ("__debug__" : Str)) = false := by decide) (he : starEach (e :: es) X.env = (false, eval e X.env) :: starEach es X.env := by rfl)
    (hpl : ((backTo pos (starEach (e :: es) X.env)).any (·.1) || (backToKw pos (keywordEach kws X.env)).any (·.1.isNone)) = false := by rfl) :
    PE X (.Call (.Name x p) (e :: es) kws pos) (fun σ H Q => t σ H fun vs H1 => tk σ H1 fun zs H2 => (vs.length = n ∧ zs.length = ks.length) ∧ sp (pk js (vs ++ zs)) H2 Q E0) := by
  obtain ⟨f, fd, F, g, b, G⟩ := O.ex
  refine ⟨fun pins s σ H Q I h => ?_⟩
  refine wpAny_Call_Name_kw (ld_glob I hg g ?_ hdb)
  refine PySem.W.callWith_KW (h₀ := X.base) I.ok.mod.kin F.kp hall (thn (ha.run pos pins s σ H _ I h) fun us s1 ⟨vs, H1, I1, r, q⟩ => ?_) hpl he
  refine thn (hkw.run pos pins s1 σ H1 _ I1 q) fun ws s2 ⟨zs, H2, I2, rz, ⟨l1, l2⟩, q2⟩ => ⟨I2.kIn, ?_⟩
  rw [hks]
  exact run_fnJ (js := js) F G hr (fun kV doc pm an cdv ct => hb kV doc pm an cdv ct us ws (r.length.symm.trans l1) (rz.length.symm.trans l2)) I2 r rz q2
end
theorem tyes {σ : L2.St} {H : Hp} {Q : Bool → Hp → Prop} (h : Q true H) : tYes σ H Q := h
/-! ### xs[a:b:c] -/
def pickV (xs : List V) (lo hi st : Option Int) : List V := pk (sliceRange (sliceBounds lo hi st xs.length).1 (sliceBounds lo hi st xs.length).2.1 (sliceBounds lo hi st xs.length).2.2) xs
theorem pick_vals {xs : List V} {us : List Value} (r : Vals xs us) (lo hi st : Option Int) : Vals (pickV xs lo hi st) (slicePick us.toArray lo hi st).toList := by
  have e := vals_pk r (sliceRange (sliceBounds lo hi st xs.length).1 (sliceBounds lo hi st xs.length).2.1 (sliceBounds lo hi st xs.length).2.2)
  have e2 : (slicePick us.toArray lo hi st).toList = pk (sliceRange (sliceBounds lo hi st xs.length).1 (sliceBounds lo hi st xs.length).2.1 (sliceBounds lo hi st xs.length).2.2) us := by
    unfold slicePick pk
    rw [List.size_toArray, ← r.length]
    simp
  rw [e2]
  exact e
section
variable {X : Cx}
def tStep (K : PySem.W.Frag) (te : TE) (tl th ts : TO) : TE := fun σ H Q => te σ H fun x H1 => tl σ H1 fun l H2 => th σ H2 fun u H3 => ts σ H3 fun o H4 => ∃ a xs, x = .ref a ∧ SqL K H4 a xs ∧ o ≠ some 0 ∧ (pickV xs l u o).length ≤ sizeLine ∧ ∀ p, H4 p = none → Q (.ref p) (upd H4 p (.lst (pickV xs l u o)))
theorem pe_step {e st : Expr} {lo hi : Option Expr} {te : TE} {tl th ts : TO} {p3 pos : Pos} (he : PE X e te) (hlo : PO X lo tl) (hhi : PO X hi th) (hst : PO X (some st) ts) : PE X (.Subscript e (.Slice lo hi (some st) p3) pos) (tStep X.K te tl th ts) := by
  refine ⟨fun pins s σ H Q I h => ?_⟩
  refine Subscript_ (thn (he.run pins s σ H _ I h) fun v s1 ⟨x, H1, I1, r1, q1⟩ => ?_)
  refine wpAny_Slice (thn (hlo.run pins s1 σ H1 _ I1 q1) fun vl s2 ⟨l, H2, I2, pl, q2⟩ => ?_)
  refine thn (hhi.run pins s2 σ H2 _ I2 q2) fun vu s3 ⟨u, H3, I3, pu, q3⟩ => ?_
  refine thn (hst.run pins s3 σ H3 _ I3 q3) fun vs s4 ⟨o, H4, I4, ps, q4⟩ => ?_
  obtain ⟨a, xs, ex, hx, h0, hz2, q⟩ := q4
  subst ex
  cases r1
  have I5 : Inv X pins σ H4 { s4 with heap := s4.heap.push { cls := .type "slice", data := .fields #[vl, vu, vs] } } := I4.kept (t' := s4.toks) fun b ob q => Heap.get?_push_of_some _ q
  obtain ⟨its, r, ht, hz⟩ := I5.list hx
  have hlen := r.length
  show wpAny (model X.prog X.w) X.A (subscriptTail e (.Slice lo hi (some st) p3) (.ref a) (.ref s4.heap.objs.size)) (EP X pins σ Q) X.xe { s4 with heap := s4.heap.push { cls := .type "slice", data := .fields #[vl, vu, vs] } }
  refine tail_any (ops := [.ref a, .ref s4.heap.objs.size]) ht.isList.typeIs (PySem.slot_list_getitem.lookup) ?_ (by with_unfolding_all rfl)
  refine wpAny_getItem_list_slice ht.isList (Heap.IsSliceOf.new _ vl vu vs) pl pu ps h0 ?_ (by rw [List.size_toArray]; omega)
  refine ⟨.ref _, _, I5.laid (t' := s4.toks) (o := .lst (pickV xs l u o)) (fun b ob q => Heap.get?_push_of_some _ q) (Nat.le_refl _) ?_, rfl, q _ (I5.hok.fresh (Nat.le_refl _))⟩
  exact ⟨hz2, (slicePick its.toArray l u o).toList, 0, pick_vals r l u o, Heap.get?_push_size _ rfl⟩
end
/-! ### set(t) of a tuple of ints, as a thing that stands -/
def rSetT (K : PySem.W.Frag) (w : World) : List V → Hp → VK → Prop := fun xs H Q => ∃ (q : Addr) (ns : List Int), xs = [.ref q] ∧ SqT K H q (ns.map V.int) ∧ ns.length ≤ 1000 ∧ ∀ (a : Addr) (c : Nat), H a = none → c ≤ ns.length → Q (.ref a) (upd H a (SetO w a (fun j => decide (j ∈ ns)) c))
theorem cr_setT {X : Cx} (hc : X.calm = true) : CallR X (.type "set") (rSetT X.K X.w) := by
  intro pins s σ H xs us Q I r h
  obtain ⟨q, ns, rfl, hq, hl, k⟩ := h
  rw [Vals.ref1 r]
  obtain ⟨its, rv, pt, hz⟩ := I.tuple hq
  have hi : IntsAre its.toArray.toList ns := ints_of_vals rv
  refine call_set_tupI ns (I.ok.hd hc) (show s.heap.IsTuple q its.toArray from pt) hi (by unfold scanBound; omega) fun h' tk c R1 hcn kk => ?_
  exact ⟨.ref _, upd H s.heap.objs.size (SetO X.w s.heap.objs.size _ c), I.laid (t' := tk) kk (Nat.le_refl _) (setO_new R1), rfl, k _ _ (I.hok.fresh (Nat.le_refl _)) hcn⟩
theorem cr_setTw {X : Cx} (w : World) (hc : X.calm = true) (hw : X.w = w := by rfl) : CallR X (.type "set") (rSetT X.K w) := hw ▸ cr_setT hc
theorem cr_sortedSetw {X : Cx} (w : World) (hc : X.calm = true) (hw : X.w = w := by rfl) : CallR X (.builtin "sorted") (rSortedSet w) := hw ▸ cr_sortedSet hc
/-- names of Python's own that the top leaves alone -/
structure Bt (mg : Str → Option Value) : Prop where
  len_ : mg "len" = none
  range_ : mg "range" = none
  abs_ : mg "abs" = none
  int_ : mg "int" = none
  min_ : mg "min" = none
  max_ : mg "max" = none
  list_ : mg "list" = none
  tuple_ : mg "tuple" = none
  all_ : mg "all" = none
  any_ : mg "any" = none
  sorted_ : mg "sorted" = none
  sum_ : mg "sum" = none
  repr_ : mg "repr" = none
  zip_ : mg "zip" = none
  enumerate_ : mg "enumerate" = none
  isinstance_ : mg "isinstance" = none
  reversed_ : mg "reversed" = none
  str_ : mg "str" = none
  bool_ : mg "bool" = none
  set_ : mg "set" = none
end Sh

/-! a[i] += e of a list; for i in reversed(range(..)) -/
namespace Sh
open PySem PySem.Spec PyProof.Rows L2
section
variable {X : Cx}
def rGetN (K : PySem.W.Frag) : V → V → Hp → VK → Prop := fun o i H Q => ∃ (p : Addr) (xs : List V) (j : Nat) (v : V), o = .ref p ∧ i = .int (j : Int) ∧ SqL K H p xs ∧ xs[j]? = some v ∧ Q v H
theorem pget_nat : PGet X (rGetN X.K) := by
  intro pins s σ H o i ov iv Q I ro ri h
  obtain ⟨p, xs, j, v, rfl, rfl, hq, hj, q⟩ := h
  cases ro
  obtain ⟨t, rfl⟩ := ri
  obtain ⟨its, r, pl, hz⟩ := I.list hq
  obtain ⟨u, hu, ru⟩ := r.get hj
  have jl := (List.getElem?_eq_some_iff.mp hj).1
  have sz := sizeLine_eq
  refine wpAny_getItem_list (x := u) pl.isList (by omega) (by omega) ?_ ⟨v, H, I, ru, q⟩
  rw [Int.toNat_natCast]
  simpa using hu
end
end Sh

/-! calls where no text of a list is under way: then repr(..) is known -/
namespace Sh
open PySem PySem.Spec PyProof.Rows L2
/-- a def's promise, kept where no repr is under way -/
structure FnG (P : Program) (w : World) (K : PySem.W.Frag) (mg : Str → Option Value) (bs : Heap) (k : Nat) (f : Addr) (fd : FuncData) (ps : List Str) (sp : Sp) : Prop where
  many : ∀ vs H Q E, sp vs H Q E → vs.length = ps.length
  go : ∀ (B : Around) (fr : List Env) (s : Shared) (H : Hp) (gs : Args) (us : List Value) (vs : List V) (Q : VK) (E : XK), Room k B → B.guards = some [] → Env0 P w K mg bs B fr s H → BindsTo s fd gs (ps.zip us) → Vals vs us → sp vs H Q E → codeAny (model P w) B (.call (.ref f) gs) (CR CX0 fr P w H s Q E) s
structure OkG (P : Program) (w : World) (K : PySem.W.Frag) (mg : Str → Option Value) (bs : Heap) (k : Nat) (x : Str) (st : Stmt) (ps : List Str) (sp : Sp) : Prop where
  ex : ∃ (f : Addr) (fd : FuncData), Fun K x x st f fd ∧ mg x = some (.ref f) ∧ Binds K fd ps [] ∧ FnG P w K mg bs k f fd ps sp
section
variable {P : Program} {w : World} {K : PySem.W.Frag} {mg : Str → Option Value} {bs : Heap}
theorem FnG.mono {j k : Nat} {f : Addr} {fd : FuncData} {ps : List Str} {sp : Sp} (G : FnG P w K mg bs j f fd ps sp) (h : j ≤ k) : FnG P w K mg bs k f fd ps sp := ⟨G.many, fun B fr s H gs us vs Q E hr => G.go B fr s H gs us vs Q E (hr.mono h)⟩
theorem OkG.mono {x : Str} {st : Stmt} {ps : List Str} {j k : Nat} {sp : Sp} (O : OkG P w K mg bs j x st ps sp) (h : j ≤ k) : OkG P w K mg bs k x st ps sp := by
  obtain ⟨f, fd, F, g, b, G⟩ := O.ex
  exact ⟨f, fd, F, g, b, G.mono h⟩
theorem Df.okG {x : Str} {st : Stmt} {N ps : List Str} {k : Nat} {sp : Sp} (D : Df K mg x st) (S : FnScope N ps (defScope st))
    (hb : ∀ (kV dc pm : Value) (an : Option Addr) (cdv ct : Value) (us : List Value), us.length = ps.length → bindArgs (PySem.W.fnOf x x (defArgs st) (defBody st) (defScope st) .none kV dc pm an cdv ct) ⟨us, []⟩ = pure (ps.zip us))
    (many : ∀ vs H Q E, sp vs H Q E → vs.length = ps.length)
    (bd : ∀ (f : Addr) (cdv : Value) (B : Around) (fr : List Env) (s : Shared) (H : Hp) (vs : List V) (Q : VK) (E : XK), Room k (B.deeper (envOfC x (defScope st) s.heap.objs.size f cdv)) → (B.deeper (envOfC x (defScope st) s.heap.objs.size f cdv)).guards = some [] → sp vs H Q E →
      ∃ t, PSs (cxOf CX0 P w K mg bs N x (defScope st) f cdv B fr s H E).nox (defBody st) t ∧ t { nx := fun _ J => Q .non J, rt := Q } (start N vs) H) : OkG P w K mg bs (k + 1) x st ps sp := by
  obtain ⟨f, fd, F, g⟩ := D.ex
  have F0 := F
  obtain ⟨oc, od, kV, dc, pm, an, cdv, ct, osl, rfl, lk, hcd⟩ := F.ex
  refine ⟨f, _, F0, g, F0.binds hb, many, fun B fr s H gs us vs Q E rm gd e0 bnd r wish => ?_⟩
  have nm := many _ _ _ _ wish
  have kin : K.In s.heap := e0.mod.kin.keeps fun a o e => (e0.bs a o e).1
  have nol : s.heap.NoLimit := e0.mod.nolimit.keeps fun a o e => (e0.bs a o e).1
  have kinds : ∀ y ∈ ps.zip us, (defScope st).names.lookup y.1 = some .local ∨ ((defScope st).names.lookup y.1 = some .cell ∧ ((cellsFrom (s.heap.objs.size + 1) (defScope st).names []).lookup y.1).isSome = true) := by
    rintro ⟨n, v⟩ hy
    cases S.par n (List.of_mem_zip hy).1 with
    | inl q => exact .inl q
    | inr q => exact .inr ⟨q, PySem.W.cellsFrom_some _ _ _ (.inl q)⟩
  refine codeAny_call_function rm.depth (kin _ _ lk) rfl S.co S.gen rfl (PySem.W.codeRec_of kin hcd) (bnd _ _ _ _ ?_)
  refine wpAny_newFunctionEnv_cells S.kind kinds fun env ee s1 z => ?_
  subst ee
  refine ⟨nol.keeps z.toInCall.keep, codeAny_func ?_⟩
  obtain ⟨t, ht, hq⟩ := bd f cdv B fr s H vs Q E (rm.deeper _) gd wish
  have ht' := ht.nox
  have I : Inv (cxOf CX0 P w K mg bs N x (defScope st) f cdv B fr s H E) [] (start N vs) H s1 := inv_start S rm.hd e0 nm r z
  refine wpAny_mono (ht'.run [] s1 (start N vs) H _ I hq) (fun fl s2 hs => ?_) fun e s2 hs => hs
  cases fl with
  | ret u =>
    obtain ⟨v, σ2, H2, J, rv, q⟩ := hs
    exact ⟨v, H2, J.os, J.bare, J.base, J.hok, rv, q⟩
  | next =>
    obtain ⟨σ2, H2, J, q⟩ := hs
    exact ⟨V.non, H2, J.os, J.bare, J.base, J.hok, rfl, q⟩
  | brk =>
    obtain ⟨_, _, _, q⟩ := hs
    exact q.elim
  | cont =>
    obtain ⟨_, _, _, q⟩ := hs
    exact q.elim
end
section
variable {X : Cx} {k : Nat} {x : Str} {st : Stmt} {ps : List Str} {sp : Sp} {e : Expr} {es : List Expr} {t : TA} {p pos : Pos}
/-- f(e, ..) -/
theorem pe_fnG (O : OkG X.prog X.w X.K X.mg X.base k x st ps sp) (hr : Room k X.A) (gd : X.A.guards = some []) (ha : PA X (e :: es) t) (hg : Gl X x := by rfl)
    (hdb : (x == ("__debug__" : Str)) = false := by decide) (he : starEach (e :: es) X.env = (false, eval e X.env) :: starEach es X.env := by rfl) (hpl : (backTo pos (starEach es X.env)).any (·.1) = false := by rfl) :
    PE X (.Call (.Name x p) (e :: es) [] pos) (tCall sp [] E0 t) := by
  obtain ⟨f, fd, F, g, b, G⟩ := O.ex
  refine ⟨fun pins s σ H Q I h => ?_⟩
  refine wpAny_Call_Name_kw (ld_glob I hg g ?_ hdb)
  refine PySem.W.callWith_K (h₀ := X.base) I.ok.mod.kin F.kp (thn (ha.run pos pins s σ H _ I h) fun us s1 ⟨vs, H1, I1, r, q⟩ => ⟨I1.kIn, ?_⟩) he hpl
  have q' : sp vs H1 Q E0 := by
    have z : sp (vs ++ []) H1 Q E0 := q
    rw [List.append_nil] at z
    exact z
  have nm : us.length = ps.length := by
    rw [← r.length]
    exact G.many _ _ _ _ q'
  have bd : BindsTo s1 fd ⟨us, []⟩ (ps.zip us) := by
    have z := b s1 us I1.kIn (by rw [List.append_nil]; exact nm)
    rw [List.append_nil] at z
    exact z
  refine wpAny_call (codeAny_mono (G.go X.A X.stack s1 H1 ⟨us, []⟩ us vs Q E0 hr gd I1.env0 bd r q') fun y s2 hq => ?_)
  cases y with
  | error e => exact pass0 pins σ H1 s1 e s2 I1 hq
  | ok fl =>
    cases fl with
    | ret u => exact I1.after hq
    | next => exact hq.elim
    | brk => exact hq.elim
    | cont => exact hq.elim
theorem reprU {A : Around} (r : Room k A) : A.units + 66 < cLine := by
  have := r.un
  omega
/-- repr(x) of a list or a tuple of data -/
def rRepr (K : PySem.W.Frag) : List V → Hp → VK → Prop := fun xs H Q => ∃ (a : Addr) (d : PyData), xs = [.ref a] ∧ Dp K H (.ref a) d ∧ SeqAt.shaped d = true ∧ d.showable = true ∧ d.shown.length ≤ sizeLine ∧ Q (.str d.shown) H
theorem cr_repr (gd : X.A.guards = some []) (hu : X.A.units + 66 < cLine) : CallR X (.builtin "repr") (rRepr X.K) := by
  intro pins s σ H xs us Q I r h
  obtain ⟨a, d, rfl, hd, sd, sh, sz, q⟩ := h
  rw [Vals.ref1 r]
  obtain ⟨as, r1⟩ := Dp.reads I d (.ref a) (.ref a) hd rfl
  have lay := SeqAt.canLay_of_shaped sd
  have dp : d.depth ≤ 64 := by
    have z := sd
    unfold SeqAt.shaped at z
    rw [Bool.and_eq_true] at z
    exact of_decide_eq_true z.2
  exact repr_of_reads' r1 sh (PyData.noDict_hsm (PyData.hasDict_of_canLay _ lay)) gd (by omega) (fun _ _ e => e) (fun h' u tk hk => ⟨.str d.shown, H, I.kept hk, ⟨u, rfl⟩, q⟩) sz
end
/-! ### the law's call, where nothing is under way -/
section
theorem script_call {P : Program} {w : World} {K : PySem.W.Frag} {mg mb : Str → Option Value} {k : Nat} {fa a : Addr} {fd : FuncData} {x : Str} {sp : Sp} {s1 : Shared} {vs : List Value} {ns : List Int}
    (kin : K.In s1.heap) (hns : s1.heap.Ns mainGlobals mg) (hbn : s1.heap.Ns builtinsNs mb) (hbb : ∀ y : Str, y ≠ "__name__" → mb y = bootBuiltins y) (nol : s1.heap.NoLimit) (hgn : s1.gens = #[])
    (hla : s1.heap.get? a = some { cls := .type "list", data := .seq vs.toArray }) (hit : IntsAre vs ns) (hsz : ns.length ≤ sizeLine) (rm : Room k callerA)
    (F : ∀ bs : Heap, K.In bs → bs.Ns mainGlobals mg → FnG P w K mg bs k fa fd [x] sp) (bnd : ∀ (s : Shared) (u : Value), BindsTo s fd ⟨[u], []⟩ [(x, u)])
    (wish : ∀ H : Hp, Only H → SqL K H a (ns.map V.int) → sp [.ref a] H (fun v _ => v = .bl true) fun _ _ _ => False) :
    codeAny (model P w) callerA (.call (.ref fa) ⟨[.ref a], []⟩) (fun y s2 => y = .ok (.ret (.bool true)) ∧ OldK s1.heap s2.heap ∧ s2.os = s1.os ∧ AllBare s2.gens) s1 := by
  have rv := vals_ints hit
  have many := hit.length
  have step : ∀ H : Hp, Only H → SqL K H a (ns.map V.int) → HOk P w H s1.heap → (∀ b, H b ≠ none → b = a) → (H a ≠ none → K.lookup a = none) →
      codeAny (model P w) callerA (.call (.ref fa) ⟨[.ref a], []⟩) (fun y s2 => y = .ok (.ret (.bool true)) ∧ OldK s1.heap s2.heap ∧ s2.os = s1.os ∧ AllBare s2.gens) s1 := by
    intro H only sq hok sole apart
    have hid : ∀ {b : Addr} {o : Obj}, s1.heap.get? b = some o → H b = none → (hidT s1.heap H).get? b = some o := fun e n => hidT_get e n
    have isa : ∀ {b : Addr} {u : HO}, H b = some u → b = a := fun {b u} q => sole b (by rw [q]; exact fun z => nomatch z)
    have bare : ∀ {b : Addr} {o : Obj} {es : Array DictEntry} {ep : Nat}, s1.heap.get? b = some o → o.data = .dict es ep → H b = none := by
      intro b o es ep e d
      cases q : H b with
      | none => rfl
      | some u =>
        obtain rfl := isa q
        rw [hla] at e
        cases e
        cases (show Data.seq vs.toArray _ = Data.dict es ep from d)
    have spaces : ∀ {b : Addr} {m : Str → Option Value}, s1.heap.Ns b m → (hidT s1.heap H).Ns b m := by
      rintro b m ⟨o, es, ep, e, d, r⟩
      exact ⟨o, es, ep, hid e (bare e d), d, r⟩
    have kin0 : K.In (hidT s1.heap H) := by
      intro b o e
      refine hid (kin b o e) ?_
      cases q : H b with
      | none => rfl
      | some u =>
        obtain rfl := isa q
        rw [apart (by rw [q]; exact fun z => nomatch z)] at e
        cases e
    have md : Mod K mg (hidT s1.heap H) := by
      obtain ⟨mc, n1, n2⟩ := nol
      exact ⟨kin0, spaces hns, ⟨mb, spaces hbn, hbb⟩, ⟨mc, spaces n1, n2⟩⟩
    have at0 : Env0 P w K mg (hidT s1.heap H) callerA [] s1 H := by
      refine ⟨rfl, md, fun b o e => of_hidT e, Nat.le_of_eq (hidT_size _ _), trivial, fun b hb => ?_, hok, .of_eq hgn⟩
      exact absurd (show b ∈ ([] : List Addr) from hb) List.not_mem_nil
    refine codeAny_mono ((F _ kin0 (spaces hns)).go callerA [] s1 H ⟨[.ref a], []⟩ [.ref a] [.ref a] _ _ rm rfl at0 (bnd s1 (.ref a)) (.cons rfl .nil) (wish H only sq)) fun y s2 h => ?_
    cases y with
    | error e => exact False.elim (show False from h)
    | ok fl =>
      cases fl with
      | next => exact h.elim
      | brk => exact h.elim
      | cont => exact h.elim
      | ret u =>
        obtain ⟨v, H2, os, br, un, hok2, r2, q⟩ := h
        obtain rfl : v = .bl true := q
        obtain rfl : u = Value.bool true := r2
        refine ⟨rfl, OldK.of_keep fun b o e => ?_, os, br⟩
        cases q : H b with
        | none => exact un.keep b o e q (fun z => absurd (show b ∈ ([] : List Addr) from z) List.not_mem_nil) (by simp)
        | some u =>
          cases only b with
          | inl z =>
            rw [q] at z
            cases z
          | inr z =>
            obtain ⟨ob, xs, z⟩ := z
            have z2 := un.frzs b ob _ z
            obtain ⟨e1, _⟩ := hok b _ z
            obtain ⟨e2, _⟩ := hok2 b _ z2
            rw [e] at e1
            cases e1
            exact e2
  cases hk : K.lookup a with
  | some o =>
    have e := kin a o hk
    rw [hla] at e
    cases e
    refine step (fun _ => none) (fun _ => .inl rfl) (.inr ⟨_, vs.toArray, _, hk, rfl, rfl, rfl, by rw [List.size_toArray, many]; exact hsz, by simpa using rv⟩) ?_ (fun b z => absurd rfl z) fun z => absurd rfl z
    intro b u z
    cases (show (none : Option HO) = some u from z)
  | none =>
    refine step (fun b => if b = a then some (.frz { cls := .type "list", data := .seq vs.toArray } (.lst (ns.map V.int))) else none) ?_ (.inl (.inr ⟨{ cls := .type "list", data := .seq vs.toArray }, if_pos rfl⟩)) ?_ ?_ fun _ => hk
    · intro b
      by_cases c : b = a
      · exact .inr ⟨_, _, if_pos c⟩
      · exact .inl (if_neg c)
    · intro b u z
      by_cases c : b = a
      · cases (if_pos c).symm.trans z
        subst c
        exact ⟨hla, by rw [List.length_map]; exact hsz, vs, _, rv, hla⟩
      · cases (if_neg c).symm.trans z
    · intro b z
      by_cases c : b = a
      · exact c
      · exact absurd (if_neg c) z
theorem walk_ofG {l : PySem.W.OpenLaw} {n k : Nat} {q : Program} {loose : List Str} {XP : (Str → Option Value) → Heap → Prop} {YP : World → Heap → Prop} {d : DefRec} {K : Params → PySem.W.Frag} {sp : World → Sp} {x : Str}
    (hn : l.most = some n) (hz : n ≤ sizeLine) (hdf : d.params.defaults = []) (rm : Room k callerA) (hY : ∀ (w : World) (h : Heap), YP w h → (K w.params).In h)
    (F : ∀ (w : World) (mg : Str → Option Value) (fa : Addr) (h : Heap), (K w.params).In h → h.Ns mainGlobals mg → mg d.name = some (.ref fa) → ∃ fd : FuncData, (∀ (s : Shared) (u : Value), BindsTo s fd ⟨[u], []⟩ [(x, u)]) ∧ ∀ bs : Heap, (K w.params).In bs → bs.Ns mainGlobals mg → FnG l.prog w (K w.params) mg bs k fa fd [x] (sp w))
    (wish : ∀ (w : World) (H : Hp) (a : Addr) (ns : List Int), ns.length ≤ n → Only H → SqL (K w.params) H a (ns.map V.int) → sp w [.ref a] H (fun v _ => v = .bl true) fun _ _ _ => False) :
    PySem.W.WalkO q loose XP YP l.row.toRowW d [] (fun f vs => PySem.call f vs) := by
  refine Att.attach_call hn hdf fun w s0 s1 mg mb fa o pm cd dc a vs ns G Y ho hd hcd hmg hobj hints hlen hg => ?_
  obtain ⟨fd, bnd, hF⟩ := F w mg fa _ (hY w _ Y) G.T.g hmg
  exact script_call (hY w _ Y) G.T.g G.T.b G.T.builtins G.T.nolimit hg hobj hints (Nat.le_trans hlen hz) rm hF bnd fun H hO hS => wish w H a ns hlen hO hS
end
end Sh

/-! a lambda of one parameter: made, handed to a def, called there -/
namespace Sh
open PySem PySem.Spec PyProof.Rows L2 LamX
/-- one parameter q; all else that it names is captured, or global -/
structure LamS1 (sc lam : Scope) (q : Str) : Prop where
  fnk : lam.kind = .function
  noco : lam.isCoroutine = false
  nogen : lam.isGenerator = false
  par : lam.names.lookup q = some .local
  nocell : ∀ z ∈ lam.names, z.2 ≠ .cell
  alone : ∀ z ∈ lam.names, z.2 = .local → z.1 = q
  from_ : ∀ z ∈ lam.names, z.2 = .free → sc.names.lookup z.1 = some .cell ∨ sc.names.lookup z.1 = some .free
def lamS1B (sc lam : Scope) (q : Str) : Bool :=
  decide (lam.kind = .function) && (!lam.isCoroutine && (!lam.isGenerator && (decide (lam.names.lookup q = some .local) && lam.names.all fun z => !decide (z.2 = .cell) && ((!decide (z.2 = .local) || decide (z.1 = q)) && (!decide (z.2 = .free) || (decide (sc.names.lookup z.1 = some .cell) || decide (sc.names.lookup z.1 = some .free)))))))
theorem lamS1_by {sc lam : Scope} {q : Str} (h : lamS1B sc lam q = true) : LamS1 sc lam q := by
  have two : ∀ {x y : Bool}, (x && y) = true → x = true ∧ y = true := fun w => Bool.and_eq_true_iff.mp w
  have no : ∀ {x : Bool}, (!x) = true → x = false := fun {x} w => by cases x <;> first | rfl | cases w
  unfold lamS1B at h
  obtain ⟨a1, h⟩ := two h
  obtain ⟨a2, h⟩ := two h
  obtain ⟨a3, h⟩ := two h
  obtain ⟨a4, h⟩ := two h
  have each := List.all_eq_true.mp h
  refine ⟨of_decide_eq_true a1, no a2, no a3, of_decide_eq_true a4, fun z hz => ?_, fun z hz e => ?_, fun z hz e => ?_⟩
  · exact of_decide_eq_false (no (two (each z hz)).1)
  · have w := (two (two (each z hz)).2).1
    rw [decide_eq_true e] at w
    exact of_decide_eq_true ((Bool.or_eq_true_iff.mp w).resolve_left (fun n => by cases n))
  · have w := (two (two (each z hz)).2).2
    rw [decide_eq_true e] at w
    have w2 := (Bool.or_eq_true_iff.mp w).resolve_left (fun n => by cases n)
    rcases Bool.or_eq_true_iff.mp w2 with y | y
    · exact .inl (of_decide_eq_true y)
    · exact .inr (of_decide_eq_true y)
theorem LamS1.has {X : Cx} {lam : Scope} {q : Str} (L : LamS1 X.env.scope lam q) (ok : X.Ok) : ∀ z ∈ lam.names, z.2 = .free → ∃ a, X.env.cells.lookup z.1 = some a := fun z hz e => ok.has _ (L.from_ z hz e)
/-- where the lambda's body runs: the maker's names, its parameter behind them -/
def lamCx1 (X : Cx) (B : Around) (fr : List Env) (t : Shared) (J : Hp) (lam : Scope) (f c' : Addr) (q : Str) : Cx :=
  let en := lamEnv X lam t.heap.objs.size f c'
  { prog := X.prog, w := X.w, K := X.K, mg := X.mg, base := X.base, A := B.deeper en, N := X.N ++ [q], s_0 := t, H_0 := J, env := en, outer := fr, stack := en :: fr, ex := [], fn := fun _ => false, calm := true, pn := [],
    xe := fun e r => wpAny (model X.prog X.w) (B.deeper en) (leaving en e) (fun _ r' => CX0 fr J t E0 e r') (fun e' r' => CX0 fr J t E0 e' r') r }
section
variable {X : Cx} {pins : List (Addr × Obj)} {σ : L2.St} {G J : Hp} {s t : Shared}
/-- what is captured is the maker's own cell -/
theorem cap_cell {lam : Scope} {q : Str} (L : LamS1 X.env.scope lam q) (ok : X.Ok) {n : Str} {a : Addr} (e : (cloFrom X.env.cells lam.names []).lookup n = some a) : X.env.cells.lookup n = some a := by
  rcases cloFrom_mem (PySem.mem_of_lookup e) with bad | ⟨isF, ea⟩
  · cases bad
  · obtain ⟨a', ha⟩ := L.has ok _ isF rfl
    have ha' : X.env.cells.lookup n = some a' := ha
    rw [ea, ha'] <;> rfl
theorem cap_there {lam : Scope} {n : Str} (e : lam.names.lookup n = some .free) : ∃ a, (cloFrom X.env.cells lam.names []).lookup n = some a :=
  mem_lookup (cloFrom_has (cells := X.env.cells) (acc := []) (PySem.mem_of_lookup e))
theorem lam_start1 {B : Around} {fr : List Env} {lam : Scope} {f c' : Addr} {q : Str} {h2 : Heap} {tk : Nat} {v : V} {u : Value} (I : Inv X pins σ G s) (L : LamS1 X.env.scope lam q) (nq : q ∉ X.N) (at0 : Env0 X.prog X.w X.K X.mg X.base B fr t J) (calm : B.handled = none)
    (un : Un (frs X.stack) [] G J s.heap t.heap) (rv : RelV v u) (hns : h2.Ns t.heap.objs.size fun n => ([(q, u)] : List (Str × Value)).reverse.lookup n) (grow : ∀ b o, t.heap.get? b = some o → h2.get? b = some o) :
    Inv (lamCx1 X B fr t J lam f c' q) [] (σ ++ [some v]) J { t with heap := h2, toks := tk } := by
  have own : ∀ {n a}, (lamEnv X lam t.heap.objs.size f c').cells.lookup n = some a → X.env.cells.lookup n = some a := fun e => cap_cell L I.ok e
  have stays : ∀ {a : Addr} {z : Option Value}, G a = none → s.heap.IsCell a z → h2.IsCell a z := by
    rintro a z ga ⟨o, ho, hd⟩
    obtain ⟨sl, w⟩ := un.any ho ga List.not_mem_nil
    exact ⟨_, grow _ _ w, hd⟩
  have none_ex : ∀ b : Addr, b ∉ (lamCx1 X B fr t J lam f c' q).ex := fun b => List.not_mem_nil
  have okay : (lamCx1 X B fr t J lam f c' q).Ok := by
    constructor
    case mod => exact at0.mod
    case kind => exact L.fnk
    case glob => rfl
    case blt => rfl
    case above => exact Nat.le_refl _
    case inj => exact fun n m a e1 e2 => I.ok.inj n m a (own e1) (own e2)
    case has =>
      intro n hn
      rcases hn with hn | hn
      · exact absurd rfl (L.nocell _ (PySem.mem_of_lookup (show lam.names.lookup n = some .cell from hn)))
      · exact cap_there (show lam.names.lookup n = some .free from hn)
    case cab => exact fun n a z _ => absurd (show false = true from z) Bool.false_ne_true
    case hd => exact fun _ => calm
    case frames => exact Around.frames_deeper at0.frames
    case stk => exact .inr ⟨rfl, rfl⟩
    case exf => exact fun b z => absurd z (none_ex b)
    case bs => exact at0.bs
    case bsz => exact at0.bsz
    case noex => exact fun b _ _ => none_ex b
    case exfs => exact fun b z => absurd z (none_ex b)
    case funs => exact at0.funs
    case frf => exact at0.frf
  constructor
  case ok => exact okay
  case os => rfl
  case bare => exact at0.bare
  case base => exact Un.kept grow
  case loc =>
    refine ⟨_, hns, fun i n z e1 e2 vis => ?_⟩
    have at1 : (X.N ++ [q])[i]? = some n := e1
    by_cases low : i < X.N.length
    · rw [List.getElem?_append_left low] at at1
      rw [List.getElem?_append_left (I.len ▸ low)] at e2
      have nn : n ≠ q := fun w => nq (w ▸ List.mem_of_getElem? at1)
      rcases (show Vis lam n from vis) with w | w | w
      · exact absurd (L.alone _ (PySem.mem_of_lookup w) rfl) nn
      · exact absurd rfl (L.nocell _ (PySem.mem_of_lookup w))
      · have par := L.from_ _ (PySem.mem_of_lookup w) rfl
        obtain ⟨mm, _, look⟩ := I.loc
        obtain ⟨u', r', lk⟩ := look i n z at1 e2 (.inr par)
        obtain ⟨a, ea⟩ := cap_there (X := X) w
        refine ⟨u', r', .inr ⟨.inr w, a, ea, ?_⟩⟩
        rcases lk with ⟨loc', _⟩ | ⟨_, a2, e3, cell⟩
        · have loc2 : X.env.scope.names.lookup n = some .local := loc'
          rcases par with y | y
          · rw [show X.env.scope.names.lookup n = _ from y] at loc2
            cases loc2
          · rw [show X.env.scope.names.lookup n = _ from y] at loc2
            cases loc2
        · obtain rfl : a = a2 := Option.some.inj ((own ea).symm.trans e3)
          exact stays (I.freeC n a e3) cell
    · have last : i = X.N.length := by
        have := (List.getElem?_eq_some_iff.mp at1).1
        rw [List.length_append, List.length_singleton] at this
        omega
      subst last
      rw [List.getElem?_concat_length] at at1
      rw [← I.len, List.getElem?_concat_length] at e2
      obtain rfl : q = n := Option.some.inj at1
      obtain rfl : v = z := Option.some.inj (Option.some.inj e2)
      exact ⟨u, rv, .inl ⟨L.par, by simp⟩⟩
  case cell =>
    intro n a e
    obtain ⟨z, w⟩ := I.cell n a (own e)
    exact ⟨z, stays (I.freeC n a (own e)) w⟩
  case free => exact at0.hok.fresh (Nat.le_refl _)
  case freeC =>
    intro n a e
    obtain ⟨z, o, w, _⟩ := I.cell n a (own e)
    exact un.free a o w (I.freeC n a (own e)) List.not_mem_nil
  case pin => exact fun p hp => absurd (show p ∈ ([] : List (Addr × Obj)) ++ [] from hp) (by simp)
  case hok => exact at0.hok.kept grow
  case len =>
    show (σ ++ [some v]).length = (X.N ++ [q]).length
    rw [List.length_append, List.length_append, I.len]
    rfl
end
/-- a function object that stands at f since the state (s, H): called at any later one it does as sp says -/
structure LamAt (P : Program) (w : World) (K : PySem.W.Frag) (mg : Str → Option Value) (base : Heap) (k : Nat) (f : Addr) (s : Shared) (H : Hp) (stk : List Env) (sp : V → Hp → VK → Prop) : Prop where
  fn : ∃ oc od fd sl, s.heap.get? f = some ⟨oc, od, .func fd, sl⟩
  new : H f = none
  nofr : f ∉ frs stk
  run : ∀ (A : Around) (outer : List Env) (s1 : Shared) (HZ : Hp) (u : Value) (v : V) (Q : VK), Room k A → Env0 P w K mg base A outer s1 HZ → Un (frs stk) [] H HZ s.heap s1.heap → RelV v u → sp v HZ Q →
    codeAny (model P w) A (.call (.ref f) ⟨[u], []⟩) (CR CX0 outer P w HZ s1 Q E0) s1
section
variable {X : Cx} {pins : List (Addr × Obj)} {σ : L2.St} {G : Hp} {s : Shared}
theorem lam_at {f c' : Addr} {pm ctv : Value} {params : Arguments} {body : Expr} {lam : Scope} {q : Str} {k : Nat} {tb : TE} (I : Inv X pins σ G s) (L : LamS1 X.env.scope lam q) (nq : q ∉ X.N)
    (stands : s.heap.get? f = some (PySem.W.kla_obj "<lambda>" (X.env.qual ++ "<lambda>") params body lam (cloFrom X.env.cells lam.names []) pm c' ctv)) (gf : G f = none) (nfr : f ∉ frs X.stack)
    (binds : ∀ u : Value, bindArgs (PySem.W.kla_fn "<lambda>" (X.env.qual ++ "<lambda>") params body lam (cloFrom X.env.cells lam.names []) pm (.ref c') ctv) ⟨[u], []⟩ = pure [(q, u)])
    (runs : ∀ (B : Around) (fr : List Env) (t : Shared) (J : Hp), Room k (B.deeper (lamEnv X lam t.heap.objs.size f c')) → PE (lamCx1 X B fr t J lam f c' q) body tb) :
    LamAt X.prog X.w X.K X.mg X.base (k + 1) f s G X.stack (fun v J Q => J c' = some (CodeO c' (X.env.qual ++ "<lambda>")) ∧ tb (σ ++ [some v]) J Q) := by
  refine ⟨⟨_, _, _, _, stands⟩, gf, nfr, fun B fr t J u v Q rm at0 un rv wish => ?_⟩
  obtain ⟨code, does⟩ := wish
  have still := un.keep f _ stands gf nfr List.not_mem_nil
  obtain ⟨⟨oc, cs, tq, w1, w2, w3⟩, _, _⟩ := at0.hok c' _ code
  have nol : t.heap.NoLimit := at0.mod.nolimit.keeps fun b o e => (at0.bs b o e).1
  refine PySem.W.kla_callFunE rm.depth still rfl L.noco L.nogen rfl ⟨c', oc, cs, tq, rfl, w1, w2, w3⟩ ?_
  rw [binds]
  refine wpAny_pure (wpAny_newFunctionEnv L.nocell (fun y hy => by rw [List.mem_singleton.mp hy]; exact L.par) (fun h2 hns hsb => ?_) L.fnk)
  refine ⟨nol.fresh _ hsb, ?_⟩
  have grow : ∀ b o, t.heap.get? b = some o → h2.get? b = some o := by
    intro b o e
    exact hsb.extBut b o (Nat.ne_of_lt (Heap.lt_size e)) (Heap.get?_push_of_some _ e)
  have start := lam_start1 (tk := t.toks + ([(q, u)] : List (Str × Value)).length) I L nq at0 rm.hd un rv hns grow (f := f) (c' := c')
  refine PySem.W.kla_codeExpr (env := lamEnv X lam t.heap.objs.size f c') (wpAny_mono ((runs B fr t J (rm.deeper _)).run [] _ _ J Q start does) (fun z t' hz => ?_) fun e t' hz => hz)
  obtain ⟨z2, J2, K2, rz, q2⟩ := hz
  exact ⟨z2, J2, K2.os, K2.bare, K2.base, K2.hok, rz, q2⟩
/-- a call of it by a name that holds it, in a def entered at that state -/
theorem pe_callLam {Z : Cx} {k i : Nat} {f : Addr} {s : Shared} {H : Hp} {stk : List Env} {sp : V → Hp → VK → Prop} {a : Str} {e : Expr} {te : TE} {p1 p2 : Pos} (LA : LamAt Z.prog Z.w Z.K Z.mg Z.base k f s H stk sp)
    (hs : Z.s_0 = s) (hH : Z.H_0 = H) (hfs : Z.fs = frs stk) (hx : Z.ex = []) (hr : Room k Z.A) (hN : Z.N[i]? = some a) (hv : Vis Z.env.scope a) (he : PE Z e te)
    (hst : starEach [e] Z.env = (false, eval e Z.env) :: starEach [] Z.env := by rfl) (hd : (a == ("__debug__" : Str)) = false := by decide) (hcd : (a == ("__classdict__" : Str)) = false := by decide) :
    PE Z (.Call (.Name a p1) [e] [] p2) (fun σ H Q => σ[i]? = some (some (.ref f)) ∧ te σ H fun v H1 => sp v H1 Q) := by
  refine ⟨fun pinsZ sZ τ HZ Q IZ h => ?_⟩
  obtain ⟨hs0, ht⟩ := h
  have fnAt : ∀ {pins : List (Addr × Obj)} {σ' : L2.St} {H' : Hp} {s' : Shared}, Inv Z pins σ' H' s' → PySem.W.FnAt f s'.heap := fun {pins σ' H' s'} J => by
    obtain ⟨oc, od, fd, sl, q⟩ := LA.fn
    have b := J.base
    rw [hfs, hx, hs, hH] at b
    exact ⟨oc, od, fd, sl, b.keep f _ q LA.new LA.nofr (by simp)⟩
  refine wpAny_Call_Name_kw (thn ((pe_var (pos := p1) (i := i) hN hv hd hcd).run pinsZ sZ τ HZ (fun v H1 => v = .ref f ∧ H1 = HZ) IZ ⟨.ref f, hs0, rfl, rfl⟩) fun u s1 ⟨v, H1, I1, r1, q1⟩ => ?_)
  obtain ⟨ev, eH⟩ := q1
  subst ev
  rw [eH] at I1
  obtain rfl : u = .ref f := r1
  refine PySem.W.callWith_F (fnAt I1) ?_ hst
  rw [hst]
  show wpAny _ _ (spliced ((false, eval e Z.env) :: backTo p2 (starEach [] Z.env))) _ _ s1
  refine Calls.spliced_cons (thn (he.run pinsZ s1 τ HZ _ I1 ht) fun u2 s2 ⟨v, H2, I2, ru, q⟩ => ?_)
  refine Calls.spliced_nil ⟨fnAt I2, ?_⟩
  have un : Un (frs stk) [] H H2 s.heap s2.heap := by
    have b := I2.base
    rw [hfs, hx, hs, hH] at b
    exact b
  refine wpAny_call (codeAny_mono (LA.run Z.A Z.stack s2 H2 u2 v Q hr I2.env0 un ru q) fun y s3 hq => ?_)
  cases y with
  | error e => exact hq.elim
  | ok fl =>
    cases fl with
    | ret u => exact I2.after hq
    | next => exact hq.elim
    | brk => exact hq.elim
    | cont => exact hq.elim
end
/-- a def that is handed such a function object and another thing -/
structure OkLam (P : Program) (w : World) (K : PySem.W.Frag) (mg : Str → Option Value) (base : Heap) (k j : Nat) (x : Str) (st : Stmt) (ps : List Str) (TT : (V → Hp → VK → Prop) → V → Hp → VK → Prop) : Prop where
  ex : ∃ (g : Addr) (fd : FuncData), Fun K x x st g fd ∧ mg x = some (.ref g) ∧ Binds K fd ps [] ∧ ps.length = 2 ∧ ∀ (A : Around) (outer : List Env) (s : Shared) (H : Hp) (f : Addr) (v : V) (u : Value) (Q : VK) (sp : V → Hp → VK → Prop), Room k A → Env0 P w K mg base A outer s H →
    BindsTo s fd ⟨[.ref f, u], []⟩ (ps.zip [.ref f, u]) → RelV v u → LamAt P w K mg base j f s H outer sp → TT sp v H Q → codeAny (model P w) A (.call (.ref g) ⟨[.ref f, u], []⟩) (CR CX0 outer P w H s Q E0) s
section
variable {P : Program} {w : World} {K : PySem.W.Frag} {mg : Str → Option Value} {base : Heap}
theorem OkLam.mono {x : Str} {st : Stmt} {ps : List Str} {i k j : Nat} {TT : (V → Hp → VK → Prop) → V → Hp → VK → Prop} (O : OkLam P w K mg base i j x st ps TT) (h : i ≤ k) : OkLam P w K mg base k j x st ps TT := by
  obtain ⟨g, fd, F, hg, b, l, G⟩ := O.ex
  exact ⟨g, fd, F, hg, b, l, fun A outer s H f v u Q sp hr => G A outer s H f v u Q sp (hr.mono h)⟩
theorem Df.okLam {x : Str} {st : Stmt} {N : List Str} {a b : Str} {k j : Nat} {TT : (V → Hp → VK → Prop) → V → Hp → VK → Prop} (D : Df K mg x st) (S : FnScope N [a, b] (defScope st))
    (hb : ∀ (kV doc pm : Value) (an : Option Addr) (cdv ct : Value) (us : List Value), us.length = [a, b].length → bindArgs (PySem.W.fnOf x x (defArgs st) (defBody st) (defScope st) .none kV doc pm an cdv ct) ⟨us, []⟩ = pure ([a, b].zip us))
    (hbody : ∀ (g : Addr) (cdv : Value) (A : Around) (outer : List Env) (s : Shared) (H : Hp) (f : Addr) (v : V) (Q : VK) (sp : V → Hp → VK → Prop), Room k (A.deeper (envOfC x (defScope st) s.heap.objs.size g cdv)) → LamAt P w K mg base j f s H outer sp → TT sp v H Q →
      ∃ t, PSs (cxOf CX0 P w K mg base N x (defScope st) g cdv A outer s H E0).nox (defBody st) t ∧ t { nx := fun _ H' => Q .non H', rt := Q } (start N [.ref f, v]) H) : OkLam P w K mg base (k + 1) j x st [a, b] TT := by
  obtain ⟨g, fd, F, hg⟩ := D.ex
  have F0 := F
  obtain ⟨oc, od, kV, doc, pm, an, cdv, ct, osl, rfl, lk, hcd⟩ := F.ex
  refine ⟨g, _, F0, hg, F0.binds hb, rfl, fun A outer s H f v u Q sp hr e0 bnd rv LA h => ?_⟩
  refine LamX.run_ofS (N := N) (ps := [a, b]) (us := [.ref f, u]) (vs := [.ref f, v]) lk hcd S hr e0 bnd (.cons rfl (.cons rv .nil)) rfl fun hr' => ?_
  obtain ⟨t, ht, hq⟩ := hbody g cdv A outer s H f v Q sp hr' LA h
  exact ⟨t, ht.nox, hq⟩
end
def tLam2 (T : List (Addr × Str)) (q : Str) (TT : (V → Hp → VK → Prop) → V → Hp → VK → Prop) (tb te2 : TE) : TE := fun σ H Q => Tabs T H ∧ ∀ (c' : Addr) (H1 : Hp), ExtN H H1 → Tabs T H1 → H1 c' = some (CodeO c' q) →
  te2 σ H1 fun v2 H2 => TT (fun v HZ Q' => HZ c' = some (CodeO c' q) ∧ tb (σ ++ [some v]) HZ Q') v2 H2 Q
section
variable {X : Cx}
/-- what is made stands: it may be pinned -/
theorem lam_pin {pins : List (Addr × Obj)} {σ : L2.St} {H : Hp} {s : Shared} {f : Addr} {o : Obj} (I : Inv X pins σ H s) (hf : s.heap.get? f = some o) (hd : ∃ fd, o.data = .func fd) (hn : H f = none) (nf : f ∉ frs X.stack) : Inv X ((f, o) :: pins) σ H s := by
  obtain ⟨fd, hd⟩ := hd
  refine I.pins_of fun q hq => ?_
  rcases List.mem_cons.mp hq with rfl | hq
  · refine ⟨hf, hn, fun z => ?_, fun z => ?_, fun v z => ?_⟩
    · obtain ⟨m, ⟨oL, es, ep, e, d, _⟩, _⟩ := I.loc
      have z' : f = X.env.locals := z
      rw [← z', hf] at e
      cases e
      rw [hd] at d
      cases d
    · refine nf ?_
      rcases I.ok.stk with e | ⟨e, hfr⟩
      · rw [e]
        exact z
      · rw [e]
        unfold frs
        rw [List.filterMap_cons, hfr]
        exact List.mem_cons_of_mem _ z
    · have z' : o.data = .cell v := z
      rw [hd] at z'
      cases z'
  · exact I.pin q (List.mem_append_right _ hq)
/-- x(lambda p: body, e2) -/
theorem pe_lamcall2 {T : List (Addr × Str)} {k j : Nat} {x a b : Str} {st : Stmt} {TT : (V → Hp → VK → Prop) → V → Hp → VK → Prop} {c Pt : Addr} {params : Arguments} {body e2 : Expr} {scope : Scope} {p : Str} {tb te2 : TE} {lpos p1 pos : Pos}
    (O : OkLam X.prog X.w X.K X.mg X.base k (j + 1) x st [a, b] TT) (hr : Room k X.A) (TB : TabB X.base X.mg c Pt) (hcode : X.env.code = .ref c) (hm : (Pt, X.env.qual ++ "<lambda>") ∈ T) (hu : ∀ q ∈ T, q.1 = Pt → q.2 = X.env.qual ++ "<lambda>")
    (L : LamS1 X.env.scope scope p) (hp : p ∉ X.N) (hdef : defaultsOf params X.env = ([], []))
    (hbind : ∀ (f c' : Addr) (pm ctv u : Value), bindArgs (PySem.W.kla_fn "<lambda>" (X.env.qual ++ "<lambda>") params body scope (cloFrom X.env.cells scope.names []) pm (.ref c') ctv) ⟨[u], []⟩ = pure [(p, u)])
    (hbody : ∀ (A : Around) (outer : List Env) (s' : Shared) (H' : Hp) (f c' : Addr), Room j (A.deeper (lamEnv X scope s'.heap.objs.size f c')) → PE (lamCx1 X A outer s' H' scope f c' p) body tb) (he2 : PE X e2 te2)
    (hg : Gl X x := by rfl) (hdb : (x == ("__debug__" : Str)) = false := by decide) (hs2 : starEach [e2] X.env = (false, eval e2 X.env) :: starEach [] X.env := by rfl) :
    PE X (.Call (.Name x p1) [.Lambda params body scope lpos, e2] [] pos) (tLam2 T (X.env.qual ++ "<lambda>") TT tb te2) := by
  refine ⟨fun pins s σ H Q I h => ?_⟩
  obtain ⟨hT, h⟩ := h
  obtain ⟨g, fd, F, mgx, bd, _, G⟩ := O.ex
  refine wpAny_Call_Name_kw (ld_glob I hg mgx ?_ hdb)
  refine PySem.W.callWith_K (h₀ := X.base) I.ok.mod.kin F.kp ?_ (by rfl) ?_
  · show wpAny _ _ (spliced ((false, eval (.Lambda params body scope lpos) X.env) :: backTo pos (starEach [e2] X.env))) _ _ s
    refine Calls.spliced_cons (lam_make2 I TB hcode hm hu hT hdef (L.has I.ok) fun f c' pm' ctv H1 s1 I1 eN T1 hf hfn hfr hco => ?_)
    have I1' := lam_pin I1 hf ⟨_, rfl⟩ hfn hfr
    rw [hs2]
    show wpAny _ _ (spliced ((false, eval e2 X.env) :: backTo pos (starEach [] X.env))) _ _ s1
    refine Calls.spliced_cons (thn (he2.run _ s1 σ H1 _ I1' (h c' H1 eN T1 hco)) fun u2 s2 ⟨v2, H2, I2, r2, q2⟩ => ?_)
    refine Calls.spliced_nil ⟨I2.kIn, ?_⟩
    obtain ⟨hf2, hn2, _⟩ := I2.pin (f, _) (List.mem_append_right _ (List.mem_cons_self))
    have I3 : Inv X pins σ H2 s2 := I2.pins_of fun q hq => I2.pin q (List.mem_append_right _ (List.mem_cons_of_mem _ hq))
    have LA := lam_at (k := j) I3 L hp hf2 hn2 hfr (hbind f c' pm' ctv) (fun A outer s' H' hr' => hbody A outer s' H' f c' hr')
    have bnd : BindsTo s2 fd ⟨[.ref f, u2], []⟩ ([a, b].zip [.ref f, u2]) := by
      have z := bd s2 [.ref f, u2] I3.kIn rfl
      simpa using z
    refine wpAny_call (codeAny_mono (G X.A X.stack s2 H2 f v2 u2 Q _ hr I3.env0 bnd r2 LA q2) fun y s3 hq => ?_)
    cases y with
    | error e => exact hq.elim
    | ok fl =>
      cases fl with
      | ret u => exact I3.after hq
      | next => exact hq.elim
      | brk => exact hq.elim
      | cont => exact hq.elim
  · rw [hs2]
    rfl
end
/-! ### what stands but for tables -/
section
variable {K : PySem.W.Frag} {H H' : Hp} {a : Addr} {xs : List V}
theorem ext_same (s : Same H H') : ExtN H H' := fun b o h _ => s b o h
theorem ext_tupl {xs : List V} {p : Addr} (e : ExtN H H') (x : H p = some (.tup xs)) : H' p = some (.tup xs) := e _ _ x fun _ z => by cases z
theorem ext_lst {xs : List V} {p : Addr} (e : ExtN H H') (x : H p = some (.lst xs)) : H' p = some (.lst xs) := e _ _ x fun _ z => by cases z
theorem ext_tup (e : ExtN H H') (h : SqT K H a xs) : SqT K H' a xs := by
  rcases h with (h | ⟨o, h⟩) | h
  · exact .inl (.inl (e _ _ h fun _ z => by cases z))
  · exact .inl (.inr ⟨o, e _ _ h fun _ z => by cases z⟩)
  · exact .inr h
theorem ext_seq (e : ExtN H H') (h : SqL K H a xs) : SqL K H' a xs := by
  rcases h with (h | ⟨o, h⟩) | h
  · exact .inl (.inl (e _ _ h fun _ z => by cases z))
  · exact .inl (.inr ⟨o, e _ _ h fun _ z => by cases z⟩)
  · exact .inr h
theorem ext_sqA (e : ExtN H H') (h : SqA K H a xs) : SqA K H' a xs := by
  rcases h with h | h
  · exact .inl (ext_seq e h)
  · exact .inr (ext_tup e h)
theorem ext_new (e : ExtN H H') (h : H' a = none) : H a = none ∨ ∃ ps, H a = some (.tbl ps) := by
  cases q : H a with
  | none => exact .inl rfl
  | some o =>
    by_cases z : ∀ ps, o ≠ .tbl ps
    · rw [e a o q z] at h
      cases h
    · refine .inr ?_
      cases o with
      | tbl ps => exact ⟨ps, rfl⟩
      | _ => exact absurd (fun _ z => by cases z) z
theorem tabs_same {T : List (Addr × Str)} (t : Tabs T H) (s : Same H H') : Tabs T H' := t.ext s
/-- the tables stand where but one object, no table and no code, has changed -/
theorem tabs_put {T : List (Addr × Str)} {b : Addr} {o : HO} (t : Tabs T H) (hb : ∃ xs, H b = some (.lst xs)) : Tabs T (upd H b o) := fun p hp => by
  obtain ⟨xs, hb⟩ := hb
  obtain ⟨ps, h1, h2, h3⟩ := t p hp
  refine ⟨ps, by rw [upd_ne (ne_of h1 hb (by intro z; cases z))]; exact h1, h2, fun pos cv hc => ?_⟩
  obtain ⟨c, e1, e2⟩ := h3 pos cv hc
  exact ⟨c, e1, by rw [upd_ne (ne_of e2 hb (by intro z; unfold CodeO at z; cases z))]; exact e2⟩
end
/-- a def of the top whose code object stands at c -/
structure DfC (K : PySem.W.Frag) (mg : Str → Option Value) (x : Str) (st : Stmt) (c : Addr) : Prop where
  ex : ∃ (f : Addr) (fd : FuncData), Fun K x x st f fd ∧ mg x = some (.ref f) ∧ fd.code = .ref c
theorem DfC.df {K : PySem.W.Frag} {mg : Str → Option Value} {x : Str} {st : Stmt} {c : Addr} (D : DfC K mg x st c) : Df K mg x st := let ⟨f, fd, a, b, _⟩ := D.ex; ⟨f, fd, a, b⟩
theorem DfC.ok {P : Program} {w : World} {K : PySem.W.Frag} {mg : Str → Option Value} {base : Heap} {x : Str} {st : Stmt} {N ps : List Str} {k : Nat} {sp : Sp} {c : Addr} (D : DfC K mg x st c) (S : FnScope N ps (defScope st))
    (hb : ∀ (kV doc pm : Value) (an : Option Addr) (cdv ct : Value) (us : List Value), us.length = ps.length → bindArgs (PySem.W.fnOf x x (defArgs st) (defBody st) (defScope st) .none kV doc pm an cdv ct) ⟨us, []⟩ = pure (ps.zip us))
    (len : ∀ vs H Q E, sp vs H Q E → vs.length = ps.length)
    (hbody : ∀ (f : Addr) (A : Around) (outer : List Env) (s : Shared) (H : Hp) (vs : List V) (Q : VK) (E : XK), Room k (A.deeper (envOfC x (defScope st) s.heap.objs.size f (.ref c))) → sp vs H Q E →
      ∃ t, PSs (cxOf CX0 P w K mg base N x (defScope st) f (.ref c) A outer s H E).nox (defBody st) t ∧ t { nx := fun _ H' => Q .non H', rt := Q } (start N vs) H) : Ok P w K mg base (k + 1) x st ps sp := by
  obtain ⟨f, fd, F, g, hc⟩ := D.ex
  have F0 := F
  obtain ⟨oc, od, kV, doc, pm, an, cdv, ct, osl, rfl, lk, hcd⟩ := F.ex
  obtain rfl : cdv = .ref c := hc
  refine ⟨f, _, F0, g, F0.binds hb, fn_of lk hcd S len fun A outer s H vs Q E hr hsp => ?_⟩
  obtain ⟨t, h, q⟩ := hbody f A outer s H vs Q E hr hsp
  exact ⟨t, h.nox, q⟩
end Sh

/-! the law's call, where defs make lambdas (tables of code objects), no text of a list is under way -/
namespace Sh
open PySem PySem.Spec PyProof.Rows L2 LamX
theorem Ok.g {P : Program} {w : World} {K : PySem.W.Frag} {mg : Str → Option Value} {bs : Heap} {x : Str} {st : Stmt} {ps : List Str} {k : Nat} {sp : Sp} (O : Ok P w K mg bs k x st ps sp) : OkG P w K mg bs k x st ps sp := by
  obtain ⟨f, fd, F, g, b, G⟩ := O.ex
  exact ⟨f, fd, F, g, b, G.len, fun B fr s H gs us vs Q E rm _ e0 bnd r wish => G.run B fr s H gs us vs Q E rm e0 bnd r wish⟩
/-- an empty table -/
abbrev tab0 : Obj := { cls := .none, data := .fields #[] }
theorem script_callT {P : Program} {w : World} {K : PySem.W.Frag} {mg mb : Str → Option Value} {k : Nat} {fa a : Addr} {cs : List (Addr × Addr)} {fd : FuncData} {x : Str} {sp : Sp} {s1 : Shared} {vs : List Value} {ns : List Int}
    (kin : K.In s1.heap) (hns : s1.heap.Ns mainGlobals mg) (hbn : s1.heap.Ns builtinsNs mb) (hbb : ∀ y : Str, y ≠ "__name__" → mb y = bootBuiltins y) (nol : s1.heap.NoLimit) (hgn : s1.gens = #[])
    (tabs : ∀ p ∈ cs, s1.heap.get? p.2 = some tab0) (out : ∀ p ∈ cs, K.lookup p.2 = none) (codes : ∀ p ∈ cs, PySem.W.CodeHd s1.heap p.1 p.2)
    (main : ∃ (bm : Addr) (ob : Obj), mg "__builtins__" = some (.ref bm) ∧ bm ≠ builtinsNs ∧ s1.heap.get? bm = some ob ∧ ob.cls = .type "module" ∧ ob.dict = some builtinsNs ∧ ob.data = .plain)
    (hla : s1.heap.get? a = some { cls := .type "list", data := .seq vs.toArray }) (hit : IntsAre vs ns) (hsz : ns.length ≤ sizeLine) (rm : Room k callerA)
    (F : ∀ bs : Heap, K.In bs → bs.Ns mainGlobals mg → (∀ p ∈ cs, TabB bs mg p.1 p.2) → FnG P w K mg bs k fa fd [x] sp) (bnd : ∀ (s : Shared) (u : Value), BindsTo s fd ⟨[u], []⟩ [(x, u)])
    (wish : ∀ H : Hp, (∀ p ∈ cs, H p.2 = some (.tbl #[])) → SqL K H a (ns.map V.int) → sp [.ref a] H (fun v _ => v = .bl true) fun _ _ _ => False) :
    codeAny (model P w) callerA (.call (.ref fa) ⟨[.ref a], []⟩) (fun y s2 => y = .ok (.ret (.bool true)) ∧ OldK s1.heap s2.heap ∧ s2.os = s1.os ∧ AllBare s2.gens) s1 := by
  have rv := vals_ints hit
  have many := hit.length
  have at_ : ∀ {b : Addr}, b ∈ cs.map (·.2) → s1.heap.get? b = some tab0 := by
    intro b hb
    obtain ⟨p, hp, rfl⟩ := List.mem_map.mp hb
    exact tabs p hp
  have apart0 : a ∉ cs.map (·.2) := by
    intro z
    have q := at_ z
    rw [hla] at q
    cases (show Data.seq vs.toArray _ = Data.fields #[] from congrArg Obj.data (Option.some.inj q))
  have mem2 : ∀ p ∈ cs, p.2 ∈ cs.map (·.2) := fun p hp => List.mem_map_of_mem hp
  have step : ∀ H : Hp, (∀ p ∈ cs, H p.2 = some (.tbl #[])) → (∀ b, H b = none ∨ (b ∈ cs.map (·.2)) ∨ ∃ o xs, H b = some (.frz o (.lst xs))) → SqL K H a (ns.map V.int) → HOk P w H s1.heap → (∀ b, H b ≠ none → b = a ∨ b ∈ cs.map (·.2)) → (H a ≠ none → K.lookup a = none) →
      codeAny (model P w) callerA (.call (.ref fa) ⟨[.ref a], []⟩) (fun y s2 => y = .ok (.ret (.bool true)) ∧ OldK s1.heap s2.heap ∧ s2.os = s1.os ∧ AllBare s2.gens) s1 := by
    intro H onT only sq hok sole apart
    have hid : ∀ {b : Addr} {o : Obj}, s1.heap.get? b = some o → H b = none → (hidT s1.heap H).get? b = some o := fun e n => hidT_get e n
    -- what is tracked is the script, or an empty table
    have none_of : ∀ {b : Addr} {o : Obj}, s1.heap.get? b = some o → (∀ xs n, o.data ≠ .seq xs n) → o.data ≠ .fields #[] → H b = none := by
      intro b o e n1 n2
      cases q : H b with
      | none => rfl
      | some u =>
        exfalso
        rcases sole b (by rw [q]; exact fun z => nomatch z) with z | z
        · rw [z, hla] at e
          cases e
          exact n1 _ _ rfl
        · rw [at_ z] at e
          cases e
          exact n2 rfl
    have spaces : ∀ {b : Addr} {m : Str → Option Value}, s1.heap.Ns b m → (hidT s1.heap H).Ns b m := by
      rintro b m ⟨o, es, ep, e, d, r⟩
      refine ⟨o, es, ep, hid e (none_of e (fun xs n z => ?_) fun z => ?_), d, r⟩
      · rw [d] at z
        cases z
      · rw [d] at z
        cases z
    have kin0 : K.In (hidT s1.heap H) := by
      intro b o e
      refine hid (kin b o e) ?_
      cases q : H b with
      | none => rfl
      | some u =>
        exfalso
        rcases sole b (by rw [q]; exact fun z => nomatch z) with z | z
        · subst z
          rw [apart (by rw [q]; exact fun z => nomatch z)] at e
          cases e
        · obtain ⟨p, hp, rfl⟩ := List.mem_map.mp z
          rw [out p hp] at e
          cases e
    have md : Mod K mg (hidT s1.heap H) := by
      obtain ⟨mc, n1, n2⟩ := nol
      exact ⟨kin0, spaces hns, ⟨mb, spaces hbn, hbb⟩, ⟨mc, spaces n1, n2⟩⟩
    have tb : ∀ p ∈ cs, TabB (hidT s1.heap H) mg p.1 p.2 := by
      intro p hp
      have ht := tabs p hp
      constructor
      case code =>
        obtain ⟨o, us, fl, tf, gs, tg, inF, tx, tt, e1, c2, c3, c4, rest⟩ := codes p hp
        refine ⟨o, us, fl, tf, gs, tg, inF, tx, tt, hid e1 (none_of e1 (fun xs n z => ?_) fun z => ?_), c2, c3, c4, rest⟩
        · rw [c3] at z
          cases z
        · rw [c3] at z
          cases z
          simp at c4
      case bm =>
        obtain ⟨bm, ob, b1, b2, b3, b4, b5, b6⟩ := main
        have noG : bm ≠ mainGlobals := by
          intro q
          obtain ⟨o, es, ep, e, hd, _⟩ := hns
          subst q
          rw [e] at b3
          cases b3
          rw [hd] at b6
          cases b6
        have noP : bm ≠ p.2 := by
          intro q
          rw [q, ht] at b3
          cases b3
          cases b6
        refine ⟨bm, ob, b1, b2, noG, noP, hid b3 (none_of b3 (fun xs n z => ?_) fun z => ?_), b4, b5, b6⟩
        · rw [b6] at z
          cases z
        · rw [b6] at z
          cases z
      case gP =>
        intro z
        obtain ⟨o, es, ep, e, hd, _⟩ := hns
        rw [z, ht] at e
        cases e
        cases hd
    have at0 : Env0 P w K mg (hidT s1.heap H) callerA [] s1 H := by
      refine ⟨rfl, md, fun b o e => of_hidT e, Nat.le_of_eq (hidT_size _ _), trivial, fun b hb => ?_, hok, .of_eq hgn⟩
      exact absurd (show b ∈ ([] : List Addr) from hb) List.not_mem_nil
    refine codeAny_mono ((F _ kin0 (spaces hns) tb).go callerA [] s1 H ⟨[.ref a], []⟩ [.ref a] [.ref a] _ _ rm rfl at0 (bnd s1 (.ref a)) (.cons rfl .nil) (wish H onT sq)) fun y s2 h => ?_
    cases y with
    | error e => exact False.elim (show False from h)
    | ok fl =>
      cases fl with
      | next => exact h.elim
      | brk => exact h.elim
      | cont => exact h.elim
      | ret u =>
        obtain ⟨v, H2, os, br, un, hok2, r2, q⟩ := h
        obtain rfl : v = .bl true := q
        obtain rfl : u = Value.bool true := r2
        have kept : ∀ b o, b ∉ cs.map (·.2) → s1.heap.get? b = some o → s2.heap.get? b = some o := by
          intro b o nb e
          cases q : H b with
          | none => exact un.keep b o e q (fun z => absurd (show b ∈ ([] : List Addr) from z) List.not_mem_nil) (by simp)
          | some u =>
            rcases only b with z | z | ⟨ob, xs, z⟩
            · rw [q] at z
              cases z
            · exact absurd z nb
            · obtain ⟨e1, _⟩ := hok b _ z
              obtain ⟨e2, _⟩ := hok2 b _ (un.frzs b ob _ z)
              rw [e] at e1
              cases e1
              exact e2
        have more : ∀ p ∈ cs, ∃ us : Array Value, s2.heap.get? p.2 = some { cls := .none, data := .fields us } := by
          intro p hp
          obtain ⟨us, z⟩ := un.tbls p.2 #[] (onT p hp)
          exact ⟨_, hok2 p.2 _ z⟩
        refine ⟨rfl, ⟨fun b o e => ?_, fun b o e => ?_⟩, os, br⟩
        · by_cases hb : b ∈ cs.map (·.2)
          · obtain ⟨p, hp, rfl⟩ := List.mem_map.mp hb
            obtain ⟨us, hm⟩ := more p hp
            rw [tabs p hp] at e
            cases e
            exact .inr (.inl ⟨((codes p hp).tab (tabs p hp)).isCodeTable, rfl, #[], us, rfl, by rw [Array.empty_append]; exact hm⟩)
          · exact .inl (kept b o hb e)
        · by_cases hb : b ∈ cs.map (·.2)
          · obtain ⟨p, hp, rfl⟩ := List.mem_map.mp hb
            obtain ⟨us, hm⟩ := more p hp
            exact ⟨_, hm⟩
          · exact ⟨o, kept b o hb e⟩
  cases hk : K.lookup a with
  | some o =>
    have e := kin a o hk
    rw [hla] at e
    cases e
    refine step (fun b => if b ∈ cs.map (·.2) then some (.tbl #[]) else none) (fun p hp => if_pos (mem2 p hp)) ?_ (.inr ⟨_, vs.toArray, _, hk, rfl, rfl, rfl, by rw [List.size_toArray, many]; exact hsz, by simpa using rv⟩) ?_ ?_ fun z => absurd (if_neg apart0) z
    · intro b
      by_cases c : b ∈ cs.map (·.2)
      · exact .inr (.inl c)
      · exact .inl (if_neg c)
    · intro b u z
      by_cases c : b ∈ cs.map (·.2)
      · cases (if_pos c).symm.trans z
        exact at_ c
      · cases (if_neg c).symm.trans z
    · intro b z
      by_cases c : b ∈ cs.map (·.2)
      · exact .inr c
      · exact absurd (if_neg c) z
  | none =>
    refine step (fun b => if b = a then some (.frz { cls := .type "list", data := .seq vs.toArray } (.lst (ns.map V.int))) else if b ∈ cs.map (·.2) then some (.tbl #[]) else none) ?_ ?_ (.inl (.inr ⟨{ cls := .type "list", data := .seq vs.toArray }, if_pos rfl⟩)) ?_ ?_ fun _ => hk
    · intro p hp
      exact (if_neg (fun z : p.2 = a => apart0 (z ▸ mem2 p hp))).trans (if_pos (mem2 p hp))
    · intro b
      by_cases c : b = a
      · exact .inr (.inr ⟨_, _, if_pos c⟩)
      · by_cases d : b ∈ cs.map (·.2)
        · exact .inr (.inl d)
        · exact .inl ((if_neg c).trans (if_neg d))
    · intro b u z
      by_cases c : b = a
      · cases (if_pos c).symm.trans z
        subst c
        exact ⟨hla, by rw [List.length_map]; exact hsz, vs, _, rv, hla⟩
      · have z1 := (if_neg c).symm.trans z
        by_cases d : b ∈ cs.map (·.2)
        · cases (if_pos d).symm.trans z1
          exact at_ d
        · cases (if_neg d).symm.trans z1
    · intro b z
      by_cases c : b = a
      · exact .inl c
      · by_cases d : b ∈ cs.map (·.2)
        · exact .inr d
        · exact absurd ((if_neg c).trans (if_neg d)) z
theorem look_none {α : Type} {a : Addr} : ∀ {l : List (Addr × α)}, a ∉ l.map (·.1) → l.lookup a = none
  | [], _ => rfl
  | (b, u) :: l, h => by
    have ne : (a == b) = false := beq_eq_false_iff_ne.mpr fun e => h (by rw [e]; exact List.mem_cons_self)
    rw [List.lookup_cons, ne]
    exact look_none fun z => h (List.mem_cons_of_mem _ z)
section
variable {K : PySem.W.Frag} {mg : Str → Option Value} {h : Heap}
/-- how a code object with a table at P looks -/
def CodeShape (o : Obj) (c P : Addr) : Prop := ∃ vs fl tf gs tg inF tx tt, o.cls = .type "code" ∧ o.data = .fields vs ∧ vs[11]? = some (.ref P) ∧ vs.getD 11 .none = .ref P ∧ vs.getD 18 .none = .str fl tf ∧ vs.getD 7 .none = .int gs tg ∧ vs.getD 9 .none = .bool inF ∧ vs.getD 10 .none = .int tx tt ∧ c ≠ P
theorem CodeShape.at {o : Obj} {c P : Addr} (s : CodeShape o c P) (e : h.get? c = some o) : PySem.W.CodeHd h c P := by
  obtain ⟨vs, fl, tf, gs, tg, inF, tx, tt, r⟩ := s
  exact ⟨o, vs, fl, tf, gs, tg, inF, tx, tt, e, r⟩
/-- a def that makes lambdas: its code object, its table -/
structure DfL (K : PySem.W.Frag) (mg : Str → Option Value) (h : Heap) (x : Str) (st : Stmt) (c P : Addr) : Prop where
  df : DfC K mg x st c
  code : PySem.W.CodeHd h c P
theorem with_dfL {R : Prop} {x : Str} {st : Stmt} {f c P : Addr} {oc : Value} {od an : Option Addr} {sl : Array (Option Value)} {kV dc pm ct : Value} {o : Obj} (X : K.In h) (G : h.Ns mainGlobals mg)
    (a : PySem.W.nsIn K mainGlobals x = some (some (.ref f))) (l : K.lookup f = some ⟨oc, od, .func (PySem.W.fnOf x x (defArgs st) (defBody st) (defScope st) .none kV dc pm an (.ref c) ct), sl⟩)
    (cd : PySem.W.codeIn K (.ref c) x = true) (kp : PySem.W.keepIn K (.ref f) = true) (m : K.lookup c = some o) (s : CodeShape o c P) (r : DfL K mg h x st c P → R) : R :=
  r ⟨⟨f, _, fun_mk l cd kp, PySem.W.mg_of X G a, rfl⟩, s.at (X _ _ m)⟩
end
theorem walk_ofGT {l : PySem.W.OpenLaw} {n k : Nat} {q : Program} {loose : List Str} {XP : (Str → Option Value) → Heap → Prop} {d : DefRec} {K : Params → PySem.W.Frag} {as ts : List Addr} {he : ∀ P, as = (K P).map (·.1)} {x : Str}
    (hn : l.most = some n) (hz : n ≤ sizeLine) (hdf : d.params.defaults = []) (rm : Room k callerA)
    (F : ∀ (w : World) (mg : Str → Option Value) (fa : Addr) (h : Heap), (K w.params).In h → h.Ns mainGlobals mg → mg d.name = some (.ref fa) →
      ∃ (fd : FuncData) (cs : List (Addr × Addr)) (sp : Sp), (∀ p ∈ cs, (p.2 ∈ ts ∧ p.2 ∉ as) ∧ PySem.W.CodeHd h p.1 p.2) ∧ (∀ (s : Shared) (u : Value), BindsTo s fd ⟨[u], []⟩ [(x, u)]) ∧
        (∀ (H : Hp) (a : Addr) (ns : List Int), ns.length ≤ n → (∀ p ∈ cs, H p.2 = some (.tbl #[])) → SqL (K w.params) H a (ns.map V.int) → sp [.ref a] H (fun v _ => v = .bl true) fun _ _ _ => False) ∧
        ∀ bs : Heap, (K w.params).In bs → bs.Ns mainGlobals mg → (∀ p ∈ cs, TabB bs mg p.1 p.2) → FnG l.prog w (K w.params) mg bs k fa fd [x] sp) :
    PySem.W.WalkO q loose XP (PySem.W.kmHook K as he ts).says l.row.toRowW d [] (fun f vs => PySem.call f vs) := by
  refine Att.attach_call hn hdf fun w s0 s1 mg mb fa o pm cd dc a vs ns G Y ho hd hcd hmg hobj hints hlen hg => ?_
  have kin := PySem.W.km_in_of Y
  obtain ⟨fd, cs, sp, tabs, bnd, wish, hF⟩ := F w mg fa _ kin G.T.g hmg
  exact script_callT kin G.T.g G.T.b G.T.builtins G.T.nolimit hg (fun p hp => PySem.W.km_tabs_of Y _ (tabs p hp).1.1) (fun p hp => look_none (by rw [← he]; exact (tabs p hp).1.2)) (fun p hp => (tabs p hp).2) G.T.bmain hobj hints (Nat.le_trans hlen hz) rm hF bnd fun H hT hS => wish H a ns hlen hT hS
end Sh

/-! |, - and ^ of two sets of small ints: the tables laid anew, merged, walked -/
/-! a set's table laid anew: each small int finds its slot -/
namespace Sh
open PySem PySem.Spec PyProof.Rows L2
def hops (m : Nat) : Nat → Nat → List Nat
  | 0, _ => []
  | n + 1, i => i :: hops m n ((i * 5 + 1) % (m + 1))
def bitsOf (l : List Nat) : Nat := l.foldl (fun b j => b ||| (1 <<< j)) 0
theorem bits_go (j : Nat) : ∀ (l : List Nat) (b : Nat), (l.foldl (fun b j => b ||| (1 <<< j)) b).testBit j = true → b.testBit j = true ∨ j ∈ l
  | [], b, h => .inl h
  | x :: l, b, h => by
    rcases bits_go j l _ h with z | z
    · rw [Nat.testBit_or, Bool.or_eq_true] at z
      rcases z with z | z
      · exact .inl z
      · rw [Nat.testBit_shiftLeft, Bool.and_eq_true, decide_eq_true_eq] at z
        obtain ⟨z1, z2⟩ := z
        by_cases c : j = x
        · exact .inr (c ▸ List.mem_cons_self)
        · obtain ⟨k, e⟩ : ∃ k, j - x = k + 1 := ⟨j - x - 1, by omega⟩
          rw [e] at z2
          have : Nat.testBit 1 (k + 1) = false := by rw [Nat.testBit_succ]; simp
          rw [this] at z2
          cases z2
    · exact .inr (List.mem_cons_of_mem _ z)
def allHops (m : Nat) : Bool := (List.range (m + 1)).all fun i => bitsOf (hops m (m + 1) i) == 2 ^ (m + 1) - 1
theorem hops_all : ∀ m ∈ [7, 15, 31, 63, 127], allHops m = true := by decide +kernel
theorem hops_mono {m : Nat} : ∀ (n k i j : Nat), n ≤ k → j ∈ hops m n i → j ∈ hops m k i
  | 0, _, _, _, _, h => by cases h
  | n + 1, 0, _, _, l, _ => by omega
  | n + 1, k + 1, i, j, l, h => by
    rcases List.mem_cons.mp h with e | h
    · rw [e]; exact List.mem_cons_self
    · exact List.mem_cons_of_mem _ (hops_mono n k _ j (by omega) h)
theorem hops_find {m i j : Nat} (hm : m ∈ [7, 15, 31, 63, 127]) (hi : i ≤ m) (hj : j ≤ m) : j ∈ hops m (SetTable.turns m) i := by
  have a := hops_all m hm
  unfold allHops at a
  have b := beq_iff_eq.mp (List.all_eq_true.mp a i (List.mem_range.mpr (by omega)))
  have c : (bitsOf (hops m (m + 1) i)).testBit j = true := by
    rw [b, Nat.testBit_two_pow_sub_one]
    exact decide_eq_true (by omega)
  rcases bits_go j _ 0 c with z | z
  · rw [Nat.zero_testBit] at z
    cases z
  · exact hops_mono (m + 1) _ i j (by unfold SetTable.turns; omega) z
theorem run_ge (m i : Nat) : i ≤ SetTable.runEnd m i := by
  unfold SetTable.runEnd
  split <;> omega
theorem free_some {m : Nat} {ow : Array (Option Nat)} : ∀ (f i p : Nat), p < 32 → (∃ j ∈ hops m f i, (ow.getD j (some 0)).isNone = true) → ∃ j, SetTable.layClean.free m ow f i p = some j ∧ (ow.getD j (some 0)).isNone = true
  | 0, _, _, _, ⟨_, h, _⟩ => by cases h
  | f + 1, i, p, hp, ⟨j, hj, ej⟩ => by
    unfold SetTable.layClean.free
    cases e : (List.range (SetTable.runEnd m i + 1 - i)).find? fun k => (ow.getD (i + k) (some 0)).isNone with
    | some k => exact ⟨i + k, rfl, List.find?_some (p := fun k => (ow.getD (i + k) (some 0)).isNone) e⟩
    | none =>
      have h0 := List.find?_eq_none.mp e 0 (List.mem_range.mpr (by have := run_ge m i; omega))
      have j1 : j ∈ hops m f ((i * 5 + 1) % (m + 1)) := by
        rcases List.mem_cons.mp hj with z | z
        · rw [z] at ej
          exact absurd ej h0
        · exact z
      have p0 : p / 32 = 0 := Nat.div_eq_of_lt hp
      show ∃ j, SetTable.layClean.free m ow f ((i * 5 + 1 + p / 32) % (m + 1)) (p / 32) = some j ∧ _
      rw [p0, Nat.add_zero]
      exact free_some f _ 0 (by decide) ⟨j, j1, ej⟩
theorem fm_set {α : Type} : ∀ (l : List (Option α)) (j : Nat) (x : α), l[j]? = some none → ((l.set j (some x)).filterMap id).Perm (x :: l.filterMap id)
  | [], _, _, h => by cases h
  | o :: l, 0, x, h => by
    obtain rfl : o = none := Option.some.inj h
    exact List.Perm.refl _
  | o :: l, j + 1, x, h => by
    have ih := fm_set l j x h
    cases o with
    | none => exact ih
    | some y => exact (List.Perm.cons y ih).trans (List.Perm.swap x y _)
theorem fm_len {α : Type} : ∀ (l : List (Option α)), (∀ o ∈ l, o ≠ none) → (l.filterMap id).length = l.length
  | [], _ => rfl
  | none :: l, h => absurd rfl (h none List.mem_cons_self)
  | some x :: l, h => by
    show (l.filterMap id).length + 1 = l.length + 1
    rw [fm_len l fun o ho => h o (List.mem_cons_of_mem _ ho)]
def small (h : Int) : Prop := 0 ≤ h ∧ h < 32
theorem bits_small {h : Int} (s : small h) : SetTable.bits h < 32 := by
  unfold SetTable.bits
  obtain ⟨a, b⟩ := s
  have : h % (2 ^ 64 : Int) = h := Int.emod_eq_of_lt a (by omega)
  omega
theorem lay_go {m : Nat} (hm : m ∈ [7, 15, 31, 63, 127]) : ∀ (hs : List Int) (ow : Array (Option Nat)) (k : Nat), (∀ h ∈ hs, small h) → ow.size = m + 1 → (ow.toList.filterMap id).Perm (List.range k) → k + hs.length ≤ m + 1 →
    ∃ ow' : Array (Option Nat), List.foldl (fun (acc : Option (Array (Option Nat) × Nat)) (h : Int) => do
      let (owner, k) ← acc
      let j ← SetTable.layClean.free m owner (SetTable.turns m) (SetTable.bits h % (m + 1)) (SetTable.bits h)
      pure (owner.setIfInBounds j (some k), k + 1)) (some (ow, k)) hs = some (ow', k + hs.length) ∧ ow'.size = m + 1 ∧ (ow'.toList.filterMap id).Perm (List.range (k + hs.length))
  | [], ow, k, _, sz, pm, _ => ⟨ow, rfl, sz, pm⟩
  | h :: hs, ow, k, sm, sz, pm, l => by
    rw [List.length_cons] at l
    have ex : ∃ j, j ≤ m ∧ (ow.getD j (some 0)).isNone = true := by
      refine Classical.byContradiction fun no => ?_
      have all : ∀ o ∈ ow.toList, o ≠ none := fun o ho z => by
        obtain ⟨j, hj, e⟩ := List.mem_iff_getElem.mp ho
        rw [Array.length_toList] at hj
        refine no ⟨j, by omega, ?_⟩
        rw [Array.getD_eq_getD_getElem?, Array.getElem?_eq_getElem hj]
        rw [Array.getElem_toList] at e
        rw [e, z]
        rfl
      have e1 := fm_len _ all
      rw [pm.length_eq, List.length_range, Array.length_toList] at e1
      omega
    obtain ⟨j0, j1, j2⟩ := ex
    obtain ⟨j, ef, ej⟩ := free_some (m := m) (ow := ow) (SetTable.turns m) (SetTable.bits h % (m + 1)) (SetTable.bits h) (bits_small (sm h List.mem_cons_self)) ⟨j0, hops_find hm (by have := Nat.mod_lt (SetTable.bits h) (show 0 < m + 1 by omega); omega) j1, j2⟩
    have gj : ow.toList[j]? = some none := by
      rw [Array.getElem?_toList]
      rw [Array.getD_eq_getD_getElem?] at ej
      cases e : ow[j]? with
      | none => rw [e] at ej; cases ej
      | some o =>
        rw [e] at ej
        cases o with
        | none => rfl
        | some _ => cases ej
    have pm2 : ((ow.setIfInBounds j (some k)).toList.filterMap id).Perm (List.range (k + 1)) := by
      rw [Array.toList_setIfInBounds]
      refine (fm_set _ _ _ gj).trans ((List.Perm.cons _ pm).trans ?_)
      rw [List.range_succ]
      exact (List.perm_append_singleton _ _).symm
    obtain ⟨ow', r1, r2, r3⟩ := lay_go hm hs (ow.setIfInBounds j (some k)) (k + 1) (fun x hx => sm x (List.mem_cons_of_mem _ hx)) (by rw [Array.size_setIfInBounds]; exact sz) pm2 (by omega)
    refine ⟨ow', ?_, r2, ?_⟩
    · rw [List.foldl_cons, show (k + (h :: hs).length) = k + 1 + hs.length by rw [List.length_cons]; omega, ← r1]
      congr 1
      show (do let j ← SetTable.layClean.free m ow (SetTable.turns m) (SetTable.bits h % (m + 1)) (SetTable.bits h); pure (ow.setIfInBounds j (some k), k + 1)) = _
      rw [ef]
      rfl
    · rw [show (k + (h :: hs).length) = k + 1 + hs.length by rw [List.length_cons]; omega]
      exact r3
theorem fm_pair {α : Type} (f : Nat → Option α) : ∀ l : List Nat, ((l.filterMap fun j => (f j).map (j, ·)).map (·.2)) = l.filterMap f
  | [] => rfl
  | j :: l => by
    cases e : f j with
    | none => rw [List.filterMap_cons_none (by simp [e]), List.filterMap_cons_none e]; exact fm_pair f l
    | some x => rw [List.filterMap_cons_some (b := (j, x)) (by simp [e]), List.filterMap_cons_some e, List.map_cons, fm_pair f l]
/-- a table is laid: its order is of all -/
theorem laid_some {m fg mv : Nat} {led pl : Bool} {hs : Array Int} (hm : m ∈ [7, 15, 31, 63, 127]) (sm : ∀ h ∈ hs.toList, small h) (l : hs.size ≤ m) :
    ∃ (t : SetTable) (o : Array Nat), SetTable.laid m fg mv led pl hs = some (t, o) ∧ o.toList.Perm (List.range hs.size) ∧ t.fits hs.size = true ∧ Ris t.place.toList ∧ t.led = led ∧ t.mask = m ∧ t.dummies = #[] := by
  have l' : 0 + hs.toList.length ≤ m + 1 := by rw [Array.length_toList]; omega
  obtain ⟨ow, e1, e2, e3⟩ := lay_go hm hs.toList (Array.replicate (m + 1) none) 0 sm (by simp) (by simp) l'
  have ec : SetTable.layClean m hs = some ow := by
    unfold SetTable.layClean
    rw [← Array.foldl_toList]
    exact congrArg (Option.map (·.1)) e1
  unfold SetTable.laid
  rw [ec]
  rw [Nat.zero_add, Array.length_toList] at e3
  have ep : ((List.range (m + 1)).filterMap fun j => ow.getD j none) = ow.toList.filterMap id := by
    have : ow.toList = (List.range (m + 1)).map fun j => ow.getD j none := by
      refine List.ext_getElem? fun i => ?_
      rw [List.getElem?_map, Array.getElem?_toList]
      by_cases c : i < m + 1
      · rw [List.getElem?_range c, Array.getElem?_eq_getElem (by omega)]
        show _ = some (ow.getD i none)
        rw [Array.getD_eq_getD_getElem?, Array.getElem?_eq_getElem (by omega)]
        rfl
      · rw [List.getElem?_eq_none (by rw [List.length_range]; omega), Array.getElem?_eq_none (by omega)]
        rfl
    rw [this, List.filterMap_map]
    rfl
  have pm : (((List.range (m + 1)).filterMap fun j => (ow.getD j none).map (j, ·)).map (·.2)).Perm (List.range hs.size) := by
    rw [fm_pair, ep]
    exact e3
  refine ⟨_, _, rfl, pm, ?_, (ris_live (fun j => ow.getD j none) (List.range (m + 1)) (by unfold Ris; exact List.pairwise_lt_range)).1, rfl, rfl, rfl⟩
  have le := pm.length_eq
  rw [List.length_map, List.length_range] at le
  unfold SetTable.fits SetTable.fill
  dsimp only
  rw [List.size_toArray, List.length_map, le]
  simp
  omega
/-! sets put together -/
end Sh
namespace Sh
open PySem PySem.Spec PyProof.Rows L2
theorem hash_small {k : Int} (h : 0 ≤ k ∧ k < 32) : hashInt k = k := by
  obtain ⟨n, rfl⟩ : ∃ n : Fin 32, k = (n.val : Int) := ⟨⟨k.toNat, by omega⟩, by show k = ((k.toNat : Nat) : Int); omega⟩
  exact (by decide +kernel : ∀ n : Fin 32, hashInt (n.val : Int) = (n.val : Int)) n
abbrev M5 : List Nat := [7, 15, 31, 63, 127]
theorem above_ok : ∀ w : Fin 97, SetTable.sizeAbove w.val - 1 ∈ M5 ∧ w.val ≤ SetTable.sizeAbove w.val - 1 ∧ SetTable.sizeAbove w.val ≤ 128 := by decide +kernel
structure Tb (w : World) (h : Heap) (a : Addr) (es : Array (Int × Value)) (ep : Nat) (t : SetTable) : Prop where
  ob : ∃ o, h.get? a = some o ∧ o.ExactSet ∧ o.data = .set es ep t
  good : ∀ e ∈ es.toList, GoodE e
  sm : ∀ e ∈ es.toList, 0 ≤ keyOf e ∧ keyOf e < 32
  nd : (es.toList.map keyOf).Nodup
  few : es.size ≤ 48
  fits : t.fits es.size = true
  ris : Ris t.place.toList
  led : w.params.followText "set-order" = true ∨ t.led = true
theorem Tb.sb {w : World} {h : Heap} {a : Addr} {es : Array (Int × Value)} {ep : Nat} {t : SetTable} (T : Tb w h a es ep t) : es.size < scanBound := by
  have := T.few
  unfold scanBound
  omega
theorem Tb.at {w : World} {h h' : Heap} {a : Addr} {es : Array (Int × Value)} {ep : Nat} {t : SetTable} (T : Tb w h a es ep t) (k : ∀ o, h.get? a = some o → h'.get? a = some o) : Tb w h' a es ep t := by
  obtain ⟨⟨o, ho, r⟩, a1, a2, a3, a4, a5, a6, a7⟩ := T
  exact ⟨⟨o, k o ho, r⟩, a1, a2, a3, a4, a5, a6, a7⟩
theorem Tb.setR {w : World} {h : Heap} {a : Addr} {es : Array (Int × Value)} {ep : Nat} {t : SetTable} (T : Tb w h a es ep t) {S : Int → Bool} (m : ∀ k, S k = true ↔ k ∈ es.toList.map keyOf) : SetR w h a S es.size := by
  have sb := T.sb
  obtain ⟨⟨o, ho, hx, hd⟩, a1, a2, a3, a4, a5, a6, a7⟩ := T
  exact ⟨o, es, ep, t, ho, hx, hd, a1, a3, m, sb, a5, rfl, a6, a7⟩
theorem tb_of {w : World} {h : Heap} {a : Addr} {S : Int → Bool} {n : Nat} (R : SetR w h a S n) (l : n ≤ 48) (sm : ∀ k, S k = true → 0 ≤ k ∧ k < 32) : ∃ es ep t, Tb w h a es ep t ∧ (∀ k, S k = true ↔ k ∈ es.toList.map keyOf) ∧ es.size = n := by
  obtain ⟨o, es, ep, t, ho, hx, hd, g, nd, hm, hb, hf, hn, hr, hl⟩ := R
  exact ⟨es, ep, t, ⟨⟨o, ho, hx, hd⟩, g, fun e he => sm _ ((hm _).mpr (List.mem_map_of_mem he)), nd, by omega, hf, hr, hl⟩, hm, hn⟩
theorem Tb.hash {w : World} {h : Heap} {a : Addr} {es : Array (Int × Value)} {ep : Nat} {t : SetTable} (T : Tb w h a es ep t) : ∀ x ∈ (es.map (·.1)).toList, small x := fun x hx => by
  rw [Array.toList_map] at hx
  obtain ⟨e, he, rfl⟩ := List.mem_map.mp hx
  obtain ⟨k, tk, e1, e2⟩ := T.good e he
  have s := T.sm e he
  have ek : keyOf e = k := by unfold keyOf; rw [e1]
  rw [ek] at s
  rw [e2, hash_small s]
  exact s
theorem order_perm {es : Array (Int × Value)} {o : Array Nat} (p : o.toList.Perm (List.range es.size)) : (o.filterMap (es[·]?)).toList.Perm es.toList := by
  rw [Array.toList_filterMap]
  refine (p.filterMap _).trans ?_
  have : (List.range es.size).filterMap (fun i => es[i]?) = es.toList := by
    rw [← Array.length_toList]
    have key : ∀ (l : List (Int × Value)) (f : Nat → Option (Int × Value)), (∀ i, i < l.length → f i = l[i]?) → (List.range l.length).filterMap f = l := by
      intro l
      induction l with
      | nil => intro f _; rfl
      | cons x l ih =>
        intro f hf
        rw [List.length_cons, List.range_succ_eq_map, List.filterMap_cons_some (hf 0 (by simp)), List.filterMap_map]
        congr 1
        exact ih _ fun i hi => by
          show f (i + 1) = _
          rw [hf (i + 1) (by simp; omega)]
          simp
    exact key es.toList _ fun i hi => by rw [Array.getElem?_toList]
  rw [this]
theorem Tb.perm {w : World} {h h' : Heap} {a b : Addr} {es es' : Array (Int × Value)} {ep ep' : Nat} {t t' : SetTable} (T : Tb w h a es ep t) (ob : ∃ o, h'.get? b = some o ∧ o.ExactSet ∧ o.data = .set es' ep' t') (p : es'.toList.Perm es.toList) (f : t'.fits es'.size = true) (r : Ris t'.place.toList) (l : w.params.followText "set-order" = true ∨ t'.led = true) : Tb w h' b es' ep' t' :=
  ⟨ob, fun e he => T.good e (p.mem_iff.mp he), fun e he => T.sm e (p.mem_iff.mp he), (p.map keyOf).nodup_iff.mpr T.nd, by rw [← Array.length_toList, p.length_eq, Array.length_toList]; exact T.few, f, r, l⟩
theorem relay_eq (a : Addr) (n : Nat) : setRelay a n = (do
    let (xs, _, tb) ← setState a
    if SetTable.sizeAbove n > sizeLine then unsupported "set:memory"
    let (xs, tb) ← (do
      let some (tb, od) := tb.relaid (xs.map (·.1)) n | unsupported "internal:set-table-without-room"
      let ys := od.filterMap (xs[·]?)
      if ys.size != xs.size then unsupported "internal:set-table-lost-an-element"
      pure (ys, tb) : Sem (Array (Int × Value) × SetTable))
    storeSet a xs tb) := by rfl
section
variable {P : Program} {w : World} {A : Around} {E : Value → Shared → Prop} {s : Shared} {a : Addr} {es : Array (Int × Value)} {ep : Nat} {t : SetTable}
theorem relay_tb (T : Tb w s.heap a es ep t) {n : Nat} (l1 : es.size ≤ n) (l2 : n ≤ 96) {Q : Unit → Shared → Prop}
    (q : ∀ h' es' t', Heap.SameBut a s.heap h' → Tb w h' a es' (ep + 1) t' → es'.toList.Perm es.toList → t'.mask ∈ M5 → n ≤ t'.mask → t'.fill = es.size → Q () { s with heap := h' }) : wpAny (model P w) A (setRelay a n) Q E s := by
  obtain ⟨o, ho, hx, hd⟩ := T.ob
  obtain ⟨m1, m2, m3⟩ : SetTable.sizeAbove n - 1 ∈ M5 ∧ n ≤ SetTable.sizeAbove n - 1 ∧ SetTable.sizeAbove n ≤ 128 := above_ok ⟨n, by omega⟩
  obtain ⟨t', od, e, pm, ft, rs, ld, mk, dm⟩ := laid_some (fg := t.finger) (mv := t.movedTo (SetTable.sizeAbove n - 1)) (led := t.led) (pl := t.plain) m1 T.hash (by rw [Array.size_map]; omega)
  rw [Array.size_map] at pm ft
  have p2 := order_perm pm
  have s2 : (od.filterMap (es[·]?)).size = es.size := by rw [← Array.length_toList, p2.length_eq, Array.length_toList]
  rw [relay_eq]
  refine wpAny_bind (wpAny_setState_of ho hd T.fits ?_)
  dsimp only
  refine wp_if_neg (by rw [sizeLine_eq]; omega) ?_
  try refine wpAny_bind (wpAny_pure ?_)
  have er : t.relaid (es.map (·.1)) n = some (t', od) := e
  rw [er]
  dsimp only
  refine wpAny_bind ?_
  refine wp_if_neg (by rw [s2]; simp) ?_
  try refine wpAny_bind (wpAny_pure ?_)
  refine wpAny_pure ?_
  dsimp only
  refine wpAny_storeSet_of ho hd ?_ (by rw [s2, sizeLine_eq]; have := T.few; omega)
  refine q _ _ _ (Heap.SameBut.update ..) (T.perm ⟨_, store_at ho hd, ⟨hx.1, hx.2.1, hx.2.2⟩, rfl⟩ p2 (by rw [s2]; exact ft) rs (T.led.imp id fun z => by rw [ld]; exact z)) p2 (by rw [mk]; exact m1) (by rw [mk]; exact m2) ?_
  unfold SetTable.fits SetTable.fill at ft
  unfold SetTable.fill
  rw [Bool.and_eq_true, beq_iff_eq] at ft
  rw [dm, ft.1]
  rfl
/-- room for so many more -/
theorem room_tb (T : Tb w s.heap a es ep t) {n : Nat} (l1 : es.size + n ≤ 48) (hm : t.mask ∈ M5) {Q : Unit → Shared → Prop}
    (q : ∀ h' es' ep' t', Heap.SameBut a s.heap h' → Tb w h' a es' ep' t' → es'.toList.Perm es.toList → t'.mask ∈ M5 → n ≤ t'.mask → (t.fill = 0 → t'.fill = 0) → Q () { s with heap := h' }) : wpAny (model P w) A (setRoomFor a n) Q E s := by
  obtain ⟨o, ho, hx, hd⟩ := T.ob
  unfold setRoomFor
  refine wpAny_bind (wpAny_setState_of ho hd T.fits ?_)
  dsimp only
  have ps : t.place.size = es.size ∧ t.fill ≤ t.mask := by
    have f := T.fits
    unfold SetTable.fits at f
    rw [Bool.and_eq_true, beq_iff_eq, decide_eq_true_eq] at f
    exact f
  unfold SetTable.roomFor
  by_cases c : (t.fill + n) * 5 ≥ t.mask * 3
  · rw [if_pos c]
    dsimp only
    rw [ps.1]
    refine relay_tb T (by omega) (by omega) fun h' es' t' sb T' p m l f => q h' es' _ t' sb T' p m (by omega) fun z => by rw [f]; unfold SetTable.fill at z; omega
  · rw [if_neg c]
    refine wpAny_pure (q s.heap es ep t (Heap.SameBut.refl _ _) T (List.Perm.refl _) hm ?_ id)
    have : t.mask ≤ 127 := by
      simp only [M5, List.mem_cons, List.not_mem_nil, or_false] at hm
      omega
    omega
theorem quiet_tb (l : List Addr) (h : ∀ b ∈ l, ∃ es ep t, Tb w s.heap b es ep t) {Q : Bool → Shared → Prop} (q : Q true s) : wpAny (model P w) A (setsQuiet l) Q E s := by
  unfold setsQuiet
  refine wpAny_bind ?_
  refine wpAny_forIn_list _ (fun rest r s' => r.1 = none ∧ s' = s ∧ ∀ b ∈ rest, ∃ es ep t, Tb w s.heap b es ep t) _ ?_ ?_ _ _ ⟨rfl, rfl, h⟩
  · rintro b rest ⟨r1, r2⟩ s' ⟨hr, rfl, hall⟩
    obtain ⟨es, ep, t, T⟩ := hall b List.mem_cons_self
    obtain ⟨o, ho, hx, hd⟩ := T.ob
    refine wpAny_bind (wpAny_setEntries_of ho hd T.fits ?_)
    refine wpAny_bind ?_
    rw [← Array.forIn_toList]
    refine wpAny_forIn_list _ (fun rest r s2 => r.1 = none ∧ s2 = s' ∧ ∀ e ∈ rest, GoodE e) _ ?_ ?_ _ _ ⟨rfl, rfl, T.good⟩
    · rintro e rest2 ⟨r3, r4⟩ s2 ⟨hr2, rfl, hg⟩
      obtain ⟨k, tk, e1, e2⟩ := hg e List.mem_cons_self
      obtain ⟨e3, e4⟩ := e
      simp only at e1
      subst e1
      exact wpAny_pure ⟨rfl, rfl, fun x hx => hg x (List.mem_cons_of_mem _ hx)⟩
    · rintro ⟨r3, r4⟩ s2 ⟨hr2, rfl, _⟩
      simp only at hr2
      subst hr2
      exact wpAny_pure ⟨rfl, rfl, fun x hx => hall x (List.mem_cons_of_mem _ hx)⟩
  · rintro ⟨r1, r2⟩ s' ⟨hr, rfl, _⟩
    simp only at hr
    subst hr
    exact wpAny_pure q
theorem plain_tb {o0 : Addr} {eo : Array (Int × Value)} {eq : Nat} {to : SetTable} (U : Tb w s.heap o0 eo eq to) {Q : Array (Int × Value) → Shared → Prop} (q : ∀ out, out.toList.Perm eo.toList → Q out s) (c : w.params.followText "set-order" = true ∨ to.plain = true ∨ eo.size ≤ 1) : wpAny (model P w) A (setWalk o0) Q E s := by
  obtain ⟨u, hu, ux, ud⟩ := U.ob
  unfold setWalk
  refine wpAny_bind (wpAny_setState_of hu ud U.fits ?_)
  dsimp only
  refine wpAny_bind (wpAny_byText ?_)
  by_cases bt : w.params.followText "set-order" = true
  · refine wp_if_pos bt ?_
    refine wpAny_bind (wpAny_askSetting (wpAny_pure (q _ (pick_perm _ _))))
  · refine wp_if_neg bt ?_
    have ld : to.led = true := U.led.resolve_left bt
    refine wp_if_neg (c := (!to.plain && decide (eo.size > 1)) = true) (fun z => ?_) ?_
    · rw [Bool.and_eq_true, decide_eq_true_eq] at z
      rcases c with c | c | c
      · exact bt c
      · rw [c] at z
        exact absurd z.1 (by decide)
      · omega
    · refine wpAny_bind ?_
      show wpAny _ _ (if (!to.led && decide (eo.size > 1)) = true then unsupported "set:maker-not-led" else pure ()) _ _ _
      refine wp_if_neg (fun z => ?_) (wpAny_pure (wpAny_pure (q _ (List.Perm.refl _))))
      rw [ld] at z
      exact absurd z (by simp)
/-- asked for a walk that nobody sees -/
theorem walk_tb {o0 : Addr} {eo : Array (Int × Value)} {eq : Nat} {to : SetTable} (bs : List Addr) (hbs : ∀ b ∈ bs, ∃ es ep t, Tb w s.heap b es ep t) (T : Tb w s.heap a es ep t) (U : Tb w s.heap o0 eo eq to) {Q : Array (Int × Value) → Shared → Prop}
    (q : ∀ h' out ep' t', Heap.SameBut a s.heap h' → Tb w h' a es ep' t' → t'.mask = t.mask → t'.fill = t.fill → out.toList.Perm eo.toList → Q out { s with heap := h' }) : wpAny (model P w) A (setWalkUnseen o0 bs (some a)) Q E s := by
  obtain ⟨o, ho, hx, hd⟩ := T.ob
  obtain ⟨u, hu, ux, ud⟩ := U.ob
  have plain := fun {Q} q c => plain_tb (Q := Q) (P := P) (A := A) (E := E) U q c
  have done : ∀ out, out.toList.Perm eo.toList → Q out s := fun out p => q s.heap out ep t (Heap.SameBut.refl _ _) T rfl rfl p
  unfold setWalkUnseen
  refine wpAny_bind (wpAny_setState_of hu ud U.fits ?_)
  dsimp only
  refine wpAny_bind (wpAny_byText ?_)
  by_cases c : (w.params.followText "set-order" || to.led && to.plain || decide (eo.size ≤ 1)) = true
  · refine wp_if_pos c ?_
    refine plain done ?_
    rw [Bool.or_eq_true, Bool.or_eq_true, Bool.and_eq_true, decide_eq_true_eq] at c
    rcases c with (c | c) | c
    · exact .inl c
    · exact .inr (.inl c.2)
    · exact .inr (.inr c)
  · refine wp_if_neg c ?_
    refine wpAny_bind (quiet_tb (o0 :: bs) (fun b hb => ?_) ?_)
    · rcases List.mem_cons.mp hb with rfl | hb
      · exact ⟨_, _, _, U⟩
      · exact hbs b hb
    refine wp_if_neg (by decide) ?_
    refine wpAny_bind (wpAny_rule ?_)
    refine wpAny_bind (wpAny_setState_of ho hd T.fits ?_)
    dsimp only
    by_cases c2 : (t.led && !to.led || t.plain && !to.plain) = true
    · refine wp_if_pos c2 ?_
      refine wpAny_bind (wpAny_storeSet_of ho hd ?_ (by rw [sizeLine_eq]; have := T.few; omega))
      refine wpAny_pure (q _ eo _ _ (Heap.SameBut.update ..) (T.perm ⟨_, store_at ho hd, ⟨hx.1, hx.2.1, hx.2.2⟩, rfl⟩ (List.Perm.refl _) T.fits T.ris ?_) rfl rfl (List.Perm.refl _))
      rcases T.led with z | z
      · exact .inl z
      · rcases U.led with y | y
        · exact .inl y
        · right
          show (t.led && to.led) = true
          rw [z, y]
          rfl
    · refine wp_if_neg c2 ?_
      exact wpAny_pure (done _ (List.Perm.refl _))
theorem walk_none {o0 : Addr} {eo : Array (Int × Value)} {eq : Nat} {to : SetTable} (bs : List Addr) (hbs : ∀ b ∈ bs, ∃ es ep t, Tb w s.heap b es ep t) (U : Tb w s.heap o0 eo eq to) {Q : Array (Int × Value) → Shared → Prop}
    (q : ∀ out, out.toList.Perm eo.toList → Q out s) : wpAny (model P w) A (setWalkUnseen o0 bs none) Q E s := by
  obtain ⟨u, hu, ux, ud⟩ := U.ob
  unfold setWalkUnseen
  refine wpAny_bind (wpAny_setState_of hu ud U.fits ?_)
  dsimp only
  refine wpAny_bind (wpAny_byText ?_)
  by_cases c : (w.params.followText "set-order" || to.led && to.plain || decide (eo.size ≤ 1)) = true
  · refine wp_if_pos c ?_
    rw [Bool.or_eq_true, Bool.or_eq_true, Bool.and_eq_true, decide_eq_true_eq] at c
    refine plain_tb U q ?_
    rcases c with (c | c) | c
    · exact .inl c
    · exact .inr (.inl c.2)
    · exact .inr (.inr c)
  · refine wp_if_neg c ?_
    refine wpAny_bind (quiet_tb (o0 :: bs) (fun b hb => ?_) ?_)
    · rcases List.mem_cons.mp hb with rfl | hb
      · exact ⟨_, _, _, U⟩
      · exact hbs b hb
    refine wp_if_neg (by decide) ?_
    refine wpAny_bind (wpAny_rule ?_)
    exact wpAny_pure (q _ (List.Perm.refl _))
/-- one by one -/
theorem merge_tb {o0 : Addr} {eo : Array (Int × Value)} {eq : Nat} {to : SetTable} (each : Sem Unit) (T : Tb w s.heap a es ep t) (U : Tb w s.heap o0 eo eq to) (ne : o0 ≠ a) (hm : t.mask ∈ M5) (l : es.size + eo.size ≤ 48)
    (he : ∀ (s' : Shared) (Q' : Unit → Shared → Prop), s'.heap.get? o0 = s.heap.get? o0 → Q' () s' → wpAny (model P w) A each Q' E s') {Q : Unit → Shared → Prop}
    (q : ∀ h' es' ep' t', Heap.SameBut a s.heap h' → Tb w h' a es' ep' t' → (∀ k, k ∈ es'.toList.map keyOf ↔ k ∈ es.toList.map keyOf ∨ k ∈ eo.toList.map keyOf) → es'.size ≤ es.size + eo.size → (t.fill = 0 → t'.mask ∈ M5) → Q () { s with heap := h' }) : wpAny (model P w) A (setMerge a o0 each) Q E s := by
  obtain ⟨o, ho, hx, hd⟩ := T.ob
  obtain ⟨u, hu, ux, ud⟩ := U.ob
  unfold setMerge
  refine wp_if_neg (by simpa using Ne.symm ne) ?_
  try refine wpAny_bind (wpAny_pure ?_)
  refine wpAny_bind (wpAny_setState_of hu ud U.fits ?_)
  dsimp only
  by_cases c0 : eo.isEmpty = true
  · refine wp_if_pos c0 ?_
    have e0 : eo.toList = [] := by
      have := Array.isEmpty_iff.mp c0
      rw [this]
    exact wpAny_pure (q s.heap es ep t (Heap.SameBut.refl _ _) T (fun k => by rw [e0]; simp) (by omega) fun _ => hm)
  refine wp_if_neg c0 ?_
  try refine wpAny_bind (wpAny_pure ?_)
  refine wpAny_bind (room_tb T l hm fun h1 es1 ep1 t1 sb1 T1 p1 m1 l1 f1 => ?_)
  obtain ⟨o1, ho1, hx1, hd1⟩ := T1.ob
  have U1 : Tb w h1 o0 eo eq to := U.at fun x hx => (sb1.2 _ ne).trans hx
  obtain ⟨u1, hu1, ux1, ud1⟩ := U1.ob
  refine wpAny_bind (wpAny_setState_of ho1 hd1 T1.fits ?_)
  dsimp only
  have hz : eo.size ≤ sizeLine := by rw [sizeLine_eq]; omega
  have ld1 : w.params.followText "set-order" = true ∨ (t1.led && to.led) = true := by
    rcases T1.led with z | z
    · exact .inl z
    · rcases U.led with y | y
      · exact .inl y
      · right
        rw [z, y]
        rfl
  unfold SetTable.road
  by_cases c1 : t1.fill = 0
  · have e1 : es1.toList = [] := by
      have f := T1.fits
      unfold SetTable.fits SetTable.fill at f
      unfold SetTable.fill at c1
      rw [Bool.and_eq_true, beq_iff_eq] at f
      exact List.eq_nil_of_length_eq_zero (by rw [Array.length_toList]; omega)
    have e0 : es.toList = [] := List.eq_nil_of_length_eq_zero (by rw [← p1.length_eq, e1]; rfl)
    have keys : ∀ {xs : Array (Int × Value)}, xs.toList.Perm eo.toList → ∀ k, k ∈ xs.toList.map keyOf ↔ k ∈ es.toList.map keyOf ∨ k ∈ eo.toList.map keyOf := fun p k => by
      rw [e0, (p.map keyOf).mem_iff]
      simp
    rw [if_neg (by rw [c1]; decide)]
    by_cases c2 : (t1.mask == to.mask && to.dummies.isEmpty) = true
    · rw [if_pos c2]
      dsimp only
      rw [Bool.and_eq_true, beq_iff_eq] at c2
      refine wpAny_storeSet_of ho1 hd1 ?_ hz
      refine q _ eo (ep1 + 1) { to with finger := t1.finger, led := t1.led && to.led, moves := t1.moves, plain := t1.plain && to.plain } (sb1.trans (Heap.SameBut.update ..)) (U1.perm ⟨_, store_at ho1 hd1, ⟨hx1.1, hx1.2.1, hx1.2.2⟩, rfl⟩ (List.Perm.refl _) U.fits U.ris ld1) (keys (List.Perm.refl _)) (by omega) fun _ => ?_
      show to.mask ∈ M5
      rw [← c2.1]
      exact m1
    · rw [if_neg c2]
      dsimp only
      obtain ⟨t', od, e, pm, ft, rs, ld, mk, dm⟩ := laid_some (fg := t1.finger) (mv := t1.moves) (led := t1.led && to.led) (pl := t1.plain && to.plain) m1 U.hash (by rw [Array.size_map]; exact l1)
      rw [Array.size_map] at pm ft
      have p2 := order_perm pm
      have s2 : (od.filterMap (eo[·]?)).size = eo.size := by rw [← Array.length_toList, p2.length_eq, Array.length_toList]
      refine wpAny_bind ?_
      rw [e]
      show wpAny _ _ (if ((od.filterMap (eo[·]?)).size != eo.size) = true then _ else _) _ _ _
      refine wp_if_neg (by rw [s2]; simp) ?_
      refine wpAny_pure ?_
      dsimp only
      refine wpAny_storeSet_of ho1 hd1 ?_ (by rw [s2]; exact hz)
      refine q _ _ (ep1 + 1) t' (sb1.trans (Heap.SameBut.update ..)) (U1.perm ⟨_, store_at ho1 hd1, ⟨hx1.1, hx1.2.1, hx1.2.2⟩, rfl⟩ p2 (by rw [s2]; exact ft) rs (by rw [ld]; exact ld1)) (keys p2) (by rw [s2]; omega) fun _ => ?_
      rw [mk]
      exact m1
  · rw [if_pos (by simpa using c1)]
    dsimp only
    refine wpAny_bind (walk_tb [a] (fun b hb => ⟨_, _, _, List.mem_singleton.mp hb ▸ T1⟩) T1 U1 fun h2 out ep2 t2 sb2 T2 m2 f2 p2 => ?_)
    have U2 : Tb w h2 o0 eo eq to := U1.at fun x hx => (sb2.2 _ ne).trans hx
    have g2 : ∀ e ∈ out.toList, GoodE e := fun e he => U.good e (p2.mem_iff.mp he)
    have hu2 : h2.get? o0 = s.heap.get? o0 := (sb2.2 _ ne).trans (sb1.2 _ ne)
    have n1 : es1.size = es.size := by rw [← Array.length_toList, p1.length_eq, Array.length_toList]
    have n2 : out.toList.length = eo.size := by rw [p2.length_eq, Array.length_toList]
    have R2 := T2.setR (S := fun k => decide (k ∈ es1.toList.map keyOf)) (fun k => decide_eq_true_iff)
    refine wpAny_bind ?_
    rw [← Array.forIn_toList]
    refine wpAny_forIn_list _ (fun rest _ s' => ∃ (h' : Heap) (S' : Int → Bool) (n : Nat), s' = { s with heap := h' } ∧ Heap.SameBut a h2 h' ∧ SetR w h' a S' n ∧ n + rest.length ≤ es.size + eo.size ∧ (∀ e ∈ rest, GoodE e) ∧ ∀ k, (S' k = true ∨ k ∈ rest.map keyOf) ↔ (k ∈ es.toList.map keyOf ∨ k ∈ eo.toList.map keyOf)) _ ?_ ?_ _ _ ⟨h2, _, _, rfl, Heap.SameBut.refl _ _, R2, by omega, g2, fun k => by rw [decide_eq_true_iff, (p1.map keyOf).mem_iff, (p2.map keyOf).mem_iff]⟩
    · rintro e rest b s' ⟨h', S', n, rfl, sb', R', nl, gr, mk⟩
      obtain ⟨k, tk, e1, e2⟩ := gr e List.mem_cons_self
      rw [List.length_cons] at nl
      obtain ⟨eh, ev⟩ := e
      simp only at e1 e2
      subst e1 e2
      refine wpAny_bind (wpAny_holding (setR_add_hashed (P := P) R' (by unfold scanBound; omega) fun h'' sb'' R'' => ?_))
      have hu3 : h''.get? o0 = s.heap.get? o0 := (sb''.2 _ ne).trans ((sb'.2 _ ne).trans hu2)
      refine wpAny_bind (he _ _ hu3 ?_)
      refine wpAny_bind (wpAny_setState_of (hu3.trans hu) ud U.fits ?_)
      dsimp only
      refine wp_if_neg (by simp) (wpAny_pure ?_)
      refine ⟨h'', _, _, rfl, sb'.trans sb'', R'', ?_, fun x hx => gr x (List.mem_cons_of_mem _ hx), fun j => ?_⟩
      · split <;> omega
      · rw [← mk j, List.map_cons, List.mem_cons, Bool.or_eq_true, decide_eq_true_eq]
        show _ ↔ (_ ∨ (j = k ∨ _))
        rw [or_assoc]
    · rintro b s' ⟨h', S', n, rfl, sb', R', nl, _, mk⟩
      have mk' : ∀ k, S' k = true ↔ (k ∈ es.toList.map keyOf ∨ k ∈ eo.toList.map keyOf) := fun k => by rw [← mk k]; simp
      obtain ⟨es3, ep3, t3, T3, k3, z3⟩ := tb_of R' (by omega) fun k hk => by
        rcases (mk' k).mp hk with z | z
        · obtain ⟨e, he1, rfl⟩ := List.mem_map.mp z
          exact T.sm e he1
        · obtain ⟨e, he1, rfl⟩ := List.mem_map.mp z
          exact U.sm e he1
      exact wpAny_pure (q h' es3 ep3 t3 (sb1.trans (sb2.trans sb')) T3 (fun k => (k3 k).symm.trans (mk' k)) (by omega) fun z => absurd (f1 z) c1)
end
end Sh
/-! |, - and ^ of two sets of small ints -/
namespace Sh
open PySem PySem.Spec PyProof.Rows L2
theorem ent_or : entryFor table "set.__or__" = some Builtin.«frozenset.__or__» := entryFor_alias (id' := "frozenset.__or__") (by kernel_rfl) rfl (by decide +kernel) (by kernel_rfl)
theorem ent_sub : entryFor table "set.__sub__" = some Builtin.«frozenset.__sub__» := entryFor_alias (id' := "frozenset.__sub__") (by kernel_rfl) rfl (by decide +kernel) (by kernel_rfl)
theorem ent_xor : entryFor table "set.__xor__" = some Builtin.«frozenset.__xor__» := entryFor_alias (id' := "frozenset.__xor__") (by kernel_rfl) rfl (by decide +kernel) (by kernel_rfl)
section
variable {P : Program} {w : World} {A : Around} {E : Value → Shared → Prop} {s : Shared} {a : Addr} {es : Array (Int × Value)} {ep : Nat} {t : SetTable}
theorem Tb.ty (T : Tb w s.heap a es ep t) : s.TypeIs (.ref a) "set" := let ⟨o, ho, hx, _⟩ := T.ob; ⟨o, ho, hx.1⟩
theorem any_tb (T : Tb w s.heap a es ep t) {Q : Bool → Shared → Prop} (q : Q true s) : wpAny (model P w) A (Builtin.Frozenset.isAnySet (.ref a)) Q E s := by
  unfold Builtin.Frozenset.isAnySet
  refine wpAny_bind (wpAny_isInstance (b := true) T.ty sub_set_self ?_)
  exact wpAny_pure q
theorem base_tb (T : Tb w s.heap a es ep t) {Q : Value → Shared → Prop} (q : Q (.type "set") s) : wpAny (model P w) A (Builtin.Frozenset.baseOf a) Q E s := by
  unfold Builtin.Frozenset.baseOf
  refine wpAny_bind (wpAny_isInstance (b := true) T.ty sub_set_self ?_)
  exact wpAny_pure q
/-- a new one, bare -/
theorem new_tb {Q : Value → Shared → Prop}
    (q : ∀ h', h'.objs.size = s.heap.objs.size + 1 → (∀ b o, s.heap.get? b = some o → h'.get? b = some o) → Tb w h' s.heap.objs.size #[] 0 (.fresh 0 0 (!w.params.followText "set-order")) → Q (.ref s.heap.objs.size) { s with heap := h' }) :
    wpAny (model P w) A (newSet (.type "set")) Q E s := by
  unfold newSet setsByText
  refine wpAny_bind (wpAny_bind (wpAny_askSetting (wpAny_pure ?_)))
  dsimp only
  simp only [newObj]
  refine wpAny_bind (wpAny_alloc (wpAny_pure ?_))
  refine q _ (size_push' _ _) (fun b o e => Heap.get?_push_of_some _ e) ⟨⟨_, Heap.get?_push_size _ rfl, ⟨rfl, rfl, rfl⟩, rfl⟩, fun e he => by simp at he, fun e he => by simp at he, by simp, by decide, by rfl, List.Pairwise.nil, ?_⟩
  show _ ∨ (!w.params.followText "set-order") = true
  cases w.params.followText "set-order"
  · exact .inr rfl
  · exact .inl rfl
/-- a copy -/
theorem copy_tb (T : Tb w s.heap a es ep t) {Q : Value → Shared → Prop}
    (q : ∀ h' es' ep' t', h'.objs.size = s.heap.objs.size + 1 → (∀ b o, s.heap.get? b = some o → h'.get? b = some o) → Tb w h' s.heap.objs.size es' ep' t' → (∀ k, k ∈ es'.toList.map keyOf ↔ k ∈ es.toList.map keyOf) → es'.size ≤ es.size → t'.mask ∈ M5 → Q (.ref s.heap.objs.size) { s with heap := h' }) :
    wpAny (model P w) A (Builtin.Frozenset.copyOf a) Q E s := by
  unfold Builtin.Frozenset.copyOf
  refine wpAny_bind (base_tb T ?_)
  refine wpAny_bind (new_tb fun h1 z1 k1 T1 => ?_)
  obtain ⟨o, ho, _⟩ := T.ob
  have ne : a ≠ s.heap.objs.size := Nat.ne_of_lt (Heap.lt_size ho)
  refine wpAny_bind (wpAny_pure ?_)
  refine wpAny_bind (merge_tb (pure ()) T1 (T.at (k1 a)) ne (by simp [SetTable.fresh]) (by have := T.few; simpa using this) (fun s' Q' _ q => wpAny_pure q) fun h2 es2 ep2 t2 sb2 T2 m2 l2 f2 => ?_)
  refine wpAny_pure (q h2 es2 ep2 t2 (by rw [sb2.1]; exact z1) (fun b o e => (sb2.2 b (Nat.ne_of_lt (Heap.lt_size e))).trans (k1 b o e)) T2 (fun k => by rw [m2]; simp) (by simpa using l2) (f2 rfl))
/-- what one more set is merged into -/
theorem upd_tb {id : String} {o0 : Addr} {eo : Array (Int × Value)} {eq : Nat} {to : SetTable} (T : Tb w s.heap a es ep t) (U : Tb w s.heap o0 eo eq to) (ne : o0 ≠ a) (hm : t.mask ∈ M5) (l : es.size + eo.size ≤ 48) {Q : Unit → Shared → Prop}
    (q : ∀ h' es' ep' t', Heap.SameBut a s.heap h' → Tb w h' a es' ep' t' → (∀ k, k ∈ es'.toList.map keyOf ↔ k ∈ es.toList.map keyOf ∨ k ∈ eo.toList.map keyOf) → es'.size ≤ es.size + eo.size → (t.fill = 0 → t'.mask ∈ M5) → Q () { s with heap := h' }) :
    wpAny (model P w) A (Builtin.Frozenset.updateFrom id a (.ref o0)) Q E s := by
  unfold Builtin.Frozenset.updateFrom
  refine wpAny_bind (any_tb U ?_)
  refine wp_if_pos rfl ?_
  refine wpAny_bind (wpAny_pure ?_)
  unfold Builtin.Frozenset.merge
  obtain ⟨u, hu, ux, ud⟩ := U.ob
  refine wpAny_bind (wpAny_setEpoch_of hu ud U.fits ?_)
  refine merge_tb _ T U ne hm l (fun s' Q' e q' => ?_) q
  unfold Builtin.Frozenset.unchanged
  refine wpAny_bind (wpAny_setEpoch_of (e.trans hu) ud U.fits ?_)
  exact wp_if_neg (by simp) (wpAny_pure q')
theorem add_tb {n : Nat} {S : Int → Bool} {k : Int} {tk : Tok} (R : SetR w s.heap a S n) (room : n + 1 < scanBound) {Q : Bool → Shared → Prop}
    (hQ : ∀ h', Heap.SameBut a s.heap h' → SetR w h' a (fun j => S j || decide (j = k)) (if S k = true then n else n + 1) → Q (!S k) { s with heap := h' }) : wpAny (model P w) A (setAddHashed a (.int k tk) (hashInt k)) Q E s := setR_add_hashed (P := P) R room hQ
theorem find_idx (T : Tb w s.heap a es ep t) (k : Int) (tk : Tok) {Q : Option Nat → Shared → Prop} (q : Q (es.toList.findIdx? fun e => (intKind P w).is k e.2) s) : wpAny (model P w) A (setFind a (.int k tk) (hashInt k)) Q E s := by
  obtain ⟨o, ho, hx, hd⟩ := T.ob
  have hkey : (intKind P w).is k (.int k tk) = true := intKind_is P w k tk
  have hel : ElemsOf (intKind P w) es.toList := good_elems T.good
  unfold setFind setFindIn
  refine wpAny_bind (wpAny_setState_of ho hd T.fits ?_)
  dsimp only
  rw [byScan_of (show (Value.int k tk).scannable = true from rfl) T.sb hel]
  simp only [↓reduceIte]
  refine wpAny_bind (wpAny_rule ?_)
  refine wpAny_bind (wpAny_setScan_of (knd := intKind P w) hkey ho hd T.fits hel ?_)
  cases hr : List.findIdx? (fun e => (intKind P w).is k e.2) es.toList with
  | none =>
    rw [hr] at q
    exact wpAny_pure q
  | some j =>
    rw [hr] at q
    dsimp only
    exact wpAny_pure (by simpa using q)
theorem is_iff {e : Int × Value} (g : GoodE e) (k : Int) : (intKind P w).is k e.2 = true ↔ keyOf e = k := good_is g k
theorem erase_list {α : Type} (xs : Array α) (p : Nat) : (SetTable.eraseAt xs p).toList = xs.toList.eraseIdx p := by
  unfold SetTable.eraseAt
  rw [Array.toList_append, List.eraseIdx_eq_take_drop_succ]
  rw [Array.toList_extract, Array.toList_extract, List.extract_eq_take_drop, List.extract_eq_take_drop, List.drop_zero, Nat.sub_zero, List.take_of_length_le (l := xs.toList.drop (p + 1)) (by rw [List.length_drop, Array.length_toList]; exact Nat.le_refl _)]
theorem insert_size {α : Type} (xs : Array α) (p : Nat) (x : α) : (SetTable.insertAt xs p x).size = xs.size + 1 := by
  unfold SetTable.insertAt
  simp
  omega
/-- one taken out -/
theorem out_tb (T : Tb w s.heap a es ep t) (k : Int) (tk : Tok) {Q : Bool → Shared → Prop}
    (q : ∀ h' es' ep' t', Heap.SameBut a s.heap h' → Tb w h' a es' ep' t' → (∀ j, j ∈ es'.toList.map keyOf ↔ j ∈ es.toList.map keyOf ∧ j ≠ k) → es'.size ≤ es.size → Q (decide (k ∈ es.toList.map keyOf)) { s with heap := h' }) : wpAny (model P w) A (setDiscardHashed a (.int k tk) (hashInt k)) Q E s := by
  obtain ⟨o, ho, hx, hd⟩ := T.ob
  unfold setDiscardHashed
  refine wpAny_bind (find_idx T k tk ?_)
  cases hr : List.findIdx? (fun e => (intKind P w).is k e.2) es.toList with
  | none =>
    have no : k ∉ es.toList.map keyOf := fun z => by
      obtain ⟨e, he, rfl⟩ := List.mem_map.mp z
      have c := List.findIdx?_eq_none_iff.mp hr e he
      rw [(is_iff (T.good e he) _).mpr rfl] at c
      cases c
    have := q s.heap es ep t (Heap.SameBut.refl _ _) T (fun j => ⟨fun z => ⟨z, fun y => no (y ▸ z)⟩, fun z => z.1⟩) (Nat.le_refl _)
    rw [decide_eq_false no] at this
    exact wpAny_pure this
  | some i =>
    obtain ⟨hi, pi, _⟩ := List.findIdx?_eq_some_iff_getElem.mp hr
    have kk := (is_iff (T.good _ (List.getElem_mem hi)) k).mp pi
    have yes : k ∈ es.toList.map keyOf := List.mem_map.mpr ⟨_, List.getElem_mem hi, kk⟩
    dsimp only
    refine wpAny_bind (wpAny_setState_of ho hd T.fits ?_)
    dsimp only
    have le := erase_list es i
    have sz : (SetTable.eraseAt es i).size + 1 = es.size := by
      have := congrArg List.length le
      rw [Array.length_toList, List.length_eraseIdx, if_pos hi] at this
      rw [Array.length_toList] at this hi
      omega
    refine wpAny_bind (wpAny_storeSet_of ho hd ?_ (by rw [sizeLine_eq]; have := T.few; omega))
    refine wpAny_bind (wpAny_point ?_)
    have f := T.fits
    unfold SetTable.fits SetTable.fill at f
    rw [Bool.and_eq_true, beq_iff_eq, decide_eq_true_eq] at f
    have hp : i < t.place.size := by rw [Array.length_toList] at hi; omega
    have dp : t.drop i = { t with place := SetTable.eraseAt t.place i, dummies := SetTable.insertAt t.dummies (SetTable.below t.dummies t.place[i]) t.place[i] } := by
      unfold SetTable.drop
      rw [Array.getElem?_eq_getElem hp]
    have sp : (SetTable.eraseAt t.place i).size + 1 = t.place.size := by
      have := congrArg List.length (erase_list t.place i)
      rw [Array.length_toList, List.length_eraseIdx, if_pos (by rw [Array.length_toList]; exact hp), Array.length_toList] at this
      omega
    have mem : ∀ j, j ∈ (SetTable.eraseAt es i).toList.map keyOf ↔ j ∈ es.toList.map keyOf ∧ j ≠ k := fun j => by
      rw [le]
      have p := (erase_perm es.toList i _ (List.getElem?_eq_getElem hi)).map keyOf
      have nd := p.nodup_iff.mpr T.nd
      rw [List.map_cons, kk] at p nd
      rw [← p.mem_iff, List.mem_cons]
      have nm := (List.nodup_cons.mp nd).1
      exact ⟨fun z => ⟨.inr z, fun y => nm (y ▸ z)⟩, fun z => z.1.resolve_left z.2⟩
    have fin := q _ (SetTable.eraseAt es i) (ep + 1) (t.drop i) (Heap.SameBut.update _ a (Obj.putSet (SetTable.eraseAt es i) (t.drop i))) ⟨⟨_, store_at ho hd, ⟨hx.1, hx.2.1, hx.2.2⟩, rfl⟩, fun e he => T.good e (List.mem_of_mem_eraseIdx (le ▸ he)), fun e he => T.sm e (List.mem_of_mem_eraseIdx (le ▸ he)), by rw [le]; exact T.nd.sublist ((List.eraseIdx_sublist _ _).map _), by have := T.few; omega, ?_, ?_, ?_⟩ mem (by omega)
    · rw [decide_eq_true yes] at fin
      exact wpAny_pure fin
    · rw [dp]
      unfold SetTable.fits SetTable.fill
      dsimp only
      rw [insert_size, Bool.and_eq_true, beq_iff_eq, decide_eq_true_eq]
      omega
    · rw [dp]
      show Ris (SetTable.eraseAt t.place i).toList
      rw [erase_list]
      exact T.ris.sublist (List.eraseIdx_sublist _ _)
    · rw [dp]
      exact T.led
end
end Sh
namespace Sh
open PySem PySem.Spec PyProof.Rows L2
section
variable {P : Program} {w : World} {A : Around} {E : Value → Shared → Prop} {s : Shared} {a : Addr} {es : Array (Int × Value)} {ep : Nat} {t : SetTable}
/-- a new set: what stood stands -/
def NewS (w : World) (s : Shared) (S : Int → Bool) (n : Nat) (h' : Heap) : Prop := (∀ b o, s.heap.get? b = some o → h'.get? b = some o) ∧ SetR w h' s.heap.objs.size S n
theorem union_tb {b : Addr} {eb : Array (Int × Value)} {eq : Nat} {tb : SetTable} (T : Tb w s.heap a es ep t) (U : Tb w s.heap b eb eq tb) (ne : a ≠ b) (l : es.size + eb.size ≤ 48) {Q : Value → Shared → Prop}
    (q : ∀ h' n, n ≤ 48 → NewS w s (fun k => decide (k ∈ es.toList.map keyOf) || decide (k ∈ eb.toList.map keyOf)) n h' → Q (.ref s.heap.objs.size) { s with heap := h' }) :
    wpAny (model P w) A (call (.builtin "set.__or__") [.ref a, .ref b]) Q E s := by
  refine wpAny_call_entry F.slot_set_or T.ty ent_or ?_ (F.args_set_or_2 _ _)
  unfold Builtin.«frozenset.__or__»
  refine wpAny_bind (wpAny_pure ?_)
  dsimp only
  refine wpAny_bind ?_
  refine wpAny_bind (any_tb T ?_)
  refine any_tb U ?_
  refine wp_if_neg (by decide) ?_
  refine wpAny_bind (wpAny_pure ?_)
  refine wpAny_bind ?_
  refine wpAny_bind (copy_tb T fun h1 es1 ep1 t1 z1 k1 T1 m1 l1 mm1 => ?_)
  obtain ⟨o, ho, _⟩ := U.ob
  have nb : b ≠ s.heap.objs.size := Nat.ne_of_lt (Heap.lt_size ho)
  refine wp_if_pos (by simpa using Ne.symm ne) ?_
  refine wpAny_bind (wpAny_pure ?_)
  refine wpAny_bind (wpAny_holding ?_)
  refine upd_tb T1 (U.at (k1 b)) nb mm1 (by omega) fun h2 es2 ep2 t2 sb2 T2 m2 l2 _ => ?_
  refine wpAny_pure (wpAny_pure ⟨_, rfl, q h2 es2.size (by omega) ⟨fun c o e => (sb2.2 c (Nat.ne_of_lt (Heap.lt_size e))).trans (k1 c o e), T2.setR fun k => ?_⟩⟩)
  rw [Bool.or_eq_true, decide_eq_true_eq, decide_eq_true_eq, m2, m1]
/-- flipped, one by one -/
theorem xor_tb {b : Addr} {eb : Array (Int × Value)} {eq : Nat} {tb : SetTable} (T : Tb w s.heap a es ep t) (U : Tb w s.heap b eb eq tb) (ne : a ≠ b) (l : es.size + eb.size ≤ 48) {Q : Value → Shared → Prop}
    (q : ∀ h' n, n ≤ 48 → NewS w s (fun k => decide (k ∈ es.toList.map keyOf) != decide (k ∈ eb.toList.map keyOf)) n h' → Q (.ref s.heap.objs.size) { s with heap := h' }) :
    wpAny (model P w) A (call (.builtin "set.__xor__") [.ref a, .ref b]) Q E s := by
  refine wpAny_call_entry F.slot_set_xor T.ty ent_xor ?_ (F.args_set_xor_2 _ _)
  unfold Builtin.«frozenset.__xor__»
  refine wpAny_bind (wpAny_pure ?_)
  dsimp only
  refine wpAny_bind ?_
  refine wpAny_bind (any_tb T ?_)
  refine any_tb U ?_
  refine wp_if_neg (by decide) ?_
  refine wpAny_bind (wpAny_pure ?_)
  refine wpAny_bind ?_
  refine wpAny_bind (base_tb T ?_)
  refine wpAny_bind ?_
  unfold Builtin.Frozenset.newFrom
  obtain ⟨o, ho, _⟩ := U.ob
  have nb : b ≠ s.heap.objs.size := Nat.ne_of_lt (Heap.lt_size ho)
  obtain ⟨oa, hoa, _⟩ := T.ob
  have na : a ≠ s.heap.objs.size := Nat.ne_of_lt (Heap.lt_size hoa)
  refine wpAny_bind (new_tb fun h0 z0 k0 T0 => ?_)
  refine wpAny_bind (wpAny_pure ?_)
  refine wpAny_bind (wpAny_holding ?_)
  refine upd_tb T0 (U.at (k0 b)) nb (by simp [SetTable.fresh]) (by have := U.few; simpa using this) fun h1 es1 ep1 t1 sb1 T1 m1 l1 _ => ?_
  have l1 : es1.size ≤ eb.size := by simpa using l1
  have k1 : ∀ c o, s.heap.get? c = some o → h1.get? c = some o := fun c o e => (sb1.2 c (Nat.ne_of_lt (Heap.lt_size e))).trans (k0 c o e)
  refine wpAny_pure ?_
  refine wpAny_bind (wpAny_pure ?_)
  refine wpAny_bind (wpAny_holding ?_)
  unfold Builtin.Frozenset.symmetricDifferenceUpdate
  refine wp_if_neg (by simpa using na) ?_
  have T' := T.at (k1 a)
  refine wpAny_bind (wpAny_typeOf T'.ty ?_)
  refine wp_if_neg (by decide) ?_
  refine wpAny_bind (any_tb T' ?_)
  refine wp_if_pos rfl ?_
  refine wpAny_bind (wpAny_pure ?_)
  show wpAny _ _ (Builtin.Frozenset.addrOf (.ref a) >>= _) _ _ _
  refine wpAny_bind (wpAny_pure ?_)
  obtain ⟨oa', hoa', xa', da'⟩ := T'.ob
  refine wpAny_bind (wpAny_setEpoch_of hoa' da' T'.fits ?_)
  refine wpAny_holding ?_
  refine wpAny_bind (walk_tb [s.heap.objs.size] (fun c hc => ⟨_, _, _, List.mem_singleton.mp hc ▸ T1⟩) T1 T' fun h2 out ep2 t2 sb2 T2 _ _ p2 => ?_)
  have nd2 : (out.toList.map keyOf).Nodup := (p2.map keyOf).nodup_iff.mpr T.nd
  refine wpAny_bind ?_
  rw [← Array.forIn_toList]
  refine wpAny_forIn_list _ (fun rest _ s' => ∃ (h' : Heap) (es' : Array (Int × Value)) (ep' : Nat) (t' : SetTable), s' = { s with heap := h' } ∧ Heap.SameBut s.heap.objs.size h1 h' ∧ Tb w h' s.heap.objs.size es' ep' t' ∧ es'.size + rest.length ≤ 48 ∧ (∀ e ∈ rest, e ∈ es.toList) ∧ (rest.map keyOf).Nodup ∧
      ∀ j, j ∈ es'.toList.map keyOf ↔ (if j ∈ es.toList.map keyOf ∧ j ∉ rest.map keyOf then j ∉ eb.toList.map keyOf else j ∈ eb.toList.map keyOf)) _ ?_ ?_ _ _ ⟨h2, es1, ep2, t2, rfl, sb2, T2, ?_, fun e he => p2.mem_iff.mp he, nd2, fun j => ?_⟩
  · rintro e rest b' s' ⟨h', es', ep', t', rfl, sb', T3, nl, gr, nr, mk⟩
    have ge := gr e List.mem_cons_self
    obtain ⟨k, tk, e1, e2⟩ := T.good e ge
    have ks := T.sm e ge
    have ek : keyOf e = k := by unfold keyOf; rw [e1]
    have kin : k ∈ es.toList.map keyOf := ek ▸ List.mem_map_of_mem ge
    rw [List.length_cons] at nl
    rw [List.map_cons, List.nodup_cons, ek] at nr
    rw [ek] at ks
    rw [List.map_cons, ek] at mk
    obtain ⟨eh, ev⟩ := e
    simp only at e1 e2
    subst e1 e2
    have kb : k ∈ es'.toList.map keyOf ↔ k ∈ eb.toList.map keyOf := by
      rw [mk k, if_neg (fun z => z.2 List.mem_cons_self)]
    have next : ∀ h'', Heap.SameBut s.heap.objs.size h1 h'' → ∀ (es'' : Array (Int × Value)) ep'' t'', Tb w h'' s.heap.objs.size es'' ep'' t'' → es''.size ≤ es'.size + 1 → (∀ j, j ∈ es''.toList.map keyOf ↔ (j = k ∧ k ∉ eb.toList.map keyOf) ∨ (j ≠ k ∧ j ∈ es'.toList.map keyOf)) →
        ∃ (h' : Heap) (es' : Array (Int × Value)) (ep' : Nat) (t' : SetTable), ({ s with heap := h'' } : Shared) = { s with heap := h' } ∧ Heap.SameBut s.heap.objs.size h1 h' ∧ Tb w h' s.heap.objs.size es' ep' t' ∧ es'.size + rest.length ≤ 48 ∧ (∀ e ∈ rest, e ∈ es.toList) ∧ (rest.map keyOf).Nodup ∧
      ∀ j, j ∈ es'.toList.map keyOf ↔ (if j ∈ es.toList.map keyOf ∧ j ∉ rest.map keyOf then j ∉ eb.toList.map keyOf else j ∈ eb.toList.map keyOf) := fun h'' sb'' es'' ep'' t'' T4 l4 m4 => by
      refine ⟨h'', es'', ep'', t'', rfl, sb'', T4, by omega, fun x hx => gr x (List.mem_cons_of_mem _ hx), nr.2, fun j => ?_⟩
      rw [m4 j]
      by_cases c : j = k
      · subst c
        rw [if_pos ⟨kin, nr.1⟩]
        exact ⟨fun z => z.elim (fun y => y.2) fun y => absurd rfl y.1, fun z => .inl ⟨rfl, z⟩⟩
      · rw [mk j]
        have : (j ∈ es.toList.map keyOf ∧ j ∉ k :: rest.map keyOf) ↔ (j ∈ es.toList.map keyOf ∧ j ∉ rest.map keyOf) := by
          rw [List.mem_cons, not_or]
          exact ⟨fun z => ⟨z.1, z.2.2⟩, fun z => ⟨z.1, c, z.2⟩⟩
        simp only [this]
        exact ⟨fun z => z.elim (fun y => absurd y.1 c) fun y => y.2, fun z => .inr ⟨c, z⟩⟩
    have tail : ∀ h'', Heap.SameBut s.heap.objs.size h1 h'' → ∀ {Q' : ForInStep PUnit → Shared → Prop}, Q' (.yield ⟨⟩) { s with heap := h'' } → wpAny (model P w) A.in1 (do Builtin.Frozenset.unchanged (toString "frozenset." ++ toString "__xor__") a ep; pure (ForInStep.yield PUnit.unit)) Q' E { s with heap := h'' } := fun h'' sb'' Q' q' => by
      unfold Builtin.Frozenset.unchanged
      refine wpAny_bind (wpAny_bind (wpAny_setEpoch_of ((sb''.2 a na).trans hoa') da' T'.fits ?_))
      exact wp_if_neg (by simp) (wpAny_pure (wpAny_pure q'))
    refine wpAny_bind (wpAny_holding ?_)
    refine wpAny_bind (out_tb T3 k tk fun h3 es3 ep3 t3 sb3 T4 m4 l4 => ?_)
    by_cases c : k ∈ es'.toList.map keyOf
    · rw [decide_eq_true c]
      refine wp_if_neg (by decide) (wpAny_pure ?_)
      refine tail h3 (sb'.trans sb3) ?_
      refine next h3 (sb'.trans sb3) es3 ep3 t3 T4 (by omega) fun j => ?_
      rw [m4 j]
      exact ⟨fun z => .inr ⟨z.2, z.1⟩, fun z => z.elim (fun y => absurd (kb.mp c) y.2) fun y => ⟨y.2, y.1⟩⟩
    · rw [decide_eq_false c]
      refine wp_if_pos rfl ?_
      have R4 := T4.setR (S := fun j => decide (j ∈ es3.toList.map keyOf)) (fun j => decide_eq_true_iff)
      refine wpAny_bind (add_tb (k := k) (tk := tk) R4 (by unfold scanBound; omega) fun h4 sb4 R5 => wpAny_pure ?_)
      have sb5 := (sb'.trans sb3).trans sb4
      refine tail h4 sb5 ?_
      have nk : ¬ decide (k ∈ es3.toList.map keyOf) = true := by
        rw [decide_eq_true_eq, m4 k]
        exact fun z => z.2 rfl
      rw [if_neg nk] at R5
      obtain ⟨es5, ep5, t5, T5, k5, z5⟩ := tb_of R5 (by omega) fun j hj => by
        rw [Bool.or_eq_true, decide_eq_true_eq, decide_eq_true_eq] at hj
        rcases hj with hj | rfl
        · obtain ⟨x, hx, rfl⟩ := List.mem_map.mp hj
          exact T4.sm x hx
        · exact ks
      refine next h4 sb5 es5 ep5 t5 T5 (by omega) fun j => ?_
      rw [← k5 j, Bool.or_eq_true, decide_eq_true_eq, decide_eq_true_eq, m4 j]
      constructor
      · rintro (z | rfl)
        · exact .inr ⟨z.2, z.1⟩
        · exact .inl ⟨rfl, fun z => c (kb.mpr z)⟩
      · rintro (⟨rfl, _⟩ | z)
        · exact .inr rfl
        · exact .inl ⟨z.2, z.1⟩
  · rintro b' s' ⟨h', es', ep', t', rfl, sb', T3, nl, _, _, mk⟩
    refine wpAny_pure (wpAny_pure (wpAny_pure ⟨_, rfl, q h' es'.size (by omega) ⟨fun c o e => (sb'.2 c (Nat.ne_of_lt (Heap.lt_size e))).trans (k1 c o e), T3.setR fun k => ?_⟩⟩))
    rw [mk k]
    by_cases c1 : k ∈ es.toList.map keyOf <;> by_cases c2 : k ∈ eb.toList.map keyOf <;> simp [c1, c2]
  · rw [p2.length_eq, Array.length_toList]
    omega
  · rw [m1 j, if_neg (fun z => z.2 ((p2.map keyOf).mem_iff.mpr z.1))]
    simp
end
end Sh
namespace Sh
open PySem PySem.Spec PyProof.Rows L2
section
variable {P : Program} {w : World} {A : Around} {E : Value → Shared → Prop} {s : Shared} {a : Addr} {es : Array (Int × Value)} {ep : Nat} {t : SetTable}
theorem size_tb (T : Tb w s.heap a es ep t) {Q : Nat → Shared → Prop} (q : Q es.size s) : wpAny (model P w) A (Builtin.Frozenset.sizeOf a) Q E s := by
  obtain ⟨o, ho, hx, hd⟩ := T.ob
  unfold Builtin.Frozenset.sizeOf
  exact wpAny_bind (wpAny_setEntries_of ho hd T.fits (wpAny_pure q))
/-- taken out, one by one -/
theorem less_tb {id : String} {b : Addr} {eb : Array (Int × Value)} {eq : Nat} {tb : SetTable} (T : Tb w s.heap a es ep t) (U : Tb w s.heap b eb eq tb) (ne : b ≠ a) (l : es.size ≤ 24) (l2 : eb.size / 8 ≤ es.size) {Q : Unit → Shared → Prop}
    (q : ∀ h' es' ep' t', Heap.SameBut a s.heap h' → Tb w h' a es' ep' t' → (∀ k, k ∈ es'.toList.map keyOf ↔ k ∈ es.toList.map keyOf ∧ k ∉ eb.toList.map keyOf) → es'.size ≤ es.size → Q () { s with heap := h' }) : wpAny (model P w) A (Builtin.Frozenset.differenceUpdate id a (.ref b)) Q E s := by
  obtain ⟨u, hu, ux, ud⟩ := U.ob
  unfold Builtin.Frozenset.differenceUpdate
  refine wp_if_neg (by simpa using ne) ?_
  refine wpAny_bind (any_tb U ?_)
  refine wp_if_pos rfl ?_
  refine wpAny_bind (wpAny_pure ?_)
  refine wpAny_bind (size_tb U ?_)
  refine wpAny_bind (size_tb T ?_)
  refine wp_if_neg (by omega) ?_
  refine wpAny_bind (wpAny_setEpoch_of hu ud U.fits ?_)
  refine wpAny_bind (wpAny_holding ?_)
  refine wpAny_bind (walk_none [a] (fun c hc => ⟨_, _, _, List.mem_singleton.mp hc ▸ T⟩) U fun out p2 => ?_)
  refine wpAny_bind ?_
  rw [← Array.forIn_toList]
  refine wpAny_forIn_list _ (fun rest _ s' => ∃ (h' : Heap) (es' : Array (Int × Value)) (ep' : Nat) (t' : SetTable), s' = { s with heap := h' } ∧ Heap.SameBut a s.heap h' ∧ Tb w h' a es' ep' t' ∧ es'.size ≤ es.size ∧ (∀ e ∈ rest, e ∈ eb.toList) ∧
      ∀ j, (j ∈ es'.toList.map keyOf ∧ j ∉ rest.map keyOf) ↔ (j ∈ es.toList.map keyOf ∧ j ∉ eb.toList.map keyOf)) _ ?_ ?_ _ _ ⟨s.heap, es, ep, t, rfl, Heap.SameBut.refl _ _, T, Nat.le_refl _, fun e he => p2.mem_iff.mp he, fun j => by rw [(p2.map keyOf).mem_iff]⟩
  · rintro e rest b' s' ⟨h', es', ep', t', rfl, sb', T3, nl, gr, mk⟩
    have ge := gr e List.mem_cons_self
    obtain ⟨k, tk, e1, e2⟩ := U.good e ge
    have ek : keyOf e = k := by unfold keyOf; rw [e1]
    rw [List.map_cons, ek] at mk
    obtain ⟨eh, ev⟩ := e
    simp only at e1 e2
    subst e1 e2
    refine wpAny_bind (wpAny_holding (out_tb T3 k tk fun h3 es3 ep3 t3 sb3 T4 m4 l4 => ?_))
    have sb5 := sb'.trans sb3
    unfold Builtin.Frozenset.unchanged
    refine wpAny_bind (wpAny_bind (wpAny_setEpoch_of ((sb5.2 b ne).trans hu) ud U.fits ?_))
    refine wp_if_neg (by simp) (wpAny_pure (wpAny_pure ?_))
    refine ⟨h3, es3, ep3, t3, rfl, sb5, T4, by omega, fun x hx => gr x (List.mem_cons_of_mem _ hx), fun j => ?_⟩
    rw [← mk j, m4 j, List.mem_cons, not_or]
    exact ⟨fun z => ⟨z.1.1, z.1.2, z.2⟩, fun z => ⟨⟨z.1, z.2.1⟩, z.2.2⟩⟩
  · rintro b' s' ⟨h', es', ep', t', rfl, sb', T3, nl, _, mk⟩
    refine wpAny_pure ?_
    have mk' : ∀ j, j ∈ es'.toList.map keyOf ↔ (j ∈ es.toList.map keyOf ∧ j ∉ eb.toList.map keyOf) := fun j => by rw [← mk j]; simp
    unfold setTidy
    obtain ⟨o3, ho3, hx3, hd3⟩ := T3.ob
    refine wpAny_bind (wpAny_setState_of ho3 hd3 T3.fits ?_)
    dsimp only
    by_cases c : t'.tooManyDummies = true
    · refine wp_if_pos c ?_
      have eg : SetTable.grown es'.size = es'.size * 4 := by
        unfold SetTable.grown
        rw [if_neg (by omega)]
      rw [eg]
      refine relay_tb T3 (by omega) (by omega) fun h4 es4 t4 sb4 T4 p4 _ _ _ => ?_
      refine q h4 es4 _ t4 (sb'.trans sb4) T4 (fun k => by rw [(p4.map keyOf).mem_iff, mk']) ?_
      rw [← Array.length_toList, p4.length_eq, Array.length_toList]
      exact nl
    · refine wp_if_neg c (wpAny_pure (q h' es' ep' t' sb' T3 mk' nl))
theorem sub_tb {b : Addr} {eb : Array (Int × Value)} {eq : Nat} {tb : SetTable} (T : Tb w s.heap a es ep t) (U : Tb w s.heap b eb eq tb) (ne : a ≠ b) (l : es.size ≤ 24) {Q : Value → Shared → Prop}
    (q : ∀ h' n, n ≤ 48 → NewS w s (fun k => decide (k ∈ es.toList.map keyOf) && !decide (k ∈ eb.toList.map keyOf)) n h' → Q (.ref s.heap.objs.size) { s with heap := h' }) :
    wpAny (model P w) A (call (.builtin "set.__sub__") [.ref a, .ref b]) Q E s := by
  refine wpAny_call_entry F.slot_set_sub T.ty ent_sub ?_ (F.args_set_sub_2 _ _)
  unfold Builtin.«frozenset.__sub__»
  refine wpAny_bind (wpAny_pure ?_)
  dsimp only
  refine wpAny_bind ?_
  refine wpAny_bind (any_tb T ?_)
  refine any_tb U ?_
  refine wp_if_neg (by decide) ?_
  refine wpAny_bind (wpAny_pure ?_)
  refine wpAny_bind ?_
  obtain ⟨o, ho, hox, hod⟩ := U.ob
  have nb : b ≠ s.heap.objs.size := Nat.ne_of_lt (Heap.lt_size ho)
  obtain ⟨oa, hoa, xa, da⟩ := T.ob
  have na : a ≠ s.heap.objs.size := Nat.ne_of_lt (Heap.lt_size hoa)
  unfold Builtin.Frozenset.difference
  refine wpAny_bind (any_tb U ?_)
  refine wp_if_neg (by decide) ?_
  refine wpAny_bind (wpAny_pure ?_)
  refine wp_if_neg (by simp) ?_
  refine wp_if_pos rfl ?_
  refine wpAny_bind (size_tb U ?_)
  refine wpAny_bind (size_tb T ?_)
  by_cases big : es.size / 4 > eb.size
  · refine wp_if_pos big ?_
    refine wpAny_bind (wpAny_rule ?_)
    refine wpAny_bind (copy_tb T fun h1 es1 ep1 t1 z1 k1 T1 m1 l1 mm1 => ?_)
    refine wpAny_bind (wpAny_pure ?_)
    refine wpAny_bind (wpAny_holding ?_)
    have sz : es1.size = es.size := by
      have := ((List.perm_ext_iff_of_nodup T1.nd T.nd).mpr m1).length_eq
      rw [List.length_map, List.length_map, Array.length_toList, Array.length_toList] at this
      exact this
    refine less_tb T1 (U.at (k1 b)) nb (by omega) (by omega) fun h2 es2 ep2 t2 sb2 T2 m2 l2 => ?_
    refine wpAny_pure (wpAny_pure ⟨_, rfl, q h2 es2.size (by omega) ⟨fun c o e => (sb2.2 c (Nat.ne_of_lt (Heap.lt_size e))).trans (k1 c o e), T2.setR fun k => ?_⟩⟩)
    rw [Bool.and_eq_true, Bool.not_eq_true', decide_eq_true_eq, decide_eq_false_iff_not, m2, m1]
  · refine wp_if_neg big ?_
    refine wpAny_bind (base_tb T ?_)
    refine wpAny_bind (new_tb fun h0 z0 k0 T0 => ?_)
    refine wpAny_bind (wpAny_pure ?_)
    have T' := T.at (k0 a)
    have U' := U.at (k0 b)
    refine wpAny_bind (wpAny_setEpoch_of (k0 a _ hoa) da T'.fits ?_)
    refine wpAny_bind (wpAny_holding ?_)
    refine wpAny_bind ?_
    refine wp_if_pos rfl ?_
    refine walk_tb [b, s.heap.objs.size] (fun c hc => ?_) T0 T' fun h2 out ep2 t2 sb2 T2 _ _ p2 => ?_
    · rcases List.mem_cons.mp hc with rfl | hc
      · exact ⟨_, _, _, U'⟩
      · exact ⟨_, _, _, List.mem_singleton.mp hc ▸ T0⟩
    have nd2 : (out.toList.map keyOf).Nodup := (p2.map keyOf).nodup_iff.mpr T.nd
    have R2 := T2.setR (S := fun _ => false) (fun k => by simp)
    refine wpAny_bind ?_
    rw [← Array.forIn_toList]
    refine wpAny_forIn_list _ (fun rest _ s' => ∃ (h' : Heap) (S' : Int → Bool) (n : Nat), s' = { s with heap := h' } ∧ Heap.SameBut s.heap.objs.size h0 h' ∧ SetR w h' s.heap.objs.size S' n ∧ n + rest.length ≤ 24 ∧ (∀ e ∈ rest, e ∈ es.toList) ∧
      ∀ j, (S' j = true ∨ (j ∈ rest.map keyOf ∧ j ∉ eb.toList.map keyOf)) ↔ (j ∈ es.toList.map keyOf ∧ j ∉ eb.toList.map keyOf)) _ ?_ ?_ _ _ ⟨h2, _, _, rfl, sb2, R2, ?_, fun e he => p2.mem_iff.mp he, fun j => by rw [(p2.map keyOf).mem_iff]; simp⟩
    · rintro e rest b' s' ⟨h', S', n, rfl, sb', R', nl, gr, mk⟩
      have ge := gr e List.mem_cons_self
      obtain ⟨k, tk, e1, e2⟩ := T.good e ge
      have ek : keyOf e = k := by unfold keyOf; rw [e1]
      rw [List.length_cons] at nl
      rw [List.map_cons, ek] at mk
      obtain ⟨eh, ev⟩ := e
      simp only at e1 e2
      subst e1 e2
      have tail : ∀ h'', Heap.SameBut s.heap.objs.size h0 h'' → ∀ {Q' : ForInStep PUnit → Shared → Prop}, Q' (.yield ⟨⟩) { s with heap := h'' } → wpAny (model P w) A.in1 (do Builtin.Frozenset.unchanged (toString "frozenset." ++ toString "__sub__") a ep; pure (ForInStep.yield PUnit.unit)) Q' E { s with heap := h'' } := fun h'' sb'' Q' q' => by
        unfold Builtin.Frozenset.unchanged
        refine wpAny_bind (wpAny_bind (wpAny_setEpoch_of ((sb''.2 a na).trans (k0 a _ hoa)) da T'.fits ?_))
        exact wp_if_neg (by simp) (wpAny_pure (wpAny_pure q'))
      have Ub : Tb w h' b eb eq tb := U'.at fun x hx => (sb'.2 b nb).trans hx
      have hR := (Ub.setR (S := fun j => decide (j ∈ eb.toList.map keyOf)) (fun j => decide_eq_true_iff)).setOf (P := P)
      refine wpAny_bind (wpAny_holding ?_)
      refine wp_if_pos rfl ?_
      refine wpAny_bind (wpAny_setFind_of (knd := intKind P w) (k := k) (intKind_is P w k tk) rfl hR fun r hr => ?_)
      refine wpAny_bind (wpAny_pure ?_)
      rw [hr]
      by_cases c : k ∈ eb.toList.map keyOf
      · rw [decide_eq_true c]
        refine wp_if_neg (by decide) (wpAny_pure ?_)
        refine tail h' sb' ⟨h', S', n, rfl, sb', R', by omega, fun x hx => gr x (List.mem_cons_of_mem _ hx), fun j => ?_⟩
        rw [← mk j, List.mem_cons]
        constructor
        · rintro (z | z)
          · exact .inl z
          · exact .inr ⟨.inr z.1, z.2⟩
        · rintro (z | ⟨rfl | z, y⟩)
          · exact .inl z
          · exact absurd c y
          · exact .inr ⟨z, y⟩
      · rw [decide_eq_false c]
        refine wp_if_pos rfl ?_
        refine wpAny_bind (add_tb (k := k) (tk := tk) R' (by unfold scanBound; omega) fun h4 sb4 R5 => wpAny_pure ?_)
        refine tail h4 (sb'.trans sb4) ⟨h4, _, _, rfl, sb'.trans sb4, R5, by split <;> omega, fun x hx => gr x (List.mem_cons_of_mem _ hx), fun j => ?_⟩
        rw [← mk j, List.mem_cons, Bool.or_eq_true, decide_eq_true_eq]
        constructor
        · rintro ((z | rfl) | z)
          · exact .inl z
          · exact .inr ⟨.inl rfl, c⟩
          · exact .inr ⟨.inr z.1, z.2⟩
        · rintro (z | ⟨rfl | z, y⟩)
          · exact .inl (.inl z)
          · exact .inl (.inr rfl)
          · exact .inr ⟨z, y⟩
    · rintro b' s' ⟨h', S', n, rfl, sb', R', nl, _, mk⟩
      refine wpAny_pure (wpAny_pure (wpAny_pure ⟨_, rfl, q h' n (by omega) ⟨fun c o e => (sb'.2 c (Nat.ne_of_lt (Heap.lt_size e))).trans (k0 c o e), R'.congr fun k => ?_⟩⟩))
      rw [Bool.eq_iff_iff, Bool.and_eq_true, Bool.not_eq_true', decide_eq_true_eq, decide_eq_false_iff_not, ← mk k]
      simp
    · rw [p2.length_eq, Array.length_toList]
      simpa using l
end
end Sh
namespace Sh
open PySem PySem.Spec PyProof.Rows L2
/-- |, -, ^ of two sets of small ints, by members -/
def rSetOp (w : World) (f : Bool → Bool → Bool) : R2 := fun x y H Q => ∃ (a b : Addr) (S1 S2 : Int → Bool) (n1 n2 : Nat), x = .ref a ∧ y = .ref b ∧ a ≠ b ∧ H a = some (SetO w a S1 n1) ∧ H b = some (SetO w b S2 n2) ∧ n1 ≤ 24 ∧ n2 ≤ 24 ∧
  (∀ k, S1 k = true → 0 ≤ k ∧ k < 32) ∧ (∀ k, S2 k = true → 0 ≤ k ∧ k < 32) ∧ ∀ (p : Addr) (n : Nat), H p = none → n ≤ 48 → Q (.ref p) (upd H p (SetO w p (fun k => f (S1 k) (S2 k)) n))
section
variable {X : Cx}
theorem set_rule {op : Operator} {id : String} {f : Bool → Bool → Bool} (fills : fillsNumberSlot (.type "set") op.info.2 = pure true) (slot : Slot "set" (dunder op.info.2) id)
    (run : ∀ {A : Around} {E : Value → Shared → Prop} {s : Shared} {a b : Addr} {es eb : Array (Int × Value)} {ep eq : Nat} {t tb : SetTable}, Tb X.w s.heap a es ep t → Tb X.w s.heap b eb eq tb → a ≠ b → es.size ≤ 24 → eb.size ≤ 24 → ∀ {Q : Value → Shared → Prop},
      (∀ h' n, n ≤ 48 → NewS X.w s (fun k => f (decide (k ∈ es.toList.map keyOf)) (decide (k ∈ eb.toList.map keyOf))) n h' → Q (.ref s.heap.objs.size) { s with heap := h' }) → wpAny (model X.prog X.w) A (call (.builtin id) [.ref a, .ref b]) Q E s) : OpR X (binaryOp op) (rSetOp X.w f) := by
  intro pins s σ H x y v u Q I rx ry h
  obtain ⟨a, b, S1, S2, n1, n2, rfl, rfl, ne, ha, hb, l1, l2, m1, m2, q⟩ := h
  cases rx
  cases ry
  obtain ⟨es, ep, t, T, k1, z1⟩ := tb_of (setO_get I ha) (by omega) m1
  obtain ⟨eb, eq, tb, U, k2, z2⟩ := tb_of (setO_get I hb) (by omega) m2
  refine wpAny_binaryOp_same T.ty U.ty fills slot (run T U ne (by omega) (by omega) fun h' n ln ⟨kk, R⟩ => ⟨by simp, ?_⟩)
  have e1 : ∀ k, decide (k ∈ es.toList.map keyOf) = S1 k := fun k => by rw [Bool.eq_iff_iff, decide_eq_true_eq, k1]
  have e2 : ∀ k, decide (k ∈ eb.toList.map keyOf) = S2 k := fun k => by rw [Bool.eq_iff_iff, decide_eq_true_eq, k2]
  have R' : SetR X.w h' s.heap.objs.size (fun k => f (S1 k) (S2 k)) n := R.congr fun k => by
    show f (S1 k) (S2 k) = f _ _
    rw [e1, e2]
  exact ⟨.ref _, upd H s.heap.objs.size (SetO X.w s.heap.objs.size _ n), I.laid (t' := s.toks) kk (Nat.le_refl _) (setO_new R'), rfl, q _ n (I.hok.fresh (Nat.le_refl _)) ln⟩
theorem op_orS (w : World) (hw : X.w = w := by rfl) : OpR X (binaryOp .BitOr) (rSetOp w fun a b => a || b) := by
  subst hw
  exact set_rule (id := "set.__or__") F.fills_set_or F.slot_set_or @fun _ _ _ _ _ _ _ _ _ _ _ T U ne l1 l2 _ q => union_tb T U ne (by omega) q
theorem op_subS (w : World) (hw : X.w = w := by rfl) : OpR X (binaryOp .Sub) (rSetOp w fun a b => a && !b) := by
  subst hw
  exact set_rule (id := "set.__sub__") F.fills_set_sub F.slot_set_sub @fun _ _ _ _ _ _ _ _ _ _ _ T U ne l1 l2 _ q => sub_tb T U ne l1 q
theorem op_xorS (w : World) (hw : X.w = w := by rfl) : OpR X (binaryOp .BitXor) (rSetOp w fun a b => a != b) := by
  subst hw
  exact set_rule (id := "set.__xor__") F.fills_set_xor F.slot_set_xor @fun _ _ _ _ _ _ _ _ _ _ _ T U ne l1 l2 _ q => xor_tb T U ne (by omega) q
end
end Sh

/-! max(xs, key=lambda p: ..), xs a list of ints that isn't empty, the lambda leaves all as it is -/
namespace Sh
open PySem PySem.Spec PyProof.Rows L2 LamX
section
variable {X : Cx} {pins pins' : List (Addr × Obj)} {σ : L2.St} {H : Hp} {s : Shared} {h' : Heap}
theorem inv_sub (I : Inv X pins σ H s) (h : ∀ p ∈ pins', p ∈ pins) : Inv X pins' σ H s := I.pins_of fun p hp => I.pin p (List.mem_append_right _ (h p hp))
/-- a pinned object of ours has turned: no pin of it any more -/
theorem inv_unpin {it : Addr} {o : Obj} {t' : Nat} (I : Inv X ((it, o) :: pins) σ H s) (k : ∀ b u, b ≠ it → s.heap.get? b = some u → h'.get? b = some u) (hnew : X.s_0.heap.objs.size ≤ it) (h3 : ∀ p ∈ X.pn ++ pins, p.1 ≠ it) :
    Inv X pins σ H { s with heap := h', toks := t' } := by
  obtain ⟨ho, hn, hL, hF, hc⟩ := I.pin (it, o) (List.mem_append_right _ List.mem_cons_self)
  have I0 : Inv X pins σ H s := inv_sub I fun p hp => List.mem_cons_of_mem _ hp
  refine I0.turned k hn hL (.inr hnew) (fun x c e z => ?_) h3
  obtain ⟨v, o', ho', hd⟩ := I.cell x c e
  have ho2 : s.heap.get? it = some o := ho
  rw [z, ho2] at ho'
  cases ho'
  exact hc v hd
/-- .. and pinned anew -/
theorem inv_repin {it : Addr} {o o' : Obj} {t' : Nat} (I : Inv X ((it, o) :: pins) σ H s) (k : ∀ b u, b ≠ it → s.heap.get? b = some u → h'.get? b = some u) (hnew : X.s_0.heap.objs.size ≤ it) (h3 : ∀ p ∈ X.pn ++ pins, p.1 ≠ it) (ho' : h'.get? it = some o') (nc : ∀ v, o'.data ≠ .cell v) :
    Inv X ((it, o') :: pins) σ H { s with heap := h', toks := t' } := by
  obtain ⟨ho, hn, hL, hF, hc⟩ := I.pin (it, o) (List.mem_append_right _ List.mem_cons_self)
  have J := inv_unpin (t' := t') I k hnew h3
  refine J.pins_of fun p hp => ?_
  rcases List.mem_cons.mp hp with rfl | hp
  · exact ⟨ho', hn, hL, hF, nc⟩
  · exact J.pin p (List.mem_append_right _ hp)
theorem seq_nc {c : String} {xs : Array Value} {n : Nat} : ∀ v, (seqObj c xs n).data ≠ .cell v := fun v z => by cases z
/-- what the loop wants of the function at f -/
def MxTurn (X : Cx) (σ : L2.St) (H : Hp) (f : Addr) (of : Obj) (ns : List Int) (g : Int → Int) : Prop :=
  ∀ (ps : List (Addr × Obj)) (s : Shared) (n : Int) (t : Tok), (f, of) ∈ ps → Inv X ps σ H s → n ∈ ns →
    wpAny (model X.prog X.w) X.A.in1 (call (.ref f) [.int n t]) (fun u s' => (∃ t', u = .int (g n) t') ∧ Inv X ps σ H s') (fun _ _ => False) s
theorem mx_loop {l Iq S f : Addr} {of : Obj} {ns : List Int} {g : Int → Int} {R : Result → Shared → Prop} (hh : X.A.handled = none) (hl : H l = some (.lst (ns.map .int))) (turn : MxTurn X σ H f of ns g) (hlI : l ≠ Iq) (hSI : S ≠ Iq)
    (hI : X.s_0.heap.objs.size ≤ Iq) (hS : X.s_0.heap.objs.size ≤ S) (hI3 : ∀ p ∈ X.pn ++ (f, of) :: pins, p.1 ≠ Iq) (hS3 : ∀ p ∈ X.pn ++ (f, of) :: pins, p.1 ≠ S)
    (hR : ∀ (M : Int) (t : Tok) (s' : Shared), M ∈ ns → (∀ a ∈ ns, g a ≤ g M) → Inv X ((f, of) :: pins) σ H s' → R (.ok (.ret (.int M t))) s') :
    ∀ (r j : Nat) (s : Shared) (M : Int) (t tb : Tok) (c : Nat) (oI : Obj), ns.length - (j + 1) = r → j + 1 ≤ ns.length → Inv X ((S, seqObj "list" #[.int M t, .int (g M) tb] c) :: (Iq, oI) :: (f, of) :: pins) σ H s → s.heap.IsListIter Iq l (j + 1) →
      M ∈ ns → (∀ i, i ≤ j → ∀ a, ns[i]? = some a → g a ≤ g M) →
      codeAny (model X.prog X.w) X.A (.builtin "max.loop" ⟨[.ref Iq, .ref f, .ref S], []⟩) R s := by
  have hname : (toString "max" ++ toString ".loop" : String) = "max.loop" := by decide
  have pS : ∀ {oI : Obj}, ∀ p ∈ X.pn ++ (Iq, oI) :: (f, of) :: pins, p.1 ≠ S := fun p hp => by
    rcases List.mem_append.mp hp with z | z
    · exact hS3 p (List.mem_append_left _ z)
    · rcases List.mem_cons.mp z with rfl | z
      · exact Ne.symm hSI
      · exact hS3 p (List.mem_append_right _ z)
  have pI : ∀ {oS : Obj}, ∀ p ∈ X.pn ++ (S, oS) :: (f, of) :: pins, p.1 ≠ Iq := fun p hp => by
    rcases List.mem_append.mp hp with z | z
    · exact hI3 p (List.mem_append_left _ z)
    · rcases List.mem_cons.mp z with rfl | z
      · exact hSI
      · exact hI3 p (List.mem_append_right _ z)
  have sw : ∀ {a b : Addr × Obj} {q : List (Addr × Obj)} {s : Shared}, Inv X (a :: b :: q) σ H s → Inv X (b :: a :: q) σ H s := fun I => inv_sub I fun p hp => by
    rcases List.mem_cons.mp hp with rfl | hp
    · exact List.mem_cons_of_mem _ List.mem_cons_self
    · rcases List.mem_cons.mp hp with rfl | hp
      · exact List.mem_cons_self
      · exact List.mem_cons_of_mem _ (List.mem_cons_of_mem _ hp)
  intro r
  induction r with
  | zero =>
    intro j s M t tb c oI hr hj I hit hM hbest
    have hin : j + 1 = ns.length := by omega
    obtain ⟨its, rv, pl, _⟩ := I.list (.inl (.inl hl))
    have hlen : its.length = ns.length := by have := rv.length; rw [List.length_map] at this; exact this.symm
    have hsz : its.toArray.size = its.length := List.size_toArray ..
    have W := Walks.list (prog := X.prog) (w := X.w) (A := X.A.in1) hh Iq l hlI its.toArray
    have nS := (I.pin (S, _) (List.mem_append_right _ List.mem_cons_self)).1
    refine codeAny_builtin PySem.F.entry_max_loop ?_
    rw [Around.under_plainId PySem.F.plain_max_loop _]
    show wpAny _ X.A.in1 (seqItems? (.ref S) >>= _) _ _ _
    refine wpAny_bind (wpAny_seqItems nS rfl ?_)
    show wpAny _ X.A.in1 (tryCatch (pyNext (.ref Iq)) _ >>= _) _ _ _
    refine wpAny_bind (wpAny_tryCatch (W.done _ _ _ ⟨by rw [hsz, hlen, ← hin]; exact hit, pl.isList⟩ fun h1 tk1 hk => ?_))
    have I1 := inv_unpin (t' := tk1) (h' := h1) (sw I) (fun b u hb e => hk b u (by simpa using hb) e) hI pI
    have nS1 := (I1.pin (S, _) (List.mem_append_right _ List.mem_cons_self)).1
    have s1 := Heap.SameBut.update h1 S (Obj.mapSeq fun _ => (#[] : Array Value))
    show wpAny _ X.A.in1 (updateSeq S (fun _ => #[]) >>= _) _ _ _
    refine wpAny_bind ?_
    refine wpAny_updateSeq nS1 rfl (wpAny_bind (wpAny_letGo (wpAny_pure ?_)))
    have I2 := inv_unpin (t' := tk1) (h' := h1.update S (Obj.mapSeq fun _ => (#[] : Array Value))) I1 (fun b u hb e => (s1.2 b hb).trans e) hS hS3
    refine hR M t _ hM (fun a ha => ?_) I2
    obtain ⟨i, hi, e⟩ := List.getElem_of_mem ha
    exact hbest i (by omega) a (by rw [List.getElem?_eq_getElem hi, e])
  | succ r ih =>
    intro j s M t tb c oI hr hj I hit hM hbest
    have hlt : j + 1 < ns.length := by omega
    obtain ⟨its, rv, pl, _⟩ := I.list (.inl (.inl hl))
    have hlen : its.length = ns.length := by have := rv.length; rw [List.length_map] at this; exact this.symm
    have hsz : its.toArray.size = its.length := List.size_toArray ..
    have W := Walks.list (prog := X.prog) (w := X.w) (A := X.A.in1) hh Iq l hlI its.toArray
    have nS := (I.pin (S, _) (List.mem_append_right _ List.mem_cons_self)).1
    refine codeAny_builtin PySem.F.entry_max_loop ?_
    rw [Around.under_plainId PySem.F.plain_max_loop _]
    show wpAny _ X.A.in1 (seqItems? (.ref S) >>= _) _ _ _
    refine wpAny_bind (wpAny_seqItems nS rfl ?_)
    show wpAny _ X.A.in1 (tryCatch (pyNext (.ref Iq)) _ >>= _) _ _ _
    refine wpAny_bind (wpAny_tryCatch (W.item (j + 1) _ _ _ (by rw [hsz, hlen]; exact hlt) ⟨hit, pl.isList⟩ fun v h1 tk1 hP hst hk => ?_))
    obtain ⟨oI', hoI', hoc, hod⟩ := id hst.1
    have I1 := sw (inv_repin (t' := tk1) (h' := h1) (o' := oI') (sw I) (fun b u hb e => hk b u (by simpa using hb) e) hI pI hoI' (fun v z => by rw [hod] at z; cases z))
    obtain ⟨u, hu, t1, rfl⟩ := rv.get (i := j + 1) (x := .int ns[j + 1]) (by simp [hlt])
    obtain rfl : v = .int ns[j + 1] t1 := by
      have : its[j + 1]? = some v := by simpa using hP
      exact Option.some.inj (this.symm.trans hu)
    have mem : ns[j + 1] ∈ ns := List.getElem_mem hlt
    show wpAny _ X.A.in1 (tryCatch (holding [.int ns[j + 1] t1] (call (.ref f) [.int ns[j + 1] t1])) _ >>= _) _ _ _
    refine wpAny_bind (wpAny_tryCatch (wpAny_holding (wpAny_mono (turn _ _ _ t1 (List.mem_cons_of_mem _ (List.mem_cons_of_mem _ List.mem_cons_self)) I1 mem) (fun x s2 he => ?_) fun _ _ hF => hF.elim)))
    obtain ⟨⟨t2, rfl⟩, I2⟩ := he
    have nS2 := (I2.pin (S, _) (List.mem_append_right _ List.mem_cons_self)).1
    have nI2 := (I2.pin (Iq, _) (List.mem_append_right _ (List.mem_cons_of_mem _ List.mem_cons_self))).1
    have hit2 : s2.heap.IsListIter Iq l (j + 1 + 1) := ⟨oI', nI2, hoc, hod⟩
    show wpAny _ X.A.in1 (tryCatch (holding [.int ns[j + 1] t1, .int (g ns[j + 1]) t2] (richCompare .Gt (.int (g ns[j + 1]) t2) (.int (g M) tb) >>= _)) _ >>= _) _ _ _
    refine wpAny_bind (wpAny_tryCatch (wpAny_holding (wpAny_bind (CmpOf.ints_gt (prog := X.prog) (w := X.w) (A := X.A.in1) (P := fun (i : Nat) v => ∃ t, v = .int (match i with | 0 => g M | _ + 1 => g ns[j + 1]) t) (fun (i : Nat) => match i with | 0 => g M | _ + 1 => g ns[j + 1]) (fun i v h => h) 1 0 _ _ _ _ _ ⟨t2, rfl⟩ ⟨tb, rfl⟩ ?_))))
    refine wpAny_bind (wpAny_holding (wpAny_truthy_bool ?_))
    refine wpAny_bind (wpAny_letGo (wpAny_pure ?_))
    by_cases hb' : g ns[j + 1] > g M
    · obtain ⟨c2, hc2⟩ : ∃ c2, (s2.heap.update S (Obj.mapSeq fun _ => #[.int ns[j + 1] t1, .int (g ns[j + 1]) t2])).get? S = some (seqObj "list" #[.int ns[j + 1] t1, .int (g ns[j + 1]) t2] c2) := ⟨_, get?_update_seq nS2 fun _ => #[.int ns[j + 1] t1, .int (g ns[j + 1]) t2]⟩
      have s1 := Heap.SameBut.update s2.heap S (Obj.mapSeq fun _ => #[.int ns[j + 1] t1, .int (g ns[j + 1]) t2])
      simp only [hb', decide_true, if_true]
      refine wpAny_bind ?_
      refine wpAny_updateSeq nS2 rfl (wpAny_bind (wpAny_letGo ?_))
      rw [hname]
      have I3 := inv_repin (t' := s2.toks) (h' := s2.heap.update S (Obj.mapSeq fun _ => #[.int ns[j + 1] t1, .int (g ns[j + 1]) t2])) I2 (fun b u hb e => (s1.2 b hb).trans e) hS pS hc2 seq_nc
      refine wpAny_pure ⟨plainId_quiet PySem.F.plain_max_loop _, ih (j + 1) _ _ t1 t2 c2 oI' (by omega) hlt I3 ⟨oI', (s1.2 Iq hSI.symm).trans nI2, hoc, hod⟩ mem fun i hi a ha => ?_⟩
      by_cases e : i = j + 1
      · rw [e, List.getElem?_eq_getElem hlt] at ha
        rw [Option.some.inj ha]
        exact Int.le_refl _
      · have := hbest i (by omega) a ha
        omega
    · simp only [hb', decide_false, Bool.false_eq_true, if_false]
      refine wpAny_bind (wpAny_letGo ?_)
      rw [hname]
      refine wpAny_pure ⟨plainId_quiet PySem.F.plain_max_loop _, ih (j + 1) s2 M t tb c oI' (by omega) hlt I2 hit2 hM fun i hi a ha => ?_⟩
      by_cases e : i = j + 1
      · rw [e, List.getElem?_eq_getElem hlt] at ha
        rw [← Option.some.inj ha]
        omega
      · exact hbest i (by omega) a ha
/-- the call -/
theorem mx_call {l f : Addr} {of : Obj} {ns : List Int} {g : Int → Int} {Q : Value → Shared → Prop} {E : Value → Shared → Prop} (hh : X.A.handled = none) (I : Inv X ((f, of) :: pins) σ H s) (hl : H l = some (.lst (ns.map .int))) (hne : ns ≠ [])
    (turn : MxTurn X σ H f of ns g) (hQ : ∀ (M : Int) (t : Tok) (s' : Shared), M ∈ ns → (∀ a ∈ ns, g a ≤ g M) → Inv X ((f, of) :: pins) σ H s' → Q (.int M t) s') :
    wpAny (model X.prog X.w) X.A (call (.builtin "max") [.ref l] [(Str.ofString "key", .ref f)]) Q E s := by
  have hname : (toString "max" ++ toString ".loop" : String) = "max.loop" := by decide
  have h0 : 0 < ns.length := by
    cases ns with
    | nil => exact absurd rfl hne
    | cons a b => exact Nat.zero_lt_succ _
  obtain ⟨_, _, pl0, _⟩ := I.list (.inl (.inl hl))
  have hll : l < s.heap.objs.size := pl0.lt
  refine kmk_tree PySem.F.kind_max PySem.F.plain_max PySem.F.entry_max (kmk_max_key _ _) ?_
  show wpAny _ X.A.in1 (Builtin.Builtins.bindParams "max" ["key", "default"] 0 ⟨[], [(Str.ofString "key", .ref f)]⟩ >>= _) _ _ s
  refine wpAny_bind (wpAny_of_eq (show Builtin.Builtins.bindParams "max" ["key", "default"] 0 ⟨[], [(Str.ofString "key", .ref f)]⟩ = pure [some (.ref f), none] from rfl) ?_)
  refine wpAny_bind (wpAny_pure ?_)
  refine wpAny_bind (wpAny_pyIter_list pl0.isList ?_)
  refine wpAny_bind (wpAny_newList ?_ (Nat.zero_le _))
  rw [hname]
  have hlI : l ≠ s.heap.objs.size := Nat.ne_of_lt hll
  have eS : (s.heap.push { cls := .type "list_iterator", data := .fields #[.ref l, .int 0 0] }).objs.size = s.heap.objs.size + 1 := size_push' ..
  have gI : ((s.heap.push { cls := .type "list_iterator", data := .fields #[.ref l, .int 0 0] }).push (seqObj "list" #[] 0)).get? s.heap.objs.size = some { cls := .type "list_iterator", data := .fields #[.ref l, .int 0 0] } :=
    Heap.get?_push_of_some _ (Heap.get?_push_size _ rfl)
  have gS : ((s.heap.push { cls := .type "list_iterator", data := .fields #[.ref l, .int 0 0] }).push (seqObj "list" #[] 0)).get? (s.heap.push { cls := .type "list_iterator", data := .fields #[.ref l, .int 0 0] }).objs.size = some (seqObj "list" #[] 0) := Heap.get?_push_size _ rfl
  have hS0 : s.heap.objs.size ≤ (s.heap.push { cls := .type "list_iterator", data := .fields #[.ref l, .int 0 0] }).objs.size := by rw [eS]; exact Nat.le_succ _
  have hSI : (s.heap.push { cls := .type "list_iterator", data := .fields #[.ref l, .int 0 0] }).objs.size ≠ s.heap.objs.size := by rw [eS]; exact Nat.ne_of_gt (Nat.lt_succ_self _)
  have hI : X.s_0.heap.objs.size ≤ s.heap.objs.size := I.sz
  have I0 : Inv X ((f, of) :: pins) σ H { s with heap := (s.heap.push { cls := .type "list_iterator", data := .fields #[.ref l, .int 0 0] }).push (seqObj "list" #[] 0) } := I.kept (t' := s.toks) fun b u e => Heap.get?_push_of_some _ (Heap.get?_push_of_some _ e)
  have newp : ∀ b, s.heap.objs.size ≤ b → ∀ p ∈ X.pn ++ (f, of) :: pins, p.1 ≠ b := fun b hb p hp z => by
    have := Heap.lt_size (I.pin p hp).1
    rw [z] at this
    exact absurd this (Nat.not_lt_of_le hb)
  generalize (s.heap.push { cls := .type "list_iterator", data := .fields #[.ref l, .int 0 0] }).objs.size = S at *
  generalize (s.heap.push { cls := .type "list_iterator", data := .fields #[.ref l, .int 0 0] }).push (seqObj "list" #[] 0) = h0' at *
  have hS : X.s_0.heap.objs.size ≤ S := Nat.le_trans hI hS0
  have ex : ∀ b, s.heap.objs.size ≤ b → H b = none ∧ b ≠ X.env.locals ∧ b ∉ X.fs := fun b hb => ⟨I.hok.fresh hb, Nat.ne_of_gt (Nat.lt_of_lt_of_le I.lt hb), I.nofs hb⟩
  have pS : ∀ {oI : Obj}, ∀ p ∈ X.pn ++ (s.heap.objs.size, oI) :: (f, of) :: pins, p.1 ≠ S := fun p hp => by
    rcases List.mem_append.mp hp with z | z
    · exact newp S hS0 p (List.mem_append_left _ z)
    · rcases List.mem_cons.mp z with rfl | z
      · exact Ne.symm hSI
      · exact newp S hS0 p (List.mem_append_right _ z)
  have pI : ∀ {oS : Obj}, ∀ p ∈ X.pn ++ (S, oS) :: (f, of) :: pins, p.1 ≠ s.heap.objs.size := fun p hp => by
    rcases List.mem_append.mp hp with z | z
    · exact newp _ (Nat.le_refl _) p (List.mem_append_left _ z)
    · rcases List.mem_cons.mp z with rfl | z
      · exact hSI
      · exact newp _ (Nat.le_refl _) p (List.mem_append_right _ z)
  have sw : ∀ {a b : Addr × Obj} {q : List (Addr × Obj)} {s : Shared}, Inv X (a :: b :: q) σ H s → Inv X (b :: a :: q) σ H s := fun I => inv_sub I fun p hp => by
    rcases List.mem_cons.mp hp with rfl | hp
    · exact List.mem_cons_of_mem _ List.mem_cons_self
    · rcases List.mem_cons.mp hp with rfl | hp
      · exact List.mem_cons_self
      · exact List.mem_cons_of_mem _ (List.mem_cons_of_mem _ hp)
  have J0 : Inv X ((S, seqObj "list" #[] 0) :: (s.heap.objs.size, { cls := .type "list_iterator", data := .fields #[.ref l, .int 0 0] }) :: (f, of) :: pins) σ H { s with heap := h0' } := I0.pins_of fun p hp => by
    rcases List.mem_cons.mp hp with rfl | hp
    · obtain ⟨a, b, c⟩ := ex S hS0
      exact ⟨gS, a, b, c, seq_nc⟩
    · rcases List.mem_cons.mp hp with rfl | hp
      · obtain ⟨a, b, c⟩ := ex _ (Nat.le_refl _)
        exact ⟨gI, a, b, c, fun v z => by cases z⟩
      · exact I0.pin p (List.mem_append_right _ hp)
  refine wpAny_pure ⟨plainId_quiet PySem.F.plain_max_loop _, ?_⟩
  obtain ⟨its, rv, pl, _⟩ := J0.list (.inl (.inl hl))
  have hlen : its.length = ns.length := by have := rv.length; rw [List.length_map] at this; exact this.symm
  have hsz : its.toArray.size = its.length := List.size_toArray ..
  have W := Walks.list (prog := X.prog) (w := X.w) (A := X.A.in1) hh s.heap.objs.size l hlI its.toArray
  refine codeAny_builtin PySem.F.entry_max_loop ?_
  rw [Around.under_plainId PySem.F.plain_max_loop _]
  show wpAny _ X.A.in1 (seqItems? (.ref S) >>= _) _ _ _
  refine wpAny_bind (wpAny_seqItems gS rfl ?_)
  show wpAny _ X.A.in1 (tryCatch (pyNext (.ref s.heap.objs.size)) _ >>= _) _ _ _
  refine wpAny_bind (wpAny_tryCatch (W.item 0 _ _ _ (by rw [hsz, hlen]; exact h0) ⟨⟨_, gI, rfl, rfl⟩, pl.isList⟩ fun v h1 tk1 hP hst hk => ?_))
  obtain ⟨oI', hoI', hoc, hod⟩ := id hst.1
  have I1 := sw (inv_repin (t' := tk1) (h' := h1) (o' := oI') (sw J0) (fun b u hb e => hk b u (by simpa using hb) e) hI pI hoI' (fun v z => by rw [hod] at z; cases z))
  obtain ⟨u, hu, t1, rfl⟩ := rv.get (i := 0) (x := .int ns[0]) (by simp [h0])
  obtain rfl : v = .int ns[0] t1 := by
    have : its[0]? = some v := by simpa using hP
    exact Option.some.inj (this.symm.trans hu)
  have mem : ns[0] ∈ ns := List.getElem_mem h0
  show wpAny _ X.A.in1 (tryCatch (holding [.int ns[0] t1] (call (.ref f) [.int ns[0] t1])) _ >>= _) _ _ _
  refine wpAny_bind (wpAny_tryCatch (wpAny_holding (wpAny_mono (turn _ _ _ t1 (List.mem_cons_of_mem _ (List.mem_cons_of_mem _ List.mem_cons_self)) I1 mem) (fun x s2 he => ?_) fun _ _ hF => hF.elim)))
  obtain ⟨⟨t2, rfl⟩, I2⟩ := he
  have nS2 := (I2.pin (S, _) (List.mem_append_right _ List.mem_cons_self)).1
  have nI2 := (I2.pin (s.heap.objs.size, _) (List.mem_append_right _ (List.mem_cons_of_mem _ List.mem_cons_self))).1
  have s1 := Heap.SameBut.update s2.heap S (Obj.mapSeq fun _ => #[.int ns[0] t1, .int (g ns[0]) t2])
  obtain ⟨c2, hc2⟩ : ∃ c2, (s2.heap.update S (Obj.mapSeq fun _ => #[.int ns[0] t1, .int (g ns[0]) t2])).get? S = some (seqObj "list" #[.int ns[0] t1, .int (g ns[0]) t2] c2) := ⟨_, get?_update_seq nS2 fun _ => #[.int ns[0] t1, .int (g ns[0]) t2]⟩
  show wpAny _ X.A.in1 (updateSeq S (fun _ => #[.int ns[0] t1, .int (g ns[0]) t2]) >>= _) _ _ _
  refine wpAny_bind ?_
  refine wpAny_updateSeq nS2 rfl ?_
  rw [hname]
  have I3 := inv_repin (t' := s2.toks) (h' := s2.heap.update S (Obj.mapSeq fun _ => #[.int ns[0] t1, .int (g ns[0]) t2])) I2 (fun b u hb e => (s1.2 b hb).trans e) hS pS hc2 seq_nc
  refine wpAny_pure ⟨plainId_quiet PySem.F.plain_max_loop _, mx_loop hh hl turn hlI hSI hI hS (newp _ (Nat.le_refl _)) (newp S hS0) hQ _ 0 _ _ t1 t2 c2 oI' rfl h0 I3 ⟨oI', (s1.2 _ hSI.symm).trans nI2, hoc, hod⟩ mem fun i hi a ha => ?_⟩
  have e : i = 0 := by omega
  rw [e, List.getElem?_eq_getElem h0] at ha
  rw [Option.some.inj ha]
  exact Int.le_refl _
/-- what it means: xs is read, the lambda made, its body read at each, all left as it is -/
def tMaxLam (T : List (Addr × Str)) (q : Str) (te tb : TE) : TE := fun σ H Q => te σ H fun v H0 => ∃ (l : Addr) (ns : List Int) (g : Int → Int), v = .ref l ∧ H0 l = some (.lst (ns.map .int)) ∧ ns ≠ [] ∧ Tabs T H0 ∧
  ∀ (c' : Addr) (H1 : Hp), ExtN H0 H1 → Tabs T H1 → H1 c' = some (CodeO c' q) →
    (∀ n ∈ ns, tb (σ ++ [some (.int n)]) H1 fun u H2 => u = .int (g n) ∧ H2 = H1) ∧ ∀ M ∈ ns, (∀ a ∈ ns, g a ≤ g M) → Q (.int M) H1
/-- max(e, key=lambda p: body) -/
theorem pe_maxLam {T : List (Addr × Str)} {j : Nat} {c Pt : Addr} {params : Arguments} {body e : Expr} {scope : Scope} {p : Str} {tb te : TE} {lpos p1 pos kpos : Pos}
    (hr : Room (j + 2) X.A) (TB : TabB X.base X.mg c Pt) (hcode : X.env.code = .ref c) (hm : (Pt, X.env.qual ++ "<lambda>") ∈ T) (hu : ∀ q ∈ T, q.1 = Pt → q.2 = X.env.qual ++ "<lambda>")
    (L : LamS1 X.env.scope scope p) (hp : p ∉ X.N) (hdef : defaultsOf params X.env = ([], []))
    (hbind : ∀ (f c' : Addr) (pm ctv u : Value), bindArgs (PySem.W.kla_fn "<lambda>" (X.env.qual ++ "<lambda>") params body scope (cloFrom X.env.cells scope.names []) pm (.ref c') ctv) ⟨[u], []⟩ = pure [(p, u)])
    (hbody : ∀ (A : Around) (outer : List Env) (s' : Shared) (H' : Hp) (f c' : Addr), Room j (A.deeper (lamEnv X scope s'.heap.objs.size f c')) → PE (lamCx1 X A outer s' H' scope f c' p) body tb) (he : PE X e te)
    (hg : Gl X "max") (hmx : X.mg "max" = none) (hbt : bootBuiltins "max" = some (.builtin "max"))
    (hb1 : backTo pos (starEach [e] X.env) = (false, eval e X.env) :: backTo pos (starEach [] X.env) := by rfl) (hpl : (backTo pos (starEach [e] X.env)).any (·.1) = false := by rfl) :
    PE X (.Call (.Name "max" p1) [e] [⟨some "key", .Lambda params body scope lpos, kpos⟩] pos) (tMaxLam T (X.env.qual ++ "<lambda>") te tb) := by
  refine ⟨fun pins s σ H Q I h => ?_⟩
  refine wpAny_Call_Name_kw (ld_blt I hg hmx hbt ?_ (by decide) (by decide))
  refine PyProof.Rows.callWith_kw ?_ hb1 hpl rfl rfl
  rw [hb1]
  refine Calls.spliced_cons (thn (he.run pins s σ H _ I h) fun u s1 ⟨v, H0, I0, r0, q⟩ => ?_)
  obtain ⟨l, ns, g, rfl, hl, hne, hT, q⟩ := q
  obtain rfl : u = .ref l := r0
  refine Calls.spliced_nil ?_
  show wpAny _ _ (evalAll [do let v ← eval (.Lambda params body scope lpos) X.env; standAt pos; pure v]) _ _ s1
  refine wpAny_evalAll_cons (wpAny_bind (lam_make2 I0 TB hcode hm hu hT hdef (L.has I0.ok) fun f c' pm' ctv H1 s2 I1 eN T1 hf hfn hfr hco => wpAny_bind (wpAny_standAt (wpAny_pure ?_))))
  refine wpAny_evalAll_nil ?_
  obtain ⟨hbod, hQ⟩ := q c' H1 eN T1 hco
  have I1' := lam_pin I1 hf ⟨_, rfl⟩ hfn hfr
  have hl1 : H1 l = some (.lst (ns.map .int)) := eN l _ hl fun _ z => by cases z
  show wpAny _ _ (call (.builtin "max") [.ref l] [(Str.ofString "key", .ref f)]) _ _ s2
  refine mx_call hr.hd I1' hl1 hne (g := g) (fun ps t n tk hfp J hn => ?_) fun M tk s' hM hb J => ?_
  · have hft := (J.pin _ (List.mem_append_right _ hfp)).1
    have LA := lam_at (k := j) J L hp hft hfn hfr (hbind f c' pm' ctv) (fun A outer s' H' hr' => hbody A outer s' H' f c' hr')
    refine wpAny_call (codeAny_mono (LA.run X.A.in1 X.stack t H1 (.int n tk) (.int n) (fun u H2 => u = .int (g n) ∧ H2 = H1) hr.in1 J.env0.in1 Un.refl ⟨tk, rfl⟩ ⟨hco, hbod n hn⟩) fun y s3 hq => ?_)
    cases y with
    | error e => exact hq.elim
    | ok fl =>
      cases fl with
      | ret u =>
        obtain ⟨v, H2, K2, rr, e1, e2⟩ := J.after hq
        subst e1
        subst e2
        exact ⟨rr, K2⟩
      | next => exact hq.elim
      | brk => exact hq.elim
      | cont => exact hq.elim
  · exact ⟨.int M, H1, inv_sub J fun p hp => List.mem_cons_of_mem _ hp, ⟨tk, rfl⟩, hQ M hM hb⟩
end
end Sh

/-! max(t), t a tuple of ints -/
namespace Sh
open PySem PySem.Spec PySem.Calls PyProof.Rows PyProof.V L2
section
variable {prog : Program} {w : World} {A : Around} {E : Value → Shared → Prop} {s : Shared} {t : Addr} {xs : Array (Int × Tok)}
theorem max_intTup {Q : Value → Shared → Prop} (hh : A.handled = none) (ht : s.heap.IsTuple t (intItems xs)) (hz : 0 < xs.size)
    (h : ∀ v h' tk, (intItems xs)[argBest (fun i j => decide (numAt xs i > numAt xs j)) (xs.size - 1)]? = some v → (∀ b o, s.heap.get? b = some o → h'.get? b = some o) → Q v { s with heap := h', toks := tk }) :
    wpAny (model prog w) A (call (.builtin "max") [.ref t]) Q E s := by
  obtain ⟨o, ho, hc, n, hd⟩ := id ht
  have hne : t ≠ s.heap.objs.size := Nat.ne_of_lt (Heap.lt_size ho)
  have hsz : (intItems xs).size = xs.size := by simp [intItems]
  have W := Walks.tuple (prog := prog) (w := w) (A := A.in1) hh s.heap.objs.size t hne (intItems xs)
  refine call_max_walk (wpAny_pyIter_tuple ht ?_)
  refine ⟨s.heap.objs.size, _, _, _, _, _, _, rfl, W, ⟨⟨_, Heap.get?_push_size _ rfl, rfl, rfl⟩, ht.at fun o e => Heap.get?_push_of_some _ e⟩, fun b hb => ?_, by simpa [intItems] using hz, CmpOf.ints_gt (numAt xs) (fun _ _ => intItems_at), fun v h' tk hP hk => ?_⟩
  · rcases List.mem_cons.mp hb with rfl | hb
    · exact Heap.lt_size (Heap.get?_push_size _ rfl)
    · obtain rfl := List.mem_singleton.mp hb
      exact Heap.lt_size (Heap.get?_push_of_some _ ho)
  · refine h v h' tk (by simpa [intItems] using hP) fun b o e => hk b o (fun hb => ?_) (Heap.get?_push_of_some _ e)
    exact absurd (Heap.lt_size e) ((List.mem_singleton.mp hb) ▸ Nat.lt_irrefl _)
end
section
variable {X : Cx}
def rMaxT (K : PySem.W.Frag) : List V → Hp → VK → Prop := fun vs H Q => ∃ (a : Addr) (ns : List Int), vs = [.ref a] ∧ SqT K H a (ns.map V.int) ∧ 0 < ns.length ∧ ∀ m, m ∈ ns → (∀ y, y ∈ ns → y ≤ m) → Q (.int m) H
theorem cr_maxT (hc : X.calm = true) : CallR X (.builtin "max") (rMaxT X.K) := by
  intro pins s σ H vs us Q I r h
  obtain ⟨a, ns, rfl, hs, hne, q⟩ := h
  obtain ⟨its, rv, hT, _⟩ := I.tuple hs
  rw [Vals.ref1 r]
  have hi := rv.ints
  obtain ⟨xs, e⟩ := hi.allInts.items
  have hn : numsOf (intItems xs).toList = ns := by rw [← e]; exact hi.numsOf
  rw [nums_intItems] at hn
  rw [e] at hT
  subst hn
  have hsz : 0 < xs.size := by simpa using hne
  refine max_intTup (I.ok.hd hc) hT hsz fun v h' tk hv hk => ?_
  obtain ⟨t, rfl⟩ := intItems_at hv
  obtain ⟨h1, h2⟩ := argBest_gt (numAt xs) (xs.size - 1)
  refine ⟨.int _, H, I.kept hk, ⟨t, rfl⟩, q _ ?_ fun a ha => ?_⟩
  · rw [numAt_eq]; exact PySem.getD_mem (by rw [List.length_map, Array.length_toList]; omega)
  · obtain ⟨j, hj, rfl⟩ := mem_getD ha
    rw [List.length_map, Array.length_toList] at hj
    rw [← numAt_eq]; exact h2 j (by omega)
end
section
variable {X : Cx}
def rMaxA (K : PySem.W.Frag) : List V → Hp → VK → Prop := fun vs H Q => ∃ (a : Addr) (ns : List Int), vs = [.ref a] ∧ SqA K H a (ns.map V.int) ∧ 0 < ns.length ∧ ∀ m, m ∈ ns → (∀ y, y ∈ ns → y ≤ m) → Q (.int m) H
theorem cr_maxA (hc : X.calm = true) : CallR X (.builtin "max") (rMaxA X.K) := by
  intro pins s σ H vs us Q I r h
  obtain ⟨a, ns, e, hs, hne, q⟩ := h
  rcases hs with hs | hs
  · exact cr_max hc pins s σ H vs us Q I r ⟨a, ns, e, hs, hne, q⟩
  · exact cr_maxT hc pins s σ H vs us Q I r ⟨a, ns, e, hs, hne, q⟩
end
end Sh

namespace Sh
open PySem PySem.Spec PyProof.Rows L2
/-! ### the text by places -/
def topS (i : Nat) : Stmt := PySem.Challenge.pw_shoalmates_k47_known_counts.main.body.getD i (.Pass ⟨0, 0, 0, 0⟩)
end Sh

namespace Sh
open PySem PySem.Spec PyProof.Rows L2
/-! ### what is drawn from -/
def BoxOk (xs : List V) (n : Nat) : Prop := ∃ b0 b1 b2 : Int, xs = [.int b0, .int b1, .int b2] ∧ 0 ≤ b0 ∧ 0 ≤ b1 ∧ b1 < 4611686018427387904 ∧ 0 ≤ b2 ∧ b2 + (n : Int) ≤ 1099511627776
def BoxAt (H : Hp) (b : Addr) (n : Nat) : Prop := ∃ xs, H b = some (.lst xs) ∧ BoxOk xs n
theorem BoxOk.mono {xs : List V} {n m : Nat} (h : BoxOk xs n) (l : m ≤ n) : BoxOk xs m := by
  obtain ⟨b0, b1, b2, e, h0, h1, h2, h3, h4⟩ := h
  exact ⟨b0, b1, b2, e, h0, h1, h2, h3, by omega⟩
theorem BoxAt.mono {H : Hp} {b : Addr} {n m : Nat} (h : BoxAt H b n) (l : m ≤ n) : BoxAt H b m := let ⟨xs, e, k⟩ := h; ⟨xs, e, k.mono l⟩
theorem BoxAt.same {H H' : Hp} {b : Addr} {n : Nat} (h : BoxAt H b n) (s : Same H H') : BoxAt H' b n := let ⟨xs, e, k⟩ := h; ⟨xs, s _ _ e, k⟩
theorem BoxAt.some {H : Hp} {b : Addr} {n : Nat} (h : BoxAt H b n) : H b ≠ none := fun z => by
  obtain ⟨xs, e, _⟩ := h
  rw [e] at z
  cases z
/-- a new place is not the box -/
theorem BoxAt.ne {H : Hp} {b p : Addr} {n : Nat} (h : BoxAt H b n) (z : H p = none) : b ≠ p := let ⟨_, e, _⟩ := h; ne_of_none e z
def spTake : Sp := fun vs H Q _ => ∃ (b : Addr) (n : Nat) (span : Int), vs = [.ref b, .int span] ∧ 0 < span ∧ span < 1152921504606846976 ∧ BoxAt H b (n + 1) ∧ ∀ (v : Int) (xs : List V), 0 ≤ v → v < span → BoxOk xs n → Q (.int v) (upd H b (.lst xs))
abbrev s__law_take : Stmt := topS 62
theorem sc__law_take : FnScope (["_law_box_here", "_law_span", "_law_found", "_law_once", "_law_twice"] : List Str) (["_law_box_here", "_law_span"] : List Str) (defScope s__law_take) := ⟨rfl, rfl, rfl, by decide +kernel, rfl, by decide +kernel, by decide +kernel⟩
theorem b__law_take (kV doc pm : Value) (an : Option Addr) (cdv ct : Value) (us : List Value) (hl : us.length = (["_law_box_here", "_law_span"] : List Str).length) : bindArgs (PySem.W.fnOf "_law_take" "_law_take" (defArgs s__law_take) (defBody s__law_take) (defScope s__law_take) .none kV doc pm an cdv ct) ⟨us, []⟩ = pure ((["_law_box_here", "_law_span"] : List Str).zip us) :=
  match us, hl with | [_, _], _ => rfl
section
variable {P : Program} {w : World} {K : PySem.W.Frag} {mg : Str → Option Value} {base : Heap}
theorem ok_take {k : Nat} (D : Df K mg "_law_take" s__law_take) (T : Bt mg) : Ok P w K mg base (k + 1) "_law_take" s__law_take ["_law_box_here", "_law_span"] spTake := by
  refine D.ok sc__law_take b__law_take (fun vs H Q E h => ?_) (fun f cdv A outer s H vs Q E hr h => ?_)
  · obtain ⟨b, n, span, rfl, _⟩ := h
    rfl
  · obtain ⟨b, n, span, rfl, s0, s1, ⟨xs, hb, b0, b1, b2, rfl, h0, h1, h1', h2, h3⟩, q⟩ := h
    refine ⟨_, (pss_cons (ps_if (pt_cmpR op_gt (pe_ix ix_lt (pv 0) pe_int (fun _ _ => rfl)) pe_int (nomark _))
        (pss_cons (ps_set (i := 2) sc__law_take.nd rfl (.inl rfl) (pe_op op_mod (pe_ix ix_lt (pv 0) pe_int (fun _ _ => rfl)) (pv 1)))
          (pss_cons (ps_asg (pe_op op_fdivW (pe_ix ix_lt (pv 0) pe_int (fun _ _ => rfl)) (pv 1)) (pg_sub (pv 0) pe_int set_list))
          (pss_one (ps_ret (pv 2)))))
        pss_nil)
      (pss_cons (ps_asg (pe_op op_add (pe_ix ix_lt (pv 0) pe_int (fun _ _ => rfl)) pe_int) (pg_sub (pv 0) pe_int set_list))
      (pss_cons (ps_set (i := 3) sc__law_take.nd rfl (.inl rfl) (pe_op op_mod (pe_op op_mul (pe_op op_add (pe_ix ix_lt (pv 0) pe_int (fun _ _ => rfl)) (pe_op op_mul pe_int (pe_ix ix_lt (pv 0) pe_int (fun _ _ => rfl)))) (pe_op op_add pe_int (pe_ix ix_lt (pv 0) pe_int (fun _ _ => rfl)))) pe_int))
      (pss_cons (ps_set (i := 4) sc__law_take.nd rfl (.inl rfl) (pe_op op_mod (pe_op op_mul (pe_op op_add (pe_op op_add (pv 3) (pe_ix ix_lt (pv 0) pe_int (fun _ _ => rfl))) (pe_op op_fdiv (pe_ix ix_lt (pv 0) pe_int (fun _ _ => rfl)) pe_int)) (pe_op op_add (pe_op op_mod (pv 3) pe_int) pe_int)) pe_int))
      (pss_one (ps_ret (pe_op op_mod (pe_op op_fdiv (pe_op op_mod (pe_op op_add (pe_op op_mul (pv 4) pe_int) (pv 3)) pe_int) pe_int) (pv 1)))))))), ?_⟩
    have hq : SqA K H b [.int b0, .int b1, .int b2] := SqA.l hb
    refine ⟨_, rfl, b, _, 0, .int b0, rfl, rfl, hq, rfl, b0, 0, rfl, rfl, _, rfl, ite2 (fun c => ?_) (fun c => ?_)⟩
    · have c0 : 0 < b0 := of_decide_eq_true c
      refine ⟨_, rfl, b, _, 0, .int b0, rfl, rfl, hq, rfl, _, rfl, b0, span, rfl, rfl, s0, ?_⟩
      refine ⟨_, rfl, b, _, 0, .int b0, rfl, rfl, hq, rfl, _, rfl, b0, span, rfl, rfl, wide_div (b := 60) s0 (show span.natAbs < 1152921504606846976 by omega) (by decide) (by decide), ?_⟩
      refine ⟨_, rfl, b, _, 0, 0, rfl, rfl, hb, rfl, ?_⟩
      refine ⟨_, rfl, ?_⟩
      exact q _ _ (Int.emod_nonneg _ (by omega)) (Int.emod_lt_of_pos _ s0) ⟨b0 / span, b1, b2, rfl, Int.ediv_nonneg h0 (by omega), h1, h1', h2, by omega⟩
    · refine ⟨_, rfl, b, _, 2, .int b2, rfl, rfl, hq, rfl, b2, 1, rfl, rfl, ?_⟩
      refine ⟨_, rfl, b, _, 2, 2, rfl, rfl, hb, rfl, ?_⟩
      have hq2 : SqA K (upd H b (.lst [.int b0, .int b1, .int (b2 + 1)])) b [.int b0, .int b1, .int (b2 + 1)] := SqA.l upd_same
      have m1 : 0 ≤ (b1 + 48271 * (b2 + 1)) * (39373 + (b2 + 1)) % 2147483647 := Int.emod_nonneg _ (by decide)
      have m2 : (b1 + 48271 * (b2 + 1)) * (39373 + (b2 + 1)) % 2147483647 < 2147483647 := Int.emod_lt_of_pos _ (by decide)
      refine ⟨_, rfl, b, _, 1, .int b1, rfl, rfl, hq2, rfl, _, rfl, b, _, 2, .int (b2 + 1), rfl, rfl, hq2, rfl, 48271, b2 + 1, rfl, rfl, .inl ⟨by decide, by decide⟩, b1, _, rfl, rfl, ?_⟩
      refine ⟨_, rfl, b, _, 2, .int (b2 + 1), rfl, rfl, hq2, rfl, 39373, b2 + 1, rfl, rfl, _, _, rfl, rfl, .inr ⟨by omega, by omega⟩, _, 2147483647, rfl, rfl, (show (0 : Int) < 2147483647 by decide), ?_⟩
      dsimp only
      generalize (b1 + 48271 * (b2 + 1)) * (39373 + (b2 + 1)) % 2147483647 = once at m1 m2
      have o1 : 0 ≤ once % 40009 := Int.emod_nonneg _ (by decide)
      have o2 : once % 40009 < 40009 := Int.emod_lt_of_pos _ (by decide)
      refine ⟨_, rfl, _, rfl, b, _, 2, .int (b2 + 1), rfl, rfl, hq2, rfl, once, b2 + 1, rfl, rfl, _, rfl, b, _, 1, .int b1, rfl, rfl, hq2, rfl, b1, 1000003, rfl, rfl, ⟨by decide, by decide⟩, _, _, rfl, rfl, ?_⟩
      refine ⟨_, rfl, once, 40009, rfl, rfl, (show (0 : Int) < 40009 by decide), _, 7, rfl, rfl, _, _, rfl, rfl, .inr ⟨by omega, by omega⟩, _, 2147483629, rfl, rfl, (show (0 : Int) < 2147483629 by decide), ?_⟩
      dsimp only
      have t1 : 0 ≤ (once + (b2 + 1) + b1 / 1000003) * (once % 40009 + 7) % 2147483629 := Int.emod_nonneg _ (by decide)
      have t2 : (once + (b2 + 1) + b1 / 1000003) * (once % 40009 + 7) % 2147483629 < 2147483629 := Int.emod_lt_of_pos _ (by decide)
      generalize (once + (b2 + 1) + b1 / 1000003) * (once % 40009 + 7) % 2147483629 = twice at t1 t2
      refine ⟨_, rfl, twice, 48271, rfl, rfl, .inl ⟨by omega, by omega⟩, _, rfl, _, once, rfl, rfl, _, 2147483587, rfl, rfl, (show (0 : Int) < 2147483587 by decide), _, 64, rfl, rfl, ⟨by decide, by decide⟩, _, rfl, _, span, rfl, rfl, s0, ?_⟩
      exact q _ _ (Int.emod_nonneg _ (by omega)) (Int.emod_lt_of_pos _ s0) ⟨b0, b1, b2 + 1, rfl, h0, h1, h1', by omega, by omega⟩
end
end Sh

namespace Sh
open PySem PySem.Spec PyProof.Rows L2
theorem SqA.at {K : PySem.W.Frag} {H : Hp} {b l : Addr} {o : HO} {xs : List V} (n : l ≠ b) (h : SqA K H l xs) : SqA K (upd H b o) l xs := by
  rcases h with ((h | ⟨z, h⟩) | h) | ((h | ⟨z, h⟩) | h)
  · exact .inl (.inl (.inl (by rw [upd_ne n]; exact h)))
  · exact .inl (.inl (.inr ⟨z, by rw [upd_ne n]; exact h⟩))
  · exact .inl (.inr h)
  · exact .inr (.inl (.inl (by rw [upd_ne n]; exact h)))
  · exact .inr (.inl (.inr ⟨z, by rw [upd_ne n]; exact h⟩))
  · exact .inr (.inr h)
theorem at_nat {xs : List V} {i : Int} {j : Nat} {v : V} (e : i = (j : Int)) (h : xs[j]? = some v) : atI xs i = some v := L2.at_of e h
theorem b01 (c : Bool) : (0 : Int) ≤ if c = true then 1 else 0 := by cases c <;> decide
theorem b01' (c : Bool) : (-(2 ^ 64) : Int) < (if c = true then 1 else 0) ∧ (if c = true then 1 else 0) < (2 ^ 64 : Int) := by cases c <;> decide
/-- a cell of the script: some int -/
def spCellAt (K : PySem.W.Frag) : Sp := fun vs H Q _ => ∃ (l : Addr) (ns : List Int) (j : Nat), vs = [.ref l, .int (j : Int)] ∧ SqL K H l (ns.map V.int) ∧ ∀ z : Int, Q (.int z) H
abbrev s__law_cell_at : Stmt := topS 60
theorem sc__law_cell_at : FnScope (["_law_script", "_law_k"] : List Str) (["_law_script", "_law_k"] : List Str) (defScope s__law_cell_at) := ⟨rfl, rfl, rfl, by decide +kernel, rfl, by decide +kernel, by decide +kernel⟩
theorem b__law_cell_at (kV doc pm : Value) (an : Option Addr) (cdv ct : Value) (us : List Value) (hl : us.length = (["_law_script", "_law_k"] : List Str).length) : bindArgs (PySem.W.fnOf "_law_cell_at" "_law_cell_at" (defArgs s__law_cell_at) (defBody s__law_cell_at) (defScope s__law_cell_at) .none kV doc pm an cdv ct) ⟨us, []⟩ = pure ((["_law_script", "_law_k"] : List Str).zip us) :=
  match us, hl with | [_, _], _ => rfl
def spBox (K : PySem.W.Frag) : Sp := fun vs H Q _ => ∃ (l : Addr) (ns : List Int) (j : Nat), vs = [.ref l, .int (j : Int)] ∧ j ≤ 100 ∧ SqL K H l (ns.map V.int) ∧ ∀ (p : Addr) (xs : List V), H p = none → BoxOk xs 549755813888 → Q (.ref p) (upd H p (.lst xs))
abbrev s__law_box : Stmt := topS 61
theorem sc__law_box : FnScope (["_law_script", "_law_k", "_law_core"] : List Str) (["_law_script", "_law_k"] : List Str) (defScope s__law_box) := ⟨rfl, rfl, rfl, by decide +kernel, rfl, by decide +kernel, by decide +kernel⟩
theorem b__law_box (kV doc pm : Value) (an : Option Addr) (cdv ct : Value) (us : List Value) (hl : us.length = (["_law_script", "_law_k"] : List Str).length) : bindArgs (PySem.W.fnOf "_law_box" "_law_box" (defArgs s__law_box) (defBody s__law_box) (defScope s__law_box) .none kV doc pm an cdv ct) ⟨us, []⟩ = pure ((["_law_script", "_law_k"] : List Str).zip us) :=
  match us, hl with | [_, _], _ => rfl
section
variable {P : Program} {w : World} {K : PySem.W.Frag} {mg : Str → Option Value} {base : Heap}
theorem ok_cell_at {k : Nat} (D : Df K mg "_law_cell_at" s__law_cell_at) (T : Bt mg) : Ok P w K mg base (k + 1) "_law_cell_at" s__law_cell_at ["_law_script", "_law_k"] (spCellAt K) := by
  refine D.ok sc__law_cell_at b__law_cell_at (fun vs H Q E h => ?_) (fun f cdv A outer s H vs Q E hr h => ?_)
  · obtain ⟨l, ns, j, rfl, _⟩ := h
    rfl
  · obtain ⟨l, ns, j, rfl, hs, q⟩ := h
    refine ⟨_, (pss_cons (ps_if (pt_cmpR op_lt (pv 1) (pe_callB call_len_seq (by rfl) T.len_ PySem.boot_len (pa_cons (pv 0) pa_nil)) (nomark _))
        (pss_one (ps_ret (pe_ix ix_lt (pv 0) (pv 1) (fun _ _ => rfl))))
        pss_nil)
      (pss_one (ps_ret pe_int))), ?_⟩
    refine ⟨_, rfl, _, rfl, l, _, rfl, .inl hs, _, _, rfl, rfl, _, rfl, ite2 (fun c => ?_) (fun c => ?_)⟩
    · have c0 : (j : Int) < ((ns.map V.int).length : Int) := of_decide_eq_true c
      rw [List.length_map] at c0
      have c1 : j < ns.length := by omega
      refine ⟨_, rfl, _, rfl, l, _, _, .int ns[j], rfl, rfl, .inl hs, at_nat rfl (by simp [c1]), q _⟩
    · exact q 0
theorem ok_box {k : Nat} (D : Df K mg "_law_box" s__law_box) (T : Bt mg) (O__law_cell_at : Ok P w K mg base k "_law_cell_at" s__law_cell_at ["_law_script", "_law_k"] (spCellAt K)) : Ok P w K mg base (k + 1) "_law_box" s__law_box ["_law_script", "_law_k"] (spBox K) := by
  refine D.ok sc__law_box b__law_box (fun vs H Q E h => ?_) (fun f cdv A outer s H vs Q E hr h => ?_)
  · obtain ⟨l, ns, j, rfl, _⟩ := h
    rfl
  · obtain ⟨l, ns, j, rfl, hj, hs, q⟩ := h
    refine ⟨_, (pss_cons (ps_set (i := 2) sc__law_box.nd rfl (.inl rfl) (pe_fn O__law_cell_at (hr.mono (by omega)) (pa_cons (pv 0) (pa_cons (pv 1) pa_nil))))
      (pss_one (ps_ret (pe_lst (pa_cons (pe_op op_mul (pe_callB call_abs (by rfl) T.abs_ (by decide +kernel) (pa_cons (pv 2) pa_nil)) (pe_callTy call_int1 (by rfl) T.int_ (by decide +kernel) (pa_cons (pe_cmpR op_ge (pe_callB call_abs (by rfl) T.abs_ (by decide +kernel) (pa_cons (pv 2) pa_nil)) (pe_op (op_powC 1000000000000000000) pe_int pe_int) (nomark _)) pa_nil))) (pa_cons (pe_op op_add (pe_op op_add (pe_op op_mod (pv 2) pe_int) (pe_op op_mul pe_int (pv 1))) pe_int) (pa_cons pe_int pa_nil))))))), ?_⟩
    refine ⟨_, rfl, _, rfl, l, ns, j, rfl, hs, fun z => ?_⟩
    have z1 : 0 ≤ z % 2305843009213693951 := Int.emod_nonneg _ (by decide)
    have z2 : z % 2305843009213693951 < 2305843009213693951 := Int.emod_lt_of_pos _ (by decide)
    have za : 0 ≤ (if z < 0 then -z else z) := by split <;> omega
    refine ⟨_, rfl, z, rfl, _, rfl, z, rfl, 10, 18, rfl, rfl, ⟨⟨by decide, by decide, by decide⟩, by decide⟩, _, _, rfl, rfl, .inr ⟨_, rfl, ?_⟩⟩
    refine ⟨_, _, rfl, rfl, .inr (b01' _), ?_⟩
    refine ⟨_, rfl, z, _, rfl, rfl, (show (0 : Int) < 2305843009213693951 by decide), _, rfl, 39373, (j : Int), rfl, rfl, .inl ⟨by decide, by decide⟩, _, _, rfl, rfl, _, 17, rfl, rfl, ?_⟩
    refine ⟨(by show 3 ≤ sizeLine; decide), fun p np => ?_⟩
    refine q p _ np ⟨_, _, 0, rfl, ?_, by omega, by omega, by omega, by omega⟩
    exact Int.mul_nonneg za (b01 _)
end
/-! ### one of some -/
def spOf (K : PySem.W.Frag) : Sp := fun vs H Q _ => ∃ (b l : Addr) (n : Nat) (xs : List V), vs = [.ref b, .ref l] ∧ SqA K H l xs ∧ l ≠ b ∧ 0 < xs.length ∧ xs.length < 1000000 ∧ BoxAt H b (n + 1) ∧ ∀ (v : V) (ys : List V), v ∈ xs → BoxOk ys n → Q v (upd H b (.lst ys))
abbrev s__law_of : Stmt := topS 63
theorem sc__law_of : FnScope (["_law_box_here", "_law_some"] : List Str) (["_law_box_here", "_law_some"] : List Str) (defScope s__law_of) := ⟨rfl, rfl, rfl, by decide +kernel, rfl, by decide +kernel, by decide +kernel⟩
theorem b__law_of (kV doc pm : Value) (an : Option Addr) (cdv ct : Value) (us : List Value) (hl : us.length = (["_law_box_here", "_law_some"] : List Str).length) : bindArgs (PySem.W.fnOf "_law_of" "_law_of" (defArgs s__law_of) (defBody s__law_of) (defScope s__law_of) .none kV doc pm an cdv ct) ⟨us, []⟩ = pure ((["_law_box_here", "_law_some"] : List Str).zip us) :=
  match us, hl with | [_, _], _ => rfl
section
variable {P : Program} {w : World} {K : PySem.W.Frag} {mg : Str → Option Value} {base : Heap}
theorem ok_of {k : Nat} (D : Df K mg "_law_of" s__law_of) (T : Bt mg) (O__law_take : Ok P w K mg base k "_law_take" s__law_take ["_law_box_here", "_law_span"] spTake) : Ok P w K mg base (k + 1) "_law_of" s__law_of ["_law_box_here", "_law_some"] (spOf K) := by
  refine D.ok sc__law_of b__law_of (fun vs H Q E h => ?_) (fun f cdv A outer s H vs Q E hr h => ?_)
  · obtain ⟨b, l, n, xs, rfl, _⟩ := h
    rfl
  · obtain ⟨b, l, n, xs, rfl, hl, hne, l0, l1, hb, q⟩ := h
    refine ⟨_, (pss_one (ps_ret (pe_ix ix_lt (pv 1) (pe_fn O__law_take (hr.mono (by omega)) (pa_cons (pv 0) (pa_cons (pe_callB call_len_seq (by rfl) T.len_ PySem.boot_len (pa_cons (pv 1) pa_nil)) pa_nil))) (fun _ _ => rfl)))), ?_⟩
    refine ⟨_, rfl, _, rfl, _, rfl, l, xs, rfl, hl, b, n, _, rfl, by omega, by omega, hb, fun v ys v0 v1 hy => ?_⟩
    have hi : v.toNat < xs.length := by omega
    refine ⟨l, xs, v, xs[v.toNat], rfl, rfl, SqA.at hne hl, at_nat (j := v.toNat) (by omega) (by simp [hi]), ?_⟩
    exact q _ _ (List.getElem_mem hi) hy
end
end Sh

namespace Sh
open PySem PySem.Spec PyProof.Rows L2
/-! ### what is told is what is due -/
def tyS : PyData → String
  | .none => "NoneType" | .bool _ => "bool" | .int _ => "int" | .str _ => "str" | .list _ => "list" | .tuple _ => "tuple" | .dict _ => "dict"
/-- at most so deep, no longer than a hundred thousand -/
def Lv : Nat → PyData → Prop
  | 0, _ => False
  | _ + 1, .none => True
  | _ + 1, .bool _ => True
  | _ + 1, .int _ => True
  | _ + 1, .str _ => True
  | n + 1, .list ds => ds.length ≤ 100000 ∧ ∀ e ∈ ds, Lv n e
  | n + 1, .tuple ds => ds.length ≤ 100000 ∧ ∀ e ∈ ds, Lv n e
  | _ + 1, .dict _ => False
theorem lv_ints {n : Nat} (ns : List Int) (h : ns.length ≤ 100000) : Lv (n + 2) (.list (ns.map .int)) := ⟨by rw [List.length_map]; exact h, fun e he => by
  obtain ⟨i, _, rfl⟩ := List.mem_map.mp he
  exact trivial⟩
theorem lv_intsT {n : Nat} (ns : List Int) (h : ns.length ≤ 100000) : Lv (n + 2) (.tuple (ns.map .int)) := ⟨by rw [List.length_map]; exact h, fun e he => by
  obtain ⟨i, _, rfl⟩ := List.mem_map.mp he
  exact trivial⟩
section
variable {K : PySem.W.Frag} {H : Hp}
theorem ty_list {a : Addr} {xs : List V} (h : SqL K H a xs) : TyX K H (.ref a) (.type "list") := by
  rcases h with (h | ⟨o, h⟩) | ⟨o, its, n, h, c, _⟩
  · exact .base (.lst h)
  · exact .base (.frz h)
  · exact .kList h c
theorem ty_tup {a : Addr} {xs : List V} (h : SqT K H a xs) : TyX K H (.ref a) (.type "tuple") := by
  rcases h with (h | ⟨o, h⟩) | ⟨o, its, n, h, c, _⟩
  · exact .base (.tup h)
  · exact .fTuple h
  · exact .kTuple h c
theorem ty_of {v : V} {d : PyData} (h : Dp K H v d) : TyX K H v (.type (tyS d)) := by
  cases h with
  | non => exact .base .non
  | bl b => exact .base (.bl b)
  | int i => exact .base (.int i)
  | str x => exact .base (.str x)
  | lst h _ => exact ty_list h
  | tup h _ => exact ty_tup h
theorem kit2 {t a b : String} {r1 r2 r : Bool} (h1 : kitB t a = some r1) (h2 : kitB t b = some r2) (hr : (r1 || r2) = r) : PySem.W.kitAny K (.type t) [.type a, .type b] = some r := by
  refine kitAny_cons (b := r1) (kit_ty h1) (fun e => ?_) (fun e => ?_)
  · refine kitAny_cons (b := r2) (kit_ty h2) (fun e2 => ?_) (fun e2 => ?_)
    · rw [← hr, e, e2]
      exact kitAny_nil
    · rw [← hr, e, e2]
      all_goals rfl
  · rw [← hr, e]
    all_goals rfl
end
end Sh

namespace Sh
open PySem PySem.Spec PyProof.Rows L2
/-! ### a drawn sea -/
theorem But.put {b p : Addr} {H H' : Hp} {o : HO} (h : But b H H') (n : H p = none) : But b H (upd H' p o) := fun a x na e => by
  rw [upd_ne (ne_of_none e n)]
  exact h a x na e
theorem But.box {b : Addr} {H H' : Hp} {o : HO} (h : But b H H') : But b H (upd H' b o) := fun a x na e => by
  rw [upd_ne na]
  exact h a x na e
theorem BoxAt.put {H : Hp} {b : Addr} {n : Nat} {xs : List V} (h : BoxOk xs n) : BoxAt (upd H b (.lst xs)) b n := ⟨xs, upd_same, h⟩
theorem BoxAt.at {H : Hp} {b p : Addr} {n : Nat} {o : HO} (h : BoxAt H b n) (ne : b ≠ p) : BoxAt (upd H p o) b n := let ⟨xs, e, k⟩ := h; ⟨xs, by rw [upd_ne ne]; exact e, k⟩
structure SeaOk (most : Nat) (h t : Int) (ds : List Int) : Prop where
  h0 : 0 ≤ h
  h1 : h ≤ 1000000000000
  t0 : 0 ≤ t
  t1 : t ≤ 1000000000000
  l0 : 0 < ds.length
  l1 : ds.length ≤ most
  d0 : ∀ d ∈ ds, 0 ≤ d ∧ d ≤ 1000000000000
def spSea : Sp := fun vs H Q _ => ∃ (b : Addr) (n most : Nat), vs = [.ref b, .int (most : Int)] ∧ 0 < most ∧ most ≤ 60 ∧ BoxAt H b (n + 200) ∧
  ∀ (H' : Hp) (p q : Addr) (h t : Int) (ds : List Int), But b H H' → BoxAt H' b n → H p = none → H q = none → H' p = some (.tup [.int h, .int t, .ref q]) → H' q = some (.tup (ds.map V.int)) → SeaOk most h t ds → Q (.ref p) H'
section
variable {P : Program} {w : World} {K : PySem.W.Frag} {mg : Str → Option Value} {base : Heap}
/-- a new object, a draw: what stands, stands -/
theorem al {b p : Addr} {H Hc : Hp} {n : Nat} {o : HO} (u : But b H Hc) (x : BoxAt Hc b n) (np : Hc p = none) : But b H (upd Hc p o) ∧ BoxAt (upd Hc p o) b n ∧ upd Hc p o p = some o ∧ p ≠ b :=
  ⟨fun a z na e => by rw [upd_ne (ne_of_none (u a z na e) np)]; exact u a z na e, x.at (x.ne np), upd_same, (x.ne np).symm⟩
theorem tk {b : Addr} {H Hc : Hp} {n : Nat} {ys : List V} (u : But b H Hc) (y : BoxOk ys n) : But b H (upd Hc b (.lst ys)) ∧ BoxAt (upd Hc b (.lst ys)) b n := ⟨u.box, .put y⟩
theorem But.free {b p : Addr} {H H' : Hp} (u : But b H H') (n : p ≠ b) (h : H' p = none) : H p = none := by
  cases e : H p with
  | none => rfl
  | some o =>
    rw [u p o n e] at h
    cases h
theorem two_of {ns : List Int} (h : ns.length = 2) : ∃ a b, ns = [a, b] := by
  match ns, h with
  | [a, b], _ => exact ⟨a, b, rfl⟩
theorem ints_mem {v : V} {ns : List Int} (h : v ∈ ns.map V.int) : ∃ i ∈ ns, v = .int i := by
  obtain ⟨i, hi, e⟩ := List.mem_map.mp h
  exact ⟨i, hi, e.symm⟩
theorem ne_box {H : Hp} {b p : Addr} {n : Nat} (h : BoxAt H b n) (z : H p = none) : p ≠ b := (h.ne z).symm
end
end Sh

namespace Sh
open PySem PySem.Spec PyProof.Rows L2
/-! ### what many laws ask -/
/-- a sea (list or tuple) is handed in -/
def SeaA (K : PySem.W.Frag) (H : Hp) (v : V) (h t : Int) (ds : List Int) : Prop := ∃ p q, v = .ref p ∧ SqA K H p [.int h, .int t, .ref q] ∧ SqA K H q (ds.map V.int)
theorem SeaA.same {K : PySem.W.Frag} {H H' : Hp} {v : V} {h t : Int} {ds : List Int} (s : SeaA K H v h t ds) (e : Same H H') : SeaA K H' v h t ds := let ⟨p, q, a, b, c⟩ := s; ⟨p, q, a, Same.sqA e b, Same.sqA e c⟩
theorem lay_ints : ∀ ns : List Int, PyData.canLayAll0 (ns.map .int) = true ∧ PyData.depthAll (ns.map .int) = 0
  | [] => ⟨rfl, rfl⟩
  | n :: ns => by
    obtain ⟨a, b⟩ := lay_ints ns
    constructor
    · show (PyData.canLay0 (.int n) && PyData.canLayAll0 (ns.map .int)) = true
      rw [a]
      rfl
    · show max (PyData.depth (.int n)) (PyData.depthAll (ns.map .int)) = 0
      rw [b]
      rfl
theorem shaped_ints (ns : List Int) : SeqAt.shaped (.list (ns.map .int)) = true := by
  obtain ⟨a, b⟩ := lay_ints ns
  unfold SeqAt.shaped
  rw [show PyData.canLay0 (.list (ns.map .int)) = PyData.canLayAll0 (ns.map .int) from rfl, show PyData.depth (.list (ns.map .int)) = PyData.depthAll (ns.map .int) + 1 from rfl, a, b]
  rfl
theorem flat_ints (ns : List Int) : (ns.map V.int).all flatV = true := by
  rw [List.all_map]
  exact List.all_eq_true.mpr fun _ _ => rfl
theorem same_over {H H1 : Hp} {p : Addr} {o : HO} (s : Same H H1) (n : H p = none) : Same H (upd H1 p o) := fun a x e => by
  rw [upd_ne (ne_of_none e n)]
  exact s _ _ e
end Sh

namespace Sh
open PySem PySem.Spec PyProof.Rows L2
/-! ### standings as lists of ships -/
def ni (L : List Nat) : List V := L.map fun (i : Nat) => V.int (i : Int)
theorem ni_len (L : List Nat) : (ni L).length = L.length := by unfold ni; simp
theorem ni_get {L : List Nat} {i : Nat} (h : i < L.length) : (ni L)[i]? = some (.int ((L[i] : Nat) : Int)) := by unfold ni; simp [h]
theorem ni_app (L M : List Nat) : ni (L ++ M) = ni L ++ ni M := by unfold ni; simp
theorem ni_ints (L : List Nat) : ni L = (L.map fun (i : Nat) => (i : Int)).map V.int := by unfold ni; simp
theorem ni_flat (L : List Nat) : (ni L).all flatV = true := by unfold ni; rw [List.all_map]; exact List.all_eq_true.mpr fun _ _ => rfl
/-- a rising lot of ships below c -/
structure Lot (c : Nat) (L : List Nat) : Prop where
  up : L.Pairwise (· < ·)
  lt : ∀ i ∈ L, i < c
theorem up_len : ∀ {L : List Nat} {lo c : Nat}, L.Pairwise (· < ·) → (∀ i ∈ L, lo ≤ i ∧ i < c) → L.length ≤ c - lo
  | [], _, _, _, _ => Nat.zero_le _
  | a :: r, lo, c, h, hb => by
    obtain ⟨h1, h2⟩ := List.pairwise_cons.mp h
    have ha := hb a List.mem_cons_self
    have := up_len (lo := a + 1) (c := c) h2 fun i hi => ⟨h1 i hi, (hb i (List.mem_cons_of_mem _ hi)).2⟩
    rw [List.length_cons]
    omega
theorem Lot.len {c : Nat} {L : List Nat} (h : Lot c L) : L.length ≤ c := up_len (lo := 0) h.up fun i hi => ⟨Nat.zero_le _, h.lt i hi⟩
theorem Lot.nil (c : Nat) : Lot c [] := ⟨.nil, fun _ h => by cases h⟩
theorem Lot.all (c : Nat) : Lot c (List.range c) := ⟨List.pairwise_lt_range, fun _ h => List.mem_range.mp h⟩
theorem Lot.filter {c : Nat} {L : List Nat} (h : Lot c L) (p : Nat → Bool) : Lot c (L.filter p) := ⟨h.up.filter p, fun i hi => h.lt i (List.mem_filter.mp hi).1⟩
theorem rgV_ni (n : Nat) : rgV 0 (n : Int) = ni (List.range n) := by
  unfold rgV ni
  rw [show ((n : Int) - 0).toNat = n by omega]
  refine List.map_congr_left fun i _ => ?_
  rw [Int.zero_add]
theorem dp_ni {K : PySem.W.Frag} {H : Hp} {a : Addr} {L : List Nat} (h : H a = some (.lst (ni L))) : Dp K H (.ref a) (.list ((L.map fun (i : Nat) => (i : Int)).map .int)) := by
  rw [ni_ints] at h
  exact .lst (SqL.of h) (DpAll.ints _)
end Sh

namespace Sh
open PySem PySem.Spec PyProof.Rows L2
/-! ### who may go -/
/-- how many others lie here -/
def near (L : List Nat) (i : Nat) : Nat := (L.filter fun j => !decide (j = i)).length
def mayB (h t : Int) (ds : List Int) (L : List Nat) (i : Nat) : Bool := decide (ds.getD i 0 ≤ h + (near L i : Int)) && decide (ds.getD i 0 ≤ t + (ds.length : Int) - 1 - (near L i : Int))
def lets (h t : Int) (ds : List Int) (L : List Nat) (n : Nat) : List Nat := (List.range n).filter (mayB h t ds L)
theorem filter_succ (p : Nat → Bool) (n : Nat) : (List.range (n + 1)).filter p = (List.range n).filter p ++ (if p n = true then [n] else []) := by
  rw [List.range_succ, List.filter_append]
  congr 1
  by_cases h : p n = true
  · rw [if_pos h, List.filter_cons_of_pos h]
    rfl
  · rw [if_neg h, List.filter_cons_of_neg h]
    rfl
theorem filter_len (p : Nat → Bool) (n : Nat) : ((List.range n).filter p).length ≤ n := Nat.le_trans (List.length_filter_le _ _) (by simp)
theorem take_succ_get {α : Type} {L : List α} {i : Nat} (h : i < L.length) : L.take (i + 1) = L.take i ++ [L[i]] := by rw [List.take_add_one, List.getElem?_eq_getElem h]; rfl
/-- a standing is handed in -/
def LotA (K : PySem.W.Frag) (H : Hp) (v : V) (L : List Nat) : Prop := ∃ p, v = .ref p ∧ SqA K H p (ni L)
theorem LotA.same {K : PySem.W.Frag} {H H' : Hp} {v : V} {L : List Nat} (s : LotA K H v L) (e : Same H H') : LotA K H' v L := let ⟨p, a, b⟩ := s; ⟨p, a, Same.sqA e b⟩
end Sh

namespace Sh
open PySem PySem.Spec PyProof.Rows L2
/-! ### who is afloat -/
theorem Lot.mem_eq {c : Nat} {L : List Nat} (h : Lot c L) : L = (List.range c).filter fun j => decide (j ∈ L) := by
  have h2 : Lot c ((List.range c).filter fun j => decide (j ∈ L)) := (Lot.all c).filter _
  refine List.Perm.eq_of_pairwise (le := (· < ·)) (fun a b _ _ h1 h2 => absurd (Nat.lt_trans h1 h2) (Nat.lt_irrefl _)) h.up h2.up ?_
  refine (List.perm_ext_iff_of_nodup (h.up.imp Nat.ne_of_lt) (h2.up.imp Nat.ne_of_lt)).mpr fun a => ?_
  rw [List.mem_filter, List.mem_range, decide_eq_true_eq]
  exact ⟨fun q => ⟨h.lt a q, q⟩, fun q => q.2⟩
theorem filter_filter_len (p q : Nat → Bool) : ∀ l : List Nat, (l.filter p).length = (l.filter fun j => p j && q j).length + (l.filter fun j => p j && !q j).length
  | [] => rfl
  | a :: l => by
    have ih := filter_filter_len p q l
    cases hp : p a <;> cases hq : q a <;> simp [List.filter_cons, hp, hq, ih] <;> omega
/-- how many mates: here, or there -/
def mates (c : Nat) (L : List Nat) (i : Nat) : List Nat := (List.range c).filter fun j => !decide (j = i) && (decide (j ∈ L) == decide (i ∈ L))
theorem near_in {c : Nat} {L : List Nat} (h : Lot c L) (i : Nat) : near L i = ((List.range c).filter fun j => decide (j ∈ L) && !decide (j = i)).length := by
  unfold near
  conv => lhs; rw [h.mem_eq]
  rw [List.filter_filter]
  congr 1
  refine List.filter_congr fun a _ => ?_
  cases decide (a ∈ L) <;> cases decide (a = i) <;> rfl
theorem mates_here {c : Nat} {L : List Nat} (h : Lot c L) {i : Nat} (hi : i ∈ L) : (mates c L i).length = near L i := by
  rw [near_in h, mates]
  congr 1
  refine List.filter_congr fun a _ => ?_
  rw [decide_eq_true hi]
  cases decide (a ∈ L) <;> cases decide (a = i) <;> rfl
theorem one_of {c i : Nat} (hi : i < c) : ((List.range c).filter fun j => decide (j = i)).length = 1 := by
  have e : ((List.range c).filter fun j => decide (j = i)) = [i] := by
    refine List.Perm.eq_of_pairwise (le := (· < ·)) (fun a b _ _ h1 h2 => absurd (Nat.lt_trans h1 h2) (Nat.lt_irrefl _)) (List.pairwise_lt_range.filter _) (List.pairwise_singleton _ _) ?_
    refine (List.perm_ext_iff_of_nodup ((List.pairwise_lt_range.filter _).imp Nat.ne_of_lt) (by simp)).mpr fun a => ?_
    rw [List.mem_filter, List.mem_range, decide_eq_true_eq, List.mem_singleton]
    exact ⟨fun q => q.2, fun q => ⟨q ▸ hi, q⟩⟩
  rw [e]
  rfl
theorem mates_there {c : Nat} {L : List Nat} (h : Lot c L) {i : Nat} (hc : i < c) (hi : i ∉ L) : ((mates c L i).length : Int) = (c : Int) - 1 - (near L i : Int) := by
  have e1 := filter_filter_len (fun j => !decide (j = i)) (fun j => decide (j ∈ L)) (List.range c)
  have e2 := filter_filter_len (fun _ => true) (fun j => decide (j = i)) (List.range c)
  have e3 : ((List.range c).filter fun j => true && decide (j = i)).length = 1 := one_of hc
  have e4 : ((List.range c).filter fun _ => true).length = c := by rw [List.filter_eq_self.mpr fun _ _ => rfl, List.length_range]
  have e5 : ((List.range c).filter fun j => !decide (j = i) && decide (j ∈ L)).length = near L i := by
    rw [near_in h]
    congr 1
    exact List.filter_congr fun a _ => Bool.and_comm _ _
  have e6 : ((List.range c).filter fun j => !decide (j = i) && !decide (j ∈ L)).length = (mates c L i).length := by
    unfold mates
    congr 1
    refine List.filter_congr fun a _ => ?_
    rw [decide_eq_false hi]
    cases decide (a ∈ L) <;> cases decide (a = i) <;> rfl
  have e7 : ((List.range c).filter fun j => true && !decide (j = i)).length = ((List.range c).filter fun j => !decide (j = i)).length := rfl
  rw [e5, e6] at e1
  rw [e3, e4, e7] at e2
  omega
/-- afloat where it lies -/
def aflB (h t : Int) (ds : List Int) (L : List Nat) (i : Nat) : Bool := if i ∈ L then decide (ds.getD i 0 ≤ h + (near L i : Int)) else decide (ds.getD i 0 ≤ t + ((ds.length : Int) - 1 - (near L i : Int)))
def afl (h t : Int) (ds : List Int) (L : List Nat) (n : Nat) : List Nat := (List.range n).filter (aflB h t ds L)
theorem aflB_mates {h t : Int} {ds : List Int} {L : List Nat} {i : Nat} (hL : Lot ds.length L) (hi : i < ds.length) :
    aflB h t ds L i = decide (ds.getD i 0 ≤ (if i ∈ L then h else t) + ((mates ds.length L i).length : Int)) := by
  unfold aflB
  by_cases z : i ∈ L
  · rw [if_pos z, if_pos z, mates_here hL z]
  · rw [if_neg z, if_neg z, mates_there hL hi z]
theorem in_ni {i : Nat} {L : List Nat} : inV (.int (i : Int)) (ni L) = decide (i ∈ L) := by
  unfold inV ni
  rw [List.any_map, Bool.eq_iff_iff, List.any_eq_true, decide_eq_true_eq]
  constructor
  · rintro ⟨x, hx, e⟩
    have e' : ((x : Int) == (i : Int)) = true := e
    have : x = i := by have := beq_iff_eq.mp e'; omega
    rw [← this]
    exact hx
  · intro hx
    exact ⟨i, hx, beq_self_eq_true (i : Int)⟩
def spAfl (K : PySem.W.Frag) : Sp := fun vs H Q _ => ∃ (v l : V) (h t : Int) (ds : List Int) (L : List Nat), vs = [v, l] ∧ SeaA K H v h t ds ∧ LotA K H l L ∧ ds.length ≤ 1000 ∧ Lot ds.length L ∧
  ∀ (H' : Hp) (p : Addr), Same H H' → H p = none → H' p = some (.lst (ni (afl h t ds L ds.length))) → Q (.ref p) H'
/-- the same of who may go: of a standing -/
def spMay (K : PySem.W.Frag) : Sp := fun vs H Q _ => ∃ (v l : V) (h t : Int) (ds : List Int) (L : List Nat), vs = [v, l] ∧ SeaA K H v h t ds ∧ LotA K H l L ∧ ds.length ≤ 1000 ∧ Lot ds.length L ∧
  ∀ (H' : Hp) (p : Addr), Same H H' → H p = none → H' p = some (.lst (ni (lets h t ds L ds.length))) → Q (.ref p) H'
end Sh

namespace Sh
open PySem PySem.Spec PyProof.Rows L2
theorem eqv_nil (ns : List Int) : PyData.eqv (.list (ns.map .int)) (.list []) = ns.isEmpty := by cases ns <;> rfl
end Sh

namespace Sh
open PySem PySem.Spec PyProof.Rows L2
/-! ### the program: steps -/
def mk (h t : Int) (k : Nat) (s : Int) : Int := if t + ((k : Int) - 1 - s) < h + s then t + ((k : Int) - 1 - s) else h + s
def gs (m : Int) (ds : List Int) (n : Nat) : List Nat := (List.range n).filter fun i => decide (ds.getD i 0 ≤ m)
def topI (h t : Int) (k : Nat) : Int := if (if (t + ((k : Int) - 1) - h) / 2 < (k : Int) - 1 then (t + ((k : Int) - 1) - h) / 2 else (k : Int) - 1) > 0 then (if (t + ((k : Int) - 1) - h) / 2 < (k : Int) - 1 then (t + ((k : Int) - 1) - h) / 2 else (k : Int) - 1) else 0
def lowI (h d : Int) : Int := if d - h > 0 then d - h else 0
def highI (t : Int) (k : Nat) (d : Int) : Int := if t + ((k : Int) - 1) - d < (k : Int) - 1 then t + ((k : Int) - 1) - d else (k : Int) - 1
def spMark (K : PySem.W.Frag) : Sp := fun vs H Q _ => ∃ (v : V) (h t s : Int) (ds : List Int), vs = [v, .int s] ∧ SeaA K H v h t ds ∧ Q (.int (mk h t ds.length s)) H
def spGoers (K : PySem.W.Frag) : Sp := fun vs H Q _ => ∃ (v : V) (h t s : Int) (ds : List Int), vs = [v, .int s] ∧ SeaA K H v h t ds ∧ ds.length ≤ 1000 ∧
  ∀ (H' : Hp) (p : Addr), Same H H' → H p = none → H' p = some (.lst (((gs (mk h t ds.length s) ds ds.length).map fun (i : Nat) => (i : Int)).map V.int)) → Q (.ref p) H'
def spTop (K : PySem.W.Frag) : Sp := fun vs H Q _ => ∃ (v : V) (h t : Int) (ds : List Int), vs = [v] ∧ SeaA K H v h t ds ∧ Q (.int (topI h t ds.length)) H
def spWindow (K : PySem.W.Frag) : Sp := fun vs H Q _ => ∃ (v : V) (h t d : Int) (j : Nat) (ds : List Int), vs = [v, .int (j : Int)] ∧ SeaA K H v h t ds ∧ ds[j]? = some d ∧
  (lowI h d > highI t ds.length d → Q .non H) ∧ (¬ lowI h d > highI t ds.length d → ∀ p, H p = none → Q (.ref p) (upd H p (.tup [.int (lowI h d), .int (highI t ds.length d)])))
theorem gs_succ {m : Int} {ds : List Int} {n : Nat} : gs m ds (n + 1) = gs m ds n ++ (if ds.getD n 0 ≤ m then [n] else []) := by
  unfold gs
  rw [List.range_succ, List.filter_append]
  congr 1
  by_cases h : ds.getD n 0 ≤ m
  · rw [if_pos h, List.filter_cons_of_pos (by simpa using h)]
    rfl
  · rw [if_neg h, List.filter_cons_of_neg (by simpa using h)]
    rfl
theorem gs_len {m : Int} {ds : List Int} {n : Nat} : (gs m ds n).length ≤ n := by
  unfold gs
  exact Nat.le_trans (List.length_filter_le _ _) (by simp)
theorem mk_alt (h t : Int) (k : Nat) (s : Int) : (if t + (k : Int) - 1 - s < h + s then t + (k : Int) - 1 - s else h + s) = mk h t k s := by
  unfold mk
  rw [show t + (k : Int) - 1 - s = t + ((k : Int) - 1 - s) by omega]
end Sh

namespace Sh
open PySem PySem.Spec PyProof.Rows L2
/-! ### steps: the mathematics -/
def ml (h t : Int) (k n : Nat) : List Int := (List.range n).map fun (i : Nat) => mk h t k (i : Int)
theorem ml_succ (h t : Int) (k n : Nat) : ml h t k (n + 1) = ml h t k n ++ [mk h t k (n : Int)] := by
  unfold ml
  rw [List.range_succ, List.map_append]
  rfl
theorem ml_len (h t : Int) (k n : Nat) : (ml h t k n).length = n := by
  unfold ml
  simp
theorem ml_get {h t : Int} {k n i : Nat} (hi : i < n) : (ml h t k n)[i]? = some (mk h t k (i : Int)) := by
  unfold ml
  simp [hi]
theorem top_lo (h t : Int) (k : Nat) : 0 ≤ topI h t k := by
  unfold topI
  split <;> omega
theorem top_hi (h t : Int) {k : Nat} (hk : 0 < k) : topI h t k < (k : Int) := by
  unfold topI
  repeat' split
  all_goals omega
theorem top_max (h t : Int) {k i : Nat} (hi : i < k) : mk h t k (i : Int) ≤ mk h t k (topI h t k) := by
  unfold mk topI
  repeat' split
  all_goals omega
theorem top_least (h t : Int) {k i : Nat} (hi : (i : Int) < topI h t k) : mk h t k (i : Int) < mk h t k (topI h t k) := by
  unfold mk topI at *
  repeat' split
  all_goals (repeat' split at hi)
  all_goals omega
theorem win_iff (h t d : Int) {k i : Nat} (hi : i < k) : d ≤ mk h t k (i : Int) ↔ lowI h d ≤ (i : Int) ∧ (i : Int) ≤ highI t k d := by
  unfold mk lowI highI
  constructor
  · intro z
    split at z <;> (constructor <;> split <;> omega)
  · intro z
    split <;> (obtain ⟨z1, z2⟩ := z; split at z1 <;> split at z2 <;> omega)
/-- the steps at which it may go -/
def fl (h t d : Int) (k n : Nat) : List Nat := (List.range n).filter fun (i : Nat) => decide (d ≤ mk h t k (i : Int))
theorem fl_succ {h t d : Int} {k n : Nat} : fl h t d k (n + 1) = fl h t d k n ++ (if d ≤ mk h t k (n : Int) then [n] else []) := by
  unfold fl
  rw [List.range_succ, List.filter_append]
  congr 1
  by_cases z : d ≤ mk h t k (n : Int)
  · rw [if_pos z, List.filter_cons_of_pos (by simpa using z)]
    rfl
  · rw [if_neg z, List.filter_cons_of_neg (by simpa using z)]
    rfl
theorem fl_len {h t d : Int} {k n : Nat} : (fl h t d k n).length ≤ n := by
  unfold fl
  exact Nat.le_trans (List.length_filter_le _ _) (by simp)
theorem fl_mem {h t d : Int} {k i : Nat} : i ∈ fl h t d k k ↔ i < k ∧ lowI h d ≤ (i : Int) ∧ (i : Int) ≤ highI t k d := by
  unfold fl
  rw [List.mem_filter, List.mem_range, decide_eq_true_eq]
  constructor
  · rintro ⟨a, b⟩
    exact ⟨a, (win_iff h t d a).mp b⟩
  · rintro ⟨a, b⟩
    exact ⟨a, (win_iff h t d a).mpr b⟩
theorem fl_sorted (h t d : Int) (k : Nat) : (fl h t d k k).Pairwise (· < ·) := by
  unfold fl
  exact List.Pairwise.filter _ List.pairwise_lt_range
theorem high_lt (t d : Int) {k : Nat} (hk : 0 < k) : highI t k d < (k : Int) := by
  unfold highI
  split <;> omega
theorem low_nn (h d : Int) : 0 ≤ lowI h d := by
  unfold lowI
  split <;> omega
theorem fl_nil {h t d : Int} {k : Nat} (z : lowI h d > highI t k d) : fl h t d k k = [] := by
  cases e : fl h t d k k with
  | nil => rfl
  | cons x r =>
    have m : x ∈ fl h t d k k := by rw [e]; exact List.mem_cons_self
    obtain ⟨_, a, b⟩ := fl_mem.mp m
    omega
/-- a rising list has its least first, its greatest last -/
theorem fl_ends {h t d : Int} {k : Nat} (hk : 0 < k) (z : ¬ lowI h d > highI t k d) : ∃ (l : List Nat) (r : List Nat) (a b : Nat), fl h t d k k = a :: r ∧ fl h t d k k = l ++ [b] ∧ (a : Int) = lowI h d ∧ (b : Int) = highI t k d := by
  have hh := high_lt t d hk
  have hl := low_nn h d
  have ml' : (lowI h d).toNat ∈ fl h t d k k := fl_mem.mpr ⟨by omega, by omega, by omega⟩
  have mh : (highI t k d).toNat ∈ fl h t d k k := fl_mem.mpr ⟨by omega, by omega, by omega⟩
  have ne : fl h t d k k ≠ [] := List.ne_nil_of_mem ml'
  have st := fl_sorted h t d k
  obtain ⟨a, r, e1⟩ : ∃ a r, fl h t d k k = a :: r := by
    cases e : fl h t d k k with
    | nil => exact absurd e ne
    | cons x r => exact ⟨x, r, rfl⟩
  have e2 : fl h t d k k = (fl h t d k k).dropLast ++ [(fl h t d k k).getLast ne] := (List.dropLast_concat_getLast ne).symm
  refine ⟨_, r, a, _, e1, e2, ?_, ?_⟩
  · have ma : a ∈ fl h t d k k := by rw [e1]; exact List.mem_cons_self
    obtain ⟨_, g1, g2⟩ := fl_mem.mp ma
    have le : a ≤ (lowI h d).toNat := by
      rw [e1] at ml' st
      rcases List.mem_cons.mp ml' with q | q
      · omega
      · have := (List.pairwise_cons.mp st).1 _ q
        omega
    omega
  · have mb := List.getLast_mem ne
    obtain ⟨_, g1, g2⟩ := fl_mem.mp mb
    have le : (highI t k d).toNat ≤ (fl h t d k k).getLast ne := by
      have st2 := st
      rw [e2] at mh st2
      rcases List.mem_append.mp mh with q | q
      · have := (List.pairwise_append.mp st2).2.2 _ q _ List.mem_cons_self
        omega
      · have : (highI t k d).toNat = (fl h t d k k).getLast ne := by simpa using q
        omega
    omega
end Sh

namespace Sh
open PySem PySem.Spec PyProof.Rows L2
/-! ### sorted lists of ships -/
theorem nat_list {c : Nat} : ∀ {ns : List Int}, (∀ z ∈ ns, 0 ≤ z ∧ z < (c : Int)) → ∃ L : List Nat, ns = L.map (fun (i : Nat) => (i : Int)) ∧ ∀ i ∈ L, i < c
  | [], _ => ⟨[], rfl, fun _ h => by cases h⟩
  | z :: ns, h => by
    obtain ⟨L, e, hL⟩ := nat_list (ns := ns) fun y hy => h y (List.mem_cons_of_mem _ hy)
    have hz := h z List.mem_cons_self
    refine ⟨z.toNat :: L, ?_, fun i hi => ?_⟩
    · rw [List.map_cons, ← e]
      congr 1
      omega
    · rcases List.mem_cons.mp hi with q | q
      · omega
      · exact hL i q
theorem map_inj {L M : List Nat} (h : (L.map fun (i : Nat) => (i : Int)).Perm (M.map fun (i : Nat) => (i : Int))) : L.Perm M := by
  have h2 := h.map Int.toNat
  rw [List.map_map, List.map_map] at h2
  have e : (Int.toNat ∘ fun (i : Nat) => (i : Int)) = id := by
    funext i
    exact Int.toNat_natCast i
  rw [e, List.map_id, List.map_id] at h2
  exact h2
/-- sorted ints that are a rearrangement of different ships: a lot -/
theorem lot_sorted {c : Nat} {ns : List Int} {M : List Nat} (pm : ns.Perm (M.map fun (i : Nat) => (i : Int))) (up : ns.Pairwise (· ≤ ·)) (nd : M.Nodup) (lt : ∀ i ∈ M, i < c) :
    ∃ L : List Nat, ns = L.map (fun (i : Nat) => (i : Int)) ∧ L.Perm M ∧ Lot c L := by
  obtain ⟨L, rfl, hL⟩ := nat_list (c := c) (ns := ns) fun z hz => by
    obtain ⟨i, hi, rfl⟩ := List.mem_map.mp (pm.mem_iff.mp hz)
    have := lt i hi
    omega
  have p2 := map_inj pm
  refine ⟨L, rfl, p2, ?_, hL⟩
  have ndL : L.Nodup := p2.nodup_iff.mpr nd
  have up2 : L.Pairwise (· ≤ ·) := by
    rw [List.pairwise_map] at up
    exact up.imp fun h => by omega
  exact (up2.and ndL).imp fun h => Nat.lt_of_le_of_ne h.1 h.2
theorem cut_take (xs : List V) (l : Nat) : cutV xs none (some (l : Int)) = xs.take l := by
  unfold cutV
  rw [HT.sIx_none, HT.sIx_nat]
  show (xs.drop 0).take (min l xs.length - 0) = xs.take l
  rw [List.drop_zero, Nat.sub_zero]
  by_cases h : l ≤ xs.length
  · rw [Nat.min_eq_left h]
  · rw [Nat.min_eq_right (by omega), List.take_length, List.take_of_length_le (by omega)]
theorem near_out {L : List Nat} {i : Nat} (h : i ∉ L) : near L i = L.length := by
  unfold near
  rw [List.filter_eq_self.mpr fun a ha => ?_]
  have : ¬ a = i := fun e => h (e ▸ ha)
  simpa using this
theorem near_perm {L M : List Nat} (i : Nat) (h : L.Perm M) : near L i = near M i := (h.filter _).length_eq
theorem near_add {L : List Nat} {i : Nat} (h : i ∉ L) : near (L ++ [i]) i = L.length := by
  rw [← near_out h]
  unfold near
  rw [List.filter_append]
  simp
end Sh

namespace Th
/-! ### counting ships below k -/
def cnt (k : Nat) (S : Nat → Bool) : Nat := (List.range k).countP S
theorem cnt_zero (S : Nat → Bool) : cnt 0 S = 0 := rfl
theorem cnt_succ (k : Nat) (S : Nat → Bool) : cnt (k + 1) S = cnt k S + (if S k = true then 1 else 0) := by
  unfold cnt
  rw [List.range_succ, List.countP_append]
  congr 1
  cases h : S k <;> simp [h]
theorem cnt_le (k : Nat) (S : Nat → Bool) : cnt k S ≤ k := by
  induction k with
  | zero => exact Nat.le_refl _
  | succ k ih => rw [cnt_succ]; split <;> omega
theorem cnt_congr {k : Nat} {S U : Nat → Bool} (h : ∀ i, i < k → S i = U i) : cnt k S = cnt k U := by
  induction k with
  | zero => rfl
  | succ k ih => rw [cnt_succ, cnt_succ, ih fun i hi => h i (by omega), h k (by omega)]
theorem cnt_mono {k : Nat} {S U : Nat → Bool} (h : ∀ i, i < k → S i = true → U i = true) : cnt k S ≤ cnt k U := by
  induction k with
  | zero => exact Nat.le_refl _
  | succ k ih =>
    have := ih fun i hi => h i (by omega)
    rw [cnt_succ, cnt_succ]
    by_cases e : S k = true
    · rw [if_pos e, if_pos (h k (by omega) e)]
      omega
    · rw [if_neg e]
      omega
/-- as many, and all of the one among the other: the same -/
theorem cnt_eq {k : Nat} {S U : Nat → Bool} (h : ∀ i, i < k → S i = true → U i = true) (e : cnt k U ≤ cnt k S) : ∀ i, i < k → U i = true → S i = true := by
  induction k with
  | zero => intro i hi; omega
  | succ k ih =>
    have hm := cnt_mono (k := k) fun i hi => h i (by omega)
    rw [cnt_succ, cnt_succ] at e
    intro i hi hu
    by_cases ek : S k = true
    · have uk := h k (by omega) ek
      rw [if_pos ek, if_pos uk] at e
      by_cases z : i = k
      · rw [z]; exact ek
      · exact ih (fun i hi => h i (by omega)) (by omega) i (by omega) hu
    · rw [if_neg ek] at e
      by_cases uk : U k = true
      · rw [if_pos uk] at e
        omega
      · rw [if_neg uk] at e
        by_cases z : i = k
        · rw [z] at hu; exact absurd hu uk
        · exact ih (fun i hi => h i (by omega)) (by omega) i (by omega) hu
theorem cnt_ex {k : Nat} {S U : Nat → Bool} (e : cnt k S < cnt k U) : ∃ i, i < k ∧ U i = true ∧ S i = false := by
  induction k with
  | zero => rw [cnt_zero, cnt_zero] at e; omega
  | succ k ih =>
    rw [cnt_succ, cnt_succ] at e
    by_cases uk : U k = true
    · by_cases sk : S k = true
      · rw [if_pos uk, if_pos sk] at e
        obtain ⟨i, h1, h2⟩ := ih (by omega)
        exact ⟨i, by omega, h2⟩
      · exact ⟨k, by omega, uk, by simpa using sk⟩
    · rw [if_neg uk] at e
      obtain ⟨i, h1, h2⟩ := ih (by omega)
      exact ⟨i, by omega, h2⟩
theorem cnt_pos_ex {k : Nat} {S : Nat → Bool} (e : 0 < cnt k S) : ∃ i, i < k ∧ S i = true := by
  induction k with
  | zero => rw [cnt_zero] at e; omega
  | succ k ih =>
    by_cases sk : S k = true
    · exact ⟨k, by omega, sk⟩
    · rw [cnt_succ, if_neg sk] at e
      obtain ⟨i, h1, h2⟩ := ih (by omega)
      exact ⟨i, by omega, h2⟩
def flip (S : Nat → Bool) (i : Nat) : Nat → Bool := fun j => if j = i then !S j else S j
theorem flip_self (S : Nat → Bool) (i : Nat) : flip S i i = !S i := by unfold flip; rw [if_pos rfl]
theorem flip_ne (S : Nat → Bool) {i j : Nat} (h : j ≠ i) : flip S i j = S j := by unfold flip; rw [if_neg h]
theorem flip_flip (S : Nat → Bool) (i : Nat) : flip (flip S i) i = S := by
  funext j
  by_cases h : j = i
  · subst h
    rw [flip_self, flip_self, Bool.not_not]
  · rw [flip_ne _ h, flip_ne _ h]
theorem cnt_flip_up {k : Nat} {S : Nat → Bool} {i : Nat} (hi : i < k) (h : S i = false) : cnt k (flip S i) = cnt k S + 1 := by
  induction k with
  | zero => omega
  | succ k ih =>
    rw [cnt_succ, cnt_succ]
    by_cases z : i = k
    · subst z
      rw [flip_self, h]
      rw [cnt_congr (k := i) (S := flip S i) (U := S) fun j hj => flip_ne S (by omega)]
      simp
    · rw [ih (by omega), flip_ne S (show k ≠ i by omega)]
      omega
theorem cnt_flip_dn {k : Nat} {S : Nat → Bool} {i : Nat} (hi : i < k) (h : S i = true) : cnt k (flip S i) + 1 = cnt k S := by
  have e : flip S i i = false := by rw [flip_self, h]; rfl
  have := cnt_flip_up hi e
  rw [flip_flip] at this
  omega
theorem cnt_pos {k : Nat} {S : Nat → Bool} {i : Nat} (hi : i < k) (h : S i = true) : 0 < cnt k S := by
  have := cnt_flip_dn hi h
  omega
theorem cnt_or_not {k : Nat} (S U : Nat → Bool) : cnt k (fun i => S i || U i) = cnt k S + cnt k (fun i => U i && !S i) := by
  induction k with
  | zero => rfl
  | succ k ih =>
    rw [cnt_succ, cnt_succ, cnt_succ, ih]
    cases S k <;> cases U k <;> simp <;> omega
theorem cnt_split {k : Nat} (S U : Nat → Bool) : cnt k S = cnt k (fun i => S i && U i) + cnt k (fun i => S i && !U i) := by
  induction k with
  | zero => rfl
  | succ k ih =>
    rw [cnt_succ, cnt_succ, cnt_succ, ih]
    cases S k <;> cases U k <;> simp <;> omega
theorem cnt_not {k : Nat} (S : Nat → Bool) : cnt k S + cnt k (fun i => !S i) = k := by
  induction k with
  | zero => rfl
  | succ k ih =>
    rw [cnt_succ, cnt_succ]
    cases S k <;> simp <;> omega

/-! ### crossings -/
section
variable (k : Nat) (G : Nat → Nat → Bool)
inductive Step : (Nat → Bool) → (Nat → Bool) → Prop
  | up {S : Nat → Bool} {i : Nat} (hi : i < k) (hs : S i = false) (hg : G (cnt k S) i = true) : Step S (flip S i)
  | dn {S : Nat → Bool} {i : Nat} (hi : i < k) (hs : S i = true) (hg : G (cnt k S - 1) i = true) : Step S (flip S i)
inductive Reach : (Nat → Bool) → (Nat → Bool) → Prop
  | refl (S : Nat → Bool) : Reach S S
  | step {S U W : Nat → Bool} : Reach S U → Step k G U W → Reach S W
end
section
variable {k : Nat} {G : Nat → Nat → Bool} {S U W : Nat → Bool}
theorem Step.symm (h : Step k G S U) : Step k G U S := by
  cases h with
  | @up i hi hs hg =>
    have e : Step k G (flip S i) (flip (flip S i) i) := .dn hi (by rw [flip_self, hs]; rfl) (by rw [cnt_flip_up hi hs, Nat.add_sub_cancel]; exact hg)
    rwa [flip_flip] at e
  | @dn i hi hs hg =>
    have e : Step k G (flip S i) (flip (flip S i) i) := .up hi (by rw [flip_self, hs]; rfl) (by have := cnt_flip_dn hi hs; rw [show cnt k (flip S i) = cnt k S - 1 by omega]; exact hg)
    rwa [flip_flip] at e
theorem Reach.trans (a : Reach k G S U) (b : Reach k G U W) : Reach k G S W := by
  induction b with
  | refl => exact a
  | step _ s ih => exact .step ih s
theorem Reach.one (s : Step k G S U) : Reach k G S U := .step (.refl _) s
theorem Reach.symm (a : Reach k G S U) : Reach k G U S := by
  induction a with
  | refl => exact .refl _
  | step _ s ih => exact (Reach.one s.symm).trans ih
/-- whatever every crossing keeps -/
theorem Reach.inv {P : (Nat → Bool) → Prop} (hp : ∀ S U, P S → Step k G S U → P U) (a : Reach k G S U) (h : P S) : P U := by
  induction a with
  | refl => exact h
  | step _ s ih => exact hp _ _ ih s
/-! ### filled from below -/
/-- between a and b goers grow -/
def Grow (G : Nat → Nat → Bool) (b : Nat) : Prop := ∀ s s' i, s ≤ s' → s' ≤ b → G s i = true → G s' i = true
/-- S can be filled to N, if at each number on the way somebody lacks -/
theorem fill {T : Nat} (gr : Grow G T) (N : Nat) (hN : N ≤ T + 1) (h0 : cnt k S ≤ N) (hl : ∀ n, cnt k S ≤ n → n < N → n < cnt k (fun i => S i || G n i)) :
    ∃ U, Reach k G S U ∧ cnt k U = N ∧ (∀ i, S i = true → U i = true) ∧ ∀ i, i < k → U i = true → S i = true ∨ (0 < N ∧ G (N - 1) i = true) := by
  induction N with
  | zero => exact ⟨S, .refl _, by omega, fun _ h => h, fun _ _ h => .inl h⟩
  | succ N ih =>
    by_cases e : cnt k S = N + 1
    · exact ⟨S, .refl _, e, fun _ h => h, fun _ _ h => .inl h⟩
    · obtain ⟨U, r, c, h1, h2⟩ := ih (by omega) (by omega) fun n a b => hl n a (by omega)
      have hlt := hl N (by omega) (by omega)
      obtain ⟨i, hi, g, u⟩ := cnt_ex (k := k) (S := U) (U := fun i => S i || G N i) (by omega)
      have gi : G N i = true := by
        cases hs : S i with
        | true => rw [h1 i hs] at u; cases u
        | false => rw [hs] at g; exact g
      refine ⟨flip U i, r.step (.up hi u (by rw [c]; exact gi)), by rw [cnt_flip_up hi u, c], fun j hj => ?_, fun j hj hf => ?_⟩
      · by_cases z : j = i
        · subst z
          rw [h1 j hj] at u
          cases u
        · rw [flip_ne _ z]
          exact h1 j hj
      · by_cases z : j = i
        · exact .inr ⟨by omega, by rw [z]; exact gi⟩
        · rw [flip_ne _ z] at hf
          rcases h2 j hj hf with q | ⟨q, g2⟩
          · exact .inl q
          · exact .inr ⟨by omega, gr _ _ _ (by omega) (by omega) g2⟩
/-- stuck at N: the fullest one is S with all goers at N -/
theorem stuck {T N : Nat} (gr : Grow G T) (hN : N ≤ T) (h0 : cnt k S ≤ N) (hl : ∀ n, cnt k S ≤ n → n < N → n < cnt k (fun i => S i || G n i)) (hs : cnt k (fun i => S i || G N i) ≤ N) :
    ∃ U, Reach k G S U ∧ cnt k U = N ∧ ∀ i, i < k → U i = (S i || G N i) := by
  obtain ⟨U, r, c, h1, h2⟩ := fill gr N (by omega) h0 hl
  have hm : ∀ i, i < k → U i = true → (S i || G N i) = true := fun i hi hu => by
    rcases h2 i hi hu with q | ⟨_, q⟩
    · rw [q]; rfl
    · rw [gr _ _ _ (by omega) hN q, Bool.or_true]
  have he := cnt_eq (k := k) (S := U) (U := fun i => S i || G N i) hm (by omega)
  refine ⟨U, r, c, fun i hi => ?_⟩
  cases hu : U i with
  | true => exact (hm i hi hu).symm
  | false =>
    cases hq : (S i || G N i) with
    | false => rfl
    | true => rw [he i hi hq] at hu; cases hu
/-- under a low bar at N nobody gets out -/
theorem low_inv {T N : Nat} (gr : Grow G T) (hN : N ≤ T) {F : Nat → Bool} (hF : cnt k F = N) (hG : ∀ i, i < k → G N i = true → F i = true) :
    ∀ S U, (cnt k S ≤ N ∧ ∀ i, i < k → (S i || G N i) = F i) → Step k G S U → (cnt k U ≤ N ∧ ∀ i, i < k → (U i || G N i) = F i) := by
  rintro S U ⟨c, h⟩ s
  have sub : ∀ i, i < k → S i = true → F i = true := fun i hi hs => by rw [← h i hi, hs]; rfl
  cases s with
  | @up i hi hs hg =>
    by_cases z : cnt k S = N
    · exfalso
      rw [z] at hg
      have := cnt_eq sub (by omega) i hi (hG i hi hg)
      rw [hs] at this
      cases this
    · refine ⟨by rw [cnt_flip_up hi hs]; omega, fun j hj => ?_⟩
      by_cases e : j = i
      · subst e
        have gN := gr _ _ _ (by omega) hN hg
        rw [gN, Bool.or_true, hG j hj gN]
      · rw [flip_ne _ e]
        exact h j hj
  | @dn i hi hs hg =>
    have := cnt_flip_dn hi hs
    refine ⟨by omega, fun j hj => ?_⟩
    by_cases e : j = i
    · subst e
      have gN := gr _ _ _ (by omega) hN hg
      rw [gN, Bool.or_true, hG j hj gN]
    · rw [flip_ne _ e]
      exact h j hj
end
end Th
namespace Th
section
variable {k : Nat} {G : Nat → Nat → Bool} {S U W : Nat → Bool}
/-! ### met from the other basin -/
def co (S : Nat → Bool) : Nat → Bool := fun i => !S i
def dual (k : Nat) (G : Nat → Nat → Bool) : Nat → Nat → Bool := fun s i => G (k - 1 - s) i
theorem co_co (S : Nat → Bool) : co (co S) = S := by funext i; exact Bool.not_not _
theorem cnt_co (k : Nat) (S : Nat → Bool) : cnt k S + cnt k (co S) = k := cnt_not S
theorem flip_co (S : Nat → Bool) (i : Nat) : flip (co S) i = co (flip S i) := by
  funext j
  unfold co flip
  split <;> rfl
theorem Step.dual (h : Step k G S U) : Step k (dual k G) (co S) (co U) := by
  cases h with
  | @up i hi hs hg =>
    rw [← flip_co]
    have c1 := cnt_co k S
    have c2 := cnt_le k (flip S i)
    rw [cnt_flip_up hi hs] at c2
    refine .dn hi (by unfold co; rw [hs]; rfl) ?_
    unfold Th.dual
    rw [show k - 1 - (cnt k (co S) - 1) = cnt k S by omega]
    exact hg
  | @dn i hi hs hg =>
    rw [← flip_co]
    have c1 := cnt_co k S
    have c2 := cnt_pos hi hs
    refine .up hi (by unfold co; rw [hs]; rfl) ?_
    unfold Th.dual
    rw [show k - 1 - cnt k (co S) = cnt k S - 1 by omega]
    exact hg
theorem dual_dual_at {s : Nat} (hs : s < k) (i : Nat) : Th.dual k (Th.dual k G) s i = G s i := by
  unfold Th.dual
  rw [show k - 1 - (k - 1 - s) = s by omega]
theorem Reach.dual (h : Reach k G S U) : Reach k (Th.dual k G) (co S) (co U) := by
  induction h with
  | refl => exact .refl _
  | step _ s ih => exact .step ih s.dual
theorem Step.congr {G' : Nat → Nat → Bool} (hg : ∀ s i, s < k → G s i = G' s i) (h : Step k G S U) : Step k G' S U := by
  cases h with
  | @up i hi hs g =>
    have := cnt_le k (flip S i)
    rw [cnt_flip_up hi hs] at this
    exact .up hi hs (by rw [← hg _ _ (by omega)]; exact g)
  | @dn i hi hs g =>
    have := cnt_le k S
    have := cnt_pos hi hs
    exact .dn hi hs (by rw [← hg _ _ (by omega)]; exact g)
theorem Reach.congr {G' : Nat → Nat → Bool} (hg : ∀ s i, s < k → G s i = G' s i) (h : Reach k G S U) : Reach k G' S U := by
  induction h with
  | refl => exact .refl _
  | step _ s ih => exact .step ih (s.congr hg)
theorem Reach.codual (h : Reach k (Th.dual k G) (co S) (co U)) : Reach k G S U := by
  have h2 := h.dual
  rw [co_co, co_co] at h2
  exact h2.congr fun s i hs => dual_dual_at hs i
/-! ### at the top -/
structure Top (k : Nat) (G : Nat → Nat → Bool) (T : Nat) : Prop where
  lt : T < k
  up : Grow G T
  dn : ∀ s s' i, T ≤ s → s ≤ s' → s' < k → G s' i = true → G s i = true
theorem Top.all {T : Nat} (t : Top k G T) {s i : Nat} (hs : s < k) (h : G s i = true) : G T i = true := by
  by_cases z : s ≤ T
  · exact t.up s T i z (Nat.le_refl _) h
  · exact t.dn T s i (Nat.le_refl _) (by omega) hs h
theorem Top.dual {T : Nat} (t : Top k G T) : Top k (Th.dual k G) (k - 1 - T) := by
  have := t.lt
  refine ⟨by omega, fun s s' i a b g => ?_, fun s s' i a b c g => ?_⟩
  · exact t.dn (k - 1 - s') (k - 1 - s) i (by omega) (by omega) (by omega) g
  · exact t.up (k - 1 - s') (k - 1 - s) i (by omega) (by omega) g
/-- who isn't a goer at the top never goes -/
theorem fast_inv {T : Nat} (t : Top k G T) (h : Reach k G S U) : ∀ i, i < k → G T i = false → U i = S i := by
  intro i hi hg
  refine Reach.inv (P := fun W => W i = S i) (fun A B e s => ?_) h rfl
  cases s with
  | @up j hj hs g =>
    have c := cnt_le k (flip A j)
    rw [cnt_flip_up hj hs] at c
    have : i ≠ j := fun z => by
      subst z
      rw [t.all (by omega) g] at hg
      cases hg
    rw [flip_ne _ this]
    exact e
  | @dn j hj hs g =>
    have c := cnt_le k A
    have c2 := cnt_pos hj hs
    have : i ≠ j := fun z => by
      subst z
      rw [t.all (by omega) g] at hg
      cases hg
    rw [flip_ne _ this]
    exact e
def diff (k : Nat) (S U : Nat → Bool) : Nat := cnt k (fun i => S i && !U i)
theorem reach_out (h : Reach k G S U) : ∀ i, ¬ i < k → U i = S i := by
  intro i hi
  refine Reach.inv (P := fun W => W i = S i) (fun A B e s => ?_) h rfl
  cases s with
  | @up j hj hs g =>
    rw [flip_ne _ (show i ≠ j by omega)]
    exact e
  | @dn j hj hs g =>
    rw [flip_ne _ (show i ≠ j by omega)]
    exact e
/-- at the top's own number goers can be exchanged -/
theorem swap {T : Nat} (t : Top k G T) : ∀ (n : Nat) (S U : Nat → Bool), diff k S U ≤ n → cnt k S = T → cnt k U = T → (∀ i, i < k → G T i = false → U i = S i) → (∀ i, ¬ i < k → U i = S i) → Reach k G S U := by
  intro n
  induction n with
  | zero =>
    intro S U hd cs cu hf ho
    have hsub : ∀ i, i < k → S i = true → U i = true := fun i hi hs => by
      cases hu : U i with
      | true => rfl
      | false =>
        have := cnt_pos (k := k) (S := fun i => S i && !U i) hi (by show (S i && !U i) = true; rw [hs, hu]; rfl)
        unfold diff at hd
        omega
    have heq := cnt_eq hsub (by omega)
    have : U = S := by
      funext i
      by_cases hi : i < k
      · cases hs : S i with
        | true => exact hsub i hi hs
        | false =>
          cases hu : U i with
          | false => rfl
          | true => rw [heq i hi hu] at hs; cases hs
      · exact ho i hi
    rw [this]
    exact .refl _
  | succ n ih =>
    intro S U hd cs cu hf ho
    by_cases z : diff k S U = 0
    · exact ih S U (by omega) cs cu hf ho
    · obtain ⟨i, hi, h1⟩ := cnt_pos_ex (k := k) (S := fun i => S i && !U i) (by unfold diff at z; omega)
      have si : S i = true := by revert h1; cases S i <;> simp
      have ui : U i = false := by revert h1; cases U i <;> simp
      have e1 := cnt_split (k := k) S U
      have e2 := cnt_split (k := k) U S
      have e3 : cnt k (fun i => S i && U i) = cnt k (fun i => U i && S i) := cnt_congr fun i _ => Bool.and_comm _ _
      obtain ⟨j, hj, h2⟩ := cnt_pos_ex (k := k) (S := fun i => U i && !S i) (by unfold diff at z; omega)
      have uj : U j = true := by revert h2; cases U j <;> simp
      have sj : S j = false := by revert h2; cases S j <;> simp
      have gi : G T i = true := by
        cases g : G T i with
        | true => rfl
        | false => rw [hf i hi g, si] at ui; cases ui
      have gj : G T j = true := by
        cases g : G T j with
        | true => rfl
        | false => rw [hf j hj g, sj] at uj; cases uj
      have ij : i ≠ j := fun e => by rw [e, sj] at si; cases si
      have s1 : Step k G S (flip S j) := .up hj sj (by rw [cs]; exact gj)
      have c1 : cnt k (flip S j) = T + 1 := by rw [cnt_flip_up hj sj, cs]
      have s2 : Step k G (flip S j) (flip (flip S j) i) := .dn hi (by rw [flip_ne _ ij]; exact si) (by rw [c1, Nat.add_sub_cancel]; exact gi)
      have c2 := cnt_flip_dn (k := k) (S := flip S j) hi (by rw [flip_ne _ ij]; exact si)
      refine ((Reach.one s1).trans (Reach.one s2)).trans (ih _ U ?_ (by omega) cu (fun l hl g => ?_) (fun l hl => ?_))
      · have e : (fun l => flip (flip S j) i l && !U l) = flip (fun l => S l && !U l) i := by
          funext l
          by_cases li : l = i
          · subst li
            rw [flip_self, flip_self, flip_ne _ ij, si, ui]
            rfl
          · rw [flip_ne _ li, flip_ne _ li]
            by_cases lj : l = j
            · subst lj
              rw [flip_self, sj, uj]
              rfl
            · rw [flip_ne _ lj]
        unfold diff
        rw [e]
        have := cnt_flip_dn (k := k) (S := fun l => S l && !U l) hi h1
        unfold diff at hd
        omega
      · have li : l ≠ i := fun e => by rw [e, gi] at g; cases g
        have lj : l ≠ j := fun e => by rw [e, gj] at g; cases g
        rw [flip_ne _ li, flip_ne _ lj]
        exact hf l hl g
      · rw [flip_ne _ (show l ≠ i by omega), flip_ne _ (show l ≠ j by omega)]
        exact ho l hl
/-! ### which lot a standing is in -/
/-- from below it gets to the top's number -/
def Rises (k : Nat) (G : Nat → Nat → Bool) (T : Nat) (S : Nat → Bool) : Prop := cnt k S ≤ T ∧ ∀ n, cnt k S ≤ n → n < T → n < cnt k (fun i => S i || G n i)
/-- from above -/
def Sinks (k : Nat) (G : Nat → Nat → Bool) (T : Nat) (S : Nat → Bool) : Prop := T < cnt k S ∧ ∀ s, T ≤ s → s < cnt k S → cnt k (fun i => S i && !G s i) ≤ s
theorem Rises.to {T : Nat} (t : Top k G T) (h : Rises k G T S) : ∃ U, Reach k G S U ∧ cnt k U = T := by
  obtain ⟨U, r, c, _⟩ := fill t.up T (by omega) h.1 h.2
  exact ⟨U, r, c⟩
theorem co_or (S : Nat → Bool) (f : Nat → Bool) : (fun i => co S i || f i) = co (fun i => S i && !f i) := by
  funext i
  show (!S i || f i) = !(S i && !f i)
  cases S i <;> cases f i <;> rfl
theorem Sinks.to {T : Nat} (t : Top k G T) (h : Sinks k G T S) : ∃ U, Reach k G S U ∧ cnt k U = T := by
  have tl := t.lt
  have c0 := cnt_co k S
  have cle := cnt_le k S
  obtain ⟨h1, h2⟩ := h
  obtain ⟨U, r, c, _⟩ := fill (k := k) (G := Th.dual k G) (S := co S) t.dual.up (k - 1 - T + 1) (by omega) (by omega) fun n a b => by
    have e : (fun i => co S i || Th.dual k G n i) = co (fun i => S i && !G (k - 1 - n) i) := co_or S _
    rw [e]
    have q := h2 (k - 1 - n) (by omega) (by omega)
    have c1 := cnt_co k (fun i => S i && !G (k - 1 - n) i)
    omega
  refine ⟨co U, ?_, ?_⟩
  · refine Reach.codual ?_
    rw [co_co]
    exact r
  · have := cnt_co k U
    omega
/-- two that get to the top's number and have the same fast ones here come to one another -/
theorem open_reach {T : Nat} (t : Top k G T) (hS : Rises k G T S ∨ Sinks k G T S) (hU : Rises k G T U ∨ Sinks k G T U) (hf : ∀ i, i < k → G T i = false → U i = S i) (ho : ∀ i, ¬ i < k → U i = S i) : Reach k G S U := by
  obtain ⟨S', rS, cS⟩ := hS.elim (fun h => h.to t) (fun h => h.to t)
  obtain ⟨U', rU, cU⟩ := hU.elim (fun h => h.to t) (fun h => h.to t)
  refine rS.trans (Reach.trans ?_ rU.symm)
  refine swap t _ S' U' (Nat.le_refl _) cS cU (fun i hi g => ?_) (fun i hi => ?_)
  · rw [fast_inv t rS i hi g, fast_inv t rU i hi g, hf i hi g]
  · rw [reach_out rS i hi, reach_out rU i hi, ho i hi]
/-- the first number at which filling is stuck -/
def StuckLow (k : Nat) (G : Nat → Nat → Bool) (N : Nat) (S : Nat → Bool) : Prop := cnt k S ≤ N ∧ (∀ n, cnt k S ≤ n → n < N → n < cnt k (fun i => S i || G n i)) ∧ cnt k (fun i => S i || G N i) ≤ N
theorem StuckLow.full {N : Nat} (h : StuckLow k G N S) {T : Nat} (t : Top k G T) (hN : N ≤ T) : ∃ U, Reach k G S U ∧ cnt k U = N ∧ ∀ i, i < k → U i = (S i || G N i) := stuck t.up hN h.1 h.2.1 h.2.2
theorem StuckLow.cnt_full {N : Nat} (h : StuckLow k G N S) {T : Nat} (t : Top k G T) (hN : N ≤ T) : cnt k (fun i => S i || G N i) = N := by
  obtain ⟨U, _, c, e⟩ := h.full t hN
  exact (cnt_congr e).symm.trans c
/-- nobody leaves the lot under it -/
theorem StuckLow.under {N T : Nat} (h : StuckLow k G N S) (t : Top k G T) (hN : N ≤ T) (r : Reach k G S U) : cnt k U ≤ N ∧ ∀ i, i < k → (U i || G N i) = (S i || G N i) := by
  refine Reach.inv (P := fun W => cnt k W ≤ N ∧ ∀ i, i < k → (W i || G N i) = (S i || G N i)) (low_inv t.up hN (h.cnt_full t hN) fun i _ g => by rw [g, Bool.or_true]) r ⟨h.1, fun _ _ => rfl⟩
/-- all of a lot are stuck alike -/
theorem StuckLow.same {N T : Nat} (h : StuckLow k G N S) (t : Top k G T) (hN : N ≤ T) (r : Reach k G S U) : StuckLow k G N U := by
  obtain ⟨c, e⟩ := h.under t hN r
  have ce : cnt k (fun i => U i || G N i) = N := by
    rw [cnt_congr e]
    exact h.cnt_full t hN
  refine ⟨c, fun n a b => ?_, by omega⟩
  -- stuck earlier it would never get to S's fullest one
  by_cases z : n < cnt k (fun i => U i || G n i)
  · exact z
  · exfalso
    -- the first such number
    have ex : ∃ m, cnt k U ≤ m ∧ m < N ∧ ¬ m < cnt k (fun i => U i || G m i) ∧ ∀ m', cnt k U ≤ m' → m' < m → m' < cnt k (fun i => U i || G m' i) := by
      clear ce e
      induction n using Nat.strongRecOn with
      | _ n ih =>
        by_cases q : ∀ m', cnt k U ≤ m' → m' < n → m' < cnt k (fun i => U i || G m' i)
        · exact ⟨n, a, b, z, q⟩
        · have : ∃ m', cnt k U ≤ m' ∧ m' < n ∧ ¬ m' < cnt k (fun i => U i || G m' i) := by
            refine Classical.byContradiction fun w => q fun m' x y => ?_
            refine Classical.byContradiction fun v => w ⟨m', x, y, v⟩
          obtain ⟨m', x, y, v⟩ := this
          exact ih m' y x (by omega) v
    obtain ⟨m, x, y, v, u⟩ := ex
    have sl : StuckLow k G m U := ⟨x, u, by omega⟩
    obtain ⟨F, rF, cF, _⟩ := h.full t hN
    have := (sl.under t (by omega) (r.symm.trans rF)).1
    omega
theorem StuckLow.iff {N T : Nat} (h : StuckLow k G N S) (t : Top k G T) (hN : N ≤ T) (ho : ∀ i, ¬ i < k → U i = S i) : Reach k G S U ↔ StuckLow k G N U ∧ ∀ i, i < k → (U i || G N i) = (S i || G N i) := by
  constructor
  · intro r
    exact ⟨h.same t hN r, (h.under t hN r).2⟩
  · rintro ⟨hu, e⟩
    obtain ⟨A, rA, _, eA⟩ := h.full t hN
    obtain ⟨B, rB, _, eB⟩ := hu.full t hN
    have : A = B := by
      funext i
      by_cases hi : i < k
      · rw [eA i hi, eB i hi, e i hi]
      · rw [reach_out rA i hi, reach_out rB i hi, ho i hi]
    rw [this] at rA
    exact rA.trans rB.symm
/-- each standing of no more than the top's number is stuck below it, or gets there -/
theorem low_or {T : Nat} (h : cnt k S ≤ T) : (∃ N, N < T ∧ StuckLow k G N S) ∨ Rises k G T S := by
  by_cases q : ∀ n, cnt k S ≤ n → n < T → n < cnt k (fun i => S i || G n i)
  · exact .inr ⟨h, q⟩
  · refine .inl ?_
    have : ∃ m, cnt k S ≤ m ∧ m < T ∧ ¬ m < cnt k (fun i => S i || G m i) := by
      refine Classical.byContradiction fun w => q fun m' x y => ?_
      refine Classical.byContradiction fun v => w ⟨m', x, y, v⟩
    obtain ⟨n, a, b, z⟩ := this
    clear q
    induction n using Nat.strongRecOn with
    | _ n ih =>
      by_cases q : ∀ m', cnt k S ≤ m' → m' < n → m' < cnt k (fun i => S i || G m' i)
      · exact ⟨n, b, a, q, by omega⟩
      · have : ∃ m', cnt k S ≤ m' ∧ m' < n ∧ ¬ m' < cnt k (fun i => S i || G m' i) := by
          refine Classical.byContradiction fun w => q fun m' x y => ?_
          refine Classical.byContradiction fun v => w ⟨m', x, y, v⟩
        obtain ⟨m', x, y, v⟩ := this
        exact ih m' y x (by omega) v
end
end Th
namespace Th
section
variable {k : Nat} {G : Nat → Nat → Bool} {S U W : Nat → Bool}
/-- i may go at U -/
def May (k : Nat) (G : Nat → Nat → Bool) (U : Nat → Bool) (i : Nat) : Prop := G (if U i = true then cnt k U - 1 else cnt k U) i = true
theorem May.step {i : Nat} (hi : i < k) (h : May k G U i) : Step k G U (flip U i) := by
  unfold May at h
  cases e : U i with
  | true => rw [e, if_pos rfl] at h; exact .dn hi e h
  | false => rw [e, if_neg Bool.false_ne_true] at h; exact .up hi e h
/-- ever goes -/
def Moves (k : Nat) (G : Nat → Nat → Bool) (S : Nat → Bool) (i : Nat) : Prop := ∃ U, Reach k G S U ∧ May k G U i
theorem moves_low {N T i : Nat} (h : StuckLow k G N S) (t : Top k G T) (hN : N ≤ T) (hi : i < k) : Moves k G S i ↔ 0 < N ∧ G (N - 1) i = true := by
  constructor
  · rintro ⟨U, r, m⟩
    obtain ⟨c, e⟩ := h.under t hN r
    unfold May at m
    cases u : U i with
    | true =>
      rw [u, if_pos rfl] at m
      have := cnt_pos hi u
      exact ⟨by omega, t.up _ _ _ (by omega) (by omega) m⟩
    | false =>
      rw [u, if_neg Bool.false_ne_true] at m
      by_cases z : cnt k U = N
      · exfalso
        rw [z] at m
        have cf := h.cnt_full t hN
        have hsub : ∀ j, j < k → U j = true → (S j || G N j) = true := fun j hj uj => by rw [← e j hj, uj]; rfl
        have := cnt_eq hsub (by omega) i hi (by rw [m, Bool.or_true])
        rw [u] at this
        cases this
      · exact ⟨by omega, t.up _ _ _ (by omega) (by omega) m⟩
  · rintro ⟨n0, g⟩
    obtain ⟨F, r, c, e⟩ := h.full t hN
    refine ⟨F, r, ?_⟩
    have fi : F i = true := by rw [e i hi, t.up _ _ _ (show N - 1 ≤ N by omega) hN g, Bool.or_true]
    unfold May
    rw [fi, if_pos rfl, c]
    exact g
/-- gets to the top's number, and there's somebody out who may go there -/
theorem moves_open {T i : Nat} (t : Top k G T) (hS : Rises k G T S ∨ Sinks k G T S) (hc : T < cnt k (fun i => S i || G T i)) (hi : i < k) : Moves k G S i ↔ G T i = true := by
  constructor
  · rintro ⟨U, r, m⟩
    unfold May at m
    have := cnt_le k U
    by_cases u : U i = true
    · rw [if_pos u] at m
      have := cnt_pos hi u
      exact t.all (by omega) m
    · rw [if_neg u] at m
      have u' : U i = false := by simpa using u
      have c := cnt_le k (flip U i)
      rw [cnt_flip_up hi u'] at c
      exact t.all (by omega) m
  · intro g
    obtain ⟨U, r, c⟩ := hS.elim (fun h => h.to t) (fun h => h.to t)
    by_cases u : U i = true
    · -- somebody j is out: exchange them
      have hf := fast_inv t r
      have ce : cnt k (fun i => U i || G T i) = cnt k (fun i => S i || G T i) := cnt_congr fun j hj => by
        cases q : G T j with
        | true => rw [Bool.or_true, Bool.or_true]
        | false => rw [Bool.or_false, Bool.or_false, hf j hj q]
      obtain ⟨j, hj, h1, h2⟩ := cnt_ex (k := k) (S := U) (U := fun i => U i || G T i) (by omega)
      have gj : G T j = true := by rw [h2] at h1; exact h1
      have ij : i ≠ j := fun e => by rw [e, h2] at u; cases u
      have s1 : Step k G U (flip U j) := .up hj h2 (by rw [c]; exact gj)
      have c1 : cnt k (flip U j) = T + 1 := by rw [cnt_flip_up hj h2, c]
      refine ⟨flip U j, r.step s1, ?_⟩
      unfold May
      rw [flip_ne _ ij, u, if_pos rfl, c1, Nat.add_sub_cancel]
      exact g
    · refine ⟨U, r, ?_⟩
      unfold May
      rw [if_neg u, c]
      exact g
/-- stuck at some number up to N, or not before it -/
theorem stuck_or (N : Nat) : (∃ n, n < N ∧ StuckLow k G n S) ∨ ∀ n, cnt k S ≤ n → n < N → n < cnt k (fun i => S i || G n i) := by
  by_cases h : cnt k S ≤ N
  · rcases low_or (k := k) (G := G) (S := S) h with ⟨n, a, b⟩ | r
    · exact .inl ⟨n, a, b⟩
    · exact .inr r.2
  · exact .inr fun n a b => by omega
/-- the three sorts of lots -/
theorem sorts {T : Nat} (t : Top k G T) : (∃ N, N ≤ T ∧ StuckLow k G N S) ∨ (∃ N, N ≤ k - 1 - T ∧ StuckLow k (Th.dual k G) N (co S)) ∨ ((Rises k G T S ∨ Sinks k G T S) ∧ T < cnt k (fun i => S i || G T i)) := by
  have tl := t.lt
  by_cases h : cnt k S ≤ T
  · rcases stuck_or (k := k) (G := G) (S := S) (T + 1) with ⟨N, a, b⟩ | r
    · exact .inl ⟨N, by omega, b⟩
    · exact .inr (.inr ⟨.inl ⟨h, fun n a b => r n a (by omega)⟩, r T h (by omega)⟩)
  · have c0 := cnt_co k S
    rcases stuck_or (k := k) (G := Th.dual k G) (S := co S) (k - 1 - T + 1) with ⟨N, a, b⟩ | r
    · exact .inr (.inl ⟨N, by omega, b⟩)
    · refine .inr (.inr ⟨.inr ⟨by omega, fun s a b => ?_⟩, ?_⟩)
      · have cle := cnt_le k S
        have q := r (k - 1 - s) (by omega) (by omega)
        have e : (fun i => co S i || Th.dual k G (k - 1 - s) i) = co (fun i => S i && !G s i) := by
          rw [co_or]
          funext i
          show (!(S i && !Th.dual k G (k - 1 - s) i)) = !(S i && !G s i)
          have := dual_dual_at (G := G) (k := k) (s := s) (by omega) i
          unfold Th.dual at this ⊢
          rw [this]
        rw [e] at q
        have c1 := cnt_co k (fun i => S i && !G s i)
        omega
      · have := cnt_mono (k := k) (S := S) (U := fun i => S i || G T i) fun i _ hs => by show (S i || G T i) = true; rw [hs]; rfl
        omega
theorem may_co {i : Nat} (hi : i < k) : May k (Th.dual k G) (co U) i ↔ May k G U i := by
  have c0 := cnt_co k U
  have cl := cnt_le k U
  unfold May Th.dual
  cases u : U i with
  | true =>
    have := cnt_pos hi u
    have e : co U i = false := by unfold co; rw [u]; rfl
    rw [e, if_neg Bool.false_ne_true, if_pos rfl, show k - 1 - cnt k (co U) = cnt k U - 1 by omega]
  | false =>
    have e : co U i = true := by unfold co; rw [u]; rfl
    have := cnt_pos (S := co U) hi e
    rw [e, if_pos rfl, if_neg Bool.false_ne_true, show k - 1 - (cnt k (co U) - 1) = cnt k U by omega]
theorem moves_co {i : Nat} (hi : i < k) : Moves k (Th.dual k G) (co S) i ↔ Moves k G S i := by
  constructor
  · rintro ⟨U, r, m⟩
    refine ⟨co U, ?_, ?_⟩
    · refine Reach.codual ?_
      rw [co_co]
      exact r
    · rw [← may_co hi, co_co]
      exact m
  · rintro ⟨U, r, m⟩
    exact ⟨co U, r.dual, (may_co hi).mpr m⟩
/-- stuck from above at N (of the turned sea): who moves -/
theorem moves_high {N T i : Nat} (h : StuckLow k (Th.dual k G) N (co S)) (t : Top k G T) (hN : N ≤ k - 1 - T) (hi : i < k) : Moves k G S i ↔ 0 < N ∧ G (k - N) i = true := by
  have tl := t.lt
  rw [← moves_co hi, moves_low h t.dual hN hi]
  constructor
  · rintro ⟨a, b⟩
    refine ⟨a, ?_⟩
    unfold Th.dual at b
    rw [show k - N = k - 1 - (N - 1) by omega]
    exact b
  · rintro ⟨a, b⟩
    refine ⟨a, ?_⟩
    unfold Th.dual
    rw [show k - 1 - (N - 1) = k - N by omega]
    exact b
end
end Th
namespace Th
section
variable {k : Nat} {G : Nat → Nat → Bool} {S U W : Nat → Bool}
def Sub (k : Nat) (A B : Nat → Bool) : Prop := ∀ i, i < k → A i = true → B i = true
/-- so many of Z, such that each set of a nested family is among them or they among it -/
theorem chain (F : Nat → Nat → Bool) (P : Nat → Prop) (nest : ∀ s s', P s → P s' → Sub k (F s) (F s') ∨ Sub k (F s') (F s)) (Z : Nat → Bool) (inZ : ∀ s, P s → Sub k (F s) Z) :
    ∀ m, m ≤ cnt k Z → ∃ A : Nat → Bool, Sub k A Z ∧ cnt k A = m ∧ (∀ i, ¬ i < k → A i = false) ∧ ∀ s, P s → Sub k A (F s) ∨ Sub k (F s) A := by
  intro m
  induction m with
  | zero =>
    intro _
    have e : ∀ n, cnt n (fun _ => false) = 0 := fun n => by
      induction n with
      | zero => rfl
      | succ n ih => rw [cnt_succ, ih]; rfl
    exact ⟨fun _ => false, (fun _ _ h => by cases h), e k, (fun _ _ => rfl), fun s _ => .inl (fun _ _ h => by cases h)⟩
  | succ m ih =>
    intro hm
    obtain ⟨A, a1, a2, a3, a4⟩ := ih (by omega)
    -- a smallest set of the family that isn't among them, or Z
    have pick : ∃ i, i < k ∧ A i = false ∧ Z i = true ∧ ∀ s, P s → ¬ Sub k (F s) A → F s i = true := by
      -- by how many members
      have go : ∀ n, (∃ s, P s ∧ ¬ Sub k (F s) A ∧ cnt k (F s) ≤ n) → ∃ i, i < k ∧ A i = false ∧ Z i = true ∧ ∀ s, P s → ¬ Sub k (F s) A → F s i = true := by
        intro n
        induction n using Nat.strongRecOn with
        | _ n ih2 =>
          rintro ⟨s, ps, hs, hn⟩
          by_cases q : ∃ s', P s' ∧ ¬ Sub k (F s') A ∧ cnt k (F s') < cnt k (F s)
          · obtain ⟨s', ps', hs', hlt⟩ := q
            exact ih2 (cnt k (F s')) (by omega) ⟨s', ps', hs', Nat.le_refl _⟩
          · have : ∃ i, i < k ∧ F s i = true ∧ A i = false := by
              refine Classical.byContradiction fun w => hs fun i hi f => ?_
              cases e : A i with
              | true => rfl
              | false => exact absurd ⟨i, hi, f, e⟩ w
            obtain ⟨i, hi, f, e⟩ := this
            refine ⟨i, hi, e, inZ s ps i hi f, fun s' ps' hs' => ?_⟩
            rcases nest s s' ps ps' with w | w
            · exact w i hi f
            · have hge : cnt k (F s) ≤ cnt k (F s') := by
                refine Classical.byContradiction fun v => q ⟨s', ps', hs', by omega⟩
              exact cnt_eq w hge i hi f
      by_cases q : ∃ s, P s ∧ ¬ Sub k (F s) A
      · obtain ⟨s, ps, hs⟩ := q
        exact go _ ⟨s, ps, hs, Nat.le_refl _⟩
      · obtain ⟨i, hi, z, e⟩ := cnt_ex (k := k) (S := A) (U := Z) (by omega)
        exact ⟨i, hi, e, z, fun s ps hs => absurd ⟨s, ps, hs⟩ q⟩
    obtain ⟨i, hi, e, z, hp⟩ := pick
    refine ⟨flip A i, fun j hj h => ?_, by rw [cnt_flip_up hi e, a2], fun j hj => ?_, fun s ps => ?_⟩
    · by_cases q : j = i
      · rw [q]; exact z
      · rw [flip_ne _ q] at h
        exact a1 j hj h
    · rw [flip_ne _ (show j ≠ i by omega)]
      exact a3 j hj
    · by_cases q : Sub k (F s) A
      · refine .inr fun j hj h => ?_
        by_cases w : j = i
        · subst w
          have := q j hj h
          rw [e] at this
          cases this
        · rw [flip_ne _ w]
          exact q j hj h
      · rcases a4 s ps with w | w
        · refine .inl fun j hj h => ?_
          by_cases v : j = i
          · rw [v]; exact hp s ps q
          · rw [flip_ne _ v] at h
            exact w j hj h
        · exact absurd w q
theorem cnt_diff {A B : Nat → Bool} (h : Sub k B A) : cnt k (fun i => A i && !B i) + cnt k B = cnt k A := by
  have e := cnt_split (k := k) A B
  have e2 : cnt k (fun i => A i && B i) = cnt k B := cnt_congr fun i hi => by
    cases b : B i with
    | true => rw [h i hi b]; rfl
    | false => rw [Bool.and_false]
  omega
theorem cnt_none {A : Nat → Bool} (h : ∀ i, i < k → A i = false) : cnt k A = 0 := by
  have := cnt_congr (k := k) (S := A) (U := fun _ => false) h
  have e : ∀ n, cnt n (fun _ => false) = 0 := fun n => by
    induction n with
    | zero => rfl
    | succ n ih => rw [cnt_succ, ih]; rfl
  rw [this, e]
/-- how few can come to lie here, of a lot that is stuck at N -/
theorem low_counts {N T n : Nat} (h : StuckLow k G N S) (t : Top k G T) (hN : N ≤ T) (hn : n ≤ N) : (∃ U, Reach k G S U ∧ cnt k U = n) ↔ ∀ m, m < N → m + 1 ≤ n + cnt k (G m) := by
  constructor
  · rintro ⟨U, r, c⟩ m hm
    by_cases z : n ≤ m
    · have q := (h.same t hN r).2.1 m (by omega) hm
      have e := cnt_or_not (k := k) U (G m)
      have e2 := cnt_mono (k := k) (S := fun i => G m i && !U i) (U := G m) fun i _ hh => by revert hh; cases G m i <;> simp
      omega
    · omega
  · intro hc
    have cf := h.cnt_full t hN
    -- the goers at N, so many of them out: the shallowest ones
    have cR : cnt k (fun i => S i && !G N i) + cnt k (G N) = N := by
      have e := cnt_or_not (k := k) (G N) S
      have e1 : (fun i => G N i || S i) = (fun i => S i || G N i) := funext fun i => Bool.or_comm _ _
      rw [e1] at e
      omega
    have hle : N - n ≤ cnt k (G N) := by
      by_cases z : N = 0
      · omega
      · have q := hc (N - 1) (by omega)
        have := cnt_mono (k := k) (S := G (N - 1)) (U := G N) fun i _ g => t.up _ _ _ (by omega) hN g
        omega
    obtain ⟨A, a1, a2, a3, a4⟩ := chain (k := k) G (fun m => m ≤ N) (fun s s' hs hs' => by
      by_cases z : s ≤ s'
      · exact .inl fun i _ g => t.up _ _ _ z (by omega) g
      · exact .inr fun i _ g => t.up _ _ _ (by omega) (by omega) g) (G N) (fun s hs i _ g => t.up _ _ _ hs hN g) (N - n) hle
    -- all others of the fullest one
    have hout : ∀ i, ¬ i < k → (fun i => if i < k then (S i || G N i) && !A i else S i) i = S i := fun i hi => by show (if i < k then (S i || G N i) && !A i else S i) = S i; rw [if_neg hi]
    have hin : ∀ i, i < k → (fun i => if i < k then (S i || G N i) && !A i else S i) i = ((S i || G N i) && !A i) := fun i hi => by show (if i < k then (S i || G N i) && !A i else S i) = _; rw [if_pos hi]
    have subA : Sub k A (fun i => S i || G N i) := fun i hi q => by show (S i || G N i) = true; rw [a1 i hi q, Bool.or_true]
    have cU : cnt k (fun i => if i < k then (S i || G N i) && !A i else S i) = n := by
      rw [cnt_congr hin]
      have := cnt_diff subA
      omega
    have or_eq : ∀ i, i < k → ((fun i => if i < k then (S i || G N i) && !A i else S i) i || G N i) = (S i || G N i) := fun i hi => by
      rw [hin i hi]
      cases q : A i with
      | true =>
        have := a1 i hi q
        rw [this, Bool.or_true, Bool.or_true]
      | false => cases S i <;> cases G N i <;> rfl
    have sl : StuckLow k G N (fun i => if i < k then (S i || G N i) && !A i else S i) := by
      refine ⟨by omega, fun m x y => ?_, ?_⟩
      · have q := hc m y
        -- all of the fullest one but those of A that aren't goers at m
        have e1 : cnt k (fun i => (fun i => if i < k then (S i || G N i) && !A i else S i) i || G m i) = cnt k (fun i => (S i || G N i) && !(A i && !G m i)) := cnt_congr fun i hi => by
          rw [hin i hi]
          cases g : G m i with
          | true =>
            rw [t.up _ _ _ (show m ≤ N by omega) hN g]
            cases S i <;> cases A i <;> rfl
          | false => cases S i <;> cases G N i <;> cases A i <;> rfl
        have sub2 : Sub k (fun i => A i && !G m i) (fun i => S i || G N i) := fun i hi w => subA i hi (by have w' : (A i && !G m i) = true := w; revert w'; cases A i <;> simp)
        have e2 := cnt_diff sub2
        rw [e1]
        rcases a4 m (by omega) with w | w
        · have e3 : cnt k (fun i => A i && !G m i) = 0 := cnt_none fun i hi => by
            cases q : A i with
            | false => rfl
            | true => rw [w i hi q]; rfl
          omega
        · have e3 := cnt_diff w
          omega
      · rw [cnt_congr or_eq]
        omega
    exact ⟨_, (h.iff t hN hout).mpr ⟨sl, or_eq⟩, cU⟩
/-- how many can come to lie here, of a lot that gets to the top's number -/
theorem open_counts {T n : Nat} (t : Top k G T) (hS : Rises k G T S ∨ Sinks k G T S) (hn : T ≤ n) : (∃ U, Reach k G S U ∧ cnt k U = n) ↔ n ≤ cnt k (fun i => S i || G T i) ∧ ∀ s, T ≤ s → s < k → n ≤ s + cnt k (G s) := by
  obtain ⟨V, rV, cV⟩ := hS.elim (fun h => h.to t) (fun h => h.to t)
  have tl := t.lt
  constructor
  · rintro ⟨U, r, c⟩
    have sub : Sub k U (fun i => S i || G T i) := fun i hi u => by
      cases g : G T i with
      | true => show (S i || G T i) = true; rw [g, Bool.or_true]
      | false =>
        rw [fast_inv t r i hi g] at u
        show (S i || G T i) = true
        rw [u]; rfl
    refine ⟨by rw [← c]; exact cnt_mono sub, fun s hs hk => ?_⟩
    by_cases z : n ≤ s
    · omega
    · -- U isn't stuck from above
      have c0 := cnt_co k U
      have cle := cnt_le k U
      rcases stuck_or (k := k) (G := Th.dual k G) (S := co U) (k - 1 - T + 1) with ⟨N, a, b⟩ | q
      · exfalso
        have hr := (rV.symm.trans r).symm.dual
        have := (b.under t.dual (by omega) hr).1
        have c1 := cnt_co k V
        omega
      · have q2 := q (k - 1 - s) (by omega) (by omega)
        have e : (fun i => co U i || Th.dual k G (k - 1 - s) i) = co (fun i => U i && !G s i) := by
          rw [co_or]
          funext i
          show (!(U i && !Th.dual k G (k - 1 - s) i)) = !(U i && !G s i)
          have := dual_dual_at (G := G) (k := k) (s := s) hk i
          unfold Th.dual at this ⊢
          rw [this]
        rw [e] at q2
        have c1 := cnt_co k (fun i => U i && !G s i)
        have c2 := cnt_split (k := k) U (G s)
        have c3 := cnt_mono (k := k) (S := fun i => U i && G s i) (U := G s) fun i _ h => by revert h; cases U i <;> simp
        omega
  · rintro ⟨h1, h2⟩
    have cR : cnt k (fun i => S i && !G T i) + cnt k (G T) = cnt k (fun i => S i || G T i) := by
      have e := cnt_or_not (k := k) (G T) S
      have e1 : (fun i => G T i || S i) = (fun i => S i || G T i) := funext fun i => Bool.or_comm _ _
      rw [e1] at e
      omega
    have rT : cnt k (fun i => S i && !G T i) ≤ T := by
      refine Nat.le_trans (cnt_mono (U := V) fun i hi q => ?_) (Nat.le_of_eq cV)
      have q' : (S i && !G T i) = true := q
      have g : G T i = false := by revert q'; cases G T i <;> cases S i <;> simp
      have s : S i = true := by revert q'; cases G T i <;> cases S i <;> simp
      rw [fast_inv t rV i hi g]
      exact s
    obtain ⟨A, a1, a2, a3, a4⟩ := chain (k := k) G (fun s => T ≤ s ∧ s < k) (fun s s' hs hs' => by
      by_cases z : s ≤ s'
      · exact .inr fun i _ g => t.dn _ _ _ hs.1 z hs'.2 g
      · exact .inl fun i _ g => t.dn _ _ _ hs'.1 (by omega) hs.2 g) (G T) (fun s hs i _ g => t.dn _ _ _ (Nat.le_refl _) hs.1 hs.2 g) (n - cnt k (fun i => S i && !G T i)) (by omega)
    have hout : ∀ i, ¬ i < k → (fun i => if i < k then (S i && !G T i) || A i else S i) i = S i := fun i hi => by show (if i < k then (S i && !G T i) || A i else S i) = S i; rw [if_neg hi]
    have hin : ∀ i, i < k → (fun i => if i < k then (S i && !G T i) || A i else S i) i = ((S i && !G T i) || A i) := fun i hi => by show (if i < k then (S i && !G T i) || A i else S i) = _; rw [if_pos hi]
    have cU : cnt k (fun i => if i < k then (S i && !G T i) || A i else S i) = n := by
      rw [cnt_congr hin, cnt_or_not]
      have : cnt k (fun i => A i && !(S i && !G T i)) = cnt k A := cnt_congr fun i hi => by
        cases q : A i with
        | false => rfl
        | true => rw [a1 i hi q]; cases S i <;> rfl
      omega
    refine ⟨_, open_reach t hS ?_ (fun i hi g => ?_) hout, cU⟩
    · by_cases z : n = T
      · exact .inl ⟨by omega, fun m x y => by omega⟩
      · refine .inr ⟨by omega, fun s x y => ?_⟩
        rw [cU] at y
        have sk : s < k := by
          have := cnt_le k (fun i => if i < k then (S i && !G T i) || A i else S i)
          omega
        have q := h2 s x sk
        have e1 : cnt k (fun i => (fun i => if i < k then (S i && !G T i) || A i else S i) i && !G s i) ≤ cnt k (fun i => S i && !G T i) + cnt k (fun i => A i && !G s i) := by
          have e : cnt k (fun i => (fun i => if i < k then (S i && !G T i) || A i else S i) i && !G s i) ≤ cnt k (fun i => (S i && !G T i) || (A i && !G s i)) := cnt_mono fun i hi w => by
            rw [hin i hi] at w
            show ((S i && !G T i) || (A i && !G s i)) = true
            revert w
            cases S i <;> cases G T i <;> cases A i <;> cases G s i <;> simp
          have e2 := cnt_or_not (k := k) (fun i => S i && !G T i) (fun i => A i && !G s i)
          have e3 := cnt_mono (k := k) (S := fun i => (A i && !G s i) && !(S i && !G T i)) (U := fun i => A i && !G s i) fun i _ w => by revert w; cases (A i && !G s i) <;> simp
          omega
        rcases a4 s ⟨x, sk⟩ with w | w
        · have e3 : cnt k (fun i => A i && !G s i) = 0 := cnt_none fun i hi => by
            cases q : A i with
            | false => rfl
            | true => rw [w i hi q]; rfl
          omega
        · have e3 := cnt_diff w
          omega
    · show (if i < k then S i && !G T i || A i else S i) = S i
      rw [if_pos hi, g]
      cases q : A i with
      | true => rw [a1 i hi q] at g; cases g
      | false => cases S i <;> rfl
end
end Th

namespace Sh
open PySem PySem.Spec PyProof.Rows L2
def spRight : Sp := fun vs H Q _ => ∃ b : Addr, vs = [.ref b] ∧ BoxAt H b 100000 ∧ ∀ H', But b H H' → Q (.bl true) H'
end Sh

namespace Sh
open PySem PySem.Spec PyProof.Rows L2
theorem lv_ni {n : Nat} (L : List Nat) (h : L.length ≤ 100000) : Lv (n + 2) (.list ((L.map fun (i : Nat) => (i : Int)).map .int)) := lv_ints _ (by rw [List.length_map]; exact h)
theorem lv_two {n : Nat} {a b : PyData} (ha : Lv n a) (hb : Lv n b) : Lv (n + 1) (.list [a, b]) := ⟨by show 2 ≤ 100000; decide, fun e he => by
  rcases List.mem_cons.mp he with z | z
  · rw [z]; exact ha
  · rw [List.mem_singleton.mp z]; exact hb⟩
end Sh

namespace Sh
open PySem PySem.Spec PyProof.Rows L2
/-! ### windows, goers, seas beside the box -/
theorem may_mk {h t : Int} {ds : List Int} {L : List Nat} {i : Nat} : mayB h t ds L i = decide (ds.getD i 0 ≤ mk h t ds.length (near L i : Int)) := by
  unfold mayB mk
  rw [Bool.eq_iff_iff, Bool.and_eq_true, decide_eq_true_eq, decide_eq_true_eq, decide_eq_true_eq]
  constructor
  · rintro ⟨a, b⟩
    split <;> omega
  · intro a
    split at a <;> omega
theorem in_lets {h t : Int} {ds : List Int} {L : List Nat} {i : Nat} (hi : i < ds.length) : inV (.int (i : Int)) (ni (lets h t ds L ds.length)) = mayB h t ds L i := by
  rw [in_ni, Bool.eq_iff_iff, decide_eq_true_eq]
  unfold lets
  rw [List.mem_filter, List.mem_range]
  exact ⟨fun q => q.2, fun q => ⟨hi, q⟩⟩
theorem in_gs {m : Int} {ds : List Int} {i : Nat} (hi : i < ds.length) : inV (.int (i : Int)) (((gs m ds ds.length).map fun (i : Nat) => (i : Int)).map V.int) = decide (ds.getD i 0 ≤ m) := by
  rw [← ni_ints, in_ni, Bool.eq_iff_iff, decide_eq_true_eq, decide_eq_true_eq]
  unfold gs
  rw [List.mem_filter, List.mem_range, decide_eq_true_eq]
  exact ⟨fun q => q.2, fun q => ⟨hi, q⟩⟩
/-- a sea that is none of the box -/
def SeaB (K : PySem.W.Frag) (H : Hp) (b : Addr) (v : V) (h t : Int) (ds : List Int) : Prop := ∃ p q, v = .ref p ∧ SqA K H p [.int h, .int t, .ref q] ∧ SqA K H q (ds.map V.int) ∧ p ≠ b ∧ q ≠ b
theorem SeaB.but {K : PySem.W.Frag} {H H' : Hp} {b : Addr} {v : V} {h t : Int} {ds : List Int} (s : SeaB K H b v h t ds) (u : But b H H') : SeaB K H' b v h t ds := let ⟨p, q, e, hp, hq, pb, qb⟩ := s; ⟨p, q, e, (Kp.ofB u pb).sa hp, (Kp.ofB u qb).sa hq, pb, qb⟩
theorem SeaB.a {K : PySem.W.Frag} {H : Hp} {b : Addr} {v : V} {h t : Int} {ds : List Int} (s : SeaB K H b v h t ds) : SeaA K H v h t ds := let ⟨p, q, e, hp, hq, _, _⟩ := s; ⟨p, q, e, hp, hq⟩
/-- a window as it is told: None, or a new pair -/
def WinAt (H H' : Hp) (sp : V) (lo hi : Int) : Prop := (lo > hi ∧ sp = .non) ∨ (¬ lo > hi ∧ ∃ a, sp = .ref a ∧ H a = none ∧ H' a = some (.tup [.int lo, .int hi]))
def spWin (K : PySem.W.Frag) : Sp := fun vs H Q _ => ∃ (v : V) (h t d : Int) (j : Nat) (ds : List Int), vs = [v, .int (j : Int)] ∧ SeaA K H v h t ds ∧ ds[j]? = some d ∧ ∀ (sp : V) (H' : Hp), Same H H' → WinAt H H' sp (lowI h d) (highI t ds.length d) → Q sp H'
theorem win_imp {K : PySem.W.Frag} (vs : List V) (H : Hp) (Q : VK) (E : XK) (z : spWin K vs H Q E) : spWindow K vs H Q E := by
  obtain ⟨v, h, t, d, j, ds, rfl, hv, hj, q⟩ := z
  exact ⟨v, h, t, d, j, ds, rfl, hv, hj, fun c => q .non H (Same.refl _) (.inl ⟨c, rfl⟩), fun c p np => q (.ref p) _ (same_new np) (.inr ⟨c, p, rfl, np, upd_same⟩)⟩
end Sh

namespace Sh
open PySem PySem.Spec PyProof.Rows L2
/-! ### lots as sets, crossings of lots -/
def mem (L : List Nat) : Nat → Bool := fun i => decide (i ∈ L)
theorem cnt_mem {c : Nat} {L : List Nat} (h : Lot c L) : Th.cnt c (mem L) = L.length := by
  unfold Th.cnt mem
  rw [List.countP_eq_length_filter]
  exact congrArg List.length h.mem_eq.symm
theorem mem_out {c : Nat} {L : List Nat} (h : Lot c L) {i : Nat} (hi : ¬ i < c) : mem L i = false := decide_eq_false fun z => hi (h.lt i z)
theorem lot_ext {c : Nat} {L M : List Nat} (h : Lot c L) (h' : Lot c M) (e : ∀ i, i < c → mem L i = mem M i) : L = M := by
  rw [h.mem_eq, h'.mem_eq]
  exact List.filter_congr fun i hi => e i (List.mem_range.mp hi)
/-- who goes at a step -/
def Gof (h t : Int) (ds : List Int) : Nat → Nat → Bool := fun s i => decide (ds.getD i 0 ≤ mk h t ds.length (s : Int))
theorem near_cnt {c : Nat} {L : List Nat} (h : Lot c L) {i : Nat} (hi : i < c) : near L i = if i ∈ L then L.length - 1 else L.length := by
  by_cases z : i ∈ L
  · rw [if_pos z, near_in h]
    have e := filter_filter_len (fun j => decide (j ∈ L)) (fun j => decide (j = i)) (List.range c)
    have e1 : ((List.range c).filter fun j => decide (j ∈ L)).length = L.length := congrArg List.length h.mem_eq.symm
    have e2 : ((List.range c).filter fun j => decide (j ∈ L) && decide (j = i)).length = 1 := by
      rw [← one_of hi]
      congr 1
      refine List.filter_congr fun a _ => ?_
      by_cases q : a = i
      · subst q
        rw [decide_eq_true z]
        rfl
      · rw [decide_eq_false q, Bool.and_false]
    omega
  · rw [if_neg z]
    exact near_out z
theorem may_G {h t : Int} {ds : List Int} {L : List Nat} {i : Nat} : mayB h t ds L i = Gof h t ds (near L i) i := may_mk
/-- the standing behind i's going over -/
def gone (L : List Nat) (i : Nat) : List Nat := if i ∈ L then L.filter (fun j => !decide (j = i)) else L.filter (fun j => decide (j < i)) ++ i :: L.filter (fun j => decide (i < j))
theorem gone_lot {c : Nat} {L : List Nat} (h : Lot c L) {i : Nat} (hi : i < c) : Lot c (gone L i) := by
  unfold gone
  split
  · exact h.filter _
  · refine ⟨List.pairwise_append.mpr ⟨h.up.filter _, List.pairwise_cons.mpr ⟨fun a ha => ?_, h.up.filter _⟩, fun a ha b hb => ?_⟩, fun a ha => ?_⟩
    · simpa using (List.mem_filter.mp ha).2
    · have h1 : a < i := by simpa using (List.mem_filter.mp ha).2
      rcases List.mem_cons.mp hb with q | q
      · omega
      · have : i < b := by simpa using (List.mem_filter.mp q).2
        omega
    · rcases List.mem_append.mp ha with q | q
      · exact h.lt a (List.mem_filter.mp q).1
      · rcases List.mem_cons.mp q with q | q
        · omega
        · exact h.lt a (List.mem_filter.mp q).1
theorem gone_mem {L : List Nat} {i : Nat} : mem (gone L i) = Th.flip (mem L) i := by
  funext j
  unfold mem gone
  by_cases z : i ∈ L
  · rw [if_pos z]
    by_cases e : j = i
    · subst e
      rw [Th.flip_self]
      simp [z]
    · rw [Th.flip_ne _ e]
      simp [e]
  · rw [if_neg z]
    by_cases e : j = i
    · subst e
      rw [Th.flip_self]
      simp [z]
    · rw [Th.flip_ne _ e]
      by_cases q : j < i
      · simp [e, q]
        omega
      · have : i < j := by omega
        simp [e, q, this]
/-- one comes to the other -/
def Rl (h t : Int) (ds : List Int) (L M : List Nat) : Prop := Th.Reach ds.length (Gof h t ds) (mem L) (mem M)
theorem rl_one {h t : Int} {ds : List Int} {L : List Nat} {i : Nat} (hL : Lot ds.length L) (hi : i < ds.length) (m : mayB h t ds L i = true) : Rl h t ds L (gone L i) := by
  unfold Rl
  rw [gone_mem]
  rw [may_G, near_cnt hL hi] at m
  refine .one ?_
  by_cases z : i ∈ L
  · rw [if_pos z] at m
    exact .dn hi (decide_eq_true z) (by rw [cnt_mem hL]; exact m)
  · rw [if_neg z] at m
    exact .up hi (decide_eq_false z) (by rw [cnt_mem hL]; exact m)
/-- behind its going over it may go back -/
theorem may_back {h t : Int} {ds : List Int} {L : List Nat} {i : Nat} (hL : Lot ds.length L) (hi : i < ds.length) : near (gone L i) i = near L i := by
  rw [near_cnt (gone_lot hL hi) hi, near_cnt hL hi]
  have m : mem (gone L i) i = !mem L i := by rw [gone_mem, Th.flip_self]
  have c1 := cnt_mem hL
  have c2 := cnt_mem (gone_lot hL hi)
  rw [gone_mem] at c2
  by_cases z : i ∈ L
  · have z2 : ¬ i ∈ gone L i := fun q => by
      have : mem (gone L i) i = true := decide_eq_true q
      rw [m, show mem L i = true from decide_eq_true z] at this
      cases this
    have := Th.cnt_flip_dn (k := ds.length) (S := mem L) hi (decide_eq_true z)
    rw [if_pos z, if_neg z2]
    omega
  · have z2 : i ∈ gone L i := by
      have : mem (gone L i) i = true := by rw [m, show mem L i = false from decide_eq_false z]; rfl
      exact of_decide_eq_true this
    have := Th.cnt_flip_up (k := ds.length) (S := mem L) hi (decide_eq_false z)
    rw [if_neg z, if_pos z2]
    omega
theorem top_of (h t : Int) (ds : List Int) (hk : 0 < ds.length) : Th.Top ds.length (Gof h t ds) (topI h t ds.length).toNat := by
  have t0 := top_lo h t ds.length
  have t1 := top_hi h t hk
  refine ⟨by omega, fun s s' i a b g => ?_, fun s s' i a b c g => ?_⟩
  · have g' : ds.getD i 0 ≤ mk h t ds.length (s : Int) := of_decide_eq_true g
    refine decide_eq_true (Int.le_trans g' ?_)
    have b' : (s' : Int) ≤ topI h t ds.length := by omega
    clear g g' t0 t1
    unfold mk topI at *
    repeat' split
    all_goals (repeat' split at b')
    all_goals omega
  · have g' : ds.getD i 0 ≤ mk h t ds.length (s' : Int) := of_decide_eq_true g
    refine decide_eq_true (Int.le_trans g' ?_)
    have b' : topI h t ds.length ≤ (s : Int) := by omega
    clear g g' t0 t1
    unfold mk topI at *
    repeat' split
    all_goals (repeat' split at b')
    all_goals omega
/-! ### what is told of it -/
def IsMost (h t : Int) (ds : List Int) (L : List Nat) (m : Nat) : Prop := (∃ M, Lot ds.length M ∧ Rl h t ds L M ∧ M.length = m) ∧ ∀ M, Lot ds.length M → Rl h t ds L M → M.length ≤ m
def IsLeast (h t : Int) (ds : List Int) (L : List Nat) (m : Nat) : Prop := (∃ M, Lot ds.length M ∧ Rl h t ds L M ∧ M.length = m) ∧ ∀ M, Lot ds.length M → Rl h t ds L M → m ≤ M.length
def IsMovers (h t : Int) (ds : List Int) (L ms : List Nat) : Prop := Lot ds.length ms ∧ ∀ i, i < ds.length → (i ∈ ms ↔ ∃ M, Lot ds.length M ∧ Rl h t ds L M ∧ mayB h t ds M i = true)
theorem IsMost.uniq {h t : Int} {ds : List Int} {L L' : List Nat} {m m' : Nat} (r : Rl h t ds L L') (a : IsMost h t ds L m) (b : IsMost h t ds L' m') : m = m' := by
  obtain ⟨⟨M, l1, r1, e1⟩, h1⟩ := a
  obtain ⟨⟨M', l2, r2, e2⟩, h2⟩ := b
  have := h1 M' l2 (r.trans r2)
  have := h2 M l1 (r.symm.trans r1)
  omega
theorem IsLeast.uniq {h t : Int} {ds : List Int} {L L' : List Nat} {m m' : Nat} (r : Rl h t ds L L') (a : IsLeast h t ds L m) (b : IsLeast h t ds L' m') : m = m' := by
  obtain ⟨⟨M, l1, r1, e1⟩, h1⟩ := a
  obtain ⟨⟨M', l2, r2, e2⟩, h2⟩ := b
  have := h1 M' l2 (r.trans r2)
  have := h2 M l1 (r.symm.trans r1)
  omega
theorem IsMovers.uniq {h t : Int} {ds : List Int} {L L' ms ms' : List Nat} (r : Rl h t ds L L') (a : IsMovers h t ds L ms) (b : IsMovers h t ds L' ms') : ms = ms' := by
  refine lot_ext a.1 b.1 fun i hi => ?_
  unfold mem
  rw [decide_eq_decide, a.2 i hi, b.2 i hi]
  exact ⟨fun ⟨M, l, q, m⟩ => ⟨M, l, r.symm.trans q, m⟩, fun ⟨M, l, q, m⟩ => ⟨M, l, r.trans q, m⟩⟩
/-- a sea whose draughts are a tuple is handed in -/
def SeaD (K : PySem.W.Frag) (H : Hp) (v : V) (h t : Int) (ds : List Int) : Prop := ∃ p q, v = .ref p ∧ SqA K H p [.int h, .int t, .ref q] ∧ SqT K H q (ds.map V.int)
theorem SeaD.same {K : PySem.W.Frag} {H H' : Hp} {v : V} {h t : Int} {ds : List Int} (s : SeaD K H v h t ds) (e : Same H H') : SeaD K H' v h t ds := let ⟨p, q, a, b, c⟩ := s; ⟨p, q, a, Same.sqA e b, Same.tup e c⟩
theorem SeaD.a {K : PySem.W.Frag} {H : Hp} {v : V} {h t : Int} {ds : List Int} (s : SeaD K H v h t ds) : SeaA K H v h t ds := let ⟨p, q, a, b, c⟩ := s; ⟨p, q, a, b, .inr c⟩
def spMost (K : PySem.W.Frag) : Sp := fun vs H Q _ => ∃ (v l : V) (h t : Int) (ds : List Int) (L : List Nat), vs = [v, l] ∧ SeaD K H v h t ds ∧ LotA K H l L ∧ ds.length ≤ 60 ∧ 0 < ds.length ∧ Lot ds.length L ∧ ∀ (H' : Hp) (m : Nat), Same H H' → IsMost h t ds L m → Q (.int (m : Int)) H'
def spLeast (K : PySem.W.Frag) : Sp := fun vs H Q _ => ∃ (v l : V) (h t : Int) (ds : List Int) (L : List Nat), vs = [v, l] ∧ SeaD K H v h t ds ∧ LotA K H l L ∧ ds.length ≤ 60 ∧ 0 < ds.length ∧ Lot ds.length L ∧ ∀ (H' : Hp) (m : Nat), Same H H' → IsLeast h t ds L m → Q (.int (m : Int)) H'
def spMovers (K : PySem.W.Frag) : Sp := fun vs H Q _ => ∃ (v l : V) (h t : Int) (ds : List Int) (L : List Nat), vs = [v, l] ∧ SeaD K H v h t ds ∧ LotA K H l L ∧ ds.length ≤ 60 ∧ 0 < ds.length ∧ Lot ds.length L ∧
  ∀ (H' : Hp) (p : Addr) (ms : List Nat), Same H H' → H p = none → H' p = some (.lst (ni ms)) → IsMovers h t ds L ms → Q (.ref p) H'
def spComes (K : PySem.W.Frag) : Sp := fun vs H Q _ => ∃ (v l m : V) (h t : Int) (ds : List Int) (L M : List Nat), vs = [v, l, m] ∧ SeaD K H v h t ds ∧ LotA K H l L ∧ LotA K H m M ∧ ds.length ≤ 60 ∧ 0 < ds.length ∧ Lot ds.length L ∧ Lot ds.length M ∧
  ∀ (H' : Hp) (b : Bool), Same H H' → (b = true ↔ Rl h t ds L M) → Q (.bl b) H'
/-! ### turned about -/
def away (c : Nat) (L : List Nat) : List Nat := (List.range c).filter fun i => !decide (i ∈ L)
theorem away_lot (c : Nat) (L : List Nat) : Lot c (away c L) := (Lot.all c).filter _
theorem mk_turn {h t : Int} {k s : Nat} (hs : s < k) : mk t h k (s : Int) = mk h t k ((k - 1 - s : Nat) : Int) := by
  unfold mk
  split <;> split <;> omega
theorem mem_away {c : Nat} {L : List Nat} {i : Nat} (hi : i < c) : mem (away c L) i = !mem L i := by
  unfold mem away
  rw [Bool.eq_iff_iff, decide_eq_true_eq, List.mem_filter, List.mem_range]
  simp [hi]
end Sh

namespace Sh
/-! ### fleets: sums over sorts, and ships one by one -/
abbrev Srt := Int × Nat × Nat
def mny (ss : List Srt) : Nat := (ss.map fun x => x.2.1 + x.2.2).sum
theorem mny_cons (x : Srt) (l : List Srt) : mny (x :: l) = x.2.1 + x.2.2 + mny l := by
  unfold mny
  rw [List.map_cons, List.sum_cons]
theorem mny_snoc (l : List Srt) (x : Srt) : mny (l ++ [x]) = mny l + (x.2.1 + x.2.2) := by
  unfold mny
  rw [List.map_append, List.sum_append]
  simp
def ourn (ss : List Srt) : Nat := (ss.map fun x => x.2.1).sum
def gmF (ss : List Srt) (m : Int) : Nat := ((ss.filter fun x => decide (x.1 ≤ m)).map fun x => x.2.1 + x.2.2).sum
def filF (ss : List Srt) (m : Int) : Nat := (ss.map fun x => x.2.1 + if x.1 ≤ m then x.2.2 else 0).sum
def fxF (ss : List Srt) (m : Int) : List Nat := (ss.filter fun x => decide (x.1 > m)).map fun x => x.2.1
def turnF (ss : List Srt) : List Srt := ss.map fun x => (x.1, x.2.2, x.2.1)
theorem mny_turn (ss : List Srt) : mny (turnF ss) = mny ss := by
  unfold mny turnF
  rw [List.map_map]
  congr 1
  exact List.map_congr_left fun x _ => Nat.add_comm _ _
theorem turn_turn (ss : List Srt) : turnF (turnF ss) = ss := by
  unfold turnF
  rw [List.map_map]
  exact (List.map_congr_left fun x _ => rfl).trans (List.map_id ss)
/-- the ships of a fleet one by one -/
structure Rp (ss : List Srt) (k : Nat) (D : Nat → Int) (S : Nat → Bool) : Prop where
  here : ∀ P : Int → Bool, ((ss.filter fun x => P x.1).map fun x => x.2.1).sum = Th.cnt k (fun i => P (D i) && S i)
  there : ∀ P : Int → Bool, ((ss.filter fun x => P x.1).map fun x => x.2.2).sum = Th.cnt k (fun i => P (D i) && !S i)
theorem sum_two (f g : Srt → Nat) : ∀ l : List Srt, (l.map fun x => f x + g x).sum = (l.map f).sum + (l.map g).sum
  | [] => rfl
  | a :: l => by
    simp only [List.map_cons, List.sum_cons, sum_two f g l]
    omega
theorem sum_filter (P : Srt → Bool) (f : Srt → Nat) : ∀ l : List Srt, (l.map fun x => if P x = true then f x else 0).sum = ((l.filter P).map f).sum
  | [] => rfl
  | a :: l => by
    cases h : P a <;> simp [h, sum_filter P f l]
section
variable {ss : List Srt} {k : Nat} {D : Nat → Int} {S : Nat → Bool}
theorem Rp.gm (r : Rp ss k D S) (m : Int) : gmF ss m = Th.cnt k (fun i => decide (D i ≤ m)) := by
  unfold gmF
  rw [sum_two (fun x => x.2.1) (fun x => x.2.2), r.here fun d => decide (d ≤ m), r.there fun d => decide (d ≤ m)]
  exact (Th.cnt_split _ S).symm
theorem Rp.ourn (r : Rp ss k D S) : ourn ss = Th.cnt k S := by
  have e := r.here fun _ => true
  rw [List.filter_eq_self.mpr fun _ _ => rfl] at e
  exact e
theorem Rp.mny (r : Rp ss k D S) : mny ss = k := by
  have e := r.there fun _ => true
  rw [List.filter_eq_self.mpr fun _ _ => rfl] at e
  unfold Sh.mny
  rw [sum_two (fun x => x.2.1) (fun x => x.2.2), e]
  have e2 := r.ourn
  unfold Sh.ourn at e2
  rw [e2]
  exact Th.cnt_not S
theorem Rp.fil (r : Rp ss k D S) (m : Int) : filF ss m = Th.cnt k (fun i => S i || decide (D i ≤ m)) := by
  unfold filF
  rw [sum_two (fun x => x.2.1) (fun x => if x.1 ≤ m then x.2.2 else 0)]
  have e1 := r.ourn
  unfold Sh.ourn at e1
  have e2 : (ss.map fun x => if x.1 ≤ m then x.2.2 else 0).sum = Th.cnt k (fun i => decide (D i ≤ m) && !S i) := by
    rw [← r.there fun d => decide (d ≤ m), ← sum_filter]
    congr 1
    refine List.map_congr_left fun x _ => ?_
    by_cases z : x.1 ≤ m
    · rw [if_pos z, if_pos (decide_eq_true z)]
    · rw [if_neg z, if_neg (by simpa using z)]
  rw [e1, e2, Th.cnt_or_not]
theorem Rp.fx (r : Rp ss k D S) (m : Int) : (fxF ss m).sum = Th.cnt k (fun i => S i && !decide (D i ≤ m)) := by
  unfold fxF
  rw [r.here fun d => decide (d > m)]
  refine Th.cnt_congr fun i _ => ?_
  rw [Bool.and_comm]
  congr 1
  by_cases z : D i ≤ m
  · rw [decide_eq_true z, decide_eq_false (by omega)]; rfl
  · rw [decide_eq_false z, decide_eq_true (by omega)]; rfl
theorem Rp.turn (r : Rp ss k D S) : Rp (turnF ss) k D (Th.co S) := by
  refine ⟨fun P => ?_, fun P => ?_⟩
  · have e := r.there P
    unfold turnF
    rw [List.filter_map, List.map_map]
    exact e
  · have e := r.here P
    unfold turnF
    rw [List.filter_map, List.map_map]
    refine Eq.trans e ?_
    refine Th.cnt_congr fun i _ => ?_
    unfold Th.co
    rw [Bool.not_not]
end
/-- who goes at a step -/
def Gd (h t : Int) (k : Nat) (D : Nat → Int) : Nat → Nat → Bool := fun s i => decide (D i ≤ mk h t k (s : Int))
theorem top_lo' (h t : Int) (k : Nat) : 0 ≤ topI h t k := by
  unfold topI
  split <;> omega
theorem top_hi' (h t : Int) {k : Nat} (hk : 0 < k) : topI h t k < (k : Int) := by
  unfold topI
  repeat' split
  all_goals omega
theorem mk_le {h t : Int} {k : Nat} {s s' : Int} (s0 : 0 ≤ s) (a : s ≤ s') (b : s' ≤ topI h t k) : mk h t k s ≤ mk h t k s' := by
  unfold mk topI at *
  repeat' split
  all_goals (repeat' split at b)
  all_goals omega
theorem mk_dn {h t : Int} {k : Nat} {s s' : Int} (c : topI h t k ≤ s) (a : s ≤ s') (d : s' < (k : Int)) : mk h t k s' ≤ mk h t k s := by
  unfold mk topI at *
  repeat' split
  all_goals (repeat' split at c)
  all_goals omega
theorem mk_turn' {h t : Int} {k : Nat} {s : Int} : mk t h k s = mk h t k ((k : Int) - 1 - s) := by
  unfold mk
  split <;> split <;> omega
/-- up to the top the water here bounds -/
theorem mk_low {h t : Int} {k : Nat} {s : Int} (s0 : 0 ≤ s) (b : s < topI h t k) : mk h t k s = h + s := by
  unfold mk topI at *
  repeat' split at b
  all_goals split
  all_goals omega
theorem mk_high {h t : Int} {k : Nat} {s : Int} (s0 : 0 ≤ s) (b : s < (k : Int) - 1 - topI h t k) : mk t h k s = t + s := by
  unfold mk topI at *
  repeat' split at b
  all_goals split
  all_goals omega
theorem top_D (h t : Int) {k : Nat} (D : Nat → Int) (hk : 0 < k) : Th.Top k (Gd h t k D) (topI h t k).toNat := by
  have t0 := top_lo' h t k
  have t1 := top_hi' h t hk
  refine ⟨by omega, fun s s' i a b g => ?_, fun s s' i a b c g => ?_⟩
  · have g' : D i ≤ mk h t k (s : Int) := of_decide_eq_true g
    exact decide_eq_true (Int.le_trans g' (mk_le (by omega) (by omega) (by omega)))
  · have g' : D i ≤ mk h t k (s' : Int) := of_decide_eq_true g
    exact decide_eq_true (Int.le_trans g' (mk_dn (by omega) (by omega) (by omega)))
theorem Gd_turn {h t : Int} {k : Nat} {D : Nat → Int} {s i : Nat} (hs : s < k) : Gd t h k D s i = Th.dual k (Gd h t k D) s i := by
  unfold Gd Th.dual
  rw [mk_turn', show ((k : Int) - 1 - (s : Int)) = ((k - 1 - s : Nat) : Int) by omega]
/-! ### stuck, by sums -/
def StuckF (h t : Int) (ss : List Srt) (N : Nat) : Prop := ourn ss ≤ N ∧ (∀ n : Nat, ourn ss ≤ n → n < N → n < filF ss (mk h t (mny ss) (n : Int))) ∧ filF ss (mk h t (mny ss) (N : Int)) ≤ N
theorem Rp.stuck {ss : List Srt} {k : Nat} {D : Nat → Int} {S : Nat → Bool} (r : Rp ss k D S) (h t : Int) (N : Nat) : StuckF h t ss N ↔ Th.StuckLow k (Gd h t k D) N S := by
  unfold StuckF Th.StuckLow
  rw [r.ourn, r.mny, r.fil]
  have e : ∀ n : Nat, filF ss (Sh.mk h t k (n : Int)) = Th.cnt k (fun i => S i || Gd h t k D n i) := fun n => r.fil _
  simp only [e]
  exact Iff.rfl
end Sh
namespace Th
theorem StuckLow.congr {k : Nat} {G G' : Nat → Nat → Bool} {S : Nat → Bool} {N : Nat} (hN : N < k) (e : ∀ s i, s < k → G s i = G' s i) (h : StuckLow k G N S) : StuckLow k G' N S := by
  have e2 : ∀ n, n < k → cnt k (fun i => S i || G n i) = cnt k (fun i => S i || G' n i) := fun n hn => cnt_congr fun i _ => by rw [e n i hn]
  refine ⟨h.1, fun n a b => ?_, ?_⟩
  · rw [← e2 n (by omega)]
    exact h.2.1 n a b
  · rw [← e2 N hN]
    exact h.2.2
/-- gets to the top's number, and somebody may go there -/
def Open (k : Nat) (G : Nat → Nat → Bool) (T : Nat) (S : Nat → Bool) : Prop := (Rises k G T S ∨ Sinks k G T S) ∧ T < cnt k (fun i => S i || G T i)
theorem Open.congr {k : Nat} {G G' : Nat → Nat → Bool} {T : Nat} {S : Nat → Bool} (hT : T < k) (e : ∀ s i, s < k → G s i = G' s i) (h : Open k G T S) : Open k G' T S := by
  have e2 : ∀ n, n < k → cnt k (fun i => S i || G n i) = cnt k (fun i => S i || G' n i) := fun n hn => cnt_congr fun i _ => by rw [e n i hn]
  have e3 : ∀ n, n < k → cnt k (fun i => S i && !G n i) = cnt k (fun i => S i && !G' n i) := fun n hn => cnt_congr fun i _ => by rw [e n i hn]
  have cl := cnt_le k S
  refine ⟨h.1.imp (fun q => ⟨q.1, fun n a b => ?_⟩) (fun q => ⟨q.1, fun s a b => ?_⟩), ?_⟩
  · rw [← e2 n (by omega)]
    exact q.2 n a b
  · rw [← e3 s (by omega)]
    exact q.2 s a b
  · rw [← e2 T hT]
    exact h.2
theorem cnt_and_or {k : Nat} (S f : Nat → Bool) : cnt k (fun i => S i && !f i) + cnt k f = cnt k (fun i => S i || f i) := by
  have e := cnt_or_not (k := k) f S
  have e1 : (fun i => f i || S i) = (fun i => S i || f i) := funext fun i => Bool.or_comm _ _
  rw [e1] at e
  omega
theorem Open.dual {k : Nat} {G : Nat → Nat → Bool} {T : Nat} {S : Nat → Bool} (t : Top k G T) (h : Open k G T S) : Open k (Th.dual k G) (k - 1 - T) (co S) := by
  have tl := t.lt
  have c0 := cnt_co k S
  have cle := cnt_le k S
  have key : ∀ n, n < k → cnt k (fun i => co S i && !Th.dual k G (k - 1 - n) i) + cnt k (fun i => S i || G n i) = k := fun n hn => by
    have e : (fun i => co S i && !Th.dual k G (k - 1 - n) i) = co (fun i => S i || G n i) := by
      funext i
      have := dual_dual_at (G := G) (k := k) (s := n) hn i
      unfold Th.dual at this
      show (!S i && !G (k - 1 - (k - 1 - n)) i) = !(S i || G n i)
      rw [this]
      cases S i <;> cases G n i <;> rfl
    rw [e, Nat.add_comm]
    exact cnt_co k _
  have key2 : ∀ n, n < k → cnt k (fun i => co S i || Th.dual k G (k - 1 - n) i) + cnt k (fun i => S i && !G n i) = k := fun n hn => by
    have e : (fun i => co S i || Th.dual k G (k - 1 - n) i) = co (fun i => S i && !G n i) := by
      rw [co_or]
      funext i
      have := dual_dual_at (G := G) (k := k) (s := n) hn i
      unfold Th.dual at this
      show (!(S i && !G (k - 1 - (k - 1 - n)) i)) = !(S i && !G n i)
      rw [this]
    rw [e, Nat.add_comm]
    exact cnt_co k _
  obtain ⟨rs, hc⟩ := h
  have hf : cnt k (fun i => S i && !G T i) ≤ T := by
    rcases rs with q | q
    · exact Nat.le_trans (cnt_mono fun i _ w => by revert w; cases S i <;> simp) q.1
    · exact q.2 T (Nat.le_refl _) q.1
  refine ⟨?_, ?_⟩
  · rcases rs with ⟨q1, q2⟩ | ⟨q1, q2⟩
    · refine .inr ⟨by omega, fun s a b => ?_⟩
      have hk := key (k - 1 - s) (by omega)
      rw [show k - 1 - (k - 1 - s) = s by omega] at hk
      have : k - 1 - s < cnt k (fun i => S i || G (k - 1 - s) i) := by
        by_cases z : k - 1 - s = T
        · rw [z]; exact hc
        · exact q2 _ (by omega) (by omega)
      omega
    · refine .inl ⟨by omega, fun n a b => ?_⟩
      have hk := key2 (k - 1 - n) (by omega)
      rw [show k - 1 - (k - 1 - n) = n by omega] at hk
      have := q2 (k - 1 - n) (by omega) (by omega)
      omega
  · have hk := key2 T tl
    omega
/-- how few can come to lie here, of a lot that gets to the top's number -/
theorem open_counts_low {k : Nat} {G : Nat → Nat → Bool} {T n : Nat} {S : Nat → Bool} (t : Top k G T) (h : Open k G T S) (hn : n ≤ T + 1) : (∃ U, Reach k G S U ∧ cnt k U = n) ↔ cnt k (fun i => S i && !G T i) ≤ n ∧ ∀ m, m ≤ T → m + 1 ≤ n + cnt k (G m) := by
  have tl := t.lt
  have hd := h.dual t
  have oc := open_counts (n := k - n) t.dual hd.1 (by omega)
  have e1 : (∃ U, Reach k G S U ∧ cnt k U = n) ↔ ∃ U, Reach k (Th.dual k G) (co S) U ∧ cnt k U = k - n := by
    constructor
    · rintro ⟨U, r, c⟩
      refine ⟨co U, r.dual, ?_⟩
      have := cnt_co k U
      omega
    · rintro ⟨U, r, c⟩
      refine ⟨co U, ?_, ?_⟩
      · refine Reach.codual ?_
        rw [co_co]
        exact r
      · have := cnt_co k U
        omega
  have e2 : cnt k (fun i => co S i || Th.dual k G (k - 1 - T) i) + cnt k (fun i => S i && !G T i) = k := by
    have e : (fun i => co S i || Th.dual k G (k - 1 - T) i) = co (fun i => S i && !G T i) := by
      rw [co_or]
      funext i
      have := dual_dual_at (G := G) (k := k) (s := T) tl i
      unfold Th.dual at this
      show (!(S i && !G (k - 1 - (k - 1 - T)) i)) = !(S i && !G T i)
      rw [this]
    rw [e, Nat.add_comm]
    exact cnt_co k _
  rw [e1, oc]
  constructor
  · rintro ⟨a, b⟩
    refine ⟨by omega, fun m hm => ?_⟩
    have := b (k - 1 - m) (by omega) (by omega)
    unfold Th.dual at this
    rw [show k - 1 - (k - 1 - m) = m by omega] at this
    have this' : k - n ≤ k - 1 - m + cnt k (G m) := this
    omega
  · rintro ⟨a, b⟩
    refine ⟨by omega, fun s hs hk => ?_⟩
    have := b (k - 1 - s) (by omega)
    show k - n ≤ s + cnt k (G (k - 1 - s))
    omega
def IsMin (k : Nat) (G : Nat → Nat → Bool) (S : Nat → Bool) (n : Nat) : Prop := (∃ U, Reach k G S U ∧ cnt k U = n) ∧ ∀ U, Reach k G S U → n ≤ cnt k U
def IsMax (k : Nat) (G : Nat → Nat → Bool) (S : Nat → Bool) (n : Nat) : Prop := (∃ U, Reach k G S U ∧ cnt k U = n) ∧ ∀ U, Reach k G S U → cnt k U ≤ n
theorem IsMin.co {k : Nat} {G : Nat → Nat → Bool} {S : Nat → Bool} {n : Nat} (h : IsMin k (Th.dual k G) (co S) n) : n ≤ k ∧ IsMax k G S (k - n) := by
  obtain ⟨⟨U, r, c⟩, hm⟩ := h
  have cu := cnt_le k U
  refine ⟨by omega, ⟨Th.co U, ?_, ?_⟩, fun W rW => ?_⟩
  · refine Reach.codual ?_
    rw [co_co]
    exact r
  · have := cnt_co k U
    omega
  · have := hm _ rW.dual
    have := cnt_co k W
    omega
theorem IsMin.congr {k : Nat} {G G' : Nat → Nat → Bool} {S : Nat → Bool} {n : Nat} (e : ∀ s i, s < k → G s i = G' s i) (h : IsMin k G S n) : IsMin k G' S n := by
  obtain ⟨⟨U, r, c⟩, hm⟩ := h
  exact ⟨⟨U, r.congr e, c⟩, fun W rW => hm W (rW.congr fun s i hs => (e s i hs).symm)⟩
theorem stuck_min_high {k : Nat} {G : Nat → Nat → Bool} {T N : Nat} {S : Nat → Bool} (t : Top k G T) (hN : N ≤ T) (h : StuckLow k G N S) : IsMax k G S N := by
  obtain ⟨U, r, c, _⟩ := h.full t hN
  exact ⟨⟨U, r, c⟩, fun W rW => (h.under t hN rW).1⟩
end Th
namespace Sh
/-! ### the least number, as it's told -/
/-- m is the greatest of what least_in looks at -/
def LeastI (h t : Int) (ss : List Srt) (step : Int) (m : Int) : Prop :=
  (m = ((fxF ss (mk h t (mny ss) step)).sum : Int) ∨ ∃ e : Int, (e = step ∨ (∃ x ∈ ss, e = x.1 - h ∧ e < step)) ∧ 0 < e ∧ m = e - (gmF ss (mk h t (mny ss) (e - 1)) : Int)) ∧
  ((fxF ss (mk h t (mny ss) step)).sum : Int) ≤ m ∧ ∀ e : Int, (e = step ∨ (∃ x ∈ ss, e = x.1 - h ∧ e < step)) → 0 < e → e - (gmF ss (mk h t (mny ss) (e - 1)) : Int) ≤ m
/-- the ends are enough -/
theorem least_ends {h t : Int} {ss : List Srt} {N : Nat} {m0 : Int} (hm : ∀ m : Nat, m < N → mk h t (mny ss) (m : Int) = h + m)
    (ub : ∀ e : Int, (e = (N : Int) ∨ (∃ x ∈ ss, e = x.1 - h ∧ e < (N : Int))) → 0 < e → e - (gmF ss (mk h t (mny ss) (e - 1)) : Int) ≤ m0) :
    ∀ (j m : Nat), m < N → N - m = j → (m : Int) + 1 - (gmF ss (mk h t (mny ss) (m : Int)) : Int) ≤ m0 := by
  intro j
  induction j with
  | zero => intro m a b; omega
  | succ j ih =>
    intro m a b
    by_cases z : m + 1 = N
    · have := ub N (.inl rfl) (by omega)
      rw [show (N : Int) - 1 = (m : Int) by omega] at this
      omega
    · by_cases q : ∃ x ∈ ss, x.1 - h = (m : Int) + 1
      · obtain ⟨x, hx, e⟩ := q
        have := ub ((m : Int) + 1) (.inr ⟨x, hx, e.symm, by omega⟩) (by omega)
        rw [show (m : Int) + 1 - 1 = (m : Int) by omega] at this
        exact this
      · have i2 := ih (m + 1) (by omega) (by omega)
        rw [hm (m + 1) (by omega)] at i2
        rw [hm m a]
        have e : gmF ss (h + ((m + 1 : Nat) : Int)) = gmF ss (h + (m : Int)) := by
          unfold gmF
          congr 2
          refine List.filter_congr fun x hx => ?_
          rw [decide_eq_decide]
          have : ¬ x.1 - h = (m : Int) + 1 := fun w => q ⟨x, hx, w⟩
          omega
        rw [e] at i2
        omega
section
variable {ss : List Srt} {k : Nat} {D : Nat → Int} {S : Nat → Bool} {h t : Int}
theorem least_low (r : Rp ss k D S) {T N : Nat} (tp : Th.Top k (Gd h t k D) T) (hN : N ≤ T) (sl : Th.StuckLow k (Gd h t k D) N S) (hm : ∀ m : Nat, m < N → mk h t k (m : Int) = h + m) {m0 : Int} (L : LeastI h t ss (N : Int) m0) :
    ∃ n : Nat, m0 = (n : Int) ∧ Th.IsMin k (Gd h t k D) S n := by
  obtain ⟨l1, l2, l3⟩ := L
  have km := r.mny
  have hends := least_ends (h := h) (t := t) (ss := ss) (N := N) (by rw [km]; exact hm) l3
  have efx := r.fx (mk h t (mny ss) (N : Int))
  rw [km] at efx hends l1 l2 l3
  have gme : ∀ m : Nat, gmF ss (mk h t k (m : Int)) = Th.cnt k (Gd h t k D m) := fun m => r.gm _
  have fxle : (fxF ss (mk h t k (N : Int))).sum ≤ Th.cnt k S := by
    rw [efx]
    exact Th.cnt_mono fun i _ w => by revert w; cases S i <;> simp
  have m0N : m0 ≤ (N : Int) := by
    have := sl.1
    rcases l1 with e | ⟨e, he, e0, e1⟩
    · omega
    · rcases he with he | ⟨x, _, _, he⟩ <;> omega
  have cond : ∀ m, m < N → m + 1 ≤ m0.toNat + Th.cnt k (Gd h t k D m) := fun m a => by
    have := hends _ m a rfl
    rw [gme] at this
    omega
  refine ⟨m0.toNat, by omega, (Th.low_counts sl tp hN (by omega)).mpr cond, fun U rU => ?_⟩
  have ur := sl.under tp hN rU
  have lc := (Th.low_counts sl tp hN ur.1).mp ⟨U, rU, rfl⟩
  rcases l1 with e | ⟨e, he, e0, e1⟩
  · have : Th.cnt k (fun i => S i && !Gd h t k D N i) ≤ Th.cnt k U := Th.cnt_mono fun i hi w => by
      have := ur.2 i hi
      revert w this
      cases S i <;> cases U i <;> cases Gd h t k D N i <;> simp
    have e3 : (fxF ss (mk h t k (N : Int))).sum = Th.cnt k (fun i => S i && !Gd h t k D N i) := efx
    omega
  · have eN : e ≤ (N : Int) := by rcases he with he | ⟨x, _, _, he⟩ <;> omega
    have := lc (e - 1).toNat (by omega)
    rw [show e - 1 = (((e - 1).toNat : Nat) : Int) by omega, gme] at e1
    omega
theorem least_open (r : Rp ss k D S) {T : Nat} (tp : Th.Top k (Gd h t k D) T) (op : Th.Open k (Gd h t k D) T S) (hm : ∀ m : Nat, m < T → mk h t k (m : Int) = h + m) {m0 : Int} (L : LeastI h t ss (T : Int) m0) :
    ∃ n : Nat, m0 = (n : Int) ∧ Th.IsMin k (Gd h t k D) S n := by
  obtain ⟨l1, l2, l3⟩ := L
  have km := r.mny
  have hends := least_ends (h := h) (t := t) (ss := ss) (N := T) (by rw [km]; exact hm) l3
  have efx := r.fx (mk h t (mny ss) (T : Int))
  rw [km] at efx hends l1 l2 l3
  have e3 : (fxF ss (mk h t k (T : Int))).sum = Th.cnt k (fun i => S i && !Gd h t k D T i) := efx
  have gme : ∀ m : Nat, gmF ss (mk h t k (m : Int)) = Th.cnt k (Gd h t k D m) := fun m => r.gm _
  have fT : Th.cnt k (fun i => S i && !Gd h t k D T i) ≤ T := by
    rcases op.1 with q | q
    · exact Nat.le_trans (Th.cnt_mono fun i _ w => by revert w; cases S i <;> simp) q.1
    · exact q.2 T (Nat.le_refl _) q.1
  have m0N : m0 ≤ (T : Int) := by
    rcases l1 with e | ⟨e, he, e0, e1⟩
    · omega
    · rcases he with he | ⟨x, _, _, he⟩ <;> omega
  have ca := Th.cnt_and_or (k := k) S (Gd h t k D T)
  have opc := op.2
  refine ⟨m0.toNat, by omega, (Th.open_counts_low tp op (by omega)).mpr ⟨by omega, fun m a => ?_⟩, fun U rU => ?_⟩
  · by_cases z : m = T
    · subst z
      omega
    · have := hends _ m (by omega) rfl
      rw [gme] at this
      omega
  · by_cases z : Th.cnt k U ≤ T + 1
    · have lc := (Th.open_counts_low tp op z).mp ⟨U, rU, rfl⟩
      rcases l1 with e | ⟨e, he, e0, e1⟩
      · have := lc.1
        omega
      · have eN : e ≤ (T : Int) := by rcases he with he | ⟨x, _, _, he⟩ <;> omega
        have := lc.2 (e - 1).toNat (by omega)
        rw [show e - 1 = (((e - 1).toNat : Nat) : Int) by omega, gme] at e1
        omega
    · omega
end
end Sh

namespace Sh
open PySem PySem.Spec PyProof.Rows L2
theorem may_May {h t : Int} {ds : List Int} {L : List Nat} {i : Nat} (hL : Lot ds.length L) (hi : i < ds.length) : mayB h t ds L i = true ↔ Th.May ds.length (Gof h t ds) (mem L) i := by
  rw [may_G, near_cnt hL hi]
  unfold Th.May
  rw [cnt_mem hL]
  unfold mem
  by_cases z : i ∈ L
  · rw [if_pos z, decide_eq_true z, if_pos rfl]
  · rw [if_neg z, decide_eq_false z, if_neg Bool.false_ne_true]
/-- the lot of a set -/
def lotOf (c : Nat) (U : Nat → Bool) : List Nat := (List.range c).filter U
theorem lotOf_lot (c : Nat) (U : Nat → Bool) : Lot c (lotOf c U) := (Lot.all c).filter _
theorem lotOf_mem {c : Nat} {U : Nat → Bool} {i : Nat} (hi : i < c) : mem (lotOf c U) i = U i := by
  unfold mem lotOf
  rw [Bool.eq_iff_iff, decide_eq_true_eq, List.mem_filter, List.mem_range]
  exact ⟨fun q => q.2, fun q => ⟨hi, q⟩⟩
theorem lotOf_eq {h t : Int} {ds : List Int} {L : List Nat} {U : Nat → Bool} (hL : Lot ds.length L) (r : Th.Reach ds.length (Gof h t ds) (mem L) U) : mem (lotOf ds.length U) = U := by
  funext i
  by_cases hi : i < ds.length
  · exact lotOf_mem hi
  · rw [Th.reach_out r i hi, mem_out hL hi, mem_out (lotOf_lot _ _) hi]
/-- to be one of those that ever go, by lots or by sets -/
theorem ex_moves {h t : Int} {ds : List Int} {L : List Nat} (hL : Lot ds.length L) {i : Nat} (hi : i < ds.length) : (∃ M, Lot ds.length M ∧ Rl h t ds L M ∧ mayB h t ds M i = true) ↔ Th.Moves ds.length (Gof h t ds) (mem L) i := by
  constructor
  · rintro ⟨M, l, r, m⟩
    exact ⟨mem M, r, (may_May l hi).mp m⟩
  · rintro ⟨U, r, m⟩
    have e := lotOf_eq hL r
    refine ⟨lotOf ds.length U, lotOf_lot _ _, ?_, ?_⟩
    · unfold Rl
      rw [e]
      exact r
    · rw [may_May (lotOf_lot _ _) hi, e]
      exact m
theorem movers_moves {h t : Int} {ds : List Int} {L ms : List Nat} (hL : Lot ds.length L) (im : IsMovers h t ds L ms) {i : Nat} (hi : i < ds.length) : i ∈ ms ↔ Th.Moves ds.length (Gof h t ds) (mem L) i := by
  rw [im.2 i hi, ex_moves hL hi]
/-- the most, the least, by sets -/
theorem isMost_of {h t : Int} {ds : List Int} {L : List Nat} {n : Nat} (hL : Lot ds.length L) (q : Th.IsMax ds.length (Gof h t ds) (mem L) n) : IsMost h t ds L n := by
  obtain ⟨⟨U, r, c⟩, hm⟩ := q
  have e := lotOf_eq hL r
  refine ⟨⟨lotOf ds.length U, lotOf_lot _ _, ?_, ?_⟩, fun M l rM => ?_⟩
  · unfold Rl
    rw [e]
    exact r
  · rw [← cnt_mem (lotOf_lot _ _), e]
    exact c
  · rw [← cnt_mem l]
    exact hm _ rM
theorem isLeast_of {h t : Int} {ds : List Int} {L : List Nat} {n : Nat} (hL : Lot ds.length L) (q : Th.IsMin ds.length (Gof h t ds) (mem L) n) : IsLeast h t ds L n := by
  obtain ⟨⟨U, r, c⟩, hm⟩ := q
  have e := lotOf_eq hL r
  refine ⟨⟨lotOf ds.length U, lotOf_lot _ _, ?_, ?_⟩, fun M l rM => ?_⟩
  · unfold Rl
    rw [e]
    exact r
  · rw [← cnt_mem (lotOf_lot _ _), e]
    exact c
  · rw [← cnt_mem l]
    exact hm _ rM
end Sh

/-! set(xs) of a list of ints, by the walk of the list -/
namespace Sh
open PySem PySem.Spec PyProof.Rows L2
section
variable {P : Program} {w : World} {A : Around} {E : Value → Shared → Prop} {s : Shared}
/-- a set as it is born -/
abbrev Bare (w : World) : Obj := { cls := .type "set", dict := none, data := .set #[] 0 (.fresh 0 0 (!w.params.followText "set-order")) }
/-- what is left: a set of the ints; all that stood stands -/
def Made (w : World) (s : Shared) (ns : List Int) (t : Shared) : Prop := ∃ (h' : Heap) (tk c : Nat), t = { s with heap := h', toks := tk } ∧ SetR w h' s.heap.objs.size (fun j => decide (j ∈ ns)) c ∧ c ≤ ns.length ∧ ∀ b o, s.heap.get? b = some o → h'.get? b = some o
/-- the ints of the list, one by one, into the set that was born at the end of the heap -/
theorem fill_lst {A3 : Around} {l : Addr} {items : Array Value} {ns : List Int} {R : Result → Shared → Prop} (hh : A3.in1.handled = none) (hl : s.heap.IsList l items) (hit : IntsAre items.toList ns) (hb : ns.length + 1 < scanBound)
    (hR : ∀ t, Made w s ns t → R (.ok (.ret .none)) t) :
    codeAny (model P w) A3 (.builtin "set.update.loop" ⟨[.ref s.heap.objs.size, .ref (s.heap.push (Bare w)).objs.size], []⟩) R { s with heap := (s.heap.push (Bare w)).push { cls := .type "list_iterator", data := .fields #[.ref l, .int 0 0] } } := by
  have n1 : items.size = ns.length := by rw [← Array.length_toList]; exact hit.length
  obtain ⟨ol, e1, e2, e3⟩ := id hl
  have l1 : l < s.heap.objs.size := Heap.lt_size e1
  have z1 : (s.heap.push (Bare w)).objs.size = s.heap.objs.size + 1 := Heap.size_push ..
  have l2 : l ≠ (s.heap.push (Bare w)).objs.size := by rw [z1]; exact Nat.ne_of_lt (Nat.lt_succ_of_lt l1)
  have vals : ∀ (i : Nat) (v : Value), items[i]? = some v → ∃ k t, ns[i]? = some k ∧ v = .int k t := by
    intro i v hv
    have hi : i < ns.length := n1 ▸ (Array.getElem?_eq_some_iff.mp hv).1
    obtain ⟨t, e⟩ := IntsAre.int_at hit i v (by rw [Array.getElem?_toList]; exact hv)
    exact ⟨ns[i], t, List.getElem?_eq_getElem hi, by rw [e, List.getD_eq_getElem?_getD, List.getElem?_eq_getElem hi]; rfl⟩
  have born : ((s.heap.push (Bare w)).push { cls := .type "list_iterator", data := .fields #[.ref l, .int 0 0] }).get? s.heap.objs.size = some (Bare w) := Heap.get?_push_of_some _ (Heap.get?_push_size _ rfl)
  refine set_update_ints ((Walks.list hh _ l l2 items).toS) s.heap.objs.size (by rw [z1]; simp only [List.mem_cons, List.not_mem_nil, or_false, not_or]; exact ⟨Nat.ne_of_lt (Nat.lt_succ_self _), Nat.ne_of_gt l1⟩) ns n1 hb vals (items.size - 0) 0 _ (by omega) (Nat.zero_le _) ⟨⟨_, Heap.get?_push_size _ rfl, rfl, rfl⟩, (hl.push _).push _⟩ ⟨0, Nat.le_refl 0, setR_new_at born⟩ ?_
  rintro ⟨h', g2, d', tk', os'⟩ c' mv hc' hS'
  obtain rfl : g2 = s.gens := mv.gens
  obtain rfl : d' = s.drawn := mv.drawn
  obtain rfl : os' = s.os := mv.os
  refine hR _ ⟨h', tk', c', rfl, hS', by omega, fun b o e => ?_⟩
  have b0 := Heap.lt_size e
  exact mv.heap b o (by rw [z1]; simp only [List.mem_cons, List.not_mem_nil, or_false, not_or]; exact ⟨Nat.ne_of_lt b0, Nat.ne_of_lt (Nat.lt_succ_of_lt b0)⟩) (Heap.get?_push_of_some _ (Heap.get?_push_of_some _ e))
set_option maxHeartbeats 4000000 in
/-- set(xs) -/
theorem call_set_lst {l : Addr} {items : Array Value} {ns : List Int} {Q : Value → Shared → Prop} (hh : A.handled = none) (hl : s.heap.IsList l items) (hit : IntsAre items.toList ns) (hb : ns.length + 1 < scanBound)
    (h : ∀ t, Made w s ns t → Q (.ref s.heap.objs.size) t) : wpAny (model P w) A (call (.type "set") [.ref l]) Q E s := by
  have ⟨_, _, m1⟩ := F.called_set.mro; have m2 := F.called_set.made; have m3 := F.called_set.sub; have m4 := F.called_set.notType; have m5 := F.called_set.canCreate; have m6 := F.typeCall_set_1 (.ref l)
  refine wpAny_call (codeAny_of_tree (show wpAny _ _ (callAny (.type "set") _) _ _ _ from wpAny_pure ⟨Code.quiet_builtin _ (by decide +kernel), codeAny_builtin F.entry_type_call ?_⟩))
  rw [Around.under_plain (weight_type_call_type "set" [.ref l] []) rfl]
  repeat (any_goals (first | assumption | wp_step))
  refine codeAny_mono (code_set_led1 (.ref l) (E := E) (Q₁ := fun x t => x = .ref s.heap.objs.size ∧ t = { s with heap := s.heap.push (Bare w) }) ⟨rfl, rfl⟩) fun r t hr => ?_
  rcases r with e | fl
  · exact hr
  · rcases fl with x | _ | _ | _
    all_goals try exact hr.elim
    obtain ⟨rfl, rfl⟩ := hr
    have born : (s.heap.push (Bare w)).get? s.heap.objs.size = some (Bare w) := Heap.get?_push_size _ rfl
    have ty : Shared.TypeIs { s with heap := s.heap.push (Bare w) } (.ref s.heap.objs.size) "set" := ⟨_, born, rfl⟩
    have i1 := F.called_set.init.lookup; have i2 := F.called_set.init.bind (.ref s.heap.objs.size)
    repeat (any_goals (first | assumption | wp_step))
    refine codeAny_mono (codeAny_call_builtin (R := wants (fun x t => x = .none ∧ Made w s ns t) E) F.called_set.init.plain F.entry_set_init (check_set_init_1 ty ?_)) fun r2 t2 hr2 => ?_
    · obtain ⟨⟨ocls, odict, odata, oslots⟩, e1, e2, nl, e3⟩ := id hl
      simp only at e2 e3
      subst e2 e3
      have l1 : (s.heap.push (Bare w)).IsList l items := hl.push _
      have e4 : (s.heap.push (Bare w)).get? l = some { cls := .type "list", dict := odict, data := .seq items nl, slots := oslots } := Heap.get?_push_of_some _ e1
      have f1 := F.sub_list_set; have f2 := F.sub_list_frozenset; have f3 : (Value.type "list" == Value.type "dict") = false := by decide
      unfold Builtin.«set.__init__» noKeywords Builtin.Frozenset.updateFrom
      generalize eI : pyIter = it; wp_walk; subst eI
      refine wpAny_pyIter_list l1 (wpAny_bind (wpAny_runValue (fill_lst (by simp [hh]) hl hit hb fun t m => ?_)))
      exact wpAny_pure (wpAny_pure ⟨rfl, m⟩)
    · rcases r2 with e | fl
      · exact hr2
      · rcases fl with x | _ | _ | _
        all_goals try exact hr2.elim
        obtain ⟨rfl, m⟩ := hr2
        repeat (any_goals (first | assumption | wp_step))
        exact h _ m
/-- the members, each once -/
theorem SetR.keys {h : Heap} {a : Addr} {ns : List Int} {c : Nat} (R : SetR w h a (fun j => decide (j ∈ ns)) c) : ∃ ks : List Int, ks.Nodup ∧ (∀ k, k ∈ ks ↔ k ∈ ns) ∧ c = ks.length := by
  obtain ⟨o, es, ep, t, _, _, _, _, nd, hm, _, _, hn, _⟩ := R
  refine ⟨es.toList.map keyOf, nd, fun k => ?_, ?_⟩
  · rw [← hm k, decide_eq_true_eq]
  · rw [List.length_map, Array.length_toList, hn]
/-- set(xs) of a list or a tuple of ints, as a thing that stands -/
def rSetA (K : PySem.W.Frag) (w : World) : List V → Hp → VK → Prop := fun xs H Q => ∃ (q : Addr) (ns : List Int), xs = [.ref q] ∧ SqA K H q (ns.map V.int) ∧ ns.length ≤ 1000 ∧ ∀ (a : Addr) (ks : List Int), H a = none → ks.Nodup → (∀ k, k ∈ ks ↔ k ∈ ns) → Q (.ref a) (upd H a (SetO w a (fun j => decide (j ∈ ns)) ks.length))
theorem cr_setA {X : Cx} (hc : X.calm = true) : CallR X (.type "set") (rSetA X.K X.w) := by
  intro pins s σ H xs us Q I r h
  obtain ⟨q, ns, rfl, hq | hq, hl, k⟩ := h
  · rw [Vals.ref1 r]
    obtain ⟨its, rv, pl, hz⟩ := I.list hq
    refine call_set_lst (ns := ns) (I.ok.hd hc) pl.isList (ints_of_vals rv) (by unfold scanBound; omega) ?_
    rintro t ⟨h', tk, c, rfl, R1, hcn, kk⟩
    obtain ⟨ks, k1, k2, rfl⟩ := SetR.keys R1
    exact ⟨.ref _, upd H s.heap.objs.size (SetO X.w s.heap.objs.size _ ks.length), I.laid (t' := tk) kk (Nat.le_refl _) (setO_new R1), rfl, k _ _ (I.hok.fresh (Nat.le_refl _)) k1 k2⟩
  · rw [Vals.ref1 r]
    obtain ⟨its, rv, pt, hz⟩ := I.tuple hq
    refine call_set_tupI ns (I.ok.hd hc) (show s.heap.IsTuple q its.toArray from pt) (ints_of_vals rv) (by unfold scanBound; omega) fun h' tk c R1 hcn kk => ?_
    obtain ⟨ks, k1, k2, rfl⟩ := SetR.keys R1
    exact ⟨.ref _, upd H s.heap.objs.size (SetO X.w s.heap.objs.size _ ks.length), I.laid (t' := tk) kk (Nat.le_refl _) (setO_new R1), rfl, k _ _ (I.hok.fresh (Nat.le_refl _)) k1 k2⟩
theorem cr_setAw {X : Cx} (w : World) (hc : X.calm = true) (hw : X.w = w := by rfl) : CallR X (.type "set") (rSetA X.K w) := hw ▸ cr_setA hc
end
end Sh

namespace Sh
open PySem PySem.Spec PyProof.Rows L2
/-! ### all that a standing comes to, layer by layer: the mathematics -/
def kL (L : List Nat) : List Key := L.map fun (i : Nat) => Sum.inl (i : Int)
theorem kL_ni (L : List Nat) : (kL L).map kV = ni L := by
  unfold kL ni
  rw [List.map_map]
  rfl
theorem kL_inj {L M : List Nat} (h : kL L = kL M) : L = M := by
  have e := congrArg (List.map fun k : Key => match k with | .inl i => i.toNat | .inr _ => 0) h
  unfold kL at e
  rw [List.map_map, List.map_map] at e
  have id' : ((fun k : Key => match k with | .inl i => i.toNat | .inr _ => 0) ∘ fun (i : Nat) => (Sum.inl (i : Int) : Key)) = id := by
    funext i
    exact Int.toNat_natCast i
  rw [id', List.map_id, List.map_id] at e
  exact e
/-- an entry: a standing, how far -/
def ent (p : List Nat × Nat) : List Key × V := (kL p.1, .int (p.2 : Int))
theorem val_none {F : List (List Nat × Nat)} {M : List Nat} : valV (F.map ent) (kL M) = none ↔ ¬ M ∈ F.map (·.1) := by
  induction F with
  | nil => exact ⟨fun _ h => (by cases h), fun _ => rfl⟩
  | cons p F ih =>
    rw [List.map_cons, List.map_cons]
    by_cases e : kL p.1 = kL M
    · rw [valV_pos e]
      exact ⟨fun h => (by cases h), fun h => absurd (by rw [kL_inj e]; exact List.mem_cons_self) h⟩
    · rw [valV_neg e, ih]
      have ne : M ≠ p.1 := fun z => e (by rw [z])
      rw [List.mem_cons]
      exact ⟨fun h z => z.elim ne h, fun h z => h (.inr z)⟩
theorem val_some {F : List (List Nat × Nat)} {M : List Nat} (h : M ∈ F.map (·.1)) : ∃ n : Nat, valV (F.map ent) (kL M) = some (.int (n : Int)) := by
  induction F with
  | nil => cases h
  | cons p F ih =>
    rw [List.map_cons]
    by_cases e : kL p.1 = kL M
    · exact ⟨p.2, by rw [valV_pos e]; rfl⟩
    · rw [valV_neg e]
      rcases List.mem_cons.mp h with z | z
      · exact absurd (by rw [z]) e
      · exact ih z
/-- all lots of so many ships -/
def allLots : Nat → List (List Nat)
  | 0 => [[]]
  | c + 1 => allLots c ++ (allLots c).map fun L => L ++ [c]
theorem allLots_len : ∀ c, (allLots c).length = 2 ^ c
  | 0 => rfl
  | c + 1 => by
    show (allLots c ++ (allLots c).map fun L => L ++ [c]).length = 2 ^ (c + 1)
    rw [List.length_append, List.length_map, allLots_len c, Nat.pow_succ]
    omega
theorem lot_all : ∀ {c : Nat} {L : List Nat}, Lot c L → L ∈ allLots c
  | 0, L, h => by
    cases L with
    | nil => exact List.mem_cons_self
    | cons a r => exact absurd (h.lt a List.mem_cons_self) (by omega)
  | c + 1, L, h => by
    show L ∈ allLots c ++ (allLots c).map fun L => L ++ [c]
    by_cases z : c ∈ L
    · refine List.mem_append.mpr (.inr (List.mem_map.mpr ⟨L.filter (fun i => decide (i < c)), lot_all ⟨h.up.filter _, fun i hi => of_decide_eq_true (List.mem_filter.mp hi).2⟩, ?_⟩))
      refine lot_ext (c := c + 1) ⟨List.pairwise_append.mpr ⟨h.up.filter _, List.pairwise_singleton _ _, fun a ha b hb => ?_⟩, fun i hi => ?_⟩ h fun i hi => ?_
      · rw [List.mem_singleton.mp hb]
        exact of_decide_eq_true (List.mem_filter.mp ha).2
      · rcases List.mem_append.mp hi with q | q
        · exact h.lt i (List.mem_filter.mp q).1
        · rw [List.mem_singleton.mp q]
          omega
      · unfold mem
        rw [decide_eq_decide, List.mem_append, List.mem_filter, List.mem_singleton, decide_eq_true_eq]
        constructor
        · rintro (q | q)
          · exact q.1
          · rw [q]; exact z
        · intro q
          by_cases e : i = c
          · exact .inr e
          · exact .inl ⟨q, by omega⟩
    · refine List.mem_append.mpr (.inl (lot_all ⟨h.up, fun i hi => ?_⟩))
      have := h.lt i hi
      have : i ≠ c := fun e => z (e ▸ hi)
      omega
theorem nodup_len {α : Type} [DecidableEq α] : ∀ {l m : List α}, l.Nodup → (∀ x ∈ l, x ∈ m) → l.length ≤ m.length
  | [], _, _, _ => Nat.zero_le _
  | a :: l, m, nd, h => by
    obtain ⟨n1, n2⟩ := List.nodup_cons.mp nd
    have ha := h a List.mem_cons_self
    have e := nodup_len (l := l) (m := m.erase a) n2 fun x hx => (List.mem_erase_of_ne (fun e : x = a => n1 (e ▸ hx))).mpr (h x (List.mem_cons_of_mem _ hx))
    rw [List.length_erase_of_mem ha] at e
    have : 0 < m.length := List.length_pos_iff.mpr (List.ne_nil_of_mem ha)
    rw [List.length_cons]
    omega
/-- what has been found so far -/
structure Lay (h t : Int) (ds : List Int) (L : List Nat) (F : List (List Nat × Nat)) : Prop where
  lot : ∀ M ∈ F.map (·.1), Lot ds.length M ∧ Rl h t ds L M
  nd : (F.map (·.1)).Nodup
  beg : L ∈ F.map (·.1)
theorem Lay.len {h t : Int} {ds : List Int} {L : List Nat} {F : List (List Nat × Nat)} (y : Lay h t ds L F) : F.length ≤ 2 ^ ds.length := by
  have := nodup_len y.nd (m := allLots ds.length) fun M hM => lot_all (y.lot M hM).1
  rw [List.length_map, allLots_len] at this
  exact this
theorem Lay.one {h t : Int} {ds : List Int} {L : List Nat} (hL : Lot ds.length L) : Lay h t ds L [(L, 0)] := ⟨fun M hM => by
  obtain rfl : M = L := List.mem_singleton.mp hM
  exact ⟨hL, .refl _⟩, by simp, List.mem_cons_self⟩
theorem Lay.add {h t : Int} {ds : List Int} {L : List Nat} {F : List (List Nat × Nat)} (y : Lay h t ds L F) {M : List Nat} {n : Nat} (a : Lot ds.length M) (b : Rl h t ds L M) (c : ¬ M ∈ F.map (·.1)) : Lay h t ds L (F ++ [(M, n)]) := by
  refine ⟨fun X hX => ?_, ?_, ?_⟩
  · rw [List.map_append] at hX
    rcases List.mem_append.mp hX with z | z
    · exact y.lot X z
    · obtain rfl : X = M := List.mem_singleton.mp z
      exact ⟨a, b⟩
  · rw [List.map_append]
    refine List.nodup_append.mpr ⟨y.nd, by simp, fun x hx z hz => ?_⟩
    have e : z = M := List.mem_singleton.mp hz
    exact fun q => c (by rw [← e, ← q]; exact hx)
  · rw [List.map_append]
    exact List.mem_append.mpr (.inl y.beg)
/-- closed under all crossings -/
def Closed (h t : Int) (ds : List Int) (X : List (List Nat)) : Prop := ∀ M ∈ X, ∀ i, i < ds.length → mayB h t ds M i = true → gone M i ∈ X
theorem Lay.all {h t : Int} {ds : List Int} {L : List Nat} {F : List (List Nat × Nat)} (y : Lay h t ds L F) (hL : Lot ds.length L) (c : Closed h t ds (F.map (·.1))) {M : List Nat} (hM : Lot ds.length M) : M ∈ F.map (·.1) ↔ Rl h t ds L M := by
  constructor
  · exact fun h => (y.lot M h).2
  · intro r
    have key : ∀ {U : Nat → Bool}, Th.Reach ds.length (Gof h t ds) (mem L) U → lotOf ds.length U ∈ F.map (·.1) := fun {U} r => by
      induction r with
      | refl =>
        rw [show lotOf ds.length (mem L) = L from lot_ext (lotOf_lot _ _) hL fun i hi => lotOf_mem hi]
        exact y.beg
      | @step B W rB st ih =>
        have eB := lotOf_eq hL rB
        have lB := lotOf_lot ds.length B
        have cB := cnt_mem lB
        rw [eB] at cB
        have fin : ∀ i, i < ds.length → Gof h t ds (if B i = true then Th.cnt ds.length B - 1 else Th.cnt ds.length B) i = true → lotOf ds.length (Th.flip B i) ∈ F.map (·.1) := fun i hi g => by
          have mb : mayB h t ds (lotOf ds.length B) i = true := by
            rw [may_May lB hi, eB]
            exact g
          have e : lotOf ds.length (Th.flip B i) = gone (lotOf ds.length B) i := lot_ext (lotOf_lot _ _) (gone_lot lB hi) fun j hj => by
            rw [lotOf_mem hj, gone_mem, eB]
          rw [e]
          exact c _ ih i hi mb
        cases st with
        | @up i hi hs hg => exact fin i hi (by rw [hs, if_neg Bool.false_ne_true]; exact hg)
        | @dn i hi hs hg => exact fin i hi (by rw [hs, if_pos rfl]; exact hg)
    have := key r
    rw [show lotOf ds.length (mem M) = M from lot_ext (lotOf_lot _ _) hM fun i hi => lotOf_mem hi] at this
    exact this
theorem shaped_lots (Ls : List (List Nat)) : SeqAt.shaped (.list (Ls.map fun M => .tuple ((M.map fun (i : Nat) => (i : Int)).map .int))) = true := by
  have a : PyData.canLayAll0 (Ls.map fun M => .tuple ((M.map fun (i : Nat) => (i : Int)).map .int)) = true ∧ PyData.depthAll (Ls.map fun M => .tuple ((M.map fun (i : Nat) => (i : Int)).map .int)) ≤ 1 := by
    induction Ls with
    | nil => exact ⟨rfl, Nat.zero_le _⟩
    | cons M Ls ih =>
      obtain ⟨l1, l2⟩ := lay_ints (M.map fun (i : Nat) => (i : Int))
      constructor
      · show (PyData.canLayAll0 ((M.map fun (i : Nat) => (i : Int)).map .int) && _) = true
        rw [l1, ih.1]
        rfl
      · show max (PyData.depthAll ((M.map fun (i : Nat) => (i : Int)).map .int) + 1) _ ≤ 1
        rw [l2]
        exact Nat.max_le.mpr ⟨Nat.le_refl _, ih.2⟩
  unfold SeqAt.shaped
  rw [show PyData.canLay0 (.list (Ls.map fun M => .tuple ((M.map fun (i : Nat) => (i : Int)).map .int))) = _ from a.1, show PyData.depth (.list (Ls.map fun M => .tuple ((M.map fun (i : Nat) => (i : Int)).map .int))) = PyData.depthAll (Ls.map fun M => .tuple ((M.map fun (i : Nat) => (i : Int)).map .int)) + 1 from rfl]
  have : PyData.depthAll (Ls.map fun M => .tuple ((M.map fun (i : Nat) => (i : Int)).map .int)) + 1 ≤ 64 := by omega
  simpa using this
theorem dp_lots {K : PySem.W.Frag} {H : Hp} : ∀ {Ls : List (Addr × List Nat)}, (∀ p ∈ Ls, H p.1 = some (.tup (ni p.2))) → DpAll K H (Ls.map fun p => V.ref p.1) ((Ls.map (·.2)).map fun M => .tuple ((M.map fun (i : Nat) => (i : Int)).map .int))
  | [], _ => .nil
  | p :: Ls, h => by
    refine .cons ?_ (dp_lots fun q hq => h q (List.mem_cons_of_mem _ hq))
    have e := h p List.mem_cons_self
    rw [ni_ints] at e
    exact .tup (SqT.of e) (DpAll.ints _)
theorem eqv_lnil (Ls : List PyData) : PyData.eqv (.list Ls) (.list []) = Ls.isEmpty := by cases Ls <;> rfl
end Sh

namespace Th
/-! ### how far: what is lacking -/
def CI (k : Nat) (P Q : Nat → Bool) : Int := (cnt k (fun i => P i && Q i) : Nat)
section
variable {k T : Nat} {G : Nat → Nat → Bool}
/-- all who lie otherwise may go at step s -/
def Win (k : Nat) (G : Nat → Nat → Bool) (S U : Nat → Bool) (s : Nat) : Prop := ∀ i, i < k → S i ≠ U i → G s i = true
/-- comers, leavers -/
def com (S U : Nat → Bool) : Nat → Bool := fun i => U i && !S i
/-- no more than n is shown to be lacking -/
structure LackLe (k T : Nat) (G : Nat → Nat → Bool) (S U : Nat → Bool) (n : Int) : Prop where
  n0 : 0 ≤ n
  b1 : ∀ s, s < T → ¬ Win k G S U s → (s : Int) + 1 - cnt k S - CI k (com S U) (G s) ≤ n
  b2 : ∀ s, s < T → ¬ Win k G S U s → (s : Int) + 1 - cnt k U - CI k (com U S) (G s) ≤ n
  a1 : ∀ s, T < s → s < k → ¬ Win k G S U s → (cnt k U : Int) - s - CI k (com S U) (G s) ≤ n
  a2 : ∀ s, T < s → s < k → ¬ Win k G S U s → (cnt k S : Int) - s - CI k (com U S) (G s) ≤ n
  c1 : ∀ s r, s < T → T < r → r < k → ¬ Win k G S U s → ¬ Win k G S U r → (s : Int) + 1 - cnt k S + (cnt k U - r) - CI k (com S U) (fun i => G s i || G r i) ≤ n
  c2 : ∀ s r, s < T → T < r → r < k → ¬ Win k G S U s → ¬ Win k G S U r → (s : Int) + 1 - cnt k U + (cnt k S - r) - CI k (com U S) (fun i => G s i || G r i) ≤ n
theorem CI_nonneg (P Q : Nat → Bool) : 0 ≤ CI k P Q := Int.natCast_nonneg _
theorem CI_mono {P Q Q' : Nat → Bool} (h : ∀ i, i < k → Q i = true → Q' i = true) : CI k P Q ≤ CI k P Q' := by
  unfold CI
  have := cnt_mono (k := k) (S := fun i => P i && Q i) (U := fun i => P i && Q' i) fun i hi z => by
    rw [Bool.and_eq_true] at z ⊢
    exact ⟨z.1, h i hi z.2⟩
  omega
theorem CI_le (P Q : Nat → Bool) : CI k P Q ≤ cnt k P := by
  unfold CI
  have := cnt_mono (k := k) (S := fun i => P i && Q i) (U := P) fun i hi z => by
    rw [Bool.and_eq_true] at z
    exact z.1
  omega
theorem CI_all {P Q : Nat → Bool} (h : ∀ i, i < k → P i = true → Q i = true) : CI k P Q = cnt k P := by
  unfold CI
  congr 1
  exact cnt_congr fun i hi => by
    cases e : P i with
    | false => rfl
    | true => rw [h i hi e]; rfl
/-- one more in P -/
theorem CI_more {P P' Q : Nat → Bool} {i : Nat} (hi : i < k) (h0 : P i = false) (h1 : P' i = true) (e : ∀ j, j ≠ i → P' j = P j) : CI k P' Q = CI k P Q + if Q i = true then 1 else 0 := by
  unfold CI
  cases q : Q i with
  | false =>
    rw [if_neg Bool.false_ne_true, Int.add_zero]
    congr 1
    refine cnt_congr fun j _ => ?_
    by_cases c : j = i
    · rw [c, q, Bool.and_false, Bool.and_false]
    · rw [e j c]
  | true =>
    rw [if_pos rfl]
    have z : (fun j => P' j && Q j) = flip (fun j => P j && Q j) i := by
      funext j
      by_cases c : j = i
      · subst c
        rw [flip_self, h0, h1, q]
        rfl
      · rw [flip_ne _ c, e j c]
    rw [z, cnt_flip_up hi (by show (P i && Q i) = false; rw [h0]; rfl)]
    omega
theorem cnt_more {P P' : Nat → Bool} {i : Nat} (hi : i < k) (h0 : P i = false) (h1 : P' i = true) (e : ∀ j, j ≠ i → P' j = P j) : (cnt k P' : Int) = cnt k P + 1 := by
  have z : P' = flip P i := by
    funext j
    by_cases c : j = i
    · subst c
      rw [flip_self, h0, h1]
      rfl
    · rw [flip_ne _ c, e j c]
  rw [z, cnt_flip_up hi h0]
  omega
/-- how many come, how many leave -/
theorem cnt_bal (S U : Nat → Bool) : (cnt k S : Int) + cnt k (com S U) = cnt k U + cnt k (com U S) := by
  have a := cnt_or_not (k := k) S U
  have b := cnt_or_not (k := k) U S
  have c : cnt k (fun i => S i || U i) = cnt k (fun i => U i || S i) := cnt_congr fun i _ => Bool.or_comm _ _
  show (cnt k S : Int) + (cnt k (fun i => U i && !S i) : Nat) = cnt k U + (cnt k (fun i => S i && !U i) : Nat)
  omega
end
end Th

namespace Th
section
variable {k T : Nat} {G : Nat → Nat → Bool} {S U : Nat → Bool}
theorem CI_congr {P P' Q : Nat → Bool} (e : ∀ j, j < k → P' j = P j) : CI k P' Q = CI k P Q := by
  unfold CI
  congr 1
  exact cnt_congr fun j hj => by rw [e j hj]
/-- of any two steps the goers of the one are among those of the other -/
def Nest (k : Nat) (G : Nat → Nat → Bool) : Prop := ∀ s r, s < k → r < k → (∀ i, i < k → G s i = true → G r i = true) ∨ ∀ i, i < k → G r i = true → G s i = true
theorem up_low (t : Top k G T) {a s i : Nat} (ga : G a i = true) (gs : ¬ G s i = true) (hs : s < T) : s < a := by
  refine Nat.lt_of_not_le fun z => gs (t.up a s i z (Nat.le_of_lt hs) ga)
theorem up_high (t : Top k G T) {a s i : Nat} (ha : a < k) (ga : G a i = true) (gs : ¬ G s i = true) (hs : T < s) : a < s := by
  refine Nat.lt_of_not_le fun z => gs (t.dn s a i (Nat.le_of_lt hs) z ha ga)
/-- a comer comes: no more is lacking than behind it -/
theorem lack_comer (t : Top k G T) (ne : Nest k G) {n : Int} {i : Nat} (hi : i < k) (h0 : S i = false) (h1 : U i = true) (g : G (cnt k S) i = true) (L : LackLe k T G (flip S i) U n) : LackLe k T G S U n := by
  have cs : (cnt k (flip S i) : Int) = cnt k S + 1 := by have := cnt_flip_up hi h0; omega
  have ak : cnt k S < k := by
    have := cnt_flip_up hi h0
    have := cnt_le k (flip S i)
    omega
  have fl : ∀ j, j ≠ i → flip S i j = S j := fun j hj => flip_ne S hj
  have fi : flip S i i = true := by rw [flip_self, h0]; rfl
  -- comers, leavers
  have cC : ∀ Q : Nat → Bool, CI k (com S U) Q = CI k (com (flip S i) U) Q + if Q i = true then 1 else 0 := fun Q => by
    refine CI_more hi ?_ ?_ fun j hj => ?_
    · show (U i && !flip S i i) = false
      rw [fi, Bool.not_true, Bool.and_false]
    · show (U i && !S i) = true
      rw [h0, h1]
      rfl
    · show (U j && !S j) = (U j && !flip S i j)
      rw [fl j hj]
  have nC : (cnt k (com S U) : Int) = cnt k (com (flip S i) U) + 1 := by
    refine cnt_more hi ?_ ?_ fun j hj => ?_
    · show (U i && !flip S i i) = false
      rw [fi, Bool.not_true, Bool.and_false]
    · show (U i && !S i) = true
      rw [h0, h1]
      rfl
    · show (U j && !S j) = (U j && !flip S i j)
      rw [fl j hj]
  have eL : ∀ j, com U (flip S i) j = com U S j := fun j => by
    show (flip S i j && !U j) = (S j && !U j)
    by_cases c : j = i
    · rw [c, h1, Bool.not_true, Bool.and_false, Bool.and_false]
    · rw [fl j c]
  have cL : ∀ Q : Nat → Bool, CI k (com U (flip S i)) Q = CI k (com U S) Q := fun Q => CI_congr fun j _ => eL j
  have bal := cnt_bal (k := k) S U
  -- windows
  have wS : ∀ s, Win k G (flip S i) U s → G s i = true → Win k G S U s := fun s w gi j hj d => by
    by_cases c : j = i
    · rw [c]
      exact gi
    · exact w j hj (by rw [fl j c]; exact d)
  have lv : ∀ s, Win k G (flip S i) U s → CI k (com U S) (G s) = cnt k (com U S) := fun s w => CI_all fun j hj z => by
    rw [← eL j] at z
    have z' : (flip S i j && !U j) = true := z
    rw [Bool.and_eq_true, Bool.not_eq_true'] at z'
    exact w j hj (by rw [z'.1, z'.2]; decide)
  have cv : ∀ s, Win k G (flip S i) U s → CI k (com (flip S i) U) (G s) = cnt k (com (flip S i) U) := fun s w => CI_all fun j hj z => by
    have z' : (U j && !flip S i j) = true := z
    rw [Bool.and_eq_true, Bool.not_eq_true'] at z'
    exact w j hj (by rw [z'.1, z'.2]; decide)
  have n0 := L.n0
  have B2 : ∀ s, s < T → ¬ Win k G S U s → (s : Int) + 1 - cnt k U - CI k (com U S) (G s) ≤ n := fun s hs nw => by
    by_cases w : Win k G (flip S i) U s
    · have gi : ¬ G s i = true := fun z => nw (wS s w z)
      have := up_low t g gi hs
      have := lv s w
      have : (0 : Int) ≤ cnt k (com (flip S i) U) := Int.natCast_nonneg _
      omega
    · have := L.b2 s hs w
      rw [cL] at this
      exact this
  have A1 : ∀ s, T < s → s < k → ¬ Win k G S U s → (cnt k U : Int) - s - CI k (com S U) (G s) ≤ n := fun s hs hk nw => by
    have e := cC (G s)
    by_cases w : Win k G (flip S i) U s
    · have gi : ¬ G s i = true := fun z => nw (wS s w z)
      have := up_high t ak g gi hs
      have := cv s w
      rw [if_neg gi] at e
      have : (0 : Int) ≤ cnt k (com U S) := Int.natCast_nonneg _
      omega
    · have := L.a1 s hs hk w
      split at e <;> omega
  refine ⟨n0, fun s hs nw => ?_, B2, A1, fun s hs hk nw => ?_, fun s r hs hr hk nw nr => ?_, fun s r hs hr hk nw nr => ?_⟩
  · have e := cC (G s)
    by_cases gi : G s i = true
    · have := L.b1 s hs fun w => nw (wS s w gi)
      rw [if_pos gi] at e
      omega
    · have := up_low t g gi hs
      have := CI_nonneg (k := k) (com S U) (G s)
      omega
  · by_cases w : Win k G (flip S i) U s
    · have gi : ¬ G s i = true := fun z => nw (wS s w z)
      have := up_high t ak g gi hs
      have := CI_nonneg (k := k) (com U S) (G s)
      omega
    · have := L.a2 s hs hk w
      rw [cL] at this
      omega
  · -- from below to above
    have low : ¬ G s i = true → (s : Int) + 1 - cnt k S + (cnt k U - r) - CI k (com S U) (fun i => G s i || G r i) ≤ n := fun gi => by
      have := up_low t g gi hs
      have := A1 r hr hk nr
      have := CI_mono (k := k) (P := com S U) (Q := G r) (Q' := fun i => G s i || G r i) fun j _ z => by rw [z, Bool.or_true]
      omega
    by_cases gi : G s i = true
    · have w : ¬ Win k G (flip S i) U s := fun w => nw (wS s w gi)
      have w2 : ¬ Win k G (flip S i) U r := fun w2 => by
        by_cases gr : G r i = true
        · exact nr (wS r w2 gr)
        · refine nw (wS s (fun j hj d => ?_) gi)
          rcases ne s r (by omega) hk with z | z
          · exact absurd (z i hi gi) gr
          · exact z j hj (w2 j hj d)
      have := L.c1 s r hs hr hk w w2
      have e := cC (fun i => G s i || G r i)
      rw [if_pos (by show (G s i || G r i) = true; rw [gi]; rfl)] at e
      omega
    · exact low gi
  · have high : ¬ G r i = true → (s : Int) + 1 - cnt k U + (cnt k S - r) - CI k (com U S) (fun i => G s i || G r i) ≤ n := fun gi => by
      have := up_high t ak g gi hr
      have := B2 s hs nw
      have := CI_mono (k := k) (P := com U S) (Q := G s) (Q' := fun i => G s i || G r i) fun j _ z => by rw [z, Bool.true_or]
      omega
    by_cases gr : G r i = true
    · have w2 : ¬ Win k G (flip S i) U r := fun w => nr (wS r w gr)
      have w : ¬ Win k G (flip S i) U s := fun w => by
        by_cases gi : G s i = true
        · exact nw (wS s w gi)
        · refine nr (wS r (fun j hj d => ?_) gr)
          rcases ne s r (by omega) hk with z | z
          · exact z j hj (w j hj d)
          · exact absurd (z i hi gr) gi
      have := L.c2 s r hs hr hk w w2
      rw [cL] at this
      omega
    · exact high gr
/-- another one comes: at most one more is lacking -/
theorem lack_other (t : Top k G T) {n : Int} {i : Nat} (hi : i < k) (h0 : S i = false) (h1 : U i = false) (L : LackLe k T G (flip S i) U n) : LackLe k T G S U (n + 1) := by
  have cs : (cnt k (flip S i) : Int) = cnt k S + 1 := by have := cnt_flip_up hi h0; omega
  have fl : ∀ j, j ≠ i → flip S i j = S j := fun j hj => flip_ne S hj
  have fi : flip S i i = true := by rw [flip_self, h0]; rfl
  have cC : ∀ Q : Nat → Bool, CI k (com (flip S i) U) Q = CI k (com S U) Q := fun Q => CI_congr fun j _ => by
    show (U j && !flip S i j) = (U j && !S j)
    by_cases c : j = i
    · rw [c, h1, Bool.false_and, Bool.false_and]
    · rw [fl j c]
  have cL : ∀ Q : Nat → Bool, CI k (com U (flip S i)) Q = CI k (com U S) Q + if Q i = true then 1 else 0 := fun Q => by
    refine CI_more hi ?_ ?_ fun j hj => ?_
    · show (S i && !U i) = false
      rw [h0, Bool.false_and]
    · show (flip S i i && !U i) = true
      rw [fi, h1]
      rfl
    · show (flip S i j && !U j) = (S j && !U j)
      rw [fl j hj]
  have lL : ∀ Q : Nat → Bool, CI k (com U (flip S i)) Q ≤ CI k (com U S) Q + 1 := fun Q => by
    have := cL Q
    split at this <;> omega
  have wS : ∀ s, Win k G (flip S i) U s → Win k G S U s := fun s w j hj d => by
    by_cases c : j = i
    · rw [c, h0, h1] at d
      exact absurd rfl d
    · exact w j hj (by rw [fl j c]; exact d)
  have n0 := L.n0
  refine ⟨by omega, fun s hs nw => ?_, fun s hs nw => ?_, fun s hs hk nw => ?_, fun s hs hk nw => ?_, fun s r hs hr hk nw nr => ?_, fun s r hs hr hk nw nr => ?_⟩
  · have := L.b1 s hs fun w => nw (wS s w)
    rw [cC] at this
    omega
  · have := L.b2 s hs fun w => nw (wS s w)
    have := lL (G s)
    omega
  · have := L.a1 s hs hk fun w => nw (wS s w)
    rw [cC] at this
    omega
  · have := L.a2 s hs hk fun w => nw (wS s w)
    have := lL (G s)
    omega
  · have := L.c1 s r hs hr hk (fun w => nw (wS s w)) fun w => nr (wS r w)
    rw [cC] at this
    omega
  · have := L.c2 s r hs hr hk (fun w => nw (wS s w)) fun w => nr (wS r w)
    have := lL (fun i => G s i || G r i)
    omega
end
end Th

namespace Th
section
variable {k T : Nat} {G : Nat → Nat → Bool} {S U : Nat → Bool}
theorem LackLe.congr {G' : Nat → Nat → Bool} {n : Int} (ht : T < k) (hg : ∀ s i, s < k → G s i = G' s i) (L : LackLe k T G S U n) : LackLe k T G' S U n := by
  have w : ∀ s, s < k → ¬ Win k G' S U s → ¬ Win k G S U s := fun s hs nw w => nw fun i hi d => by rw [← hg s i hs]; exact w i hi d
  have e1 : ∀ s, s < k → G' s = G s := fun s hs => funext fun i => (hg s i hs).symm
  have e2 : ∀ s r, s < k → r < k → (fun i => G' s i || G' r i) = fun i => G s i || G r i := fun s r hs hr => by rw [e1 s hs, e1 r hr]
  refine ⟨L.n0, fun s hs nw => ?_, fun s hs nw => ?_, fun s hs hk nw => ?_, fun s hs hk nw => ?_, fun s r hs hr hk nw nr => ?_, fun s r hs hr hk nw nr => ?_⟩
  · rw [e1 s (by omega)]
    exact L.b1 s hs (w s (by omega) nw)
  · rw [e1 s (by omega)]
    exact L.b2 s hs (w s (by omega) nw)
  · rw [e1 s (by omega)]
    exact L.a1 s hs hk (w s (by omega) nw)
  · rw [e1 s (by omega)]
    exact L.a2 s hs hk (w s (by omega) nw)
  · rw [e2 s r (by omega) hk]
    exact L.c1 s r hs hr hk (w s (by omega) nw) (w r hk nr)
  · rw [e2 s r (by omega) hk]
    exact L.c2 s r hs hr hk (w s (by omega) nw) (w r hk nr)
theorem com_co (S U : Nat → Bool) : com (co S) (co U) = com U S := by
  funext i
  show (!U i && !!S i) = (S i && !U i)
  rw [Bool.not_not, Bool.and_comm]
theorem win_co {s : Nat} : Win k (dual k G) (co S) (co U) s ↔ Win k G S U (k - 1 - s) := by
  constructor
  · intro w i hi d
    exact w i hi fun z => d (by have := congrArg (!·) z; simpa [co] using this)
  · intro w i hi d
    exact w i hi fun z => d (by unfold co; rw [z])
theorem LackLe.dual {n : Int} (ht : T < k) (L : LackLe k T G S U n) : LackLe k (k - 1 - T) (dual k G) (co S) (co U) n := by
  have cs := cnt_co k S
  have cu := cnt_co k U
  have ew : ∀ s, ¬ Win k (Th.dual k G) (co S) (co U) s → ¬ Win k G S U (k - 1 - s) := fun s nw w => nw (win_co.2 w)
  refine ⟨L.n0, fun s hs nw => ?_, fun s hs nw => ?_, fun s hs hk nw => ?_, fun s hs hk nw => ?_, fun s r hs hr hk nw nr => ?_, fun s r hs hr hk nw nr => ?_⟩
  · have := L.a2 (k - 1 - s) (by omega) (by omega) (ew s nw)
    rw [com_co]
    show (s : Int) + 1 - cnt k (co S) - CI k (com U S) (G (k - 1 - s)) ≤ n
    omega
  · have := L.a1 (k - 1 - s) (by omega) (by omega) (ew s nw)
    rw [com_co]
    show (s : Int) + 1 - cnt k (co U) - CI k (com S U) (G (k - 1 - s)) ≤ n
    omega
  · have := L.b2 (k - 1 - s) (by omega) (ew s nw)
    rw [com_co]
    show (cnt k (co U) : Int) - s - CI k (com U S) (G (k - 1 - s)) ≤ n
    omega
  · have := L.b1 (k - 1 - s) (by omega) (ew s nw)
    rw [com_co]
    show (cnt k (co S) : Int) - s - CI k (com S U) (G (k - 1 - s)) ≤ n
    omega
  · have := L.c2 (k - 1 - r) (k - 1 - s) (by omega) (by omega) (by omega) (ew r nr) (ew s nw)
    have e : CI k (com U S) (fun i => G (k - 1 - s) i || G (k - 1 - r) i) = CI k (com U S) (fun i => G (k - 1 - r) i || G (k - 1 - s) i) := by
      congr 1
      funext i
      exact Bool.or_comm _ _
    rw [com_co]
    show (s : Int) + 1 - cnt k (co S) + (cnt k (co U) - r) - CI k (com U S) (fun i => G (k - 1 - s) i || G (k - 1 - r) i) ≤ n
    omega
  · have := L.c1 (k - 1 - r) (k - 1 - s) (by omega) (by omega) (by omega) (ew r nr) (ew s nw)
    have e : CI k (com S U) (fun i => G (k - 1 - s) i || G (k - 1 - r) i) = CI k (com S U) (fun i => G (k - 1 - r) i || G (k - 1 - s) i) := by
      congr 1
      funext i
      exact Bool.or_comm _ _
    rw [com_co]
    show (s : Int) + 1 - cnt k (co U) + (cnt k (co S) - r) - CI k (com S U) (fun i => G (k - 1 - s) i || G (k - 1 - r) i) ≤ n
    omega
theorem LackLe.codual {n : Int} (ht : T < k) (L : LackLe k (k - 1 - T) (Th.dual k G) (co S) (co U) n) : LackLe k T G S U n := by
  have h := L.dual (by omega)
  rw [co_co, co_co, show k - 1 - (k - 1 - T) = T by omega] at h
  exact h.congr ht fun s i hs => dual_dual_at hs i
theorem Nest.dual (ne : Nest k G) : Nest k (Th.dual k G) := fun s r hs hr => ne (k - 1 - s) (k - 1 - r) (by omega) (by omega)
/-- a leaver leaves -/
theorem lack_leaver (t : Top k G T) (ne : Nest k G) {n : Int} {i : Nat} (hi : i < k) (h0 : S i = true) (h1 : U i = false) (g : G (cnt k S - 1) i = true) (L : LackLe k T G (flip S i) U n) : LackLe k T G S U n := by
  have c1 := cnt_co k S
  have c2 := cnt_pos hi h0
  refine LackLe.codual t.lt (lack_comer t.dual ne.dual hi (by unfold co; rw [h0]; rfl) (by unfold co; rw [h1]; rfl) ?_ ?_)
  · show G (k - 1 - cnt k (co S)) i = true
    rw [show k - 1 - cnt k (co S) = cnt k S - 1 by omega]
    exact g
  · rw [flip_co]
    exact L.dual t.lt
theorem lack_other_dn (t : Top k G T) {n : Int} {i : Nat} (hi : i < k) (h0 : S i = true) (h1 : U i = true) (L : LackLe k T G (flip S i) U n) : LackLe k T G S U (n + 1) := by
  refine LackLe.codual t.lt (lack_other t.dual hi (by unfold co; rw [h0]; rfl) (by unfold co; rw [h1]; rfl) ?_)
  rw [flip_co]
  exact L.dual t.lt
/-! ### crossings counted -/
inductive ReachN (k : Nat) (G : Nat → Nat → Bool) : Nat → (Nat → Bool) → (Nat → Bool) → Prop
  | zero (S : Nat → Bool) : ReachN k G 0 S S
  | step {n : Nat} {S W U : Nat → Bool} : Step k G S W → ReachN k G n W U → ReachN k G (n + 1) S U
theorem ReachN.reach {n : Nat} (h : ReachN k G n S U) : Reach k G S U := by
  induction h with
  | zero => exact .refl _
  | step s _ ih => exact (Reach.one s).trans ih
/-- how many lie otherwise -/
def oth (k : Nat) (S U : Nat → Bool) : Nat := cnt k fun i => S i != U i
theorem oth_less {i : Nat} (hi : i < k) (d : S i ≠ U i) : oth k (flip S i) U + 1 = oth k S U := by
  have e : (fun j => flip S i j != U j) = flip (fun j => S j != U j) i := by
    funext j
    by_cases c : j = i
    · subst c
      rw [flip_self, flip_self]
      cases S j <;> cases U j <;> rfl
    · rw [flip_ne _ c, flip_ne _ c]
  unfold oth
  rw [e]
  exact cnt_flip_dn hi (by cases e1 : S i <;> cases e2 : U i <;> simp_all)
theorem oth_more {i : Nat} (hi : i < k) (d : S i = U i) : oth k (flip S i) U = oth k S U + 1 := by
  have h := oth_less (k := k) (S := flip S i) (U := U) (i := i) hi (by rw [flip_self, d]; cases U i <;> decide)
  rw [flip_flip] at h
  exact h.symm
theorem oth_self (k : Nat) (S : Nat → Bool) : oth k S S = 0 := by
  unfold oth
  induction k with
  | zero => rfl
  | succ k ih =>
    rw [cnt_succ, ih]
    simp
theorem oth_zero (h : oth k S U = 0) : ∀ i, i < k → S i = U i := fun i hi => by
  by_cases c : S i = U i
  · exact c
  · have := oth_less hi c
    omega
theorem LackLe.self (k T : Nat) (G : Nat → Nat → Bool) (S : Nat → Bool) : LackLe k T G S S 0 := by
  have w : ∀ s, Win k G S S s := fun s i _ d => absurd rfl d
  exact ⟨by omega, fun s _ nw => absurd (w s) nw, fun s _ nw => absurd (w s) nw, fun s _ _ nw => absurd (w s) nw, fun s _ _ nw => absurd (w s) nw, fun s _ _ _ _ nw => absurd (w s) nw, fun s _ _ _ _ nw => absurd (w s) nw⟩
/-- so many crossings at least -/
theorem far_least (t : Top k G T) (ne : Nest k G) {n : Nat} (h : ReachN k G n S U) : ∃ m : Nat, LackLe k T G S U m ∧ oth k S U + 2 * m ≤ n := by
  induction h with
  | zero S => exact ⟨0, LackLe.self k T G S, by rw [oth_self]; omega⟩
  | @step n S W U s _ ih =>
    obtain ⟨m, L, hm⟩ := ih
    cases s with
    | @up i hi hs hg =>
      cases u : U i with
      | true =>
        have := oth_less (k := k) (S := S) (U := U) (i := i) hi (by rw [hs, u]; decide)
        exact ⟨m, lack_comer t ne hi hs u hg L, by omega⟩
      | false =>
        have := oth_more (k := k) (S := S) (U := U) (i := i) hi (by rw [hs, u])
        exact ⟨m + 1, lack_other t hi hs u L, by omega⟩
    | @dn i hi hs hg =>
      cases u : U i with
      | false =>
        have := oth_less (k := k) (S := S) (U := U) (i := i) hi (by rw [hs, u]; decide)
        exact ⟨m, lack_leaver t ne hi hs u hg L, by omega⟩
      | true =>
        have := oth_more (k := k) (S := S) (U := U) (i := i) hi (by rw [hs, u])
        exact ⟨m + 1, lack_other_dn t hi hs u L, by omega⟩
end
end Th

namespace Th
/-- of those with P one is the least -/
theorem ex_least (le : Nat → Nat → Prop) (tot : ∀ i j, le i j ∨ le j i) (tr : ∀ i j l, le i j → le j l → le i l) {k : Nat} {P : Nat → Bool} (h : ∃ i, i < k ∧ P i = true) : ∃ i, i < k ∧ P i = true ∧ ∀ j, j < k → P j = true → le i j := by
  induction k with
  | zero => obtain ⟨i, hi, _⟩ := h; omega
  | succ k ih =>
    have rf : ∀ i, le i i := fun i => by rcases tot i i with z | z <;> exact z
    by_cases h' : ∃ i, i < k ∧ P i = true
    · obtain ⟨i, hi, hp, hm⟩ := ih h'
      by_cases pk : P k = true
      · rcases tot i k with z | z
        · refine ⟨i, by omega, hp, fun j hj pj => ?_⟩
          by_cases c : j = k
          · rw [c]
            exact z
          · exact hm j (by omega) pj
        · refine ⟨k, by omega, pk, fun j hj pj => ?_⟩
          by_cases c : j = k
          · rw [c]
            exact rf k
          · exact tr _ _ _ z (hm j (by omega) pj)
      · refine ⟨i, by omega, hp, fun j hj pj => ?_⟩
        by_cases c : j = k
        · rw [c] at pj
          exact absurd pj pk
        · exact hm j (by omega) pj
    · obtain ⟨i, hi, hp⟩ := h
      have : i = k := by
        by_cases c : i < k
        · exact absurd ⟨i, c, hp⟩ h'
        · omega
      subst this
      refine ⟨i, by omega, hp, fun j hj pj => ?_⟩
      by_cases c : j = i
      · rw [c]
        exact rf i
      · exact absurd ⟨j, by omega, pj⟩ h'
section
variable {k T : Nat} {G : Nat → Nat → Bool} {S U : Nat → Bool}
theorem low_tot (t : Top k G T) (i j : Nat) : (∀ s, s < T → G s i = true → G s j = true) ∨ ∀ s, s < T → G s j = true → G s i = true := by
  by_cases h : ∀ s, s < T → G s i = true → G s j = true
  · exact .inl h
  · refine .inr fun s hs g => ?_
    refine Classical.byContradiction fun n => h fun s' hs' g' => ?_
    have : s ≤ s' := Nat.le_of_lt (Nat.lt_of_not_le fun z => n (t.up s' s i z (Nat.le_of_lt hs) g'))
    exact t.up s s' j this (Nat.le_of_lt hs') g
theorem high_tot (t : Top k G T) (i j : Nat) : (∀ s, T < s → s < k → G s i = true → G s j = true) ∨ ∀ s, T < s → s < k → G s j = true → G s i = true := by
  by_cases h : ∀ s, T < s → s < k → G s i = true → G s j = true
  · exact .inl h
  · refine .inr fun s hs hk g => ?_
    refine Classical.byContradiction fun n => h fun s' hs' hk' g' => ?_
    have : s' ≤ s := Nat.le_of_lt (Nat.lt_of_not_le fun z => n (t.dn s s' i (Nat.le_of_lt hs) z hk' g'))
    exact t.dn s' s j (Nat.le_of_lt hs') this hk g
theorem deep_high (t : Top k G T) {P : Nat → Bool} (h : ∃ i, i < k ∧ P i = true) : ∃ i, i < k ∧ P i = true ∧ ∀ j, j < k → P j = true → ∀ s, T < s → s < k → G s i = true → G s j = true :=
  ex_least (fun i j => ∀ s, T < s → s < k → G s i = true → G s j = true) (high_tot t) (fun _ _ _ a b s hs hk g => b s hs hk (a s hs hk g)) h
theorem deep_low (t : Top k G T) {P : Nat → Bool} (h : ∃ i, i < k ∧ P i = true) : ∃ i, i < k ∧ P i = true ∧ ∀ j, j < k → P j = true → ∀ s, s < T → G s i = true → G s j = true :=
  ex_least (fun i j => ∀ s, s < T → G s i = true → G s j = true) (low_tot t) (fun _ _ _ a b s hs g => b s hs (a s hs g)) h
theorem shal_low (t : Top k G T) {P : Nat → Bool} (h : ∃ i, i < k ∧ P i = true) : ∃ i, i < k ∧ P i = true ∧ ∀ j, j < k → P j = true → ∀ s, s < T → G s j = true → G s i = true :=
  ex_least (fun i j => ∀ s, s < T → G s j = true → G s i = true) (fun i j => low_tot t j i) (fun _ _ _ a b s hs g => a s hs (b s hs g)) h
/-- nobody gets above s who has not s + 1 with the goers there -/
theorem cap (t : Top k G T) {s : Nat} (hs : s ≤ T) (h : cnt k (fun i => U i || G s i) ≤ s) (r : Reach k G U S) : cnt k S ≤ s := by
  have inv : ∀ i, i < k → S i = true → (U i || G s i) = true := by
    refine Reach.inv (P := fun W => ∀ i, i < k → W i = true → (U i || G s i) = true) (fun A B ih st => ?_) r fun i _ z => by rw [z]; rfl
    intro j hj z
    cases st with
    | @up i hi ha hg =>
      by_cases c : j = i
      · subst c
        have : cnt k A ≤ s := Nat.le_trans (cnt_mono (U := fun i => U i || G s i) ih) h
        rw [t.up _ s j this hs hg, Bool.or_true]
      · rw [flip_ne _ c] at z
        exact ih j hj z
    | @dn i hi ha hg =>
      by_cases c : j = i
      · subst c
        rw [flip_self, ha] at z
        cases z
      · rw [flip_ne _ c] at z
        exact ih j hj z
  exact Nat.le_trans (cnt_mono (U := fun i => U i || G s i) inv) h
theorem Win.up {s s' : Nat} (t : Top k G T) (w : Win k G S U s) (h : s ≤ s') (h' : s' ≤ T) : Win k G S U s' := fun i hi d => t.up s s' i h h' (w i hi d)
theorem win_top (t : Top k G T) (r : Reach k G S U) : Win k G S U T := fun i hi d => by
  cases g : G T i with
  | true => rfl
  | false => exact absurd (fast_inv t r i hi g).symm d
theorem com_ne {i : Nat} (h : com S U i = true) : S i = false ∧ U i = true := by
  unfold com at h
  rw [Bool.and_eq_true, Bool.not_eq_true'] at h
  exact ⟨h.2, h.1⟩
theorem com_of {i : Nat} (h0 : S i = false) (h1 : U i = true) : com S U i = true := by
  unfold com
  rw [h0, h1]
  rfl
theorem ne_com {i : Nat} (d : S i ≠ U i) : com S U i = true ∨ com U S i = true := by
  unfold com
  cases e1 : S i <;> cases e2 : U i <;> simp_all
end
end Th

namespace Th
section
variable {k T : Nat} {G : Nat → Nat → Bool} {S U : Nat → Bool}
theorem CI_sub {P Q Q' : Nat → Bool} (h : ∀ i, i < k → P i = true → Q i = true → Q' i = true) : CI k P Q ≤ CI k P Q' := by
  unfold CI
  have := cnt_mono (k := k) (S := fun i => P i && Q i) (U := fun i => P i && Q' i) fun i hi z => by
    rw [Bool.and_eq_true] at z ⊢
    exact ⟨z.1, h i hi z.1 z.2⟩
  omega
theorem CI_none {P Q : Nat → Bool} (h : ∀ i, i < k → P i = true → Q i = false) : CI k P Q = 0 := by
  unfold CI
  have : cnt k (fun i => P i && Q i) = 0 := cnt_none fun i hi => by
    cases p : P i with
    | false => rfl
    | true => rw [h i hi p]; rfl
  omega
/-- the counts when a ship flips -/
theorem com_in {i : Nat} (hi : i < k) (h0 : S i = false) (h1 : U i = true) (Q : Nat → Bool) : CI k (com S U) Q = CI k (com (flip S i) U) Q + if Q i = true then 1 else 0 := by
  refine CI_more hi ?_ (com_of h0 h1) fun j hj => ?_
  · show (U i && !flip S i i) = false
    rw [flip_self, h0]
    cases U i <;> rfl
  · show (U j && !S j) = (U j && !flip S i j)
    rw [flip_ne _ hj]
theorem com_out {i : Nat} (hi : i < k) (h0 : S i = true) (h1 : U i = false) (Q : Nat → Bool) : CI k (com U S) Q = CI k (com U (flip S i)) Q + if Q i = true then 1 else 0 := by
  refine CI_more hi ?_ (com_of h1 h0) fun j hj => ?_
  · show (flip S i i && !U i) = false
    rw [flip_self, h0]
    rfl
  · show (S j && !U j) = (flip S i j && !U j)
    rw [flip_ne _ hj]
theorem com_new {i : Nat} (hi : i < k) (h0 : S i = false) (h1 : U i = false) (Q : Nat → Bool) : CI k (com U (flip S i)) Q = CI k (com U S) Q + if Q i = true then 1 else 0 := by
  refine CI_more hi ?_ ?_ fun j hj => ?_
  · show (S i && !U i) = false
    rw [h0]
    rfl
  · show (flip S i i && !U i) = true
    rw [flip_self, h0, h1]
    rfl
  · show (flip S i j && !U j) = (S j && !U j)
    rw [flip_ne _ hj]
theorem com_eq1 {i : Nat} (h1 : U i = true) (Q : Nat → Bool) : CI k (com U (flip S i)) Q = CI k (com U S) Q := CI_congr fun j _ => by
  show (flip S i j && !U j) = (S j && !U j)
  by_cases c : j = i
  · rw [c, h1]
    cases flip S i i <;> cases S i <;> rfl
  · rw [flip_ne _ c]
theorem com_eq0 {i : Nat} (h1 : U i = false) (Q : Nat → Bool) : CI k (com (flip S i) U) Q = CI k (com S U) Q := CI_congr fun j _ => by
  show (U j && !flip S i j) = (U j && !S j)
  by_cases c : j = i
  · rw [c, h1]
    rfl
  · rw [flip_ne _ c]
theorem win_flip {i s : Nat} (g : S i ≠ U i → G s i = true) (w : Win k G (flip S i) U s) : Win k G S U s := fun j hj d => by
  by_cases c : j = i
  · rw [c] at d ⊢
    exact g d
  · exact w j hj (by rw [flip_ne _ c]; exact d)
theorem flip_win {i s : Nat} (g : S i = U i → G s i = true) (w : Win k G S U s) : Win k G (flip S i) U s := fun j hj d => by
  by_cases c : j = i
  · subst c
    by_cases e : S j = U j
    · exact g e
    · exact w j hj e
  · rw [flip_ne _ c] at d
    exact w j hj d
/-- one who comes where a comer may: the deepest above the top -/
theorem good_comer (t : Top k G T) (ha : cnt k S ≤ T) {m : Int} (L : LackLe k T G S U m) (w0 : Win k G S U (cnt k S) ∨ ¬ Win k G S U (cnt k S)) (h : ∃ i, i < k ∧ (com S U i && G (cnt k S) i) = true) (r : Reach k G S U) :
    ∃ i, i < k ∧ S i = false ∧ U i = true ∧ G (cnt k S) i = true ∧ LackLe k T G (flip S i) U m := by
  obtain ⟨i, hi, hp, hm⟩ := deep_high t h
  have tk := t.lt
  rw [Bool.and_eq_true] at hp
  obtain ⟨s0, u1⟩ := com_ne hp.1
  refine ⟨i, hi, s0, u1, hp.2, ?_⟩
  have cs : (cnt k (flip S i) : Int) = cnt k S + 1 := by have := cnt_flip_up hi s0; omega
  have cC := fun Q => com_in (k := k) hi s0 u1 Q
  have cL := fun Q => com_eq1 (k := k) (S := S) u1 Q
  have bal := cnt_bal (k := k) S U
  have n0 := L.n0
  have W : ∀ s, ¬ Win k G (flip S i) U s → ¬ Win k G S U s := fun s nw w => nw (flip_win (fun e => by rw [s0, u1] at e; cases e) w)
  have B2 : ∀ s, s < T → ¬ Win k G (flip S i) U s → (s : Int) + 1 - cnt k U - CI k (com U S) (G s) ≤ m := fun s hs nw => L.b2 s hs (W s nw)
  refine ⟨n0, fun s hs nw => ?_, fun s hs nw => ?_, fun s hs hk nw => ?_, fun s hs hk nw => ?_, fun s r' hs hr hk nw nr => ?_, fun s r' hs hr hk nw nr => ?_⟩
  · have := L.b1 s hs (W s nw)
    have e := cC (G s)
    split at e <;> omega
  · rw [cL]
    exact B2 s hs nw
  · have e := cC (G s)
    have p := L.a1 s hs hk (W s nw)
    by_cases gs : G s i = true
    · rw [if_pos gs] at e
      have allG : ∀ j, j < k → com S U j = true → G (cnt k S) j = true → G s j = true := fun j hj cj gj => hm j hj (by rw [cj, gj]; rfl) s hs hk gs
      by_cases wa : Win k G S U (cnt k S)
      · have e2 : CI k (com S U) (G s) = cnt k (com S U) := CI_all fun j hj cj => allG j hj cj (wa j hj (by have := com_ne cj; rw [this.1, this.2]; decide))
        have : (0 : Int) ≤ cnt k (com U S) := Int.natCast_nonneg _
        omega
      · have aT : cnt k S < T := by
          refine Nat.lt_of_le_of_ne ha fun z => wa ?_
          rw [z]
          exact win_top t r
        have c := L.c1 (cnt k S) s aT hs hk wa (W s nw)
        have e2 : CI k (com S U) (fun j => G (cnt k S) j || G s j) ≤ CI k (com S U) (G s) := by
          refine CI_sub fun j hj z y => ?_
          rw [Bool.or_eq_true] at y
          rcases y with q | q
          · exact allG j hj z q
          · exact q
        omega
    · rw [if_neg gs] at e
      omega
  · have := CI_nonneg (k := k) (com U (flip S i)) (G s)
    omega
  · have := L.c1 s r' hs hr hk (W s nw) (W r' nr)
    have e := cC (fun j => G s j || G r' j)
    split at e <;> omega
  · have := B2 s hs nw
    have := CI_mono (k := k) (P := com U S) (Q := G s) (Q' := fun j => G s j || G r' j) fun j _ z => by rw [z, Bool.true_or]
    rw [cL]
    omega
/-- a lot that gets above s finds goers there -/
theorem lift (t : Top k G T) {s : Nat} (hs : s ≤ T) (h : s < cnt k S) (r : Reach k G U S) (sub : ∀ j, j < k → G s j = true → S j = true) : (s : Int) + 1 - cnt k U - CI k (com U S) (G s) ≤ 0 := by
  by_cases c : cnt k (fun i => U i || G s i) ≤ s
  · have := cap t hs c r
    omega
  · have e := cnt_or_not (k := k) U (G s)
    have e2 : cnt k (fun i => G s i && !U i) ≤ cnt k (fun i => com U S i && G s i) := cnt_mono fun j hj z => by
      rw [Bool.and_eq_true, Bool.not_eq_true'] at z
      rw [com_of z.2 (sub j hj z.1), z.1]
      rfl
    unfold CI
    omega
/-- another one comes first, the shallowest below the top -/
theorem good_other (t : Top k G T) (ha : cnt k S ≤ T) {m : Int} (m1 : 1 ≤ m) (L : LackLe k T G S U m) (h : ∃ i, i < k ∧ (G (cnt k S) i && !S i) = true) (r : Reach k G S U)
    (nc : ∀ j, j < k → com S U j = true → G (cnt k S) j = false)
    (wd : ∀ s, s < T → Win k G S U s → cnt k S ≤ s)
    (hi0 : ¬ Win k G S U (cnt k S) ∨ (cnt k U < cnt k S ∧ ∀ j, j < k → com S U j = false)) :
    ∃ i, i < k ∧ S i = false ∧ U i = false ∧ G (cnt k S) i = true ∧ LackLe k T G (flip S i) U (m - 1) := by
  obtain ⟨i, hi, hp, hm⟩ := shal_low t h
  rw [Bool.and_eq_true, Bool.not_eq_true'] at hp
  obtain ⟨gi, s0⟩ := hp
  have u0 : U i = false := by
    cases u : U i with
    | false => rfl
    | true =>
      have := nc i hi (com_of s0 u)
      rw [gi] at this
      cases this
  refine ⟨i, hi, s0, u0, gi, ?_⟩
  have cs : (cnt k (flip S i) : Int) = cnt k S + 1 := by have := cnt_flip_up hi s0; omega
  have cC := fun Q => com_eq0 (k := k) (S := S) u0 Q
  have cL := fun Q => com_new (k := k) (S := S) (U := U) hi s0 u0 Q
  have bal := cnt_bal (k := k) S U
  have zC : (0 : Int) ≤ cnt k (com S U) := Int.natCast_nonneg _
  have zL : (0 : Int) ≤ cnt k (com U S) := Int.natCast_nonneg _
  -- below the top nothing new
  have W : ∀ s, s < T → ¬ Win k G (flip S i) U s → ¬ Win k G S U s := fun s hs nw w => nw (flip_win (fun _ => t.up _ s i (wd s hs w) (Nat.le_of_lt hs) gi) w)
  have WA : ∀ s, ¬ Win k G (flip S i) U s → Win k G S U s → CI k (com S U) (G s) = cnt k (com S U) := fun s nw w => CI_all fun j hj cj => w j hj (by have := com_ne cj; rw [this.1, this.2]; decide)
  have B2 : ∀ s, s < T → ¬ Win k G (flip S i) U s → (s : Int) + 1 - cnt k U - CI k (com U (flip S i)) (G s) ≤ m - 1 := fun s hs nw => by
    have p := L.b2 s hs (W s hs nw)
    have e := cL (G s)
    by_cases gs : G s i = true
    · rw [if_pos gs] at e
      omega
    · rw [if_neg gs] at e
      have sa : s < cnt k S := up_low t gi gs hs
      have := lift t (Nat.le_of_lt hs) sa r.symm fun j hj gj => by
        cases sj : S j with
        | true => rfl
        | false =>
          have ga := t.up s (cnt k S) j (Nat.le_of_lt sa) ha gj
          exact absurd (hm j hj (by rw [ga, sj]; rfl) s hs gj) gs
      omega
  have hi1 : ∀ s, T < s → s < k → ¬ Win k G (flip S i) U s → (cnt k U : Int) - s - CI k (com S U) (G s) ≤ m - 1 := fun s hs hk nw => by
    by_cases w : Win k G S U s
    · have := WA s nw w
      omega
    · rcases hi0 with q | ⟨q, _⟩
      · have aT : cnt k S < T := by
          refine Nat.lt_of_le_of_ne ha fun z => q ?_
          rw [z]
          exact win_top t r
        have c := L.c1 (cnt k S) s aT hs hk q w
        have e2 : CI k (com S U) (fun j => G (cnt k S) j || G s j) ≤ CI k (com S U) (G s) := by
          refine CI_sub fun j hj z y => ?_
          rw [Bool.or_eq_true] at y
          rcases y with q | q
          · rw [nc j hj z] at q
            cases q
          · exact q
        omega
      · have := CI_nonneg (k := k) (com S U) (G s)
        omega
  refine ⟨by omega, fun s hs nw => ?_, B2, fun s hs hk nw => ?_, fun s hs hk nw => ?_, fun s r' hs hr hk nw nr => ?_, fun s r' hs hr hk nw nr => ?_⟩
  · have := L.b1 s hs (W s hs nw)
    rw [cC]
    omega
  · rw [cC]
    exact hi1 s hs hk nw
  · have := CI_nonneg (k := k) (com U (flip S i)) (G s)
    omega
  · rw [cC]
    by_cases w : Win k G S U r'
    · have q := WA r' nr w
      have := CI_mono (k := k) (P := com S U) (Q := G r') (Q' := fun j => G s j || G r' j) fun j _ z => by rw [z, Bool.or_true]
      omega
    · have := L.c1 s r' hs hr hk (W s hs nw) w
      omega
  · have := B2 s hs nw
    have := CI_mono (k := k) (P := com U (flip S i)) (Q := G s) (Q' := fun j => G s j || G r' j) fun j _ z => by rw [z, Bool.true_or]
    omega
/-- a leaver leaves where all leavers may: the deepest below the top -/
theorem good_leaver (t : Top k G T) (ha : cnt k S ≤ T) {m : Int} (L : LackLe k T G S U m) (h : ∃ i, i < k ∧ com U S i = true) (nc : ∀ j, j < k → com S U j = false) (w1 : Win k G S U (cnt k S - 1)) :
    ∃ i, i < k ∧ S i = true ∧ U i = false ∧ G (cnt k S - 1) i = true ∧ LackLe k T G (flip S i) U m := by
  obtain ⟨i, hi, hp, hm⟩ := deep_low t h
  obtain ⟨u0, s1⟩ := com_ne hp
  refine ⟨i, hi, s1, u0, w1 i hi (by rw [s1, u0]; decide), ?_⟩
  have cs : (cnt k (flip S i) : Int) + 1 = cnt k S := by have := cnt_flip_dn hi s1; omega
  have cC := fun Q => com_eq0 (k := k) (S := S) u0 Q
  have cL := fun Q => com_out (k := k) (S := S) (U := U) hi s1 u0 Q
  have bal := cnt_bal (k := k) S U
  have n0 := L.n0
  have zero : ∀ Q, CI k (com S U) Q = 0 := fun Q => CI_none fun j hj z => by rw [nc j hj] at z; cases z
  have zC : cnt k (com S U) = 0 := cnt_none nc
  have bL : (1 : Int) ≤ cnt k (com U S) := by have := cnt_pos hi hp; omega
  have W : ∀ s, ¬ Win k G (flip S i) U s → ¬ Win k G S U s := fun s nw w => nw (flip_win (fun e => by rw [s1, u0] at e; cases e) w)
  have sa : ∀ s, s < T → ¬ Win k G S U s → s + 1 < cnt k S := fun s hs nw => by
    refine Nat.lt_of_not_le fun z => nw (w1.up t (by omega) (Nat.le_of_lt hs))
  have ni : ∀ s, s < T → ¬ Win k G S U s → ¬ G s i = true := fun s hs nw g => nw fun j hj d => by
    rcases ne_com d with z | z
    · rw [nc j hj] at z
      cases z
    · exact hm j hj z s hs g
  have B2 : ∀ s, s < T → ¬ Win k G (flip S i) U s → (s : Int) + 1 - cnt k U - CI k (com U (flip S i)) (G s) ≤ m := fun s hs nw => by
    have := L.b2 s hs (W s nw)
    have e := cL (G s)
    rw [if_neg (ni s hs (W s nw))] at e
    omega
  refine ⟨n0, fun s hs nw => ?_, B2, fun s hs hk nw => ?_, fun s hs hk nw => ?_, fun s r' hs hr hk nw nr => ?_, fun s r' hs hr hk nw nr => ?_⟩
  · have := sa s hs (W s nw)
    rw [cC, zero]
    omega
  · rw [cC, zero]
    omega
  · have := CI_nonneg (k := k) (com U (flip S i)) (G s)
    omega
  · have := sa s hs (W s nw)
    rw [cC, zero]
    omega
  · have := B2 s hs nw
    have := CI_mono (k := k) (P := com U (flip S i)) (Q := G s) (Q' := fun j => G s j || G r' j) fun j _ z => by rw [z, Bool.true_or]
    omega
end
end Th

namespace Th
section
variable {k T : Nat} {G : Nat → Nat → Bool} {S U : Nat → Bool}
/-- if nobody can come, all who lie otherwise leave from the next step down -/
theorem full_win (t : Top k G T) (ha : cnt k S ≤ T) (full : ∀ j, j < k → G (cnt k S) j = true → S j = true) (r : Reach k G S U) : Win k G S U (cnt k S - 1) := by
  have inv : cnt k U ≤ cnt k S ∧ (∀ j, j < k → U j = true → S j = true) ∧ ∀ d, d < k → S d = true → ¬ G (cnt k S - 1) d = true → U d = true := by
    refine Reach.inv (P := fun W => cnt k W ≤ cnt k S ∧ (∀ j, j < k → W j = true → S j = true) ∧ ∀ d, d < k → S d = true → ¬ G (cnt k S - 1) d = true → W d = true) (fun A B ih st => ?_) r ⟨Nat.le_refl _, fun _ _ z => z, fun _ _ z _ => z⟩
    obtain ⟨h1, h2, h3⟩ := ih
    cases st with
    | @up i hi hs hg =>
      have ga := t.up _ (cnt k S) i h1 ha hg
      have si := full i hi ga
      have lt : cnt k A < cnt k S := by
        refine Nat.lt_of_le_of_ne h1 fun z => ?_
        have := cnt_eq h2 (Nat.le_of_eq z.symm) i hi si
        rw [hs] at this
        cases this
      refine ⟨by rw [cnt_flip_up hi hs]; exact lt, fun j hj z => ?_, fun d hd sd nd => ?_⟩
      · by_cases c : j = i
        · rw [c]
          exact si
        · rw [flip_ne _ c] at z
          exact h2 j hj z
      · by_cases c : d = i
        · rw [c, flip_self, hs]
          rfl
        · rw [flip_ne _ c]
          exact h3 d hd sd nd
    | @dn i hi hs hg =>
      have p := cnt_flip_dn hi hs
      refine ⟨by omega, fun j hj z => ?_, fun d hd sd nd => ?_⟩
      · by_cases c : j = i
        · rw [c, flip_self, hs] at z
          cases z
        · rw [flip_ne _ c] at z
          exact h2 j hj z
      · by_cases c : d = i
        · rw [c] at nd
          exact absurd (t.up (cnt k A - 1) (cnt k S - 1) i (by omega) (by omega) hg) nd
        · rw [flip_ne _ c]
          exact h3 d hd sd nd
  obtain ⟨_, h2, h3⟩ := inv
  intro i hi d
  refine Classical.byContradiction fun n => d ?_
  cases s : S i with
  | true => exact (h3 i hi s n).symm
  | false =>
    cases u : U i with
    | false => rfl
    | true =>
      have := h2 i hi u
      rw [s] at this
      cases this
theorem CI_less {P Q : Nat → Bool} {i : Nat} (hi : i < k) (p : P i = true) (q : ¬ Q i = true) : CI k P Q + 1 ≤ cnt k P := by
  have e := cnt_split (k := k) P Q
  have := cnt_pos (k := k) (S := fun j => P j && !Q j) hi (by
    show (P i && !Q i) = true
    rw [p, Bool.eq_false_iff.2 q]
    rfl)
  unfold CI
  omega
/-- a good crossing -/
def Good (k T : Nat) (G : Nat → Nat → Bool) (S U : Nat → Bool) (m : Int) : Prop :=
  ∃ i, i < k ∧ Step k G S (flip S i) ∧ ((S i ≠ U i ∧ LackLe k T G (flip S i) U m) ∨ (S i = U i ∧ LackLe k T G (flip S i) U (m - 1)))
theorem good_low (t : Top k G T) (ha : cnt k S ≤ T) {m : Int} (r : Reach k G S U) (d : ∃ i, i < k ∧ S i ≠ U i) (L : LackLe k T G S U m) : Good k T G S U m := by
  by_cases c : ∃ i, i < k ∧ (com S U i && G (cnt k S) i) = true
  · obtain ⟨i, hi, s0, u1, g, L'⟩ := good_comer t ha L (Classical.em _) c r
    exact ⟨i, hi, .up hi s0 g, .inl ⟨by rw [s0, u1]; decide, L'⟩⟩
  · have nc : ∀ j, j < k → com S U j = true → G (cnt k S) j = false := fun j hj cj => Bool.eq_false_iff.2 fun g => c ⟨j, hj, by rw [cj, g]; rfl⟩
    have ot : ¬ Win k G S U (cnt k S - 1) → ∃ i, i < k ∧ (G (cnt k S) i && !S i) = true := fun nw => by
      refine Classical.byContradiction fun n => nw (full_win t ha (fun j hj g => ?_) r)
      cases s : S j with
      | true => rfl
      | false => exact absurd ⟨j, hj, by rw [g, s]; rfl⟩ n
    have fin : ∀ {i}, i < k → S i = false → U i = false → G (cnt k S) i = true → LackLe k T G (flip S i) U (m - 1) → Good k T G S U m := fun {i} hi s0 u0 g L' => ⟨i, hi, .up hi s0 g, .inr ⟨by rw [s0, u0], L'⟩⟩
    by_cases wa : Win k G S U (cnt k S)
    · have nc0 : ∀ j, j < k → com S U j = false := fun j hj => by
        cases cj : com S U j with
        | false => rfl
        | true =>
          have := com_ne cj
          have g := wa j hj (by rw [this.1, this.2]; decide)
          rw [nc j hj cj] at g
          cases g
      have bal := cnt_bal (k := k) S U
      have z0 : cnt k (com S U) = 0 := cnt_none nc0
      obtain ⟨i, hi, di⟩ := d
      have li : com U S i = true := by
        rcases ne_com di with z | z
        · rw [nc0 i hi] at z
          cases z
        · exact z
      have bL := cnt_pos hi li
      by_cases w1 : Win k G S U (cnt k S - 1)
      · obtain ⟨i, hi, s1, u0, g, L'⟩ := good_leaver t ha L ⟨i, hi, li⟩ nc0 w1
        exact ⟨i, hi, .dn hi s1 g, .inl ⟨by rw [s1, u0]; decide, L'⟩⟩
      · have m1 : 1 ≤ m := by
          have b := L.b2 (cnt k S - 1) (by omega) w1
          have : ∃ j, j < k ∧ com U S j = true ∧ ¬ G (cnt k S - 1) j = true := by
            refine Classical.byContradiction fun n => w1 fun j hj dj => ?_
            refine Classical.byContradiction fun g => n ⟨j, hj, ?_, g⟩
            rcases ne_com dj with z | z
            · rw [nc0 j hj] at z
              cases z
            · exact z
          obtain ⟨j, hj, cj, gj⟩ := this
          have := CI_less hj cj gj
          omega
        obtain ⟨i, hi, s0, u0, g, L'⟩ := good_other t ha m1 L (ot w1) r nc (fun s hs w => by
          refine Nat.le_of_not_lt fun z => w1 (w.up t (by omega) (by omega))) (.inr ⟨by omega, nc0⟩)
        exact fin hi s0 u0 g L'
    · have aT : cnt k S < T := by
        refine Nat.lt_of_le_of_ne ha fun z => wa ?_
        rw [z]
        exact win_top t r
      have m1 : 1 ≤ m := by
        have b := L.b1 (cnt k S) aT wa
        have : CI k (com S U) (G (cnt k S)) = 0 := CI_none nc
        omega
      obtain ⟨i, hi, s0, u0, g, L'⟩ := good_other t ha m1 L (ot fun w => wa (w.up t (by omega) ha)) r nc (fun s hs w => Nat.le_of_not_lt fun z => wa (w.up t (by omega) ha)) (.inl wa)
      exact fin hi s0 u0 g L'
theorem Step.codual (h : Step k (Th.dual k G) (co S) (co U)) : Step k G S U := by
  have h2 := h.dual
  rw [co_co, co_co] at h2
  exact h2.congr fun s i hs => dual_dual_at hs i
theorem good (t : Top k G T) {m : Int} (r : Reach k G S U) (d : ∃ i, i < k ∧ S i ≠ U i) (L : LackLe k T G S U m) : Good k T G S U m := by
  by_cases ha : cnt k S ≤ T
  · exact good_low t ha r d L
  · have c := cnt_co k S
    have tk := t.lt
    obtain ⟨i, hi, st, h⟩ := good_low (S := co S) (U := co U) (m := m) t.dual (by omega) r.dual (by
      obtain ⟨i, hi, di⟩ := d
      refine ⟨i, hi, fun z => di ?_⟩
      have := congrArg (!·) z
      simpa [co] using this) (L.dual tk)
    rw [flip_co] at st h
    refine ⟨i, hi, st.codual, ?_⟩
    rcases h with ⟨e, L'⟩ | ⟨e, L'⟩
    · exact .inl ⟨fun z => e (by unfold co; rw [z]), L'.codual tk⟩
    · refine .inr ⟨?_, L'.codual tk⟩
      have := congrArg (!·) e
      simpa [co] using this
theorem far_most (t : Top k G T) : ∀ (N : Nat) (S : Nat → Bool) (m : Int), (oth k S U : Int) + 2 * m ≤ N → Reach k G S U → LackLe k T G S U m → ∃ n : Nat, (n : Int) ≤ oth k S U + 2 * m ∧ ReachN k G n S U := by
  intro N
  induction N with
  | zero =>
    intro S m h r L
    have n0 := L.n0
    have e : U = S := funext fun i => by
      by_cases hi : i < k
      · exact (oth_zero (by omega) i hi).symm
      · exact reach_out r i hi
    subst e
    exact ⟨0, by omega, .zero _⟩
  | succ N ih =>
    intro S m h r L
    have n0 := L.n0
    by_cases z : oth k S U = 0
    · have e : U = S := funext fun i => by
        by_cases hi : i < k
        · exact (oth_zero z i hi).symm
        · exact reach_out r i hi
      subst e
      exact ⟨0, by omega, .zero _⟩
    · have d : ∃ i, i < k ∧ S i ≠ U i := by
        obtain ⟨i, hi, di⟩ := cnt_pos_ex (k := k) (S := fun i => S i != U i) (by unfold oth at z; omega)
        exact ⟨i, hi, by simpa using di⟩
      obtain ⟨i, hi, st, q⟩ := good t r d L
      have r' : Reach k G (flip S i) U := (Reach.one st).symm.trans r
      rcases q with ⟨e, L'⟩ | ⟨e, L'⟩
      · have o := oth_less hi e
        obtain ⟨n, hn, hr⟩ := ih (flip S i) m (by omega) r' L'
        exact ⟨n + 1, by omega, .step st hr⟩
      · have o := oth_more hi e
        obtain ⟨n, hn, hr⟩ := ih (flip S i) (m - 1) (by omega) r' L'
        exact ⟨n + 1, by omega, .step st hr⟩
/-- the fewest crossings -/
theorem far (t : Top k G T) (ne : Nest k G) (r : Reach k G S U) {m : Nat} (L : LackLe k T G S U m) (least : ∀ m' : Nat, LackLe k T G S U m' → m ≤ m') : ReachN k G (oth k S U + 2 * m) S U ∧ ∀ n, ReachN k G n S U → oth k S U + 2 * m ≤ n := by
  have lo : ∀ n, ReachN k G n S U → oth k S U + 2 * m ≤ n := fun n h => by
    obtain ⟨m', L', h'⟩ := far_least t ne h
    have := least m' L'
    omega
  obtain ⟨n, hn, hr⟩ := far_most t (oth k S U + 2 * m) S m (by omega) r L
  have := lo n hr
  have e : n = oth k S U + 2 * m := by omega
  rw [← e]
  exact ⟨hr, fun n' h' => by have := lo n' h'; omega⟩
end
end Th

namespace Sh
open PySem PySem.Spec PyProof.Rows L2
/-! ### how far: what the papers show -/
/-- who comes -/
def comL (L M : List Nat) : List Nat := M.filter fun i => !decide (i ∈ L)
/-- how many of them draw no more than m -/
def gaI (ds : List Int) (m : Int) (C : List Nat) : Nat := (C.filter fun i => decide (ds.getD i 0 ≤ m)).length
/-- who lies otherwise -/
def othL (n : Nat) (L M : List Nat) : List Nat := (List.range n).filter fun i => mem L i != mem M i
def vB (h t : Int) (ds : List Int) (L M : List Nat) (s : Int) : Int := s + 1 - L.length - gaI ds (mk h t ds.length s) (comL L M)
def vA (h t : Int) (ds : List Int) (L M : List Nat) (s : Int) : Int := (M.length : Int) - s - gaI ds (mk h t ds.length s) (comL L M)
def mx2 (a b : Int) : Int := if a ≤ b then b else a
def vC (h t : Int) (ds : List Int) (L M : List Nat) (s r : Int) : Int := s + 1 - L.length + M.length - r - gaI ds (mx2 (mk h t ds.length s) (mk h t ds.length r)) (comL L M)
section
variable {h t : Int} {ds : List Int} {L M : List Nat}
theorem com_mem (L M : List Nat) : mem (comL L M) = Th.com (mem L) (mem M) := by
  funext i
  unfold mem comL Th.com
  rw [Bool.eq_iff_iff]
  simp [List.mem_filter, mem]
theorem ga_CI (hM : Lot ds.length M) (m : Int) : (gaI ds m (comL L M) : Int) = Th.CI ds.length (Th.com (mem L) (mem M)) fun i => decide (ds.getD i 0 ≤ m) := by
  have hC : Lot ds.length (comL L M) := hM.filter _
  unfold gaI Th.CI
  rw [← cnt_mem (hC.filter _), ← com_mem]
  congr 1
  refine Th.cnt_congr fun i _ => ?_
  unfold mem
  rw [Bool.eq_iff_iff]
  simp [List.mem_filter]
theorem mx2_G (s r : Nat) : (fun i => decide (ds.getD i 0 ≤ mx2 (mk h t ds.length (s : Int)) (mk h t ds.length (r : Int)))) = fun i => Gof h t ds s i || Gof h t ds r i := by
  funext i
  unfold Gof mx2
  rw [Bool.eq_iff_iff, Bool.or_eq_true, decide_eq_true_eq, decide_eq_true_eq, decide_eq_true_eq]
  split <;> omega
theorem nest_G (h t : Int) (ds : List Int) : Th.Nest ds.length (Gof h t ds) := fun s r _ _ => by
  unfold Gof
  by_cases c : mk h t ds.length (s : Int) ≤ mk h t ds.length (r : Int)
  · exact .inl fun i _ z => decide_eq_true (Int.le_trans (of_decide_eq_true z) c)
  · exact .inr fun i _ z => decide_eq_true (Int.le_trans (of_decide_eq_true z) (by omega))
theorem oth_mem {n i : Nat} : i ∈ othL n L M ↔ i < n ∧ mem L i ≠ mem M i := by
  unfold othL
  rw [List.mem_filter, List.mem_range, bne_iff_ne]
theorem oth_len (n : Nat) (L M : List Nat) : (othL n L M).length = Th.oth n (mem L) (mem M) := by
  unfold othL Th.oth Th.cnt
  rw [List.countP_eq_length_filter]
/-- the greatest draught of those that lie otherwise -/
structure IsDeep (ds : List Int) (L M : List Nat) (d : Int) : Prop where
  ex : ∃ i ∈ othL ds.length L M, ds.getD i 0 = d
  le : ∀ i ∈ othL ds.length L M, ds.getD i 0 ≤ d
theorem IsDeep.win {d : Int} (D : IsDeep ds L M d) {s : Nat} (hs : s < ds.length) : Th.Win ds.length (Gof h t ds) (mem L) (mem M) s ↔ lowI h d ≤ (s : Int) ∧ (s : Int) ≤ highI t ds.length d := by
  rw [← win_iff h t d hs]
  constructor
  · intro w
    obtain ⟨i, hi, e⟩ := D.ex
    obtain ⟨hn, ne⟩ := oth_mem.mp hi
    have := of_decide_eq_true (w i hn ne)
    rw [e] at this
    exact this
  · intro g i hn ne
    exact decide_eq_true (Int.le_trans (D.le i (oth_mem.mpr ⟨hn, ne⟩)) g)
theorem deep_same {d : Int} (D : IsDeep ds L M d) : mem L ≠ mem M := fun e => by
  obtain ⟨i, hi, _⟩ := D.ex
  exact (oth_mem.mp hi).2 (by rw [e])
/-- what is lacking: as many as all papers show -/
def IsLack (h t : Int) (ds : List Int) (L M : List Nat) (m : Nat) : Prop := Th.LackLe ds.length (topI h t ds.length).toNat (Gof h t ds) (mem L) (mem M) m ∧ ∀ m' : Nat, Th.LackLe ds.length (topI h t ds.length).toNat (Gof h t ds) (mem L) (mem M) m' → m ≤ m'
theorem top_G (h t : Int) {ds : List Int} (d0 : 0 < ds.length) : Th.Top ds.length (Gof h t ds) (topI h t ds.length).toNat := top_D h t (fun i => ds.getD i 0) d0
theorem lack_none (h t : Int) (ds : List Int) (L : List Nat) : IsLack h t ds L L 0 := ⟨Th.LackLe.self _ _ _ _, fun _ _ => Nat.zero_le _⟩
/-- all papers show no more than m -/
structure PapLe (h t : Int) (ds : List Int) (L M : List Nat) (lo hi m : Int) : Prop where
  n0 : 0 ≤ m
  b : ∀ s : Nat, (s : Int) < lo → vB h t ds L M s ≤ m ∧ vB h t ds M L s ≤ m
  a : ∀ s : Nat, s < ds.length → hi < (s : Int) → vA h t ds L M s ≤ m ∧ vA h t ds M L s ≤ m
  c : ∀ s r : Nat, (s : Int) < lo → r < ds.length → hi < (r : Int) → vC h t ds L M s r ≤ m ∧ vC h t ds M L s r ≤ m
theorem pap_iff {d m : Int} (d0 : 0 < ds.length) (hL : Lot ds.length L) (hM : Lot ds.length M) (r : Rl h t ds L M) (D : IsDeep ds L M d) :
    PapLe h t ds L M (lowI h d) (highI t ds.length d) m ↔ Th.LackLe ds.length (topI h t ds.length).toNat (Gof h t ds) (mem L) (mem M) m := by
  have tp := top_G h t d0
  have wT := (D.win (h := h) (t := t) tp.lt).mp (Th.win_top tp r)
  generalize (topI h t ds.length).toNat = T at *
  have tk := tp.lt
  have cL := cnt_mem hL
  have cM := cnt_mem hM
  have gL : ∀ s : Nat, (gaI ds (mk h t ds.length (s : Int)) (comL L M) : Int) = Th.CI ds.length (Th.com (mem L) (mem M)) (Gof h t ds s) := fun s => ga_CI hM _
  have gM : ∀ s : Nat, (gaI ds (mk h t ds.length (s : Int)) (comL M L) : Int) = Th.CI ds.length (Th.com (mem M) (mem L)) (Gof h t ds s) := fun s => ga_CI hL _
  have g2L : ∀ s r : Nat, (gaI ds (mx2 (mk h t ds.length (s : Int)) (mk h t ds.length (r : Int))) (comL L M) : Int) = Th.CI ds.length (Th.com (mem L) (mem M)) fun i => Gof h t ds s i || Gof h t ds r i := fun s r => by rw [← mx2_G]; exact ga_CI hM _
  have g2M : ∀ s r : Nat, (gaI ds (mx2 (mk h t ds.length (s : Int)) (mk h t ds.length (r : Int))) (comL M L) : Int) = Th.CI ds.length (Th.com (mem M) (mem L)) fun i => Gof h t ds s i || Gof h t ds r i := fun s r => by rw [← mx2_G]; exact ga_CI hL _
  have lo1 : ∀ s : Nat, (s : Int) < lowI h d → s < T ∧ ¬ Th.Win ds.length (Gof h t ds) (mem L) (mem M) s := fun s hs => by
    have : s < T := by omega
    exact ⟨this, fun w => by have := (D.win (h := h) (t := t) (by omega)).mp w; omega⟩
  have lo2 : ∀ s : Nat, s < T → ¬ Th.Win ds.length (Gof h t ds) (mem L) (mem M) s → (s : Int) < lowI h d := fun s hs nw => Int.lt_of_not_ge fun z => nw ((D.win (h := h) (t := t) (by omega)).mpr ⟨z, by omega⟩)
  have hi1 : ∀ s : Nat, s < ds.length → highI t ds.length d < (s : Int) → T < s ∧ ¬ Th.Win ds.length (Gof h t ds) (mem L) (mem M) s := fun s hk hs => by
    have : T < s := by omega
    exact ⟨this, fun w => by have := (D.win (h := h) (t := t) hk).mp w; omega⟩
  have hi2 : ∀ s : Nat, T < s → s < ds.length → ¬ Th.Win ds.length (Gof h t ds) (mem L) (mem M) s → highI t ds.length d < (s : Int) := fun s hs hk nw => Int.lt_of_not_ge fun z => nw ((D.win (h := h) (t := t) hk).mpr ⟨by omega, z⟩)
  constructor
  · intro p
    refine ⟨p.n0, fun s hs nw => ?_, fun s hs nw => ?_, fun s hs hk nw => ?_, fun s hs hk nw => ?_, fun s r hs hr hk nw nr => ?_, fun s r hs hr hk nw nr => ?_⟩
    · have := (p.b s (lo2 s hs nw)).1
      unfold vB at this
      rw [gL] at this
      rw [cL]
      exact this
    · have := (p.b s (lo2 s hs nw)).2
      unfold vB at this
      rw [gM] at this
      rw [cM]
      exact this
    · have := (p.a s hk (hi2 s hs hk nw)).1
      unfold vA at this
      rw [gL] at this
      rw [cM]
      exact this
    · have := (p.a s hk (hi2 s hs hk nw)).2
      unfold vA at this
      rw [gM] at this
      rw [cL]
      exact this
    · have := (p.c s r (lo2 s hs nw) hk (hi2 r hr hk nr)).1
      unfold vC at this
      rw [g2L] at this
      rw [cL, cM]
      omega
    · have := (p.c s r (lo2 s hs nw) hk (hi2 r hr hk nr)).2
      unfold vC at this
      rw [g2M] at this
      rw [cL, cM]
      omega
  · intro p
    refine ⟨p.n0, fun s hs => ?_, fun s hk hs => ?_, fun s r hs hk hr => ?_⟩
    · obtain ⟨a, b⟩ := lo1 s hs
      have x := p.b1 s a b
      have y := p.b2 s a b
      unfold vB
      rw [gL, gM]
      rw [cL] at x
      rw [cM] at y
      exact ⟨x, y⟩
    · obtain ⟨a, b⟩ := hi1 s hk hs
      have x := p.a1 s a hk b
      have y := p.a2 s a hk b
      unfold vA
      rw [gL, gM]
      rw [cM] at x
      rw [cL] at y
      exact ⟨x, y⟩
    · obtain ⟨a, b⟩ := lo1 s hs
      obtain ⟨a', b'⟩ := hi1 r hk hr
      have x := p.c1 s r a a' hk b b'
      have y := p.c2 s r a a' hk b b'
      unfold vC
      rw [g2L, g2M]
      rw [cL, cM] at x y
      omega
/-- the fewest crossings -/
def IsFar (h t : Int) (ds : List Int) (L M : List Nat) (f : Nat) : Prop := Th.ReachN ds.length (Gof h t ds) f (mem L) (mem M) ∧ ∀ n, Th.ReachN ds.length (Gof h t ds) n (mem L) (mem M) → f ≤ n
theorem far_lack {m : Nat} (d0 : 0 < ds.length) (r : Rl h t ds L M) (k : IsLack h t ds L M m) : IsFar h t ds L M ((othL ds.length L M).length + 2 * m) := by
  rw [oth_len]
  exact Th.far (top_G h t d0) (nest_G h t ds) r k.1 k.2
theorem far_one {f g : Nat} (a : IsFar h t ds L M f) (b : IsFar h t ds L M g) : f = g := Nat.le_antisymm (a.2 _ b.1) (b.2 _ a.1)
end
end Sh
namespace Sh
open PySem PySem.Spec PyProof.Rows L2
section
variable {h t : Int} {ds : List Int} {L M : List Nat}
theorem oth_nil (hL : Lot ds.length L) (hM : Lot ds.length M) (e : othL ds.length L M = []) : L = M := lot_ext hL hM fun i hi => by
  by_cases c : mem L i = mem M i
  · exact c
  · have := (oth_mem (n := ds.length)).mpr ⟨hi, c⟩
    rw [e] at this
    cases this
end
end Sh

namespace Sh
open PySem PySem.Spec PyProof.Rows L2
/-! ### the program: water -/
def spMarkOf : Sp := fun vs H Q _ => ∃ (h t s : Int) (n : Nat), vs = [.int h, .int t, .int (n : Int), .int s] ∧ Q (.int (mk h t n s)) H
def spTopOf : Sp := fun vs H Q _ => ∃ (h t : Int) (n : Nat), vs = [.int h, .int t, .int (n : Int)] ∧ Q (.int (topI h t n)) H
abbrev s_mark_of : Stmt := topS 1
theorem sc_mark_of : FnScope (["here", "there", "many", "step"] : List Str) (["here", "there", "many", "step"] : List Str) (defScope s_mark_of) := ⟨rfl, rfl, rfl, by decide +kernel, rfl, by decide +kernel, by decide +kernel⟩
theorem b_mark_of (kV doc pm : Value) (an : Option Addr) (cdv ct : Value) (us : List Value) (hl : us.length = (["here", "there", "many", "step"] : List Str).length) : bindArgs (PySem.W.fnOf "mark_of" "mark_of" (defArgs s_mark_of) (defBody s_mark_of) (defScope s_mark_of) .none kV doc pm an cdv ct) ⟨us, []⟩ = pure ((["here", "there", "many", "step"] : List Str).zip us) :=
  match us, hl with | [_, _, _, _], _ => rfl
abbrev s_top_of : Stmt := topS 2
theorem sc_top_of : FnScope (["here", "there", "many", "last", "meeting"] : List Str) (["here", "there", "many"] : List Str) (defScope s_top_of) := ⟨rfl, rfl, rfl, by decide +kernel, rfl, by decide +kernel, by decide +kernel⟩
theorem b_top_of (kV doc pm : Value) (an : Option Addr) (cdv ct : Value) (us : List Value) (hl : us.length = (["here", "there", "many"] : List Str).length) : bindArgs (PySem.W.fnOf "top_of" "top_of" (defArgs s_top_of) (defBody s_top_of) (defScope s_top_of) .none kV doc pm an cdv ct) ⟨us, []⟩ = pure ((["here", "there", "many"] : List Str).zip us) :=
  match us, hl with | [_, _, _], _ => rfl
section
variable {P : Program} {w : World} {K : PySem.W.Frag} {mg : Str → Option Value} {base : Heap}
theorem ok_mark_of {k : Nat} (D : Df K mg "mark_of" s_mark_of) (T : Bt mg) : Ok P w K mg base (k + 1) "mark_of" s_mark_of ["here", "there", "many", "step"] spMarkOf := by
  refine D.ok sc_mark_of b_mark_of (fun vs H Q E h => ?_) (fun f cdv A outer s H vs Q E hr h => ?_)
  · obtain ⟨h, t, s, n, rfl, _⟩ := h
    rfl
  · obtain ⟨h, t, s, n, rfl, k⟩ := h
    refine ⟨_, (pss_one (ps_ret (pe_callB (call_min2 rfl) (by rfl) T.min_ (by decide +kernel) (pa_cons (pe_op op_add (pv 0) (pv 3)) (pa_cons (pe_op op_sub (pe_op op_sub (pe_op op_add (pv 1) (pv 2)) pe_int) (pv 3)) pa_nil))))), ?_⟩
    refine ⟨_, rfl, _, rfl, h, s, rfl, rfl, _, rfl, _, rfl, t, _, rfl, rfl, _, 1, rfl, rfl, _, rfl, _, s, rfl, rfl, _, _, rfl, ?_⟩
    rw [← mk_alt] at k
    exact k
theorem ok_top_of {k : Nat} (D : Df K mg "top_of" s_top_of) (T : Bt mg) : Ok P w K mg base (k + 1) "top_of" s_top_of ["here", "there", "many"] spTopOf := by
  refine D.ok sc_top_of b_top_of (fun vs H Q E h => ?_) (fun f cdv A outer s H vs Q E hr h => ?_)
  · obtain ⟨h, t, n, rfl, _⟩ := h
    rfl
  · obtain ⟨h, t, n, rfl, k⟩ := h
    refine ⟨_, (pss_cons (ps_set (i := 3) sc_top_of.nd rfl (.inl rfl) (pe_op op_sub (pv 2) pe_int))
      (pss_cons (ps_set (i := 4) sc_top_of.nd rfl (.inl rfl) (pe_op op_fdiv (pe_op op_sub (pe_op op_add (pv 1) (pv 3)) (pv 0)) pe_int))
      (pss_one (ps_ret (pe_callB (call_max2 rfl) (by rfl) T.max_ (by decide +kernel) (pa_cons pe_int (pa_cons (pe_callB (call_min2 rfl) (by rfl) T.min_ (by decide +kernel) (pa_cons (pv 3) (pa_cons (pv 4) pa_nil))) pa_nil))))))), ?_⟩
    refine ⟨_, rfl, _, 1, rfl, rfl, ?_⟩
    refine ⟨_, rfl, _, rfl, t, _, rfl, rfl, _, rfl, _, h, rfl, rfl, _, 2, rfl, rfl, ⟨by decide, by decide⟩, ?_⟩
    refine ⟨_, rfl, _, rfl, _, _, rfl, 0, _, rfl, ?_⟩
    exact k
end
end Sh

namespace Sh
open PySem PySem.Spec PyProof.Rows L2
/-! ### the program: steps -/
abbrev s_mark_at : Stmt := topS 29
theorem sc_mark_at : FnScope (["sea", "step", "here", "there", "draughts"] : List Str) (["sea", "step"] : List Str) (defScope s_mark_at) := ⟨rfl, rfl, rfl, by decide +kernel, rfl, by decide +kernel, by decide +kernel⟩
theorem b_mark_at (kV doc pm : Value) (an : Option Addr) (cdv ct : Value) (us : List Value) (hl : us.length = (["sea", "step"] : List Str).length) : bindArgs (PySem.W.fnOf "mark_at" "mark_at" (defArgs s_mark_at) (defBody s_mark_at) (defScope s_mark_at) .none kV doc pm an cdv ct) ⟨us, []⟩ = pure ((["sea", "step"] : List Str).zip us) :=
  match us, hl with | [_, _], _ => rfl
abbrev s_window_of : Stmt := topS 30
theorem sc_window_of : FnScope (["sea", "ship", "here", "there", "draughts", "last", "draught", "least", "greatest"] : List Str) (["sea", "ship"] : List Str) (defScope s_window_of) := ⟨rfl, rfl, rfl, by decide +kernel, rfl, by decide +kernel, by decide +kernel⟩
theorem b_window_of (kV doc pm : Value) (an : Option Addr) (cdv ct : Value) (us : List Value) (hl : us.length = (["sea", "ship"] : List Str).length) : bindArgs (PySem.W.fnOf "window_of" "window_of" (defArgs s_window_of) (defBody s_window_of) (defScope s_window_of) .none kV doc pm an cdv ct) ⟨us, []⟩ = pure ((["sea", "ship"] : List Str).zip us) :=
  match us, hl with | [_, _], _ => rfl
section
variable {P : Program} {w : World} {K : PySem.W.Frag} {mg : Str → Option Value} {base : Heap}
theorem ok_mark {k : Nat} (D : Df K mg "mark_at" s_mark_at) (T : Bt mg) (O_mark_of : Ok P w K mg base k "mark_of" s_mark_of ["here", "there", "many", "step"] spMarkOf) : Ok P w K mg base (k + 1) "mark_at" s_mark_at ["sea", "step"] (spMark K) := by
  refine D.ok sc_mark_at b_mark_at (fun vs H Q E h => ?_) (fun f cdv A outer s H vs Q E hr h => ?_)
  · obtain ⟨v, h, t, s, ds, rfl, _⟩ := h
    rfl
  · obtain ⟨v, h, t, s, ds, rfl, ⟨p, q, rfl, hp, hq⟩, k⟩ := h
    refine ⟨_, (pss_cons (ps_asg (pv 0) (pg_seq rfl (pgs_cons (pg_name (i := 2) sc_mark_at.nd rfl (.inl rfl)) (pgs_cons (pg_name (i := 3) sc_mark_at.nd rfl (.inl rfl)) (pgs_cons (pg_name (i := 4) sc_mark_at.nd rfl (.inl rfl)) pgs_nil)))))
      (pss_one (ps_ret (pe_fn O_mark_of (hr.mono (by omega)) (pa_cons (pv 2) (pa_cons (pv 3) (pa_cons (pe_callB call_len_seq (by rfl) T.len_ PySem.boot_len (pa_cons (pv 4) pa_nil)) (pa_cons (pv 1) pa_nil)))))))), ?_⟩
    refine ⟨_, rfl, p, _, rfl, hp, rfl, _, _, rfl, _, _, rfl, _, _, rfl, rfl, ?_⟩
    refine ⟨_, rfl, _, rfl, _, rfl, q, _, rfl, hq, _, rfl, h, t, s, ds.length, ?_, k⟩
    rw [List.length_map]
    rfl
theorem ok_window {k : Nat} (D : Df K mg "window_of" s_window_of) (T : Bt mg) : Ok P w K mg base (k + 1) "window_of" s_window_of ["sea", "ship"] (spWindow K) := by
  refine D.ok sc_window_of b_window_of (fun vs H Q E h => ?_) (fun f cdv A outer s H vs Q E hr h => ?_)
  · obtain ⟨v, h, t, d, j, ds, rfl, _⟩ := h
    rfl
  · obtain ⟨v, h, t, d, j, ds, rfl, ⟨p, q, rfl, hp, hq⟩, hj, k1, k2⟩ := h
    refine ⟨_, (pss_cons (ps_asg (pv 0) (pg_seq rfl (pgs_cons (pg_name (i := 2) sc_window_of.nd rfl (.inl rfl)) (pgs_cons (pg_name (i := 3) sc_window_of.nd rfl (.inl rfl)) (pgs_cons (pg_name (i := 4) sc_window_of.nd rfl (.inl rfl)) pgs_nil)))))
      (pss_cons (ps_set (i := 5) sc_window_of.nd rfl (.inl rfl) (pe_op op_sub (pe_callB call_len_seq (by rfl) T.len_ PySem.boot_len (pa_cons (pv 4) pa_nil)) pe_int))
      (pss_cons (ps_set (i := 6) sc_window_of.nd rfl (.inl rfl) (pe_ix ix_lt (pv 4) (pv 1) (fun _ _ => rfl)))
      (pss_cons (ps_set (i := 7) sc_window_of.nd rfl (.inl rfl) (pe_callB (call_max2 rfl) (by rfl) T.max_ (by decide +kernel) (pa_cons pe_int (pa_cons (pe_op op_sub (pv 6) (pv 2)) pa_nil))))
      (pss_cons (ps_set (i := 8) sc_window_of.nd rfl (.inl rfl) (pe_callB (call_min2 rfl) (by rfl) T.min_ (by decide +kernel) (pa_cons (pv 5) (pa_cons (pe_op op_sub (pe_op op_add (pv 3) (pv 5)) (pv 6)) pa_nil))))
      (pss_cons (ps_if (pt_cmpR op_gt (pv 7) (pv 8) (nomark _))
        (pss_one (ps_ret pe_non))
        pss_nil)
      (pss_one (ps_ret (pe_tup (pa_cons (pv 7) (pa_cons (pv 8) pa_nil))))))))))), ?_⟩
    refine ⟨_, rfl, p, _, rfl, hp, rfl, _, _, rfl, _, _, rfl, _, _, rfl, rfl, ?_⟩
    refine ⟨_, rfl, q, _, rfl, hq, _, 1, rfl, rfl, ?_⟩
    refine ⟨_, rfl, _, rfl, q, _, _, .int d, rfl, rfl, hq, at_nat (j := j) rfl (by simp [hj]), ?_⟩
    refine ⟨_, rfl, _, rfl, d, h, rfl, rfl, 0, _, rfl, ?_⟩
    refine ⟨_, rfl, _, rfl, _, rfl, t, _, rfl, rfl, _, rfl, _, d, rfl, rfl, _, _, rfl, ?_⟩
    refine ⟨_, rfl, _, rfl, _, _, rfl, rfl, _, rfl, ite2 (fun c => ?_) (fun c => ?_)⟩
    · have c0 := of_decide_eq_true c
      rw [List.length_map] at c0
      exact k1 c0
    · have c0 := fun z => c (decide_eq_true z)
      rw [List.length_map] at c0 ⊢
      refine ⟨_, rfl, _, rfl, (by show 2 ≤ sizeLine; decide), fun p' np => ?_⟩
      exact k2 c0 p' np
end
end Sh

namespace Sh
open PySem PySem.Spec PyProof.Rows L2
/-! ### fleets as they are handed in -/
def SrtV (x : Srt) : List V := [.int x.1, .int (x.2.1 : Int), .int (x.2.2 : Int)]
def SrtsA (K : PySem.W.Frag) (H : Hp) (rs : List Addr) (ss : List Srt) : Prop := rs.length = ss.length ∧ ∀ (i : Nat) (r : Addr) (x : Srt), rs[i]? = some r → ss[i]? = some x → SqA K H r (SrtV x)
theorem SrtsA.same {K : PySem.W.Frag} {H H' : Hp} {rs : List Addr} {ss : List Srt} (w : SrtsA K H rs ss) (e : Same H H') : SrtsA K H' rs ss := ⟨w.1, fun i r x a b => Same.sqA e (w.2 i r x a b)⟩
theorem srt_at {K : PySem.W.Frag} {H : Hp} {rs : List Addr} {ss : List Srt} {i : Nat} {v : V} (w : SrtsA K H rs ss) (g : (rs.map V.ref)[i]? = some v) : ∃ (r : Addr) (hi : i < ss.length), v = .ref r ∧ SqA K H r (SrtV ss[i]) := by
  rw [List.getElem?_map] at g
  cases e : rs[i]? with
  | none => rw [e] at g; cases g
  | some r =>
    rw [e] at g
    have hi : i < rs.length := (List.getElem?_eq_some_iff.mp e).1
    have hi2 : i < ss.length := w.1 ▸ hi
    exact ⟨r, hi2, (Option.some.inj g).symm, w.2 i r _ e (List.getElem?_eq_getElem hi2)⟩
/-- a fleet (lists or tuples) is handed in -/
def FltA (K : PySem.W.Frag) (H : Hp) (v : V) (h t : Int) (ss : List Srt) : Prop := ∃ (p q : Addr) (rs : List Addr), v = .ref p ∧ SqA K H p [.int h, .int t, .ref q] ∧ SqA K H q (rs.map V.ref) ∧ SrtsA K H rs ss
theorem FltA.same {K : PySem.W.Frag} {H H' : Hp} {v : V} {h t : Int} {ss : List Srt} (s : FltA K H v h t ss) (e : Same H H') : FltA K H' v h t ss := let ⟨p, q, rs, a, b, c, d⟩ := s; ⟨p, q, rs, a, Same.sqA e b, Same.sqA e c, d.same e⟩
/-- new sorts, as tuples -/
def SrtsN (H : Hp) (rs : List Addr) (ss : List Srt) : Prop := rs.length = ss.length ∧ ∀ (i : Nat) (r : Addr) (x : Srt), rs[i]? = some r → ss[i]? = some x → H r = some (.tup (SrtV x))
theorem SrtsN.a {K : PySem.W.Frag} {H : Hp} {rs : List Addr} {ss : List Srt} (w : SrtsN H rs ss) : SrtsA K H rs ss := ⟨w.1, fun i r x a b => SqA.t (w.2 i r x a b)⟩
theorem SrtsN.same {H H' : Hp} {rs : List Addr} {ss : List Srt} (w : SrtsN H rs ss) (e : Same H H') : SrtsN H' rs ss := ⟨w.1, fun i r x a b => e _ _ (w.2 i r x a b)⟩
theorem SrtsN.put {H : Hp} {rs : List Addr} {ss : List Srt} {C : Addr} {xs ys : List V} (w : SrtsN H rs ss) (h : H C = some (.lst xs)) : SrtsN (upd H C (.lst ys)) rs ss := ⟨w.1, fun i r x a b => by
  have q := w.2 i r x a b
  rw [upd_ne (ne_of q h (by intro z; cases z))]
  exact q⟩
theorem SrtsN.push {H : Hp} {rs : List Addr} {ss : List Srt} {u : Addr} {x : Srt} (w : SrtsN H rs ss) (n : H u = none) : SrtsN (upd H u (.tup (SrtV x))) (rs ++ [u]) (ss ++ [x]) := by
  refine ⟨by rw [List.length_append, List.length_append, w.1]; rfl, fun i r y a b => ?_⟩
  by_cases z : i < rs.length
  · rw [List.getElem?_append_left z] at a
    rw [List.getElem?_append_left (by rw [← w.1]; exact z)] at b
    exact same_new n _ _ (w.2 i r y a b)
  · have e : i = rs.length := by
      have := (List.getElem?_eq_some_iff.mp a).1
      rw [List.length_append] at this
      simp at this
      omega
    subst e
    rw [List.getElem?_append_right (Nat.le_refl _), Nat.sub_self] at a
    rw [List.getElem?_append_right (by rw [w.1]; exact Nat.le_refl _), w.1, Nat.sub_self] at b
    obtain rfl : u = r := Option.some.inj a
    obtain rfl : x = y := Option.some.inj b
    exact upd_same
theorem SrtsN.push' {H : Hp} {rs : List Addr} {ss : List Srt} {u : Addr} {x : Srt} {o : HO} (w : SrtsN H rs ss) (n : H u = none) (e : o = .tup (SrtV x)) : SrtsN (upd H u o) (rs ++ [u]) (ss ++ [x]) := by
  subst e
  exact w.push n
end Sh

namespace Sh
open PySem PySem.Spec PyProof.Rows L2
/-! ### the program: lots, of fleets as they are handed in -/
theorem isum (f : Srt → Nat) : ∀ l : List Srt, (l.map fun x => (f x : Int)).sum = ((l.map f).sum : Int)
  | [] => rfl
  | a :: l => by
    rw [List.map_cons, List.sum_cons, isum f l, List.map_cons, List.sum_cons]
    rfl
theorem tm {β : Type} (f : Srt → β) {ss : List Srt} {i : Nat} (hi : i < ss.length) : (ss.take (i + 1)).map f = (ss.take i).map f ++ [f ss[i]] := by rw [take_succ_get hi, List.map_append]; rfl
theorem tfm {β : Type} (p : Srt → Bool) (f : Srt → β) {ss : List Srt} {i : Nat} (hi : i < ss.length) : ((ss.take (i + 1)).filter p).map f = ((ss.take i).filter p).map f ++ (if p ss[i] = true then [f ss[i]] else []) := by
  rw [take_succ_get hi, List.filter_append, List.map_append]
  congr 1
  by_cases c : p ss[i] = true
  · rw [if_pos c, List.filter_cons_of_pos c]; rfl
  · rw [if_neg c, List.filter_cons_of_neg c]; rfl
theorem take_le {ss : List Srt} {i : Nat} (hi : i < ss.length) : (ss.take i).length < ss.length := by rw [List.length_take]; omega
theorem tf_le {p : Srt → Bool} {ss : List Srt} {i : Nat} (hi : i < ss.length) : ((ss.take i).filter p).length < ss.length := Nat.lt_of_le_of_lt (List.length_filter_le _ _) (take_le hi)
def spShips (K : PySem.W.Frag) : Sp := fun vs H Q _ => ∃ (v : V) (h t : Int) (ss : List Srt), vs = [v] ∧ FltA K H v h t ss ∧ ss.length ≤ 1000 ∧ ∀ H', Same H H' → Q (.int (mny ss : Int)) H'
def spMarkIn (K : PySem.W.Frag) : Sp := fun vs H Q _ => ∃ (v : V) (h t s : Int) (ss : List Srt), vs = [v, .int s] ∧ FltA K H v h t ss ∧ ss.length ≤ 1000 ∧ ∀ H', Same H H' → Q (.int (mk h t (mny ss) s)) H'
def spGoersMany (K : PySem.W.Frag) : Sp := fun vs H Q _ => ∃ (v : V) (h t s : Int) (ss : List Srt), vs = [v, .int s] ∧ FltA K H v h t ss ∧ ss.length ≤ 1000 ∧ ∀ H', Same H H' → Q (.int (gmF ss (mk h t (mny ss) s) : Int)) H'
def spTopIn (K : PySem.W.Frag) : Sp := fun vs H Q _ => ∃ (v : V) (h t : Int) (ss : List Srt), vs = [v] ∧ FltA K H v h t ss ∧ ss.length ≤ 1000 ∧ ∀ H', Same H H' → Q (.int (topI h t (mny ss))) H'
def spFilled (K : PySem.W.Frag) : Sp := fun vs H Q _ => ∃ (v : V) (h t s : Int) (ss : List Srt), vs = [v, .int s] ∧ FltA K H v h t ss ∧ ss.length ≤ 1000 ∧ ∀ H', Same H H' → Q (.int (filF ss (mk h t (mny ss) s) : Int)) H'
/-- marks rise up to top -/
def Rise (h t : Int) (n : Nat) (top : Int) : Prop := ∀ s s' : Int, 0 ≤ s → s ≤ s' → s' ≤ top → mk h t n s ≤ mk h t n s'
def spLowStop (K : PySem.W.Frag) : Sp := fun vs H Q _ => ∃ (v : V) (h t top : Int) (ss : List Srt), vs = [v, .int top] ∧ FltA K H v h t ss ∧ ss.length ≤ 1000 ∧ Rise h t (mny ss) top ∧
  (∀ (H' : Hp) (N : Nat), Same H H' → (N : Int) ≤ top → StuckF h t ss N → Q (.int (N : Int)) H') ∧ (∀ H', Same H H' → (∀ N : Nat, (N : Int) ≤ top → ¬ StuckF h t ss N) → Q .non H')
def spTurnedF (K : PySem.W.Frag) : Sp := fun vs H Q _ => ∃ (v : V) (h t : Int) (ss : List Srt), vs = [v] ∧ FltA K H v h t ss ∧ ss.length ≤ 1000 ∧ ∀ (H' : Hp) (z : V), Same H H' → FltA K H' z t h (turnF ss) → Q z H'
theorem fil_mono {ss : List Srt} {m m' : Int} (e : m ≤ m') : filF ss m ≤ filF ss m' := by
  unfold filF
  induction ss with
  | nil => exact Nat.le_refl _
  | cons a l ih =>
    simp only [List.map_cons, List.sum_cons]
    have : (if a.1 ≤ m then a.2.2 else 0) ≤ (if a.1 ≤ m' then a.2.2 else 0) := by
      by_cases z : a.1 ≤ m
      · rw [if_pos z, if_pos (by omega)]
        exact Nat.le_refl _
      · rw [if_neg z]
        exact Nat.zero_le _
    omega
theorem fil_ge {ss : List Srt} {m : Int} : ourn ss ≤ filF ss m := by
  unfold filF ourn
  induction ss with
  | nil => exact Nat.le_refl _
  | cons a l ih =>
    simp only [List.map_cons, List.sum_cons]
    omega
theorem fil_le {ss : List Srt} {m : Int} : filF ss m ≤ mny ss := by
  unfold filF mny
  induction ss with
  | nil => exact Nat.le_refl _
  | cons a l ih =>
    simp only [List.map_cons, List.sum_cons]
    have : (if a.1 ≤ m then a.2.2 else 0) ≤ a.2.2 := by split <;> omega
    omega
abbrev s_ships_many : Stmt := topS 10
theorem sc_ships_many : FnScope (["fleet", "draught", "ours", "theirs"] : List Str) (["fleet"] : List Str) (defScope s_ships_many) := ⟨rfl, rfl, rfl, by decide +kernel, rfl, by decide +kernel, by decide +kernel⟩
theorem b_ships_many (kV doc pm : Value) (an : Option Addr) (cdv ct : Value) (us : List Value) (hl : us.length = (["fleet"] : List Str).length) : bindArgs (PySem.W.fnOf "ships_many" "ships_many" (defArgs s_ships_many) (defBody s_ships_many) (defScope s_ships_many) .none kV doc pm an cdv ct) ⟨us, []⟩ = pure ((["fleet"] : List Str).zip us) :=
  match us, hl with | [_], _ => rfl
abbrev s_mark_in : Stmt := topS 11
theorem sc_mark_in : FnScope (["fleet", "step", "here", "there", "sorts"] : List Str) (["fleet", "step"] : List Str) (defScope s_mark_in) := ⟨rfl, rfl, rfl, by decide +kernel, rfl, by decide +kernel, by decide +kernel⟩
theorem b_mark_in (kV doc pm : Value) (an : Option Addr) (cdv ct : Value) (us : List Value) (hl : us.length = (["fleet", "step"] : List Str).length) : bindArgs (PySem.W.fnOf "mark_in" "mark_in" (defArgs s_mark_in) (defBody s_mark_in) (defScope s_mark_in) .none kV doc pm an cdv ct) ⟨us, []⟩ = pure ((["fleet", "step"] : List Str).zip us) :=
  match us, hl with | [_, _], _ => rfl
abbrev s_goers_many : Stmt := topS 12
theorem sc_goers_many : FnScope (["fleet", "step", "mark", "draught", "ours", "theirs"] : List Str) (["fleet", "step"] : List Str) (defScope s_goers_many) := ⟨rfl, rfl, rfl, by decide +kernel, rfl, by decide +kernel, by decide +kernel⟩
theorem b_goers_many (kV doc pm : Value) (an : Option Addr) (cdv ct : Value) (us : List Value) (hl : us.length = (["fleet", "step"] : List Str).length) : bindArgs (PySem.W.fnOf "goers_many" "goers_many" (defArgs s_goers_many) (defBody s_goers_many) (defScope s_goers_many) .none kV doc pm an cdv ct) ⟨us, []⟩ = pure ((["fleet", "step"] : List Str).zip us) :=
  match us, hl with | [_, _], _ => rfl
abbrev s_top_in : Stmt := topS 13
theorem sc_top_in : FnScope (["fleet", "here", "there", "sorts"] : List Str) (["fleet"] : List Str) (defScope s_top_in) := ⟨rfl, rfl, rfl, by decide +kernel, rfl, by decide +kernel, by decide +kernel⟩
theorem b_top_in (kV doc pm : Value) (an : Option Addr) (cdv ct : Value) (us : List Value) (hl : us.length = (["fleet"] : List Str).length) : bindArgs (PySem.W.fnOf "top_in" "top_in" (defArgs s_top_in) (defBody s_top_in) (defScope s_top_in) .none kV doc pm an cdv ct) ⟨us, []⟩ = pure ((["fleet"] : List Str).zip us) :=
  match us, hl with | [_], _ => rfl
abbrev s_filled_at : Stmt := topS 14
theorem sc_filled_at : FnScope (["fleet", "step", "mark", "draught", "ours", "theirs"] : List Str) (["fleet", "step"] : List Str) (defScope s_filled_at) := ⟨rfl, rfl, rfl, by decide +kernel, rfl, by decide +kernel, by decide +kernel⟩
theorem b_filled_at (kV doc pm : Value) (an : Option Addr) (cdv ct : Value) (us : List Value) (hl : us.length = (["fleet", "step"] : List Str).length) : bindArgs (PySem.W.fnOf "filled_at" "filled_at" (defArgs s_filled_at) (defBody s_filled_at) (defScope s_filled_at) .none kV doc pm an cdv ct) ⟨us, []⟩ = pure ((["fleet", "step"] : List Str).zip us) :=
  match us, hl with | [_, _], _ => rfl
abbrev s_low_stop : Stmt := topS 15
theorem sc_low_stop : FnScope (["fleet", "top", "step", "filled", "draught", "ours", "theirs"] : List Str) (["fleet", "top"] : List Str) (defScope s_low_stop) := ⟨rfl, rfl, rfl, by decide +kernel, rfl, by decide +kernel, by decide +kernel⟩
theorem b_low_stop (kV doc pm : Value) (an : Option Addr) (cdv ct : Value) (us : List Value) (hl : us.length = (["fleet", "top"] : List Str).length) : bindArgs (PySem.W.fnOf "low_stop" "low_stop" (defArgs s_low_stop) (defBody s_low_stop) (defScope s_low_stop) .none kV doc pm an cdv ct) ⟨us, []⟩ = pure ((["fleet", "top"] : List Str).zip us) :=
  match us, hl with | [_, _], _ => rfl
abbrev s_turned_fleet : Stmt := topS 9
theorem sc_turned_fleet : FnScope (["fleet", "here", "there", "sorts", "draught", "ours", "theirs"] : List Str) (["fleet"] : List Str) (defScope s_turned_fleet) := ⟨rfl, rfl, rfl, by decide +kernel, rfl, by decide +kernel, by decide +kernel⟩
theorem b_turned_fleet (kV doc pm : Value) (an : Option Addr) (cdv ct : Value) (us : List Value) (hl : us.length = (["fleet"] : List Str).length) : bindArgs (PySem.W.fnOf "turned_fleet" "turned_fleet" (defArgs s_turned_fleet) (defBody s_turned_fleet) (defScope s_turned_fleet) .none kV doc pm an cdv ct) ⟨us, []⟩ = pure ((["fleet"] : List Str).zip us) :=
  match us, hl with | [_], _ => rfl
section
variable {P : Program} {w : World} {K : PySem.W.Frag} {mg : Str → Option Value} {base : Heap}
theorem ok_ships {k : Nat} (D : Df K mg "ships_many" s_ships_many) (T : Bt mg) : Ok P w K mg base (k + 1) "ships_many" s_ships_many ["fleet"] (spShips K) := by
  refine D.ok sc_ships_many b_ships_many (fun vs H Q E h => ?_) (fun f cdv A outer s H vs Q E hr h => ?_)
  · obtain ⟨v, h, t, ss, rfl, _⟩ := h
    rfl
  · obtain ⟨v, h, t, ss, rfl, ⟨p, q, rs, rfl, hp, hq, hs⟩, l1, k⟩ := h
    refine ⟨_, (pss_one (ps_ret (pe_callB (cr_sum rfl) (by rfl) T.sum_ (by decide +kernel) (pa_cons (pe_lc (own := [("draught", 1), ("ours", 2), ("theirs", 3)]) (g := (gSeq K 3 (gCons (gName 1) (gCons (gName 2) (gCons (gName 3) gNil))))) (tt := tYes) (by rfl) sc_ships_many.nd (pi_seq (pe_ix ix_lt (pv 0) pe_int (fun _ _ => rfl))) (blkOk_by (own := [("draught", 1), ("ours", 2), ("theirs", 3)]) (N := (["fleet", "draught", "ours", "theirs"] : List Str)) (sc := defScope s_ships_many) (by decide +kernel)) (fun _ _ _ _ _ => (pg_seq rfl (pgs_cons (pg_name (i := 1) sc_ships_many.nd rfl (.inl rfl)) (pgs_cons (pg_name (i := 2) sc_ships_many.nd rfl (.inl rfl)) (pgs_cons (pg_name (i := 3) sc_ships_many.nd rfl (.inl rfl)) pgs_nil))))) (fun _ _ _ _ _ => pts_nil) (fun _ _ _ _ _ => (pe_op op_add (pv 2) (pv 3)))) pa_nil)))), ?_⟩
    refine ⟨_, rfl, p, _, 2, .ref q, rfl, rfl, hp, rfl, q, _, H, rfl, hq, Kp.refl _ _, fun J hJ C nC => ?_⟩
    obtain ⟨G, g, W⟩ := hJ.walk
    refine lc_it W (fun i H' => Same H H' ∧ H' C = some (.lst (((ss.take i).map fun x => ((x.2.1 + x.2.2 : Nat) : Int)).map V.int))) ⟨same_new nC, upd_same⟩ (fun i H' _ z => g H' (.ofS z.1)) ?_ ?_
    · rintro i x H1 H2 _ ⟨sm, hC⟩ ⟨rfl, gx⟩
      obtain ⟨r, hi, rfl, hr1⟩ := srt_at (hs.same sm) gx
      refine ⟨r, _, rfl, hr1, rfl, _, _, rfl, _, _, rfl, _, _, rfl, rfl, rfl, tyes (iteT ⟨_, rfl, _, rfl, _, _, rfl, rfl, _, hC, ?_, same_over sm nC, ?_⟩)⟩
      · rw [List.length_map, List.length_map]
        exact Nat.lt_of_lt_of_le (take_le hi) (Nat.le_trans l1 (by decide))
      · rw [upd_same, tm _ hi, List.map_append]
        rfl
    · rintro H1 ⟨sm, hC⟩
      rw [List.length_map, hs.1, List.take_length] at hC
      refine ⟨C, _, rfl, SqL.of hC, ?_⟩
      rw [isum]
      exact k H1 sm
theorem ok_mark_in {k : Nat} (D : Df K mg "mark_in" s_mark_in) (T : Bt mg) (O_mark_of : Ok P w K mg base k "mark_of" s_mark_of ["here", "there", "many", "step"] spMarkOf) (O_ships_many : Ok P w K mg base k "ships_many" s_ships_many ["fleet"] (spShips K)) :
    Ok P w K mg base (k + 1) "mark_in" s_mark_in ["fleet", "step"] (spMarkIn K) := by
  refine D.ok sc_mark_in b_mark_in (fun vs H Q E h => ?_) (fun f cdv A outer s H vs Q E hr h => ?_)
  · obtain ⟨v, h, t, s, ss, rfl, _⟩ := h
    rfl
  · obtain ⟨v, h, t, s, ss, rfl, hv, l1, k⟩ := h
    obtain ⟨p, q, rs, rfl, hp, hq, hs⟩ := id hv
    refine ⟨_, (pss_cons (ps_asg (pv 0) (pg_seq rfl (pgs_cons (pg_name (i := 2) sc_mark_in.nd rfl (.inl rfl)) (pgs_cons (pg_name (i := 3) sc_mark_in.nd rfl (.inl rfl)) (pgs_cons (pg_name (i := 4) sc_mark_in.nd rfl (.inl rfl)) pgs_nil)))))
      (pss_one (ps_ret (pe_fn O_mark_of (hr.mono (by omega)) (pa_cons (pv 2) (pa_cons (pv 3) (pa_cons (pe_fn O_ships_many (hr.mono (by omega)) (pa_cons (pv 0) pa_nil)) (pa_cons (pv 1) pa_nil)))))))), ?_⟩
    refine ⟨_, rfl, p, _, rfl, hp, rfl, _, _, rfl, _, _, rfl, _, _, rfl, rfl, ?_⟩
    exact ⟨_, rfl, _, rfl, _, rfl, .ref p, h, t, ss, rfl, hv, l1, fun H' s1 => ⟨_, rfl, h, t, s, mny ss, rfl, k H' s1⟩⟩
theorem ok_top_in {k : Nat} (D : Df K mg "top_in" s_top_in) (T : Bt mg) (O_top_of : Ok P w K mg base k "top_of" s_top_of ["here", "there", "many"] spTopOf) (O_ships_many : Ok P w K mg base k "ships_many" s_ships_many ["fleet"] (spShips K)) :
    Ok P w K mg base (k + 1) "top_in" s_top_in ["fleet"] (spTopIn K) := by
  refine D.ok sc_top_in b_top_in (fun vs H Q E h => ?_) (fun f cdv A outer s H vs Q E hr h => ?_)
  · obtain ⟨v, h, t, ss, rfl, _⟩ := h
    rfl
  · obtain ⟨v, h, t, ss, rfl, hv, l1, k⟩ := h
    obtain ⟨p, q, rs, rfl, hp, hq, hs⟩ := id hv
    refine ⟨_, (pss_cons (ps_asg (pv 0) (pg_seq rfl (pgs_cons (pg_name (i := 1) sc_top_in.nd rfl (.inl rfl)) (pgs_cons (pg_name (i := 2) sc_top_in.nd rfl (.inl rfl)) (pgs_cons (pg_name (i := 3) sc_top_in.nd rfl (.inl rfl)) pgs_nil)))))
      (pss_one (ps_ret (pe_fn O_top_of (hr.mono (by omega)) (pa_cons (pv 1) (pa_cons (pv 2) (pa_cons (pe_fn O_ships_many (hr.mono (by omega)) (pa_cons (pv 0) pa_nil)) pa_nil))))))), ?_⟩
    refine ⟨_, rfl, p, _, rfl, hp, rfl, _, _, rfl, _, _, rfl, _, _, rfl, rfl, ?_⟩
    exact ⟨_, rfl, _, rfl, _, rfl, .ref p, h, t, ss, rfl, hv, l1, fun H' s1 => ⟨h, t, mny ss, rfl, k H' s1⟩⟩
theorem ok_goers_many {k : Nat} (D : Df K mg "goers_many" s_goers_many) (T : Bt mg) (O_mark_in : Ok P w K mg base k "mark_in" s_mark_in ["fleet", "step"] (spMarkIn K)) :
    Ok P w K mg base (k + 1) "goers_many" s_goers_many ["fleet", "step"] (spGoersMany K) := by
  refine D.ok sc_goers_many b_goers_many (fun vs H Q E h => ?_) (fun f cdv A outer s H vs Q E hr h => ?_)
  · obtain ⟨v, h, t, s, ss, rfl, _⟩ := h
    rfl
  · obtain ⟨v, h, t, s, ss, rfl, hv, l1, k⟩ := h
    refine ⟨_, (pss_cons (ps_set (i := 2) sc_goers_many.nd rfl (.inr rfl) (pe_fn O_mark_in (hr.mono (by omega)) (pa_cons (pv 0) (pa_cons (pv 1) pa_nil))))
      (pss_one (ps_ret (pe_callB (cr_sum rfl) (by rfl) T.sum_ (by decide +kernel) (pa_cons (pe_lc (own := [("draught", 3), ("ours", 4), ("theirs", 5)]) (g := (gSeq K 3 (gCons (gName 3) (gCons (gName 4) (gCons (gName 5) gNil))))) (by rfl) sc_goers_many.nd (pi_seq (pe_ix ix_lt (pv 0) pe_int (fun _ _ => rfl))) (blkOk_by (own := [("draught", 3), ("ours", 4), ("theirs", 5)]) (N := (["fleet", "step", "mark", "draught", "ours", "theirs"] : List Str)) (sc := defScope s_goers_many) (by decide +kernel)) (fun _ _ _ _ _ => (pg_seq rfl (pgs_cons (pg_name (i := 3) sc_goers_many.nd rfl (.inl rfl)) (pgs_cons (pg_name (i := 4) sc_goers_many.nd rfl (.inl rfl)) (pgs_cons (pg_name (i := 5) sc_goers_many.nd rfl (.inl rfl)) pgs_nil))))) (fun _ _ _ _ _ => (pts_one (pt_cmpR op_le (pv 3) (pv 2) (nomark _)))) (fun _ _ _ _ _ => (pe_op op_add (pv 4) (pv 5)))) pa_nil))))), ?_⟩
    refine ⟨_, rfl, _, rfl, v, h, t, s, ss, rfl, hv, l1, fun H0 s0 => ?_⟩
    obtain ⟨p, q, rs, rfl, hp, hq, hs⟩ := hv.same s0
    generalize mk h t (mny ss) s = m at k
    refine ⟨_, rfl, p, _, 2, .ref q, rfl, rfl, hp, rfl, q, _, H0, rfl, hq, Kp.refl _ _, fun J hJ C nC => ?_⟩
    obtain ⟨G, g, W⟩ := hJ.walk
    refine lc_it W (fun i H' => Same H0 H' ∧ H' C = some (.lst ((((ss.take i).filter fun x => decide (x.1 ≤ m)).map fun x => ((x.2.1 + x.2.2 : Nat) : Int)).map V.int))) ⟨same_new nC, upd_same⟩ (fun i H' _ z => g H' (.ofS z.1)) ?_ ?_
    · rintro i x H1 H2 _ ⟨sm, hC⟩ ⟨rfl, gx⟩
      obtain ⟨r, hi, rfl, hr1⟩ := srt_at (hs.same sm) gx
      refine ⟨r, _, rfl, hr1, rfl, _, _, rfl, _, _, rfl, _, _, rfl, rfl, rfl, _, rfl, _, rfl, _, _, rfl, rfl, _, rfl, ite2 (fun c => ⟨_, rfl, _, rfl, _, _, rfl, rfl, _, hC, ?_, same_over sm nC, ?_⟩) (fun c => ⟨sm, ?_⟩)⟩
      · rw [List.length_map, List.length_map]
        exact Nat.lt_of_lt_of_le (tf_le hi) (Nat.le_trans l1 (by decide))
      · rw [upd_same, tfm _ _ hi, if_pos c, List.map_append]
        rfl
      · rw [hC, tfm _ _ hi, if_neg c, List.append_nil]
    · rintro H1 ⟨sm, hC⟩
      rw [List.length_map, hs.1, List.take_length] at hC
      refine ⟨C, _, rfl, SqL.of hC, ?_⟩
      rw [isum]
      exact k H1 (s0.trans sm)
theorem ok_filled {k : Nat} (D : Df K mg "filled_at" s_filled_at) (T : Bt mg) (O_mark_in : Ok P w K mg base k "mark_in" s_mark_in ["fleet", "step"] (spMarkIn K)) :
    Ok P w K mg base (k + 1) "filled_at" s_filled_at ["fleet", "step"] (spFilled K) := by
  refine D.ok sc_filled_at b_filled_at (fun vs H Q E h => ?_) (fun f cdv A outer s H vs Q E hr h => ?_)
  · obtain ⟨v, h, t, s, ss, rfl, _⟩ := h
    rfl
  · obtain ⟨v, h, t, s, ss, rfl, hv, l1, k⟩ := h
    refine ⟨_, (pss_cons (ps_set (i := 2) sc_filled_at.nd rfl (.inr rfl) (pe_fn O_mark_in (hr.mono (by omega)) (pa_cons (pv 0) (pa_cons (pv 1) pa_nil))))
      (pss_one (ps_ret (pe_callB (cr_sum rfl) (by rfl) T.sum_ (by decide +kernel) (pa_cons (pe_lc (own := [("draught", 3), ("ours", 4), ("theirs", 5)]) (g := (gSeq K 3 (gCons (gName 3) (gCons (gName 4) (gCons (gName 5) gNil))))) (tt := tYes) (by rfl) sc_filled_at.nd (pi_seq (pe_ix ix_lt (pv 0) pe_int (fun _ _ => rfl))) (blkOk_by (own := [("draught", 3), ("ours", 4), ("theirs", 5)]) (N := (["fleet", "step", "mark", "draught", "ours", "theirs"] : List Str)) (sc := defScope s_filled_at) (by decide +kernel)) (fun _ _ _ _ _ => (pg_seq rfl (pgs_cons (pg_name (i := 3) sc_filled_at.nd rfl (.inl rfl)) (pgs_cons (pg_name (i := 4) sc_filled_at.nd rfl (.inl rfl)) (pgs_cons (pg_name (i := 5) sc_filled_at.nd rfl (.inl rfl)) pgs_nil))))) (fun _ _ _ _ _ => pts_nil) (fun _ _ _ _ _ => (pe_op op_add (pv 4) (pe_ifExp (pt_cmpR op_le (pv 3) (pv 2) (nomark _)) (pv 5) pe_int)))) pa_nil))))), ?_⟩
    refine ⟨_, rfl, _, rfl, v, h, t, s, ss, rfl, hv, l1, fun H0 s0 => ?_⟩
    obtain ⟨p, q, rs, rfl, hp, hq, hs⟩ := hv.same s0
    generalize mk h t (mny ss) s = m at k
    refine ⟨_, rfl, p, _, 2, .ref q, rfl, rfl, hp, rfl, q, _, H0, rfl, hq, Kp.refl _ _, fun J hJ C nC => ?_⟩
    obtain ⟨G, g, W⟩ := hJ.walk
    refine lc_it W (fun i H' => Same H0 H' ∧ H' C = some (.lst (((ss.take i).map fun x => ((x.2.1 + if x.1 ≤ m then x.2.2 else 0 : Nat) : Int)).map V.int))) ⟨same_new nC, upd_same⟩ (fun i H' _ z => g H' (.ofS z.1)) ?_ ?_
    · rintro i x H1 H2 _ ⟨sm, hC⟩ ⟨rfl, gx⟩
      obtain ⟨r, hi, rfl, hr1⟩ := srt_at (hs.same sm) gx
      have len : (((ss.take i).map fun x => ((x.2.1 + if x.1 ≤ m then x.2.2 else 0 : Nat) : Int)).map V.int).length < sizeLine := by
        rw [List.length_map, List.length_map]
        exact Nat.lt_of_lt_of_le (take_le hi) (Nat.le_trans l1 (by decide))
      refine ⟨r, _, rfl, hr1, rfl, _, _, rfl, _, _, rfl, _, _, rfl, rfl, rfl, tyes (iteT ⟨_, rfl, _, rfl, _, rfl, _, _, rfl, rfl, _, rfl, ite2 (fun c => ⟨_, rfl, _, _, rfl, rfl, _, hC, len, same_over sm nC, ?_⟩) (fun c => ⟨_, _, rfl, rfl, _, hC, len, same_over sm nC, ?_⟩)⟩)⟩
      · have c0 : ss[i].1 ≤ m := of_decide_eq_true c
        rw [upd_same, tm _ hi, List.map_append, if_pos c0]
        rfl
      · have c0 : ¬ ss[i].1 ≤ m := fun z => c (decide_eq_true z)
        rw [upd_same, tm _ hi, List.map_append, if_neg c0]
        rfl
    · rintro H1 ⟨sm, hC⟩
      rw [List.length_map, hs.1, List.take_length] at hC
      refine ⟨C, _, rfl, SqL.of hC, ?_⟩
      rw [isum]
      exact k H1 (s0.trans sm)
theorem ok_low_stop {k : Nat} (D : Df K mg "low_stop" s_low_stop) (T : Bt mg) (O_filled_at : Ok P w K mg base k "filled_at" s_filled_at ["fleet", "step"] (spFilled K)) :
    Ok P w K mg base (k + 1) "low_stop" s_low_stop ["fleet", "top"] (spLowStop K) := by
  refine D.ok sc_low_stop b_low_stop (fun vs H Q E h => ?_) (fun f cdv A outer s H vs Q E hr h => ?_)
  · obtain ⟨v, h, t, top, ss, rfl, _⟩ := h
    rfl
  · obtain ⟨v, h, t, top, ss, rfl, hv, l1, ris, k1, k2⟩ := h
    refine ⟨_, (pss_cons (ps_set (i := 2) sc_low_stop.nd rfl (.inl rfl) (pe_callB (cr_sum rfl) (by rfl) T.sum_ (by decide +kernel) (pa_cons (pe_lc (own := [("draught", 4), ("ours", 5), ("theirs", 6)]) (g := (gSeq K 3 (gCons (gName 4) (gCons (gName 5) (gCons (gName 6) gNil))))) (tt := tYes) (by rfl) sc_low_stop.nd (pi_seq (pe_ix ix_lt (pv 0) pe_int (fun _ _ => rfl))) (blkOk_by (own := [("draught", 4), ("ours", 5), ("theirs", 6)]) (N := (["fleet", "top", "step", "filled", "draught", "ours", "theirs"] : List Str)) (sc := defScope s_low_stop) (by decide +kernel)) (fun _ _ _ _ _ => (pg_seq rfl (pgs_cons (pg_name (i := 4) sc_low_stop.nd rfl (.inl rfl)) (pgs_cons (pg_name (i := 5) sc_low_stop.nd rfl (.inl rfl)) (pgs_cons (pg_name (i := 6) sc_low_stop.nd rfl (.inl rfl)) pgs_nil))))) (fun _ _ _ _ _ => pts_nil) (fun _ _ _ _ _ => (pv 5))) pa_nil)))
      (pss_cons (ps_while PassesOwn.never (pt_cmpR op_le (pv 2) (pv 1) (nomark _))
        (pss_cons (ps_set (i := 3) sc_low_stop.nd rfl (.inl rfl) (pe_fn O_filled_at (hr.mono (by omega)) (pa_cons (pv 0) (pa_cons (pv 2) pa_nil))))
          (pss_cons (ps_if (pt_cmpR op_eq (pv 3) (pv 2) (nomark _))
            (pss_one (ps_ret (pv 2)))
            pss_nil)
          (pss_one (ps_set (i := 2) sc_low_stop.nd rfl (.inl rfl) (pv 3))))))
      (pss_one (ps_ret pe_non)))), ?_⟩
    obtain ⟨p, q, rs, rfl, hp, hq, hs⟩ := id hv
    refine ⟨_, rfl, p, _, 2, .ref q, rfl, rfl, hp, rfl, q, _, H, rfl, hq, Kp.refl _ _, fun J hJ C nC => ?_⟩
    obtain ⟨G, g, W⟩ := hJ.walk
    refine lc_it W (fun i H' => Same H H' ∧ H' C = some (.lst (((ss.take i).map fun x => ((x.2.1 : Nat) : Int)).map V.int))) ⟨same_new nC, upd_same⟩ (fun i H' _ z => g H' (.ofS z.1)) ?_ ?_
    · rintro i x H1 H2 _ ⟨sm, hC⟩ ⟨rfl, gx⟩
      obtain ⟨r, hi, rfl, hr1⟩ := srt_at (hs.same sm) gx
      refine ⟨r, _, rfl, hr1, rfl, _, _, rfl, _, _, rfl, _, _, rfl, rfl, rfl, tyes (iteT ⟨_, rfl, _, hC, ?_, same_over sm nC, ?_⟩)⟩
      · rw [List.length_map, List.length_map]
        exact Nat.lt_of_lt_of_le (take_le hi) (Nat.le_trans l1 (by decide))
      · rw [upd_same, tm _ hi, List.map_append]
        rfl
    rintro H1 ⟨sm, hC⟩
    rw [List.length_map, hs.1, List.take_length] at hC
    refine ⟨C, _, rfl, SqL.of hC, ?_⟩
    rw [isum]
    -- the loop: step is no less than those here; at no step between is it stuck
    refine ⟨fun m σ H' => ∃ (y : Option V) (n : Nat), σ = [some (.ref p), some (.int top), some (.int (n : Int)), y, none, none, none] ∧ Same H H' ∧ ourn ss ≤ n ∧ n ≤ mny ss ∧ mny ss - n = m ∧ (∀ j : Nat, ourn ss ≤ j → j < n → (j : Int) ≤ top → j < filF ss (mk h t (mny ss) (j : Int))) ∧ ((n : Int) ≤ top → n ≤ filF ss (mk h t (mny ss) (n : Int))),
      ⟨_, none, ourn ss, rfl, sm, Nat.le_refl _, ?_, rfl, fun j a b => by omega, fun _ => fil_ge⟩, ?_⟩
    · exact Nat.le_trans (fil_ge (m := 0)) fil_le
    rintro m σ H2 ⟨y, n, rfl, s2, n0, n1, rfl, hj, hn⟩
    refine ⟨_, rfl, _, rfl, _, _, rfl, rfl, _, rfl, ite2 (fun c => ?_) (fun c => ?_)⟩
    · have c0 : (n : Int) ≤ top := of_decide_eq_true c
      refine ⟨fun σ' H' => ∃ (y : Option V) (n' : Nat), σ' = [some (.ref p), some (.int top), some (.int (n' : Int)), y, none, none, none] ∧ Same H H' ∧ ourn ss ≤ n' ∧ n' ≤ mny ss ∧ n < n' ∧ (∀ j : Nat, ourn ss ≤ j → j < n' → (j : Int) ≤ top → j < filF ss (mk h t (mny ss) (j : Int))) ∧ ((n' : Int) ≤ top → n' ≤ filF ss (mk h t (mny ss) (n' : Int))),
        fun σ' H' ⟨y', n', z1, z2, z3, z4, z5, z6, z7⟩ => ⟨_, by omega, y', n', z1, z2, z3, z4, rfl, z6, z7⟩, ?_⟩
      refine ⟨_, rfl, _, rfl, .ref p, h, t, (n : Int), ss, rfl, hv.same s2, l1, fun H3 s3 => ?_⟩
      have s23 := s2.trans s3
      refine ⟨_, rfl, _, rfl, rfl, _, rfl, ite2 (fun c2 => ?_) (fun c2 => ?_)⟩
      · have e : (filF ss (mk h t (mny ss) (n : Int)) : Int) = (n : Int) := V.int.inj (of_decide_eq_true c2)
        exact ⟨_, rfl, k1 H3 n s23 c0 ⟨n0, fun j a b => hj j a b (by omega), by omega⟩⟩
      · have e : ¬ (filF ss (mk h t (mny ss) (n : Int)) : Int) = (n : Int) := fun z => c2 (decide_eq_true (by rw [z]))
        have hn' := hn c0
        refine ⟨_, rfl, _, filF ss (mk h t (mny ss) (n : Int)), rfl, s23, fil_ge, fil_le, by omega, fun j a b d => ?_, fun d => ?_⟩
        · by_cases z : j < n
          · exact hj j a z d
          · have := fil_mono (ss := ss) (ris (n : Int) (j : Int) (by omega) (by omega) d)
            omega
        · exact fil_mono (ris _ _ (by omega) (by omega) d)
    · have c0 : ¬ (n : Int) ≤ top := fun z => c (decide_eq_true z)
      refine k2 H2 s2 fun N a ⟨b1, b2, b3⟩ => ?_
      have := hj N b1 (by omega) a
      omega
theorem ok_turned_fleet {k : Nat} (D : Df K mg "turned_fleet" s_turned_fleet) (T : Bt mg) : Ok P w K mg base (k + 1) "turned_fleet" s_turned_fleet ["fleet"] (spTurnedF K) := by
  refine D.ok sc_turned_fleet b_turned_fleet (fun vs H Q E h => ?_) (fun f cdv A outer s H vs Q E hr h => ?_)
  · obtain ⟨v, h, t, ss, rfl, _⟩ := h
    rfl
  · obtain ⟨v, h, t, ss, rfl, hv, l1, k⟩ := h
    obtain ⟨p, q, rs, rfl, hp, hq, hs⟩ := id hv
    refine ⟨_, (pss_cons (ps_asg (pv 0) (pg_seq rfl (pgs_cons (pg_name (i := 1) sc_turned_fleet.nd rfl (.inl rfl)) (pgs_cons (pg_name (i := 2) sc_turned_fleet.nd rfl (.inl rfl)) (pgs_cons (pg_name (i := 3) sc_turned_fleet.nd rfl (.inl rfl)) pgs_nil)))))
      (pss_one (ps_ret (pe_tup (pa_cons (pv 2) (pa_cons (pv 1) (pa_cons (pe_callTy call_tuple_of (by rfl) T.tuple_ (by decide +kernel) (pa_cons (pe_lc (own := [("draught", 4), ("ours", 5), ("theirs", 6)]) (g := (gSeq K 3 (gCons (gName 4) (gCons (gName 5) (gCons (gName 6) gNil))))) (tt := tYes) (by rfl) sc_turned_fleet.nd (pi_seq (pv 3)) (blkOk_by (own := [("draught", 4), ("ours", 5), ("theirs", 6)]) (N := (["fleet", "here", "there", "sorts", "draught", "ours", "theirs"] : List Str)) (sc := defScope s_turned_fleet) (by decide +kernel)) (fun _ _ _ _ _ => (pg_seq rfl (pgs_cons (pg_name (i := 4) sc_turned_fleet.nd rfl (.inl rfl)) (pgs_cons (pg_name (i := 5) sc_turned_fleet.nd rfl (.inl rfl)) (pgs_cons (pg_name (i := 6) sc_turned_fleet.nd rfl (.inl rfl)) pgs_nil))))) (fun _ _ _ _ _ => pts_nil) (fun _ _ _ _ _ => (pe_tup (pa_cons (pv 4) (pa_cons (pv 6) (pa_cons (pv 5) pa_nil)))))) pa_nil)) pa_nil))))))), ?_⟩
    refine ⟨_, rfl, p, _, rfl, hp, rfl, _, _, rfl, _, _, rfl, _, _, rfl, rfl, ?_⟩
    refine ⟨_, rfl, _, rfl, _, rfl, q, _, H, rfl, hq, Kp.refl _ _, fun J hJ C nC => ?_⟩
    obtain ⟨G, g, W⟩ := hJ.walk
    refine lc_it W (fun i H' => Same H H' ∧ ∃ us : List Addr, H' C = some (.lst (us.map V.ref)) ∧ SrtsN H' us (turnF (ss.take i))) ⟨same_new nC, [], upd_same, ?_⟩ (fun i H' _ z => g H' (.ofS z.1)) ?_ ?_
    · exact ⟨rfl, fun i r x a _ => by simp at a⟩
    · rintro i x H1 H2 _ ⟨sm, us, hC, hu⟩ ⟨rfl, gx⟩
      obtain ⟨r, hi, rfl, hr1⟩ := srt_at (hs.same sm) gx
      have lu : us.length = i := by
        rw [hu.1]
        unfold turnF
        rw [List.length_map, List.length_take]
        omega
      refine ⟨r, _, rfl, hr1, rfl, _, _, rfl, _, _, rfl, _, _, rfl, rfl, rfl, tyes (iteT ⟨_, rfl, _, rfl, _, rfl, (by show 3 ≤ sizeLine; decide), fun u nu => ⟨_, same_new nu _ _ hC, ?_, ?_, us ++ [u], ?_, ?_⟩⟩)⟩
      · rw [List.length_map, lu]
        exact Nat.lt_of_lt_of_le hi (Nat.le_trans l1 (by decide))
      · exact same_over (sm.trans (same_new nu)) nC
      · rw [upd_same, List.map_append]
        rfl
      · have e : turnF (ss.take (i + 1)) = turnF (ss.take i) ++ [(ss[i].1, ss[i].2.2, ss[i].2.1)] := tm _ hi
        rw [e]
        exact (hu.push (x := (ss[i].1, ss[i].2.2, ss[i].2.1)) nu).put (same_new nu _ _ hC)
    · rintro H1 ⟨sm, us, hC, hu⟩
      rw [List.length_map, hs.1, List.take_length] at hu
      refine ⟨C, _, rfl, .inl ⟨SqL.of hC, fun a na => ⟨(by show 3 ≤ sizeLine; decide), fun b nb => ?_⟩⟩⟩
      have s1 : Same H1 (upd H1 a (.tup (us.map V.ref))) := same_new na
      have s2 := s1.trans (same_new nb (o := .tup [.int t, .int h, .ref a]))
      exact k _ _ (sm.trans s2) ⟨b, a, us, rfl, SqA.t upd_same, SqA.t (same_new nb _ _ upd_same), (hu.same s2).a⟩
end
end Sh

namespace Sh
open PySem PySem.Spec PyProof.Rows L2
/-! ### which lot: its kind and its step -/
/-- constants of the top -/
structure Cn (mg : Str → Option Value) : Prop where
  low : ∃ t, mg "LOW" = some (.str "low" t)
  high : ∃ t, mg "HIGH" = some (.str "high" t)
  top : ∃ t, mg "TOP" = some (.str "top" t)
structure Ck (mg : Str → Option Value) (K : PySem.W.Frag) (w : World) : Prop where
  kinds : ∃ a, mg "TURNED_KINDS" = some (.ref a) ∧ KDct K w a "low" (.str "high") ∧ KDct K w a "high" (.str "low") ∧ KDct K w a "top" (.str "top")
section
variable {K : PySem.W.Frag} {mg : Str → Option Value} {w : World}
theorem with_cn {R : Prop} {h : Heap} {t1 t2 t3 : Tok} (X : K.In h) (G : h.Ns mainGlobals mg) (a : PySem.W.nsIn K mainGlobals "LOW" = some (some (.str "low" t1))) (b : PySem.W.nsIn K mainGlobals "HIGH" = some (some (.str "high" t2)))
    (c : PySem.W.nsIn K mainGlobals "TOP" = some (some (.str "top" t3))) (r : Cn mg → R) : R := r ⟨⟨_, PySem.W.mg_of X G a⟩, ⟨_, PySem.W.mg_of X G b⟩, ⟨_, PySem.W.mg_of X G c⟩⟩
theorem with_ck {R : Prop} {h : Heap} {p : Addr} {es : Array DictEntry} {n : Nat} {t1 t2 t3 : Tok} (X : K.In h) (G : h.Ns mainGlobals mg) (a : PySem.W.nsIn K mainGlobals "TURNED_KINDS" = some (some (.ref p))) (l : K.lookup p = some ⟨.type "dict", none, .dict es n, #[]⟩)
    (k : PySem.W.KeysLit w.params es.toList) (d1 : PySem.W.nsIn K p "low" = some (some (.str "high" t1))) (d2 : PySem.W.nsIn K p "high" = some (some (.str "low" t2))) (d3 : PySem.W.nsIn K p "top" = some (some (.str "top" t3))) (r : Ck mg K w → R) : R :=
  r ⟨⟨p, PySem.W.mg_of X G a, ⟨es, n, _, l, k, d1, _, rfl⟩, ⟨es, n, _, l, k, d2, _, rfl⟩, ⟨es, n, _, l, k, d3, _, rfl⟩⟩⟩
end
inductive Kd where
  | low | high | top
def Kd.str : Kd → Str
  | .low => "low"
  | .high => "high"
  | .top => "top"
def Kd.turn : Kd → Kd
  | .low => .high
  | .high => .low
  | .top => .top
theorem Kd.str_inj {a b : Kd} (h : a.str = b.str) : a = b := by
  cases a <;> cases b <;> first | rfl | (exfalso; revert h; decide)
/-- the lot of a fleet -/
def LotF (h t : Int) (ss : List Srt) : Kd → Int → Prop
  | .low, s => ∃ N : Nat, s = (N : Int) ∧ (N : Int) ≤ topI h t (mny ss) ∧ StuckF h t ss N
  | .high, s => ∃ N : Nat, s = (mny ss : Int) - 1 - (N : Int) ∧ (N : Int) ≤ (mny ss : Int) - 1 - topI h t (mny ss) ∧ StuckF t h (turnF ss) N
  | .top, s => s = topI h t (mny ss) ∧ (∀ N : Nat, (N : Int) ≤ topI h t (mny ss) → ¬ StuckF h t ss N) ∧ ∀ N : Nat, (N : Int) ≤ (mny ss : Int) - 1 - topI h t (mny ss) → ¬ StuckF t h (turnF ss) N
/-- a lot told or handed in -/
def LtA (K : PySem.W.Frag) (H : Hp) (v : V) (kd : Kd) (s : Int) : Prop := ∃ p, v = .ref p ∧ SqA K H p [.str kd.str, .int s]
theorem LtA.same {K : PySem.W.Frag} {H H' : Hp} {v : V} {kd : Kd} {s : Int} (l : LtA K H v kd s) (e : Same H H') : LtA K H' v kd s := let ⟨p, a, b⟩ := l; ⟨p, a, Same.sqA e b⟩
theorem rise_top (h t : Int) (n : Nat) : Rise h t n (topI h t n) := fun _ _ a b c => mk_le a b c
theorem rise_turn (h t : Int) (n : Nat) : Rise t h n ((n : Int) - 1 - topI h t n) := fun s s' a b c => by
  rw [mk_turn' (h := h) (t := t), mk_turn' (h := h) (t := t)]
  exact mk_dn (by omega) (by omega) (by omega)
theorem isumN : ∀ l : List Nat, (l.map fun (n : Nat) => (n : Int)).sum = (l.sum : Int)
  | [] => rfl
  | a :: l => by
    rw [List.map_cons, List.sum_cons, isumN l, List.sum_cons]
    rfl
def spLotOf (K : PySem.W.Frag) : Sp := fun vs H Q _ => ∃ (v : V) (h t : Int) (ss : List Srt), vs = [v] ∧ FltA K H v h t ss ∧ ss.length ≤ 1000 ∧
  ∀ (H' : Hp) (p : Addr) (kd : Kd) (s : Int), Same H H' → H p = none → H' p = some (.tup [.str kd.str, .int s]) → LotF h t ss kd s → Q (.ref p) H'
def spTurnedLot (K : PySem.W.Frag) : Sp := fun vs H Q _ => ∃ (v l : V) (h t s : Int) (ss : List Srt) (kd : Kd), vs = [v, l] ∧ FltA K H v h t ss ∧ ss.length ≤ 1000 ∧ LtA K H l kd s ∧
  ∀ (H' : Hp) (z : V), Same H H' → LtA K H' z kd.turn ((mny ss : Int) - 1 - s) → Q z H'
def spFixed (K : PySem.W.Frag) : Sp := fun vs H Q _ => ∃ (v l : V) (h t s : Int) (ss : List Srt) (kd : Kd), vs = [v, l] ∧ FltA K H v h t ss ∧ ss.length ≤ 1000 ∧ LtA K H l kd s ∧
  ∀ (H' : Hp) (p : Addr), Same H H' → H p = none → H' p = some (.lst (((fxF ss (mk h t (mny ss) s)).map fun (n : Nat) => (n : Int)).map V.int)) → Q (.ref p) H'
def spLeastIn (K : PySem.W.Frag) : Sp := fun vs H Q _ => ∃ (v l : V) (h t s : Int) (ss : List Srt) (kd : Kd), vs = [v, l] ∧ FltA K H v h t ss ∧ ss.length ≤ 1000 ∧ LtA K H l kd s ∧
  (kd = .high → ∀ H', Same H H' → Q (.int (s + 1)) H') ∧ (kd ≠ .high → ∀ (H' : Hp) (m : Int), Same H H' → LeastI h t ss s m → Q (.int m) H')
def spMostIn (K : PySem.W.Frag) : Sp := fun vs H Q _ => ∃ (v l : V) (h t s : Int) (ss : List Srt) (kd : Kd), vs = [v, l] ∧ FltA K H v h t ss ∧ ss.length ≤ 1000 ∧ LtA K H l kd s ∧
  (kd = .low → ∀ H', Same H H' → Q (.int s) H') ∧ (kd ≠ .low → ∀ (H' : Hp) (m : Int), Same H H' → LeastI t h (turnF ss) ((mny ss : Int) - 1 - s) m → Q (.int ((mny ss : Int) - m)) H')
/-- the step next to which one goes -/
def nextS : Kd → Int → Int
  | .low, s => s - 1
  | .high, s => s + 1
  | .top, s => s
def spMoving (K : PySem.W.Frag) : Sp := fun vs H Q _ => ∃ (v l : V) (h t s : Int) (ss : List Srt) (kd : Kd), vs = [v, l] ∧ FltA K H v h t ss ∧ ss.length ≤ 1000 ∧ LtA K H l kd s ∧
  ((nextS kd s < 0 ∨ (mny ss : Int) ≤ nextS kd s) → ∀ H', Same H H' → Q .non H') ∧ (0 ≤ nextS kd s → nextS kd s < (mny ss : Int) → ∀ H', Same H H' → Q (.int (mk h t (mny ss) (nextS kd s))) H')
abbrev s_lot_of : Stmt := topS 16
theorem sc_lot_of : FnScope (["fleet", "last", "top", "stop"] : List Str) (["fleet"] : List Str) (defScope s_lot_of) := ⟨rfl, rfl, rfl, by decide +kernel, rfl, by decide +kernel, by decide +kernel⟩
theorem b_lot_of (kV doc pm : Value) (an : Option Addr) (cdv ct : Value) (us : List Value) (hl : us.length = (["fleet"] : List Str).length) : bindArgs (PySem.W.fnOf "lot_of" "lot_of" (defArgs s_lot_of) (defBody s_lot_of) (defScope s_lot_of) .none kV doc pm an cdv ct) ⟨us, []⟩ = pure ((["fleet"] : List Str).zip us) :=
  match us, hl with | [_], _ => rfl
abbrev s_turned_lot : Stmt := topS 17
theorem sc_turned_lot : FnScope (["fleet", "lot", "kind", "step"] : List Str) (["fleet", "lot"] : List Str) (defScope s_turned_lot) := ⟨rfl, rfl, rfl, by decide +kernel, rfl, by decide +kernel, by decide +kernel⟩
theorem b_turned_lot (kV doc pm : Value) (an : Option Addr) (cdv ct : Value) (us : List Value) (hl : us.length = (["fleet", "lot"] : List Str).length) : bindArgs (PySem.W.fnOf "turned_lot" "turned_lot" (defArgs s_turned_lot) (defBody s_turned_lot) (defScope s_turned_lot) .none kV doc pm an cdv ct) ⟨us, []⟩ = pure ((["fleet", "lot"] : List Str).zip us) :=
  match us, hl with | [_, _], _ => rfl
abbrev s_fixed_ones : Stmt := topS 18
theorem sc_fixed_ones : FnScope (["fleet", "lot", "mark", "draught", "ours", "theirs"] : List Str) (["fleet", "lot"] : List Str) (defScope s_fixed_ones) := ⟨rfl, rfl, rfl, by decide +kernel, rfl, by decide +kernel, by decide +kernel⟩
theorem b_fixed_ones (kV doc pm : Value) (an : Option Addr) (cdv ct : Value) (us : List Value) (hl : us.length = (["fleet", "lot"] : List Str).length) : bindArgs (PySem.W.fnOf "fixed_ones" "fixed_ones" (defArgs s_fixed_ones) (defBody s_fixed_ones) (defScope s_fixed_ones) .none kV doc pm an cdv ct) ⟨us, []⟩ = pure ((["fleet", "lot"] : List Str).zip us) :=
  match us, hl with | [_, _], _ => rfl
abbrev s_moving_mark : Stmt := topS 19
theorem sc_moving_mark : FnScope (["fleet", "lot", "kind", "step"] : List Str) (["fleet", "lot"] : List Str) (defScope s_moving_mark) := ⟨rfl, rfl, rfl, by decide +kernel, rfl, by decide +kernel, by decide +kernel⟩
theorem b_moving_mark (kV doc pm : Value) (an : Option Addr) (cdv ct : Value) (us : List Value) (hl : us.length = (["fleet", "lot"] : List Str).length) : bindArgs (PySem.W.fnOf "moving_mark" "moving_mark" (defArgs s_moving_mark) (defBody s_moving_mark) (defScope s_moving_mark) .none kV doc pm an cdv ct) ⟨us, []⟩ = pure ((["fleet", "lot"] : List Str).zip us) :=
  match us, hl with | [_, _], _ => rfl
section
variable {P : Program} {w : World} {K : PySem.W.Frag} {mg : Str → Option Value} {base : Heap}
theorem ok_lot_of {k : Nat} (D : Df K mg "lot_of" s_lot_of) (T : Bt mg) (C : Cn mg) (O_ships_many : Ok P w K mg base k "ships_many" s_ships_many ["fleet"] (spShips K)) (O_top_in : Ok P w K mg base k "top_in" s_top_in ["fleet"] (spTopIn K))
    (O_low_stop : Ok P w K mg base k "low_stop" s_low_stop ["fleet", "top"] (spLowStop K)) (O_turned_fleet : Ok P w K mg base k "turned_fleet" s_turned_fleet ["fleet"] (spTurnedF K)) : Ok P w K mg base (k + 1) "lot_of" s_lot_of ["fleet"] (spLotOf K) := by
  obtain ⟨_, g_LOW⟩ := C.low
  obtain ⟨_, g_HIGH⟩ := C.high
  obtain ⟨_, g_TOP⟩ := C.top
  refine D.ok sc_lot_of b_lot_of (fun vs H Q E h => ?_) (fun f cdv A outer s H vs Q E hr h => ?_)
  · obtain ⟨v, h, t, ss, rfl, _⟩ := h
    rfl
  · obtain ⟨v, h, t, ss, rfl, hv, l1, k⟩ := h
    refine ⟨_, (pss_cons (ps_set (i := 1) sc_lot_of.nd rfl (.inl rfl) (pe_op op_sub (pe_fn O_ships_many (hr.mono (by omega)) (pa_cons (pv 0) pa_nil)) pe_int))
      (pss_cons (ps_set (i := 2) sc_lot_of.nd rfl (.inl rfl) (pe_fn O_top_in (hr.mono (by omega)) (pa_cons (pv 0) pa_nil)))
      (pss_cons (ps_set (i := 3) sc_lot_of.nd rfl (.inl rfl) (pe_fn O_low_stop (hr.mono (by omega)) (pa_cons (pv 0) (pa_cons (pv 2) pa_nil))))
      (pss_cons (ps_if (pt_cmpR op_notN (pv 3) pe_non (nomark _))
        (pss_one (ps_ret (pe_tup (pa_cons (pe_glob (v := .str "low") (by rfl) g_LOW ⟨_, rfl⟩) (pa_cons (pv 3) pa_nil)))))
        pss_nil)
      (pss_cons (ps_set (i := 3) sc_lot_of.nd rfl (.inl rfl) (pe_fn O_low_stop (hr.mono (by omega)) (pa_cons (pe_fn O_turned_fleet (hr.mono (by omega)) (pa_cons (pv 0) pa_nil)) (pa_cons (pe_op op_sub (pv 1) (pv 2)) pa_nil))))
      (pss_cons (ps_if (pt_cmpR op_notN (pv 3) pe_non (nomark _))
        (pss_one (ps_ret (pe_tup (pa_cons (pe_glob (v := .str "high") (by rfl) g_HIGH ⟨_, rfl⟩) (pa_cons (pe_op op_sub (pv 1) (pv 3)) pa_nil)))))
        pss_nil)
      (pss_one (ps_ret (pe_tup (pa_cons (pe_glob (v := .str "top") (by rfl) g_TOP ⟨_, rfl⟩) (pa_cons (pv 2) pa_nil))))))))))), ?_⟩
    refine ⟨_, rfl, v, h, t, ss, rfl, hv, l1, fun H1 s1 => ⟨_, 1, rfl, rfl, ?_⟩⟩
    refine ⟨_, rfl, v, h, t, ss, rfl, hv.same s1, l1, fun H2 s2 => ?_⟩
    have s02 := s1.trans s2
    refine ⟨_, rfl, _, rfl, v, h, t, topI h t (mny ss), ss, rfl, hv.same s02, l1, rise_top _ _ _, fun H3 N s3 a b => ?_, fun H3 s3 no => ?_⟩
    · refine ⟨_, rfl, rfl, _, rfl, iteT ⟨_, rfl, (by show 2 ≤ sizeLine; decide), fun p np => ?_⟩⟩
      have s03 := s02.trans s3
      exact k _ p .low (N : Int) (s03.trans (same_new np)) (s03.free np) upd_same ⟨N, rfl, a, b⟩
    · have s03 := s02.trans s3
      refine ⟨_, rfl, rfl, _, rfl, iteF ?_⟩
      refine ⟨_, rfl, v, h, t, ss, rfl, hv.same s03, l1, fun H4 z s4 hz => ?_⟩
      have s04 := s03.trans s4
      refine ⟨_, rfl, _, rfl, _, _, rfl, rfl, z, t, h, (mny ss : Int) - 1 - topI h t (mny ss), turnF ss, rfl, hz, ?_, ?_, fun H5 N s5 a b => ?_, fun H5 s5 no2 => ?_⟩
      · unfold turnF
        rw [List.length_map]
        exact l1
      · rw [mny_turn]
        exact rise_turn h t _
      · refine ⟨_, rfl, rfl, _, rfl, iteT ⟨_, rfl, _, rfl, _, _, rfl, rfl, (by show 2 ≤ sizeLine; decide), fun p np => ?_⟩⟩
        have s05 := s04.trans s5
        exact k _ p .high _ (s05.trans (same_new np)) (s05.free np) upd_same ⟨N, rfl, a, b⟩
      · refine ⟨_, rfl, rfl, _, rfl, iteF ⟨_, rfl, (by show 2 ≤ sizeLine; decide), fun p np => ?_⟩⟩
        have s05 := s04.trans s5
        exact k _ p .top _ (s05.trans (same_new np)) (s05.free np) upd_same ⟨rfl, no, no2⟩
theorem ok_turned_lot {k : Nat} (D : Df K mg "turned_lot" s_turned_lot) (T : Bt mg) (C : Ck mg K w) (O_ships_many : Ok P w K mg base k "ships_many" s_ships_many ["fleet"] (spShips K)) : Ok P w K mg base (k + 1) "turned_lot" s_turned_lot ["fleet", "lot"] (spTurnedLot K) := by
  obtain ⟨a_TURNED_KINDS, g_TURNED_KINDS, d1, d2, d3⟩ := C.kinds
  refine D.ok sc_turned_lot b_turned_lot (fun vs H Q E h => ?_) (fun f cdv A outer s H vs Q E hr h => ?_)
  · obtain ⟨v, l, h, t, s, ss, kd, rfl, _⟩ := h
    rfl
  · obtain ⟨v, l, h, t, s, ss, kd, rfl, hv, l1, ⟨p, rfl, hp⟩, k⟩ := h
    have dd : KDct K w a_TURNED_KINDS kd.str (.str kd.turn.str) := by
      cases kd
      · exact d1
      · exact d2
      · exact d3
    refine ⟨_, (pss_cons (ps_asg (pv 1) (pg_seq rfl (pgs_cons (pg_name (i := 2) sc_turned_lot.nd rfl (.inl rfl)) (pgs_cons (pg_name (i := 3) sc_turned_lot.nd rfl (.inl rfl)) pgs_nil))))
      (pss_one (ps_ret (pe_tup (pa_cons (pe_ix ix_kdict (pe_glob (v := .ref a_TURNED_KINDS) (by rfl) g_TURNED_KINDS rfl) (pv 2) (fun _ _ => rfl)) (pa_cons (pe_op op_sub (pe_op op_sub (pe_fn O_ships_many (hr.mono (by omega)) (pa_cons (pv 0) pa_nil)) pe_int) (pv 3)) pa_nil)))))), ?_⟩
    refine ⟨_, rfl, p, _, rfl, hp, rfl, _, _, rfl, _, _, rfl, rfl, ?_⟩
    refine ⟨_, rfl, a_TURNED_KINDS, _, _, rfl, rfl, dd, ?_⟩
    refine ⟨_, rfl, v, h, t, ss, rfl, hv, l1, fun H1 s1 => ⟨_, 1, rfl, rfl, _, rfl, _, _, rfl, rfl, (by show 2 ≤ sizeLine; decide), fun u nu => ?_⟩⟩
    exact k _ _ (s1.trans (same_new nu)) ⟨u, rfl, SqA.t upd_same⟩
theorem ok_fixed {k : Nat} (D : Df K mg "fixed_ones" s_fixed_ones) (T : Bt mg) (O_mark_in : Ok P w K mg base k "mark_in" s_mark_in ["fleet", "step"] (spMarkIn K)) : Ok P w K mg base (k + 1) "fixed_ones" s_fixed_ones ["fleet", "lot"] (spFixed K) := by
  refine D.ok sc_fixed_ones b_fixed_ones (fun vs H Q E h => ?_) (fun f cdv A outer s H vs Q E hr h => ?_)
  · obtain ⟨v, l, h, t, s, ss, kd, rfl, _⟩ := h
    rfl
  · obtain ⟨v, l, h, t, s, ss, kd, rfl, hv, l1, ⟨pl, rfl, hpl⟩, k⟩ := h
    refine ⟨_, (pss_cons (ps_set (i := 2) sc_fixed_ones.nd rfl (.inr rfl) (pe_fn O_mark_in (hr.mono (by omega)) (pa_cons (pv 0) (pa_cons (pe_ix ix_lt (pv 1) pe_int (fun _ _ => rfl)) pa_nil))))
      (pss_one (ps_ret (pe_lc (own := [("draught", 3), ("ours", 4), ("theirs", 5)]) (g := (gSeq K 3 (gCons (gName 3) (gCons (gName 4) (gCons (gName 5) gNil))))) (by rfl) sc_fixed_ones.nd (pi_seq (pe_ix ix_lt (pv 0) pe_int (fun _ _ => rfl))) (blkOk_by (own := [("draught", 3), ("ours", 4), ("theirs", 5)]) (N := (["fleet", "lot", "mark", "draught", "ours", "theirs"] : List Str)) (sc := defScope s_fixed_ones) (by decide +kernel)) (fun _ _ _ _ _ => (pg_seq rfl (pgs_cons (pg_name (i := 3) sc_fixed_ones.nd rfl (.inl rfl)) (pgs_cons (pg_name (i := 4) sc_fixed_ones.nd rfl (.inl rfl)) (pgs_cons (pg_name (i := 5) sc_fixed_ones.nd rfl (.inl rfl)) pgs_nil))))) (fun _ _ _ _ _ => (pts_one (pt_cmpR op_gt (pv 3) (pv 2) (nomark _)))) (fun _ _ _ _ _ => (pv 4)))))), ?_⟩
    refine ⟨_, rfl, _, rfl, pl, _, 1, _, rfl, rfl, hpl, rfl, v, h, t, s, ss, rfl, hv, l1, fun H0 s0 => ?_⟩
    obtain ⟨p, q, rs, rfl, hp, hq, hs⟩ := hv.same s0
    unfold fxF at k
    generalize mk h t (mny ss) s = m at k
    refine ⟨_, rfl, p, _, 2, .ref q, rfl, rfl, hp, rfl, q, _, H0, rfl, hq, Kp.refl _ _, fun J hJ C nC => ?_⟩
    obtain ⟨G, g, W⟩ := hJ.walk
    refine lc_it W (fun i H' => Same H0 H' ∧ H' C = some (.lst (((((ss.take i).filter fun x => decide (x.1 > m)).map fun x => x.2.1).map fun (n : Nat) => (n : Int)).map V.int))) ⟨same_new nC, upd_same⟩ (fun i H' _ z => g H' (.ofS z.1)) ?_ ?_
    · rintro i x H1 H2 _ ⟨sm, hC⟩ ⟨rfl, gx⟩
      obtain ⟨r, hi, rfl, hr1⟩ := srt_at (hs.same sm) gx
      refine ⟨r, _, rfl, hr1, rfl, _, _, rfl, _, _, rfl, _, _, rfl, rfl, rfl, _, rfl, _, rfl, _, _, rfl, rfl, _, rfl, ite2 (fun c => ⟨_, rfl, _, hC, ?_, same_over sm nC, ?_⟩) (fun c => ⟨sm, ?_⟩)⟩
      · rw [List.length_map, List.length_map, List.length_map]
        exact Nat.lt_of_lt_of_le (tf_le hi) (Nat.le_trans l1 (by decide))
      · rw [upd_same, tfm _ _ hi, if_pos c, List.map_append, List.map_append]
        rfl
      · rw [hC, tfm _ _ hi, if_neg c, List.append_nil]
    · rintro H1 ⟨sm, hC⟩
      rw [List.length_map, hs.1, List.take_length] at hC
      exact k H1 C (s0.trans sm) (s0.free nC) hC
theorem ok_moving {k : Nat} (D : Df K mg "moving_mark" s_moving_mark) (T : Bt mg) (C : Cn mg) (O_ships_many : Ok P w K mg base k "ships_many" s_ships_many ["fleet"] (spShips K)) (O_mark_in : Ok P w K mg base k "mark_in" s_mark_in ["fleet", "step"] (spMarkIn K)) :
    Ok P w K mg base (k + 1) "moving_mark" s_moving_mark ["fleet", "lot"] (spMoving K) := by
  obtain ⟨_, g_LOW⟩ := C.low
  obtain ⟨_, g_HIGH⟩ := C.high
  refine D.ok sc_moving_mark b_moving_mark (fun vs H Q E h => ?_) (fun f cdv A outer s H vs Q E hr h => ?_)
  · obtain ⟨v, l, h, t, s, ss, kd, rfl, _⟩ := h
    rfl
  · obtain ⟨v, l, h, t, s, ss, kd, rfl, hv, l1, ⟨pl, rfl, hpl⟩, k1, k2⟩ := h
    refine ⟨_, (pss_cons (ps_asg (pv 1) (pg_seq rfl (pgs_cons (pg_name (i := 2) sc_moving_mark.nd rfl (.inl rfl)) (pgs_cons (pg_name (i := 3) sc_moving_mark.nd rfl (.inl rfl)) pgs_nil))))
      (pss_cons (ps_if (pt_cmpR op_eq (pv 2) (pe_glob (v := .str "low") (by rfl) g_LOW ⟨_, rfl⟩) (nomark _))
        (pss_one (ps_aug (i := 3) sc_moving_mark.nd rfl (.inl rfl) pe_int ip_sub))
        pss_nil)
      (pss_cons (ps_if (pt_cmpR op_eq (pv 2) (pe_glob (v := .str "high") (by rfl) g_HIGH ⟨_, rfl⟩) (nomark _))
        (pss_one (ps_aug (i := 3) sc_moving_mark.nd rfl (.inl rfl) pe_int ip_add))
        pss_nil)
      (pss_cons (ps_if (PW.pt (pw_or (pt_cmpR op_lt (pv 3) pe_int (nomark _)) (pw_or1 (pt_cmpR op_ge (pv 3) (pe_fn O_ships_many (hr.mono (by omega)) (pa_cons (pv 0) pa_nil)) (nomark _)))))
        (pss_one (ps_ret pe_non))
        pss_nil)
      (pss_one (ps_ret (pe_fn O_mark_in (hr.mono (by omega)) (pa_cons (pv 0) (pa_cons (pv 3) pa_nil))))))))), ?_⟩
    refine ⟨_, rfl, pl, _, rfl, hpl, rfl, _, _, rfl, _, _, rfl, rfl, ?_⟩
    cases kd with
    | low =>
      refine ⟨_, rfl, rfl, _, rfl, iteT ⟨_, rfl, _, 1, rfl, rfl, ?_⟩⟩
      refine ⟨_, rfl, rfl, _, rfl, iteF ?_⟩
      refine ⟨_, rfl, _, 0, rfl, rfl, _, rfl, ite2 (fun c => ?_) (fun c => ?_)⟩
      · exact k1 (.inl (of_decide_eq_true c)) H (Same.refl _)
      · have c0 : 0 ≤ nextS .low s := by have : ¬ s - 1 < 0 := fun z => c (decide_eq_true z); show 0 ≤ s - 1; omega
        refine ⟨_, rfl, _, rfl, v, h, t, ss, rfl, hv, l1, fun H1 s1 => ⟨_, _, rfl, rfl, _, rfl, ite2 (fun c2 => ?_) (fun c2 => ?_)⟩⟩
        · exact k1 (.inr (of_decide_eq_true c2)) H1 s1
        · have c3 : nextS .low s < (mny ss : Int) := by have : ¬ (s - 1 ≥ (mny ss : Int)) := fun z => c2 (decide_eq_true z); show s - 1 < _; omega
          exact ⟨_, rfl, _, rfl, v, h, t, _, ss, rfl, hv.same s1, l1, fun H2 s2 => k2 c0 c3 H2 (s1.trans s2)⟩
    | high =>
      refine ⟨_, rfl, rfl, _, rfl, iteF ?_⟩
      refine ⟨_, rfl, rfl, _, rfl, iteT ⟨_, rfl, _, 1, rfl, rfl, ?_⟩⟩
      refine ⟨_, rfl, _, 0, rfl, rfl, _, rfl, ite2 (fun c => ?_) (fun c => ?_)⟩
      · exact k1 (.inl (of_decide_eq_true c)) H (Same.refl _)
      · have c0 : 0 ≤ nextS .high s := by have : ¬ s + 1 < 0 := fun z => c (decide_eq_true z); show 0 ≤ s + 1; omega
        refine ⟨_, rfl, _, rfl, v, h, t, ss, rfl, hv, l1, fun H1 s1 => ⟨_, _, rfl, rfl, _, rfl, ite2 (fun c2 => ?_) (fun c2 => ?_)⟩⟩
        · exact k1 (.inr (of_decide_eq_true c2)) H1 s1
        · have c3 : nextS .high s < (mny ss : Int) := by have : ¬ (s + 1 ≥ (mny ss : Int)) := fun z => c2 (decide_eq_true z); show s + 1 < _; omega
          exact ⟨_, rfl, _, rfl, v, h, t, _, ss, rfl, hv.same s1, l1, fun H2 s2 => k2 c0 c3 H2 (s1.trans s2)⟩
    | top =>
      refine ⟨_, rfl, rfl, _, rfl, iteF ?_⟩
      refine ⟨_, rfl, rfl, _, rfl, iteF ?_⟩
      refine ⟨_, rfl, _, 0, rfl, rfl, _, rfl, ite2 (fun c => ?_) (fun c => ?_)⟩
      · exact k1 (.inl (of_decide_eq_true c)) H (Same.refl _)
      · have c0 : 0 ≤ nextS .top s := by have : ¬ s < 0 := fun z => c (decide_eq_true z); show 0 ≤ s; omega
        refine ⟨_, rfl, _, rfl, v, h, t, ss, rfl, hv, l1, fun H1 s1 => ⟨_, _, rfl, rfl, _, rfl, ite2 (fun c2 => ?_) (fun c2 => ?_)⟩⟩
        · exact k1 (.inr (of_decide_eq_true c2)) H1 s1
        · have c3 : nextS .top s < (mny ss : Int) := by have : ¬ (s ≥ (mny ss : Int)) := fun z => c2 (decide_eq_true z); show s < _; omega
          exact ⟨_, rfl, _, rfl, v, h, t, _, ss, rfl, hv.same s1, l1, fun H2 s2 => k2 c0 c3 H2 (s1.trans s2)⟩
end
end Sh

namespace Sh
open PySem PySem.Spec PyProof.Rows L2
/-! ### a sea's fleet -/
theorem len_os {k : Nat} {L : List Nat} (hL : Lot k L) (D : Nat → Int) (d : Int) : ((L.map D).filter fun o => decide (o = d)).length = Th.cnt k (fun i => mem L i && decide (D i = d)) := by
  rw [List.filter_map, List.length_map]
  conv => lhs; rw [hL.mem_eq]
  rw [List.filter_filter]
  unfold Th.cnt
  rw [List.countP_eq_length_filter]
  congr 1
  refine List.filter_congr fun a _ => ?_
  show (decide (D a = d) && decide (a ∈ L)) = (mem L a && decide (D a = d))
  rw [Bool.and_comm]
  rfl
theorem ds_map (ds : List Int) : ds = (List.range ds.length).map fun i => ds.getD i 0 := by
  refine List.ext_getElem (by simp) fun i h1 h2 => ?_
  simp [h1]
theorem len_ds (ds : List Int) (d : Int) : (ds.filter fun o => decide (o = d)).length = Th.cnt ds.length (fun i => decide (ds.getD i 0 = d)) := by
  conv => lhs; rw [ds_map ds]
  rw [List.filter_map, List.length_map]
  unfold Th.cnt
  rw [List.countP_eq_length_filter]
  rfl
theorem sum_if (P : Int → Bool) (x : Int) (b : Bool) : ∀ {ns : List Int}, ns.Nodup → x ∈ ns → ((ns.filter P).map fun d => if (b && decide (x = d)) = true then 1 else 0).sum = if (P x && b) = true then 1 else 0 := by
  have none : ∀ {ns : List Int}, ¬ x ∈ ns → ((ns.filter P).map fun d => if (b && decide (x = d)) = true then 1 else 0).sum = 0 := by
    intro ns
    induction ns with
    | nil => intro _; rfl
    | cons a l ih =>
      intro h
      have h1 : ¬ x = a := fun e => h (e ▸ List.mem_cons_self)
      have h2 := ih fun q => h (List.mem_cons_of_mem _ q)
      by_cases c : P a = true
      · rw [List.filter_cons_of_pos c, List.map_cons, List.sum_cons, h2, decide_eq_false h1, Bool.and_false]
        rfl
      · rw [List.filter_cons_of_neg c]
        exact h2
  intro ns
  induction ns with
  | nil => intro _ h; cases h
  | cons a l ih =>
    intro nd h
    obtain ⟨n1, n2⟩ := List.nodup_cons.mp nd
    by_cases e : x = a
    · subst e
      have h0 := none n1
      by_cases c : P x = true
      · rw [List.filter_cons_of_pos c, List.map_cons, List.sum_cons, h0, decide_eq_true rfl, Bool.and_true, c, Bool.true_and, Nat.add_zero]
      · rw [List.filter_cons_of_neg c, h0]
        have c' : P x = false := by simpa using c
        rw [c', Bool.false_and]
        rfl
    · have hx : x ∈ l := by
        rcases List.mem_cons.mp h with q | q
        · exact absurd q e
        · exact q
      have h2 := ih n2 hx
      by_cases c : P a = true
      · rw [List.filter_cons_of_pos c, List.map_cons, List.sum_cons, h2, decide_eq_false e, Bool.and_false]
        show 0 + _ = _
        rw [Nat.zero_add]
      · rw [List.filter_cons_of_neg c]
        exact h2
theorem sum_two' {α : Type} (f g : α → Nat) : ∀ l : List α, (l.map fun x => f x + g x).sum = (l.map f).sum + (l.map g).sum
  | [] => rfl
  | a :: l => by
    simp only [List.map_cons, List.sum_cons, sum_two' f g l]
    omega
theorem sum_zero {α : Type} : ∀ l : List α, (l.map fun _ => 0).sum = 0
  | [] => rfl
  | a :: l => by rw [List.map_cons, List.sum_cons, sum_zero l]
theorem sum_cnt (P : Int → Bool) (D : Nat → Int) (R : Nat → Bool) {ns : List Int} (nd : ns.Nodup) : ∀ k : Nat, (∀ i, i < k → D i ∈ ns) → ((ns.filter P).map fun d => Th.cnt k (fun i => R i && decide (D i = d))).sum = Th.cnt k (fun i => P (D i) && R i)
  | 0, _ => sum_zero _
  | k + 1, h => by
    have ih := sum_cnt P D R nd k fun i hi => h i (by omega)
    have e : ((ns.filter P).map fun d => Th.cnt (k + 1) (fun i => R i && decide (D i = d))).sum = ((ns.filter P).map fun d => Th.cnt k (fun i => R i && decide (D i = d)) + if (R k && decide (D k = d)) = true then 1 else 0).sum := by
      congr 1
      exact List.map_congr_left fun d _ => Th.cnt_succ _ _
    rw [e, sum_two', ih, sum_if P (D k) (R k) nd (h k (by omega)), Th.cnt_succ]
/-- the sorts of a sea's ships -/
def sortsOf (ds : List Int) (L : List Nat) (ns : List Int) : List Srt := ns.map fun d => (d, ((L.map fun i => ds.getD i 0).filter fun o => decide (o = d)).length, (ds.filter fun o => decide (o = d)).length - ((L.map fun i => ds.getD i 0).filter fun o => decide (o = d)).length)
theorem sorts_rp {ds : List Int} {L : List Nat} {ns : List Int} (hL : Lot ds.length L) (nd : ns.Nodup) (hm : ∀ d : Int, d ∈ ds → d ∈ ns) : Rp (sortsOf ds L ns) ds.length (fun i => ds.getD i 0) (mem L) := by
  have hD : ∀ i, i < ds.length → ds.getD i 0 ∈ ns := fun i hi => hm _ (by
    have : ds.getD i 0 = ds[i] := by simp [hi]
    rw [this]
    exact List.getElem_mem hi)
  refine ⟨fun P => ?_, fun P => ?_⟩
  · unfold sortsOf
    rw [List.filter_map, List.map_map, ← sum_cnt P (fun i => ds.getD i 0) (mem L) nd ds.length hD]
    congr 1
    exact List.map_congr_left fun d _ => len_os hL _ d
  · unfold sortsOf
    rw [List.filter_map, List.map_map, ← sum_cnt P (fun i => ds.getD i 0) (fun i => !mem L i) nd ds.length hD]
    congr 1
    refine List.map_congr_left fun d _ => ?_
    show (ds.filter fun o => decide (o = d)).length - ((L.map fun i => ds.getD i 0).filter fun o => decide (o = d)).length = _
    rw [len_os hL, len_ds]
    have e := Th.cnt_split (k := ds.length) (fun i => decide (ds.getD i 0 = d)) (mem L)
    have e1 : Th.cnt ds.length (fun i => decide (ds.getD i 0 = d) && mem L i) = Th.cnt ds.length (fun i => mem L i && decide (ds.getD i 0 = d)) := Th.cnt_congr fun i _ => Bool.and_comm _ _
    have e2 : Th.cnt ds.length (fun i => decide (ds.getD i 0 = d) && !mem L i) = Th.cnt ds.length (fun i => !mem L i && decide (ds.getD i 0 = d)) := Th.cnt_congr fun i _ => Bool.and_comm _ _
    omega
theorem lying_le {ds : List Int} {L : List Nat} (hL : Lot ds.length L) (d : Int) : ((L.map fun i => ds.getD i 0).filter fun o => decide (o = d)).length ≤ (ds.filter fun o => decide (o = d)).length := by
  rw [len_os hL, len_ds]
  exact Th.cnt_mono fun i _ h => by
    revert h
    cases mem L i <;> simp
/-! ### what a lot tells of its standings -/
section
variable {ss : List Srt} {k : Nat} {D : Nat → Int} {S : Nat → Bool} {h t : Int}
theorem low_low (r : Rp ss k D S) {N : Nat} (st : StuckF h t ss N) : Th.StuckLow k (Gd h t k D) N S := (r.stuck h t N).mp st
theorem high_high (r : Rp ss k D S) (hk : 0 < k) {N : Nat} (hN : (N : Int) ≤ (k : Int) - 1 - topI h t k) (st : StuckF t h (turnF ss) N) : Th.StuckLow k (Th.dual k (Gd h t k D)) N (Th.co S) := by
  have t0 := top_lo' h t k
  exact Th.StuckLow.congr (by omega) (fun s i hs => Gd_turn hs) ((r.turn.stuck t h N).mp st)
theorem high_back (r : Rp ss k D S) (hk : 0 < k) {N : Nat} (hN : (N : Int) ≤ (k : Int) - 1 - topI h t k) (st : Th.StuckLow k (Th.dual k (Gd h t k D)) N (Th.co S)) : StuckF t h (turnF ss) N := by
  have t0 := top_lo' h t k
  exact (r.turn.stuck t h N).mpr (Th.StuckLow.congr (by omega) (fun s i hs => (Gd_turn hs).symm) st)
/-- a lot by its kind, in terms of ships -/
def LotS (h t : Int) (k : Nat) (D : Nat → Int) (S : Nat → Bool) : Kd → Int → Prop
  | .low, s => ∃ N : Nat, s = (N : Int) ∧ N ≤ (topI h t k).toNat ∧ Th.StuckLow k (Gd h t k D) N S
  | .high, s => ∃ N : Nat, s = (k : Int) - 1 - (N : Int) ∧ N ≤ k - 1 - (topI h t k).toNat ∧ Th.StuckLow k (Th.dual k (Gd h t k D)) N (Th.co S)
  | .top, s => s = topI h t k ∧ Th.Open k (Gd h t k D) (topI h t k).toNat S
theorem LotF.ships (r : Rp ss k D S) (hk : 0 < k) {kd : Kd} {s : Int} (l : LotF h t ss kd s) : LotS h t k D S kd s := by
  have t0 := top_lo' h t k
  have t1 := top_hi' h t hk
  have tp := top_D h t D hk
  unfold LotF at l
  cases kd with
  | low =>
    obtain ⟨N, e, a, b⟩ := l
    rw [r.mny] at a
    exact ⟨N, e, by omega, low_low r b⟩
  | high =>
    obtain ⟨N, e, a, b⟩ := l
    rw [r.mny] at a e
    exact ⟨N, e, by omega, high_high r hk a b⟩
  | top =>
    obtain ⟨e, a, b⟩ := l
    rw [r.mny] at a e b
    refine ⟨e, ?_⟩
    rcases Th.sorts (S := S) tp with ⟨N, hN, sl⟩ | ⟨N, hN, sl⟩ | q
    · exact absurd ((r.stuck h t N).mpr sl) (a N (by omega))
    · exact absurd (high_back r hk (by omega) sl) (b N (by omega))
    · exact q
end
end Sh
namespace Th
section
variable {k : Nat} {G : Nat → Nat → Bool} {S U : Nat → Bool} {T : Nat}
/-- where one stops tells from the other -/
theorem low_uniq {N N' : Nat} (a : StuckLow k G N S) (b : StuckLow k G N' S) : N = N' := by
  obtain ⟨a1, a2, a3⟩ := a
  obtain ⟨b1, b2, b3⟩ := b
  by_cases z : N < N'
  · have := b2 N a1 z
    omega
  · by_cases z2 : N' < N
    · have := a2 N' b1 z2
      omega
    · omega
theorem low_high {N N' : Nat} (t : Top k G T) (hN : N ≤ T) (a : StuckLow k G N S) (hN' : N' ≤ k - 1 - T) (b : StuckLow k (Th.dual k G) N' (co S)) : False := by
  have := a.1
  have := b.1
  have := cnt_co k S
  have := t.lt
  omega
theorem low_open {N : Nat} (t : Top k G T) (hN : N ≤ T) (a : StuckLow k G N S) (b : Open k G T S) : False := by
  obtain ⟨rs, c⟩ := b
  rcases rs with q | q
  · by_cases z : N = T
    · subst z
      have := a.2.2
      omega
    · have := q.2 N a.1 (by omega)
      have := a.2.2
      omega
  · have := a.1
    have := q.1
    omega
theorem high_open {N : Nat} (t : Top k G T) (hN : N ≤ k - 1 - T) (a : StuckLow k (Th.dual k G) N (co S)) (b : Open k G T S) : False := low_open t.dual hN a (b.dual t)
theorem Reach.out (r : Reach k G S U) : ∀ i, ¬ i < k → U i = S i := reach_out r
/-- the lot of an open one is kept -/
theorem Open.same (t : Top k G T) (a : Open k G T S) (r : Reach k G S U) : Open k G T U := by
  rcases sorts (S := U) t with ⟨N, hN, sl⟩ | ⟨N, hN, sl⟩ | q
  · exact absurd a fun a => low_open t hN (sl.same t hN r.symm) a
  · exact absurd a fun a => high_open t hN (sl.same t.dual hN r.symm.dual) a
  · exact q
theorem high_iff {N : Nat} (t : Top k G T) (hN : N ≤ k - 1 - T) (h : StuckLow k (Th.dual k G) N (co S)) (ho : ∀ i, ¬ i < k → U i = S i) : Reach k G S U ↔ StuckLow k (Th.dual k G) N (co U) ∧ ∀ i, i < k → (co U i || Th.dual k G N i) = (co S i || Th.dual k G N i) := by
  rw [← h.iff (U := co U) t.dual hN fun i hi => by unfold co; rw [ho i hi]]
  exact ⟨fun r => r.dual, fun r => r.codual⟩
end
end Th
namespace Sh
open PySem PySem.Spec PyProof.Rows L2
section
variable {ss : List Srt} {k : Nat} {D : Nat → Int} {S U : Nat → Bool} {h t : Int}
/-- a lot's kind and step are kept by crossings -/
theorem LotS.same (hk : 0 < k) {kd : Kd} {s : Int} (l : LotS h t k D S kd s) (r : Th.Reach k (Gd h t k D) S U) : LotS h t k D U kd s := by
  have tp := top_D h t D hk
  cases kd with
  | low =>
    obtain ⟨N, e, a, b⟩ := l
    exact ⟨N, e, a, b.same tp a r⟩
  | high =>
    obtain ⟨N, e, a, b⟩ := l
    exact ⟨N, e, a, b.same tp.dual a r.dual⟩
  | top =>
    obtain ⟨e, a⟩ := l
    exact ⟨e, a.same tp r⟩
theorem LotS.uniq (hk : 0 < k) {kd kd' : Kd} {s s' : Int} (l : LotS h t k D S kd s) (l' : LotS h t k D S kd' s') : kd = kd' ∧ s = s' := by
  have tp := top_D h t D hk
  cases kd with
  | low =>
    obtain ⟨N, e, a, b⟩ := l
    cases kd' with
    | low =>
      obtain ⟨N', e', a', b'⟩ := l'
      have := Th.low_uniq b b'
      exact ⟨rfl, by omega⟩
    | high =>
      obtain ⟨N', e', a', b'⟩ := l'
      exact (Th.low_high tp a b a' b').elim
    | top => exact (Th.low_open tp a b l'.2).elim
  | high =>
    obtain ⟨N, e, a, b⟩ := l
    cases kd' with
    | low =>
      obtain ⟨N', e', a', b'⟩ := l'
      exact (Th.low_high tp a' b' a b).elim
    | high =>
      obtain ⟨N', e', a', b'⟩ := l'
      have := Th.low_uniq b b'
      exact ⟨rfl, by omega⟩
    | top => exact (Th.high_open tp a b l'.2).elim
  | top =>
    obtain ⟨e, a⟩ := l
    cases kd' with
    | low =>
      obtain ⟨N', e', a', b'⟩ := l'
      exact (Th.low_open tp a' b' a).elim
    | high =>
      obtain ⟨N', e', a', b'⟩ := l'
      exact (Th.high_open tp a' b' a).elim
    | top => exact ⟨rfl, by rw [e, l'.1]⟩
/-- one comes to the other just where the lots' words are the same and those that don't go lie alike -/
theorem LotS.reach (hk : 0 < k) {kd : Kd} {s : Int} (l : LotS h t k D S kd s) (l' : LotS h t k D U kd s) (ho : ∀ i, ¬ i < k → U i = S i) : Th.Reach k (Gd h t k D) S U ↔ ∀ i, i < k → ¬ D i ≤ mk h t k s → U i = S i := by
  have tp := top_D h t D hk
  have t0 := top_lo' h t k
  have t1 := top_hi' h t hk
  cases kd with
  | low =>
    obtain ⟨N, e, a, b⟩ := l
    obtain ⟨N', e', a', b'⟩ := l'
    obtain rfl : N = N' := by omega
    rw [b.iff tp a ho]
    have key : ∀ i, ((U i || Gd h t k D N i) = (S i || Gd h t k D N i)) ↔ (¬ D i ≤ mk h t k s → U i = S i) := fun i => by
      unfold Gd
      rw [← e]
      by_cases z : D i ≤ mk h t k s
      · rw [decide_eq_true z, Bool.or_true, Bool.or_true]
        exact ⟨fun _ w => absurd z w, fun _ => rfl⟩
      · rw [decide_eq_false z, Bool.or_false, Bool.or_false]
        exact ⟨fun q _ => q, fun q => q z⟩
    exact ⟨fun q i hi => (key i).mp (q.2 i hi), fun q => ⟨b', fun i hi => (key i).mpr (q i hi)⟩⟩
  | high =>
    obtain ⟨N, e, a, b⟩ := l
    obtain ⟨N', e', a', b'⟩ := l'
    obtain rfl : N = N' := by omega
    rw [Th.high_iff tp a b ho]
    have key : ∀ i, ((Th.co U i || Th.dual k (Gd h t k D) N i) = (Th.co S i || Th.dual k (Gd h t k D) N i)) ↔ (¬ D i ≤ mk h t k s → U i = S i) := fun i => by
      show ((!U i || decide (D i ≤ mk h t k ((k - 1 - N : Nat) : Int))) = (!S i || decide (D i ≤ mk h t k ((k - 1 - N : Nat) : Int)))) ↔ _
      rw [show ((k - 1 - N : Nat) : Int) = s by omega]
      by_cases z : D i ≤ mk h t k s
      · rw [decide_eq_true z, Bool.or_true, Bool.or_true]
        exact ⟨fun _ w => absurd z w, fun _ => rfl⟩
      · rw [decide_eq_false z, Bool.or_false, Bool.or_false]
        refine ⟨fun q _ => ?_, fun q => by rw [q z]⟩
        revert q
        cases U i <;> cases S i <;> simp
    exact ⟨fun q i hi => (key i).mp (q.2 i hi), fun q => ⟨b', fun i hi => (key i).mpr (q i hi)⟩⟩
  | top =>
    obtain ⟨e, a⟩ := l
    obtain ⟨_, a'⟩ := l'
    have key : ∀ i, (Gd h t k D (topI h t k).toNat i = false) ↔ ¬ D i ≤ mk h t k s := fun i => by
      unfold Gd
      rw [show (((topI h t k).toNat : Nat) : Int) = s by omega, decide_eq_false_iff_not]
    exact ⟨fun r i hi z => Th.fast_inv tp r i hi ((key i).mpr z), fun q => Th.open_reach tp a.1 a'.1 (fun i hi g => q i hi ((key i).mp g)) ho⟩
theorem LotS.comes (hk : 0 < k) {kd kd' : Kd} {s s' : Int} (l : LotS h t k D S kd s) (l' : LotS h t k D U kd' s') (ho : ∀ i, ¬ i < k → U i = S i) : Th.Reach k (Gd h t k D) S U ↔ (kd = kd' ∧ s = s') ∧ ∀ i, i < k → ¬ D i ≤ mk h t k s → U i = S i := by
  constructor
  · intro r
    obtain ⟨e1, e2⟩ := (l.same hk r).uniq hk l'
    subst e1
    subst e2
    exact ⟨⟨rfl, rfl⟩, (l.reach hk l' ho).mp r⟩
  · rintro ⟨⟨e1, e2⟩, q⟩
    subst e1
    subst e2
    exact (l.reach hk l' ho).mpr q
/-- who ever goes -/
theorem LotS.moves (hk : 0 < k) {kd : Kd} {s : Int} (l : LotS h t k D S kd s) {i : Nat} (hi : i < k) : Th.Moves k (Gd h t k D) S i ↔ 0 ≤ nextS kd s ∧ nextS kd s < (k : Int) ∧ D i ≤ mk h t k (nextS kd s) := by
  have tp := top_D h t D hk
  have t0 := top_lo' h t k
  have t1 := top_hi' h t hk
  cases kd with
  | low =>
    obtain ⟨N, e, a, b⟩ := l
    rw [Th.moves_low b tp a hi]
    show (0 < N ∧ decide (D i ≤ mk h t k ((N - 1 : Nat) : Int)) = true) ↔ 0 ≤ s - 1 ∧ s - 1 < (k : Int) ∧ D i ≤ mk h t k (s - 1)
    rw [decide_eq_true_eq]
    constructor
    · rintro ⟨n0, g⟩
      rw [show ((N - 1 : Nat) : Int) = s - 1 by omega] at g
      exact ⟨by omega, by omega, g⟩
    · rintro ⟨n0, n1, g⟩
      refine ⟨by omega, ?_⟩
      rw [show ((N - 1 : Nat) : Int) = s - 1 by omega]
      exact g
  | high =>
    obtain ⟨N, e, a, b⟩ := l
    rw [Th.moves_high b tp a hi]
    show (0 < N ∧ decide (D i ≤ mk h t k ((k - N : Nat) : Int)) = true) ↔ 0 ≤ s + 1 ∧ s + 1 < (k : Int) ∧ D i ≤ mk h t k (s + 1)
    rw [decide_eq_true_eq]
    constructor
    · rintro ⟨n0, g⟩
      rw [show ((k - N : Nat) : Int) = s + 1 by omega] at g
      exact ⟨by omega, by omega, g⟩
    · rintro ⟨n0, n1, g⟩
      refine ⟨by omega, ?_⟩
      rw [show ((k - N : Nat) : Int) = s + 1 by omega]
      exact g
  | top =>
    obtain ⟨e, a⟩ := l
    rw [Th.moves_open tp a.1 a.2 hi]
    show decide (D i ≤ mk h t k (((topI h t k).toNat : Nat) : Int)) = true ↔ 0 ≤ s ∧ s < (k : Int) ∧ D i ≤ mk h t k s
    rw [decide_eq_true_eq, show (((topI h t k).toNat : Nat) : Int) = s by omega]
    exact ⟨fun g => ⟨by omega, by omega, g⟩, fun g => g.2.2⟩
/-- how few -/
theorem LotS.min (r : Rp ss k D S) (hk : 0 < k) {kd : Kd} {s m : Int} (l : LotS h t k D S kd s) (hm : (kd = .high ∧ m = s + 1) ∨ (kd ≠ .high ∧ LeastI h t ss s m)) : ∃ n : Nat, m = (n : Int) ∧ Th.IsMin k (Gd h t k D) S n := by
  have tp := top_D h t D hk
  have t0 := top_lo' h t k
  have t1 := top_hi' h t hk
  cases kd with
  | low =>
    obtain ⟨N, e, a, b⟩ := l
    rcases hm with ⟨z, _⟩ | ⟨_, L⟩
    · cases z
    · rw [e] at L
      exact least_low r tp a b (fun m' hm' => mk_low (by omega) (by omega)) L
  | high =>
    obtain ⟨N, e, a, b⟩ := l
    rcases hm with ⟨_, z⟩ | ⟨z, _⟩
    · have mx := Th.stuck_min_high tp.dual a b
      refine ⟨k - N, by omega, ?_⟩
      obtain ⟨⟨U, rU, cU⟩, hU⟩ := mx
      refine ⟨⟨Th.co U, ?_, ?_⟩, fun W rW => ?_⟩
      · refine Th.Reach.codual ?_
        rw [Th.co_co]
        exact rU
      · have := Th.cnt_co k U
        omega
      · have := hU _ rW.dual
        have := Th.cnt_co k W
        omega
    · exact absurd rfl z
  | top =>
    obtain ⟨e, a⟩ := l
    rcases hm with ⟨z, _⟩ | ⟨_, L⟩
    · cases z
    · rw [show s = (((topI h t k).toNat : Nat) : Int) by omega] at L
      exact least_open r tp a (fun m' hm' => mk_low (by omega) (by omega)) L
/-- how many, by the turned one -/
theorem LotS.max (r : Rp ss k D S) (hk : 0 < k) {kd : Kd} {s m : Int} (l : LotS h t k D S kd s) (hm : (kd = .low ∧ m = s) ∨ (kd ≠ .low ∧ ∃ m', LeastI t h (turnF ss) ((k : Int) - 1 - s) m' ∧ m = (k : Int) - m')) : ∃ n : Nat, m = (n : Int) ∧ Th.IsMax k (Gd h t k D) S n := by
  have tp := top_D h t D hk
  have t0 := top_lo' h t k
  have t1 := top_hi' h t hk
  have gt : ∀ s i, s < k → Gd t h k D s i = Th.dual k (Gd h t k D) s i := fun s i hs => Gd_turn hs
  have gt' : ∀ s i, s < k → Th.dual k (Gd h t k D) s i = Gd t h k D s i := fun s i hs => (Gd_turn hs).symm
  have tpd : Th.Top k (Gd t h k D) (k - 1 - (topI h t k).toNat) := by
    have q := tp.dual
    refine ⟨q.lt, fun s s' i a b g => ?_, fun s s' i a b c g => ?_⟩
    · rw [gt _ _ (by omega)]
      exact q.up s s' i a b (by rw [← gt _ _ (by omega)]; exact g)
    · rw [gt _ _ (by omega)]
      exact q.dn s s' i a b c (by rw [← gt _ _ (by omega)]; exact g)
  cases kd with
  | low =>
    obtain ⟨N, e, a, b⟩ := l
    rcases hm with ⟨_, z⟩ | ⟨z, _⟩
    · exact ⟨N, by omega, Th.stuck_min_high tp a b⟩
    · exact absurd rfl z
  | high =>
    obtain ⟨N, e, a, b⟩ := l
    rcases hm with ⟨z, _⟩ | ⟨_, m', L, em⟩
    · cases z
    · rw [show (k : Int) - 1 - s = (N : Int) by omega] at L
      obtain ⟨n, en, q⟩ := least_low r.turn tpd a (b.congr (by omega) gt') (fun m' hm' => mk_high (h := h) (t := t) (k := k) (by omega) (by omega)) L
      obtain ⟨q1, q2⟩ := (q.congr gt).co
      exact ⟨k - n, by omega, q2⟩
  | top =>
    obtain ⟨e, a⟩ := l
    rcases hm with ⟨z, _⟩ | ⟨_, m', L, em⟩
    · cases z
    · rw [show (k : Int) - 1 - s = ((k - 1 - (topI h t k).toNat : Nat) : Int) by omega] at L
      have od : Th.Open k (Gd t h k D) (k - 1 - (topI h t k).toNat) (Th.co S) := (a.dual tp).congr tp.dual.lt gt'
      obtain ⟨n, en, q⟩ := least_open r.turn tpd od (fun m' hm' => mk_high (h := h) (t := t) (k := k) (by omega) (by omega)) L
      obtain ⟨q1, q2⟩ := (q.congr gt).co
      exact ⟨k - n, by omega, q2⟩
end
end Sh

namespace Sh
open PySem PySem.Spec PyProof.Rows L2
/-! ### the program: fleets of seas, reach -/
theorem eqv_ints : ∀ ns ms : List Int, PyData.eqv (.list (ns.map .int)) (.list (ms.map .int)) = decide (ns = ms)
  | [], [] => rfl
  | [], _ :: _ => rfl
  | _ :: _, [] => rfl
  | a :: l, b :: m => by
    have e := eqv_ints l m
    show (PyData.eqv (.int a) (.int b) && PyData.eqv (.list (l.map .int)) (.list (m.map .int))) = _
    rw [e]
    show ((a == b) && decide (l = m)) = _
    rw [Bool.eq_iff_iff, Bool.and_eq_true, beq_iff_eq, decide_eq_true_eq, decide_eq_true_eq, List.cons.injEq]
theorem eqv_lot (a b : Str) (i j : Int) : PyData.eqv (.tuple [.str a, .int i]) (.tuple [.str b, .int j]) = (decide (a = b) && decide (i = j)) := by
  show ((a == b) && ((i == j) && true)) = _
  rw [Bool.and_true, Bool.eq_iff_iff, Bool.and_eq_true, Bool.and_eq_true, beq_iff_eq, beq_iff_eq, decide_eq_true_eq, decide_eq_true_eq]
theorem shaped_lot (kd : Kd) (s : Int) : SeqAt.shaped (.tuple [.str kd.str, .int s]) = true := by
  have a : PyData.canLay0 (.str kd.str) = true := by cases kd <;> decide +kernel
  have b : PyData.canLay0 (.tuple [.str kd.str, .int s]) = true := by
    show (PyData.canLay0 (.str kd.str) && (PyData.canLay0 (.int s) && true)) = true
    rw [a]
    rfl
  unfold SeqAt.shaped
  rw [b]
  rfl
def spFleetOf (K : PySem.W.Frag) : Sp := fun vs H Q _ => ∃ (v l : V) (h t : Int) (ds : List Int) (L : List Nat), vs = [v, l] ∧ SeaD K H v h t ds ∧ LotA K H l L ∧ ds.length ≤ 60 ∧ Lot ds.length L ∧
  ∀ (H' : Hp) (z : V) (ss : List Srt), Same H H' → FltA K H' z h t ss → ss.length ≤ 1000 → Rp ss ds.length (fun i => ds.getD i 0) (mem L) → Q z H'
def MaxF (h t : Int) (ss : List Srt) (m : Int) : Prop := ∃ kd s, LotF h t ss kd s ∧ ((kd = .low ∧ m = s) ∨ (kd ≠ .low ∧ ∃ m', LeastI t h (turnF ss) ((mny ss : Int) - 1 - s) m' ∧ m = (mny ss : Int) - m'))
def MinF (h t : Int) (ss : List Srt) (m : Int) : Prop := ∃ kd s, LotF h t ss kd s ∧ ((kd = .high ∧ m = s + 1) ∨ (kd ≠ .high ∧ LeastI h t ss s m))
def spFleetMost (K : PySem.W.Frag) : Sp := fun vs H Q _ => ∃ (v : V) (h t : Int) (ss : List Srt), vs = [v] ∧ FltA K H v h t ss ∧ ss.length ≤ 1000 ∧ ∀ (H' : Hp) (m : Int), Same H H' → MaxF h t ss m → Q (.int m) H'
def spFleetLeast (K : PySem.W.Frag) : Sp := fun vs H Q _ => ∃ (v : V) (h t : Int) (ss : List Srt), vs = [v] ∧ FltA K H v h t ss ∧ ss.length ≤ 1000 ∧ ∀ (H' : Hp) (m : Int), Same H H' → MinF h t ss m → Q (.int m) H'
abbrev s_fleet_of : Stmt := topS 8
theorem sc_fleet_of : FnScope (["sea", "standing", "here", "there", "draughts", "ours", "sorts", "draught", "many", "lying", "ship", "other"] : List Str) (["sea", "standing"] : List Str) (defScope s_fleet_of) := ⟨rfl, rfl, rfl, by decide +kernel, rfl, by decide +kernel, by decide +kernel⟩
theorem b_fleet_of (kV doc pm : Value) (an : Option Addr) (cdv ct : Value) (us : List Value) (hl : us.length = (["sea", "standing"] : List Str).length) : bindArgs (PySem.W.fnOf "fleet_of" "fleet_of" (defArgs s_fleet_of) (defBody s_fleet_of) (defScope s_fleet_of) .none kV doc pm an cdv ct) ⟨us, []⟩ = pure ((["sea", "standing"] : List Str).zip us) :=
  match us, hl with | [_, _], _ => rfl
abbrev s_movers_of : Stmt := topS 32
theorem sc_movers_of : FnScope (["sea", "standing", "fleet", "mark", "ship", "draught"] : List Str) (["sea", "standing"] : List Str) (defScope s_movers_of) := ⟨rfl, rfl, rfl, by decide +kernel, rfl, by decide +kernel, by decide +kernel⟩
theorem b_movers_of (kV doc pm : Value) (an : Option Addr) (cdv ct : Value) (us : List Value) (hl : us.length = (["sea", "standing"] : List Str).length) : bindArgs (PySem.W.fnOf "movers_of" "movers_of" (defArgs s_movers_of) (defBody s_movers_of) (defScope s_movers_of) .none kV doc pm an cdv ct) ⟨us, []⟩ = pure ((["sea", "standing"] : List Str).zip us) :=
  match us, hl with | [_, _], _ => rfl
abbrev s_comes_to : Stmt := topS 33
theorem sc_comes_to : FnScope (["sea", "one", "other", "lot", "mark"] : List Str) (["sea", "one", "other"] : List Str) (defScope s_comes_to) := ⟨rfl, rfl, rfl, by decide +kernel, rfl, by decide +kernel, by decide +kernel⟩
theorem b_comes_to (kV doc pm : Value) (an : Option Addr) (cdv ct : Value) (us : List Value) (hl : us.length = (["sea", "one", "other"] : List Str).length) : bindArgs (PySem.W.fnOf "comes_to" "comes_to" (defArgs s_comes_to) (defBody s_comes_to) (defScope s_comes_to) .none kV doc pm an cdv ct) ⟨us, []⟩ = pure ((["sea", "one", "other"] : List Str).zip us) :=
  match us, hl with | [_, _, _], _ => rfl
abbrev s_fast_ones : Stmt := topS 34
theorem sc_fast_ones : FnScope (["sea", "standing", "mark", "draughts", "ship"] : List Str) (["sea", "standing", "mark"] : List Str) (defScope s_fast_ones) := ⟨rfl, rfl, rfl, by decide +kernel, rfl, by decide +kernel, by decide +kernel⟩
theorem b_fast_ones (kV doc pm : Value) (an : Option Addr) (cdv ct : Value) (us : List Value) (hl : us.length = (["sea", "standing", "mark"] : List Str).length) : bindArgs (PySem.W.fnOf "fast_ones" "fast_ones" (defArgs s_fast_ones) (defBody s_fast_ones) (defScope s_fast_ones) .none kV doc pm an cdv ct) ⟨us, []⟩ = pure ((["sea", "standing", "mark"] : List Str).zip us) :=
  match us, hl with | [_, _, _], _ => rfl
section
variable {P : Program} {w : World} {K : PySem.W.Frag} {mg : Str → Option Value} {base : Heap}
set_option maxHeartbeats 8000000 in
theorem ok_fleet_of {k : Nat} (D : Df K mg "fleet_of" s_fleet_of) (T : Bt mg) : Ok P w K mg base (k + 1) "fleet_of" s_fleet_of ["sea", "standing"] (spFleetOf K) := by
  refine D.ok sc_fleet_of b_fleet_of (fun vs H Q E h => ?_) (fun f cdv A outer s H vs Q E hr h => ?_)
  · obtain ⟨v, l, h, t, ds, L, rfl, _⟩ := h
    rfl
  · obtain ⟨v, l, h, t, ds, L, rfl, ⟨p, q, rfl, hp, hq⟩, ⟨pl, rfl, hl⟩, d1, hL, k⟩ := h
    have ll := hL.len
    refine ⟨_, (pss_cons (ps_asg (pv 0) (pg_seq rfl (pgs_cons (pg_name (i := 2) sc_fleet_of.nd rfl (.inl rfl)) (pgs_cons (pg_name (i := 3) sc_fleet_of.nd rfl (.inl rfl)) (pgs_cons (pg_name (i := 4) sc_fleet_of.nd rfl (.inr rfl)) pgs_nil)))))
      (pss_cons (ps_setLc (i := 5) (own := [("ship", 10)]) (g := (gName 10)) (tt := tYes) (by rfl) sc_fleet_of.nd rfl rfl (sw_true rfl rfl rfl (by decide +kernel)) (pi_seq (pv 1)) (blkOk_by (own := [("ship", 10)]) (N := (["sea", "standing", "here", "there", "draughts", "ours", "sorts", "draught", "many", "lying", "ship", "other"] : List Str)) (sc := defScope s_fleet_of) (by decide +kernel)) (fun _ _ _ _ _ => (pg_name (i := 10) sc_fleet_of.nd rfl (.inl rfl))) (fun _ _ _ _ _ => pts_nil) (fun _ _ _ _ _ => (pe_ix (ix_ltK K) (pv 4) (pv 10) (fun _ _ => rfl))))
      (pss_cons (ps_set (i := 6) sc_fleet_of.nd rfl (.inl rfl) (pe_lst pa_nil))
      (pss_cons (ps_for PassesOwn.never rfl (pi_seq (pe_callB (cr_sortedSetw w rfl) (by rfl) T.sorted_ (by decide +kernel) (pa_cons (pe_callTy (cr_setTw w rfl) (by rfl) T.set_ (by decide +kernel) (pa_cons (pv 4) pa_nil)) pa_nil))) (pg_name (i := 7) sc_fleet_of.nd rfl (.inr rfl))
        (pss_cons (ps_set (i := 8) sc_fleet_of.nd rfl (.inl rfl) (pe_callB call_len_seq (by rfl) T.len_ PySem.boot_len (pa_cons (pe_lc (own := [("other", 11)]) (g := (gName 11)) (by rfl) sc_fleet_of.nd (pi_seq (pv 4)) (blkOk_by (own := [("other", 11)]) (N := (["sea", "standing", "here", "there", "draughts", "ours", "sorts", "draught", "many", "lying", "ship", "other"] : List Str)) (sc := defScope s_fleet_of) (by decide +kernel)) (fun _ _ _ _ _ => (pg_name (i := 11) sc_fleet_of.nd rfl (.inl rfl))) (fun _ _ _ _ _ => (pts_one (pt_cmpR op_eq (pv 11) (pv 7) (nomark _)))) (fun _ _ _ _ _ => (pv 11))) pa_nil)))
          (pss_cons (ps_set (i := 9) sc_fleet_of.nd rfl (.inl rfl) (pe_callB call_len_seq (by rfl) T.len_ PySem.boot_len (pa_cons (pe_lc (own := [("other", 11)]) (g := (gName 11)) (by rfl) sc_fleet_of.nd (pi_seq (pv 5)) (blkOk_by (own := [("other", 11)]) (N := (["sea", "standing", "here", "there", "draughts", "ours", "sorts", "draught", "many", "lying", "ship", "other"] : List Str)) (sc := defScope s_fleet_of) (by decide +kernel)) (fun _ _ _ _ _ => (pg_name (i := 11) sc_fleet_of.nd rfl (.inl rfl))) (fun _ _ _ _ _ => (pts_one (pt_cmpR op_eq (pv 11) (pv 7) (nomark _)))) (fun _ _ _ _ _ => (pv 11))) pa_nil)))
          (pss_one (ps_expr (pe_bm PySem.F.plainAttrs_list PySem.F.slot_list_append PySem.F.type_list_append mt_append (pv 6) (pa_cons (pe_tup (pa_cons (pv 7) (pa_cons (pv 9) (pa_cons (pe_op op_sub (pv 8) (pv 9)) pa_nil)))) pa_nil)))))))
      (pss_one (ps_ret (pe_tup (pa_cons (pv 2) (pa_cons (pv 3) (pa_cons (pe_callTy call_tuple_of (by rfl) T.tuple_ (by decide +kernel) (pa_cons (pv 6) pa_nil)) pa_nil)))))))))), ?_⟩
    refine ⟨_, rfl, p, _, rfl, hp, rfl, _, _, rfl, _, _, rfl, _, _, rfl, rfl, ?_⟩
    -- ours
    refine ⟨_, rfl, pl, _, H, rfl, hl, Kp.refl _ _, fun J hJ C nC => ?_⟩
    obtain ⟨G, g, W⟩ := hJ.walk
    refine lc_it W (fun i H' => Same H H' ∧ H' C = some (.lst (((L.take i).map fun j => ds.getD j 0).map V.int))) ⟨same_new nC, upd_same⟩ (fun i H' _ z => g H' (.ofS z.1)) ?_ ?_
    · rintro i x H1 H2 hi ⟨sm, hC⟩ ⟨rfl, gx⟩
      rw [ni_len] at hi
      obtain rfl : .int ((L[i] : Nat) : Int) = x := Option.some.inj ((ni_get hi).symm.trans gx)
      have hlt := hL.lt L[i] (List.getElem_mem hi)
      refine ⟨rfl, tyes (iteT ⟨_, rfl, _, rfl, q, _, _, .int (ds.getD L[i] 0), rfl, rfl, .inr (Same.tup sm hq), at_nat rfl (by simp [hlt]), _, hC, ?_, same_over sm nC, ?_⟩)⟩
      · rw [List.length_map, List.length_map, List.length_take]
        exact small1000 (by omega)
      · rw [upd_same, take_succ_get hi, List.map_append, List.map_append]
        rfl
    rintro H1 ⟨s1, hC⟩
    rw [ni_len, List.take_length] at hC
    -- sorts
    refine ⟨Nat.zero_le _, fun F nF => ?_⟩
    have s2 : Same H1 (upd H1 F (.lst [])) := same_new nF
    have e2 : upd H1 F (.lst []) F = some (.lst []) := upd_same
    have nF0 : H F = none := s1.free nF
    have CF : C ≠ F := ne_of_none hC nF
    generalize upd H1 F (.lst []) = H2 at s2 e2
    have s02 := s1.trans s2
    refine ⟨_, rfl, q, ds, rfl, Same.tup s02 hq, by omega, fun a c na hc => ?_⟩
    refine ⟨a, _, c, rfl, upd_same, by omega, fun ns b up hm hlen nb => ?_⟩
    have sA : Same H2 (upd H2 a (SetO w a (fun j => decide (j ∈ ds)) c)) := same_new na
    have sB := sA.trans (same_new nb (o := .lst (ns.map V.int)))
    have eb : upd (upd H2 a (SetO w a (fun j => decide (j ∈ ds)) c)) b (.lst (ns.map V.int)) b = some (.lst (ns.map V.int)) := upd_same
    generalize upd (upd H2 a (SetO w a (fun j => decide (j ∈ ds)) c)) b (.lst (ns.map V.int)) = H3 at sB eb
    have s03 := s02.trans sB
    have hC3 := sB _ _ (s2 _ _ hC)
    have hF3 := sB _ _ e2
    have bF : b ≠ F := fun e => by
      subst e
      rw [sA _ _ e2] at nb
      cases nb
    have nn : ns.Nodup := up.imp fun z => by omega
    refine ⟨b, _, H3, rfl, SqA.l eb, Kp.refl _ _, fun J2 hJ2 => ?_⟩
    obtain ⟨G2, g2, W2⟩ := hJ2.walk
    refine for_it W2 (fun i σ H' => ∃ (y7 y8 y9 : Option V) (us : List Addr), σ = [some (.ref p), some (.ref pl), some (.int h), some (.int t), some (.ref q), some (.ref C), some (.ref F), y7, y8, y9, none, none] ∧ Same H H' ∧ H' C = some (.lst ((L.map fun j => ds.getD j 0).map V.int)) ∧ H' b = some (.lst (ns.map V.int)) ∧ H' F = some (.lst (us.map V.ref)) ∧ SrtsN H' us (sortsOf ds L (ns.take i)))
      ⟨none, none, none, [], rfl, s03, hC3, eb, hF3, rfl, fun i r x a _ => by simp at a⟩ (fun i σ H' _ ⟨_, _, _, _, _, _, _, z, _⟩ => g2 H' fun o e => by rw [eb] at e; cases e; exact z) ?_ ?_
    · rintro i x σ H5' H4 hi ⟨y7, y8, y9, us, rfl, s4, hC4, hb4, hF4, hu4⟩ ⟨rfl, gx⟩
      rw [List.length_map] at hi
      obtain rfl : .int ns[i] = x := by
        have g3 : (ns.map V.int)[i]? = some (.int ns[i]) := by simp [hi]
        exact Option.some.inj (g3.symm.trans gx)
      have f : ∀ (xs : List Int) (j : Nat) (hj : j < xs.length), ((xs.take (j + 1)).filter fun o => decide (o = ns[i])) = ((xs.take j).filter fun o => decide (o = ns[i])) ++ (if xs[j] = ns[i] then [xs[j]] else []) := fun xs j hj => by
        rw [take_succ_get hj, List.filter_append]
        congr 1
        by_cases c : xs[j] = ns[i]
        · rw [if_pos c, List.filter_cons_of_pos (by simpa using c)]; rfl
        · rw [if_neg c, List.filter_cons_of_neg (by simpa using c)]; rfl
      have fl : ∀ (xs : List Int) (j : Nat), xs.length ≤ 60 → (((xs.take j).filter fun o => decide (o = ns[i])).map V.int).length < sizeLine := fun xs j hx => by
        have h1 := List.length_filter_le (fun o => decide (o = ns[i])) (xs.take j)
        rw [List.length_take] at h1
        rw [List.length_map]
        exact small1000 (by omega)
      -- many
      refine ⟨_, rfl, q, _, H4, rfl, .inr (Same.tup s4 hq), Kp.refl _ _, fun J3 hJ3 M nM => ?_⟩
      obtain ⟨G3, g3, W3⟩ := hJ3.walk
      refine lc_it W3 (fun j H' => Same H4 H' ∧ H' M = some (.lst (((ds.take j).filter fun o => decide (o = ns[i])).map V.int))) ⟨same_new nM, upd_same⟩ (fun j H' _ z => g3 H' (.ofS z.1)) ?_ ?_
      · rintro j x H5 H6 hj ⟨sm, hM⟩ ⟨rfl, gx2⟩
        rw [List.length_map] at hj
        obtain rfl : .int ds[j] = x := by
          have g4 : (ds.map V.int)[j]? = some (.int ds[j]) := by simp [hj]
          exact Option.some.inj (g4.symm.trans gx2)
        refine ⟨rfl, _, rfl, _, rfl, rfl, _, rfl, ite2 (fun c => ?_) (fun c => ?_)⟩
        · have c0 : ds[j] = ns[i] := V.int.inj (of_decide_eq_true c)
          refine ⟨_, rfl, _, hM, fl ds j d1, same_over sm nM, ?_⟩
          rw [upd_same, f ds j hj, if_pos c0, List.map_append]
          rfl
        · have c0 : ¬ ds[j] = ns[i] := fun z => c (decide_eq_true (by rw [z]))
          refine ⟨sm, ?_⟩
          rw [hM, f ds j hj, if_neg c0, List.append_nil]
      rintro H5 ⟨s5, hM⟩
      rw [List.length_map, List.take_length] at hM
      refine ⟨M, _, rfl, .inl (SqL.of hM), ?_⟩
      -- lying
      refine ⟨_, rfl, C, _, H5, rfl, SqA.l (s5 _ _ hC4), Kp.refl _ _, fun J4 hJ4 N nN => ?_⟩
      obtain ⟨G4, g4, W4⟩ := hJ4.walk
      have lo : (L.map fun j => ds.getD j 0).length ≤ 60 := by rw [List.length_map]; omega
      refine lc_it W4 (fun j H' => Same H5 H' ∧ H' N = some (.lst ((((L.map fun j => ds.getD j 0).take j).filter fun o => decide (o = ns[i])).map V.int))) ⟨same_new nN, upd_same⟩ (fun j H' _ z => g4 H' (.ofS z.1)) ?_ ?_
      · rintro j x H6 H7 hj ⟨sm, hN⟩ ⟨rfl, gx2⟩
        rw [List.length_map] at hj
        obtain rfl : .int (L.map fun j => ds.getD j 0)[j] = x := by
          have g5 : ((L.map fun j => ds.getD j 0).map V.int)[j]? = some (.int (L.map fun j => ds.getD j 0)[j]) := by rw [List.getElem?_map, List.getElem?_eq_getElem hj]; rfl
          exact Option.some.inj (g5.symm.trans gx2)
        refine ⟨rfl, _, rfl, _, rfl, rfl, _, rfl, ite2 (fun c => ?_) (fun c => ?_)⟩
        · have c0 : (L.map fun j => ds.getD j 0)[j] = ns[i] := V.int.inj (of_decide_eq_true c)
          refine ⟨_, rfl, _, hN, fl _ j lo, same_over sm nN, ?_⟩
          rw [upd_same, f _ j hj, if_pos c0, List.map_append]
          rfl
        · have c0 : ¬ (L.map fun j => ds.getD j 0)[j] = ns[i] := fun z => c (decide_eq_true (by rw [z]))
          refine ⟨sm, ?_⟩
          rw [hN, f _ j hj, if_neg c0, List.append_nil]
      rintro H6 ⟨s6, hN⟩
      rw [List.length_map, List.take_length] at hN
      refine ⟨N, _, rfl, .inl (SqL.of hN), ?_⟩
      have s46 := s5.trans s6
      have hF6 := s46 _ _ hF4
      -- sorts.append
      refine ⟨_, rfl, .inl ⟨rfl, _, SqL.of hF6⟩, _, rfl, _, rfl, _, rfl, _, rfl, _, _, rfl, rfl, (by show 3 ≤ sizeLine; decide), fun u nu => ?_⟩
      have lu : us.length = i := by
        rw [hu4.1]
        unfold sortsOf
        rw [List.length_map, List.length_take]
        omega
      refine ⟨F, _, _, rfl, rfl, same_new nu _ _ hF6, ?_, _, _, _, us ++ [u], rfl, same_over ((s4.trans s46).trans (same_new nu)) nF0, ?_, ?_, ?_, ?_⟩
      · rw [List.length_map, lu]
        exact small1000 (by omega)
      · rw [upd_ne CF]
        exact same_new nu _ _ (s46 _ _ hC4)
      · rw [upd_ne bF]
        exact same_new nu _ _ (s46 _ _ hb4)
      · rw [upd_same, List.map_append]
        rfl
      · have e : sortsOf ds L (ns.take (i + 1)) = sortsOf ds L (ns.take i) ++ [(ns[i], ((L.map fun i => ds.getD i 0).filter fun o => decide (o = ns[i])).length, (ds.filter fun o => decide (o = ns[i])).length - ((L.map fun i => ds.getD i 0).filter fun o => decide (o = ns[i])).length)] := by
          unfold sortsOf
          rw [take_succ_get hi, List.map_append]
          rfl
        rw [e]
        refine ((hu4.same s46).push' (x := (ns[i], ((L.map fun i => ds.getD i 0).filter fun o => decide (o = ns[i])).length, (ds.filter fun o => decide (o = ns[i])).length - ((L.map fun i => ds.getD i 0).filter fun o => decide (o = ns[i])).length)) nu ?_).put (same_new nu _ _ hF6)
        have le := lying_le hL ns[i]
        unfold SrtV
        rw [List.length_map, List.length_map]
        dsimp only
        rw [show (((ds.filter fun o => decide (o = ns[i])).length - ((L.map fun i => ds.getD i 0).filter fun o => decide (o = ns[i])).length : Nat) : Int) = ((ds.filter fun o => decide (o = ns[i])).length : Int) - (((L.map fun i => ds.getD i 0).filter fun o => decide (o = ns[i])).length : Int) by omega]
    · rintro σ H4 ⟨y7, y8, y9, us, rfl, s4, hC4, hb4, hF4, hu4⟩
      rw [List.length_map, List.take_length] at hu4
      refine ⟨_, rfl, _, rfl, _, rfl, F, _, rfl, .inl ⟨SqL.of hF4, fun a2 na2 => ⟨(by show 3 ≤ sizeLine; decide), fun b2 nb2 => ?_⟩⟩⟩
      have sa2 : Same H4 (upd H4 a2 (.tup (us.map V.ref))) := same_new na2
      have sb2 := sa2.trans (same_new nb2 (o := .tup [.int h, .int t, .ref a2]))
      refine k _ _ (sortsOf ds L ns) (s4.trans sb2) ⟨b2, a2, us, rfl, SqA.t upd_same, SqA.t (same_new nb2 _ _ upd_same), (hu4.same sb2).a⟩ ?_ (sorts_rp hL nn fun d hd => (hm d).mpr (decide_eq_true hd))
      unfold sortsOf
      rw [List.length_map, hlen]
      omega
theorem ok_movers {k : Nat} (D : Df K mg "movers_of" s_movers_of) (T : Bt mg) (O_moving_mark : Ok P w K mg base k "moving_mark" s_moving_mark ["fleet", "lot"] (spMoving K)) (O_lot_of : Ok P w K mg base k "lot_of" s_lot_of ["fleet"] (spLotOf K)) (O_fleet_of : Ok P w K mg base k "fleet_of" s_fleet_of ["sea", "standing"] (spFleetOf K)) : Ok P w K mg base (k + 1) "movers_of" s_movers_of ["sea", "standing"] (spMovers K) := by
  refine D.ok sc_movers_of b_movers_of (fun vs H Q E h => ?_) (fun f cdv A outer s H vs Q E hr h => ?_)
  · obtain ⟨v, l, h, t, ds, L, rfl, _⟩ := h
    rfl
  · obtain ⟨v, l, h, t, ds, L, rfl, hv, hl, d1, d0, hL, k⟩ := h
    refine ⟨_, (pss_cons (ps_set (i := 2) sc_movers_of.nd rfl (.inl rfl) (pe_fn O_fleet_of (hr.mono (by omega)) (pa_cons (pv 0) (pa_cons (pv 1) pa_nil))))
      (pss_cons (ps_set (i := 3) sc_movers_of.nd rfl (.inr rfl) (pe_fn O_moving_mark (hr.mono (by omega)) (pa_cons (pv 2) (pa_cons (pe_fn O_lot_of (hr.mono (by omega)) (pa_cons (pv 2) pa_nil)) pa_nil))))
      (pss_cons (ps_if (pt_cmpR op_isN (pv 3) pe_non (nomark _))
        (pss_one (ps_ret (pe_lst pa_nil)))
        pss_nil)
      (pss_one (ps_ret (pe_lc (own := [("ship", 4), ("draught", 5)]) (g := (gSeq K 2 (gCons (gName 4) (gCons (gName 5) gNil)))) (by rfl) sc_movers_of.nd (pi_enumA (by rfl) T.enumerate_ (pa_cons (pe_ix ix_lt (pv 0) pe_int (fun _ _ => rfl)) pa_nil)) (blkOk_by (own := [("ship", 4), ("draught", 5)]) (N := (["sea", "standing", "fleet", "mark", "ship", "draught"] : List Str)) (sc := defScope s_movers_of) (by decide +kernel)) (fun _ _ _ _ _ => (pg_seq rfl (pgs_cons (pg_name (i := 4) sc_movers_of.nd rfl (.inl rfl)) (pgs_cons (pg_name (i := 5) sc_movers_of.nd rfl (.inl rfl)) pgs_nil)))) (fun _ _ _ _ _ => (pts_one (pt_cmpR op_le (pv 5) (pv 3) (nomark _)))) (fun _ _ _ _ _ => (pv 4)))))))), ?_⟩
    refine ⟨_, rfl, _, rfl, v, l, h, t, ds, L, rfl, hv, hl, d1, hL, fun H1 z ss s1 hz l1 r => ?_⟩
    refine ⟨_, rfl, _, rfl, z, h, t, ss, rfl, hz, l1, fun H2 pp kd s s2 np hp lf => ?_⟩
    have ls := lf.ships r d0
    have mv : ∀ i, i < ds.length → (Th.Moves ds.length (Gof h t ds) (mem L) i ↔ _) := fun i hi => ls.moves d0 hi
    have km := r.mny
    refine ⟨z, .ref pp, h, t, s, ss, kd, rfl, hz.same s2, l1, ⟨pp, rfl, SqA.t hp⟩, fun no H3 s3 => ?_, fun n0 n1 H3 s3 => ?_⟩
    · refine ⟨_, rfl, rfl, _, rfl, iteT ⟨Nat.zero_le _, fun a na => ?_⟩⟩
      have s03 := (s1.trans s2).trans s3
      refine k _ a [] (s03.trans (same_new na)) (s03.free na) upd_same ⟨Lot.nil _, fun i hi => ?_⟩
      rw [ex_moves hL hi, mv i hi]
      rw [km] at no
      exact ⟨fun z => (by cases z), fun z => (by omega)⟩
    · have s03 := (s1.trans s2).trans s3
      refine ⟨_, rfl, rfl, _, rfl, iteF ?_⟩
      rw [km] at n1
      rw [km]
      obtain ⟨p, q, rfl, hpp, hq⟩ := hv.same s03
      generalize em : mk h t ds.length (nextS kd s) = m
      rw [em] at mv
      refine ⟨_, rfl, p, _, 2, .ref q, rfl, rfl, hpp, rfl, q, _, H3, rfl, .inr hq, Kp.refl _ _, fun J hJ C nC => ?_⟩
      obtain ⟨G, g, W⟩ := hJ.walk
      refine lc_it W (fun i H' => Same H3 H' ∧ H' C = some (.lst (ni (gs m ds i)))) ⟨same_new nC, upd_same⟩ (fun i H' _ z => g H' (.ofS z.1)) ?_ ?_
      · rintro i x H4 H5 hi ⟨sm, hC⟩ ⟨u, x1, x2, rfl, nu, rfl, g1, g2⟩
        rw [List.length_map] at hi
        obtain rfl : .int (i : Nat) = x1 := Option.some.inj g1
        obtain rfl : .int ds[i] = x2 := by
          have g3 : (ds.map V.int)[i]? = some (.int ds[i]) := by simp [hi]
          exact Option.some.inj (g3.symm.trans g2)
        have ed : ds.getD i 0 = ds[i] := by simp [hi]
        have s4 : Same H4 (upd H4 u (.tup [.int (i : Nat), .int ds[i]])) := same_new nu
        refine ⟨u, _, rfl, SqA.t upd_same, rfl, _, _, rfl, _, _, rfl, rfl, rfl, ?_⟩
        have sm2 := sm.trans s4
        have hC2 := s4 _ _ hC
        generalize upd H4 u (.tup [.int (i : Nat), .int ds[i]]) = H5 at sm2 hC2
        refine ⟨_, rfl, _, rfl, ds[i], m, rfl, rfl, _, rfl, ite2 (fun c => ?_) (fun c => ?_)⟩
        · have c0 : ds[i] ≤ m := of_decide_eq_true c
          refine ⟨_, rfl, _, hC2, ?_, same_over sm2 nC, ?_⟩
          · rw [ni_len]
            exact Nat.lt_of_le_of_lt gs_len (small1000 (by omega))
          · rw [upd_same, gs_succ, ed, if_pos c0, ni_app]
            rfl
        · have c0 : ¬ ds[i] ≤ m := fun z => c (decide_eq_true z)
          refine ⟨sm2, ?_⟩
          rw [hC2, gs_succ, ed, if_neg c0, List.append_nil]
      · rintro H4 ⟨sm, hC⟩
        rw [List.length_map] at hC
        refine k H4 C _ (s03.trans sm) (s03.free nC) hC ⟨(Lot.all _).filter _, fun i hi => ?_⟩
        rw [ex_moves hL hi, mv i hi]
        unfold gs
        rw [List.mem_filter, List.mem_range, decide_eq_true_eq]
        exact ⟨fun z => ⟨n0, n1, z.2⟩, fun z => ⟨hi, z.2.2⟩⟩
def spFast (K : PySem.W.Frag) : Sp := fun vs H Q _ => ∃ (v l : V) (h t m : Int) (ds : List Int) (L : List Nat), vs = [v, l, .int m] ∧ SeaA K H v h t ds ∧ LotA K H l L ∧ ds.length ≤ 1000 ∧ Lot ds.length L ∧ ∀ (H' : Hp) (p : Addr), Same H H' → H p = none → H' p = some (.lst (ni (L.filter fun i => decide (ds.getD i 0 > m)))) → Q (.ref p) H'
theorem ok_fast {k : Nat} (D : Df K mg "fast_ones" s_fast_ones) (T : Bt mg) : Ok P w K mg base (k + 1) "fast_ones" s_fast_ones ["sea", "standing", "mark"] (spFast K) := by
  refine D.ok sc_fast_ones b_fast_ones (fun vs H Q E h => ?_) (fun f cdv A outer s H vs Q E hr h => ?_)
  · obtain ⟨v, l, h, t, m, ds, L, rfl, _⟩ := h
    rfl
  · obtain ⟨v, l, h, t, m, ds, L, rfl, ⟨p, q, rfl, hp, hq⟩, ⟨pl, rfl, hl⟩, d1, hL, k⟩ := h
    have ll := hL.len
    refine ⟨_, (pss_cons (ps_set (i := 3) sc_fast_ones.nd rfl (.inr rfl) (pe_ix ix_lt (pv 0) pe_int (fun _ _ => rfl)))
      (pss_one (ps_ret (pe_lc (own := [("ship", 4)]) (g := (gName 4)) (by rfl) sc_fast_ones.nd (pi_seq (pv 1)) (blkOk_by (own := [("ship", 4)]) (N := (["sea", "standing", "mark", "draughts", "ship"] : List Str)) (sc := defScope s_fast_ones) (by decide +kernel)) (fun _ _ _ _ _ => (pg_name (i := 4) sc_fast_ones.nd rfl (.inl rfl))) (fun _ _ _ _ _ => (pts_one (pt_cmpR op_gt (pe_ix (ix_ltK K) (pv 3) (pv 4) (fun _ _ => rfl)) (pv 2) (nomark _)))) (fun _ _ _ _ _ => (pv 4)))))), ?_⟩
    refine ⟨_, rfl, p, _, 2, .ref q, rfl, rfl, hp, rfl, ?_⟩
    refine ⟨_, rfl, pl, _, H, rfl, hl, Kp.refl _ _, fun J hJ C nC => ?_⟩
    obtain ⟨G, g, W⟩ := hJ.walk
    refine lc_it W (fun j H' => Same H H' ∧ H' C = some (.lst (ni ((L.take j).filter fun i => decide (ds.getD i 0 > m))))) ⟨same_new nC, upd_same⟩ (fun j H' _ z => g H' (.ofS z.1)) ?_ ?_
    · rintro j x H1 H2 hj ⟨sm, hC⟩ ⟨rfl, gx⟩
      rw [ni_len] at hj
      obtain rfl : .int ((L[j] : Nat) : Int) = x := Option.some.inj ((ni_get hj).symm.trans gx)
      have hlt := hL.lt L[j] (List.getElem_mem hj)
      refine ⟨rfl, _, rfl, _, rfl, q, _, _, .int (ds.getD L[j] 0), rfl, rfl, Same.sqA sm hq, at_nat rfl (by simp [hlt]), _, rfl, _, _, rfl, rfl, _, rfl, ite2 (fun c => ?_) (fun c => ?_)⟩
      · refine ⟨_, rfl, _, hC, ?_, same_over sm nC, ?_⟩
        · rw [ni_len]
          have h1 := List.length_filter_le (fun i => decide (ds.getD i 0 > m)) (L.take j)
          rw [List.length_take] at h1
          exact small1000 (by omega)
        · rw [upd_same, take_succ_get hj, List.filter_append, ni_app, List.filter_cons_of_pos (p := fun i => decide (ds.getD i 0 > m)) c]
          rfl
      · refine ⟨sm, ?_⟩
        rw [hC, take_succ_get hj, List.filter_append, List.filter_cons_of_neg (p := fun i => decide (ds.getD i 0 > m)) c]
        simp
    · rintro H1 ⟨sm, hC⟩
      rw [ni_len, List.take_length] at hC
      exact k H1 C sm nC hC
theorem fast_eq {c : Nat} {L M : List Nat} (hL : Lot c L) (hM : Lot c M) (f : Nat → Bool) : (L.filter f).map (fun (i : Nat) => (i : Int)) = (M.filter f).map (fun (i : Nat) => (i : Int)) ↔ ∀ i, i < c → f i = true → mem M i = mem L i := by
  have fm : ∀ (X : List Nat) i, mem (X.filter f) i = (mem X i && f i) := fun X i => by
    unfold mem
    rw [Bool.eq_iff_iff, decide_eq_true_eq, List.mem_filter, Bool.and_eq_true, decide_eq_true_eq]
  constructor
  · intro e i hi hf
    have e2 := congrArg (List.map Int.toNat) e
    rw [List.map_map, List.map_map] at e2
    have e3 : (Int.toNat ∘ fun (i : Nat) => (i : Int)) = id := by
      funext i
      exact Int.toNat_natCast i
    rw [e3, List.map_id, List.map_id] at e2
    have a := fm L i
    have b := fm M i
    rw [e2, b, hf, Bool.and_true, Bool.and_true] at a
    exact a
  · intro q
    congr 1
    refine lot_ext (hL.filter _) (hM.filter _) fun i hi => ?_
    rw [fm, fm]
    cases e : f i with
    | false => rw [Bool.and_false, Bool.and_false]
    | true => rw [q i hi e]
theorem ok_comes {k : Nat} (D : Df K mg "comes_to" s_comes_to) (T : Bt mg) (O_lot_of : Ok P w K mg base k "lot_of" s_lot_of ["fleet"] (spLotOf K)) (O_fleet_of : Ok P w K mg base k "fleet_of" s_fleet_of ["sea", "standing"] (spFleetOf K))
    (O_mark_at : Ok P w K mg base k "mark_at" s_mark_at ["sea", "step"] (spMark K)) (O_fast_ones : Ok P w K mg base k "fast_ones" s_fast_ones ["sea", "standing", "mark"] (spFast K)) : Ok P w K mg base (k + 1) "comes_to" s_comes_to ["sea", "one", "other"] (spComes K) := by
  refine D.ok sc_comes_to b_comes_to (fun vs H Q E h => ?_) (fun f cdv A outer s H vs Q E hr h => ?_)
  · obtain ⟨v, l, m, h, t, ds, L, M, rfl, _⟩ := h
    rfl
  · obtain ⟨v, l, m, h, t, ds, L, M, rfl, hv, hl, hm, d1, d0, hL, hM, k⟩ := h
    have ho : ∀ i, ¬ i < ds.length → mem M i = mem L i := fun i hi => by rw [mem_out hL hi, mem_out hM hi]
    refine ⟨_, (pss_cons (ps_set (i := 3) sc_comes_to.nd rfl (.inl rfl) (pe_fn O_lot_of (hr.mono (by omega)) (pa_cons (pe_fn O_fleet_of (hr.mono (by omega)) (pa_cons (pv 0) (pa_cons (pv 1) pa_nil))) pa_nil)))
      (pss_cons (ps_if (pt_cmpR (op_neD hr.units) (pe_fn O_lot_of (hr.mono (by omega)) (pa_cons (pe_fn O_fleet_of (hr.mono (by omega)) (pa_cons (pv 0) (pa_cons (pv 2) pa_nil))) pa_nil)) (pv 3) (nomark _))
        (pss_one (ps_ret pe_bl))
        pss_nil)
      (pss_cons (ps_set (i := 4) sc_comes_to.nd rfl (.inl rfl) (pe_fn O_mark_at (hr.mono (by omega)) (pa_cons (pv 0) (pa_cons (pe_ix ix_lt (pv 3) pe_int (fun _ _ => rfl)) pa_nil))))
      (pss_one (ps_ret (pe_cmpR (op_eqD hr.units) (pe_fn O_fast_ones (hr.mono (by omega)) (pa_cons (pv 0) (pa_cons (pv 1) (pa_cons (pv 4) pa_nil)))) (pe_fn O_fast_ones (hr.mono (by omega)) (pa_cons (pv 0) (pa_cons (pv 2) (pa_cons (pv 4) pa_nil)))) (nomark _))))))), ?_⟩
    refine ⟨_, rfl, _, rfl, v, l, h, t, ds, L, rfl, hv, hl, d1, hL, fun H1 z ss s1 hz l1 r => ⟨z, h, t, ss, rfl, hz, l1, fun H2 p kd s s2 np hp lf => ?_⟩⟩
    have s02 := s1.trans s2
    have ls := lf.ships r d0
    refine ⟨_, rfl, _, rfl, v, m, h, t, ds, M, rfl, hv.same s02, hm.same s02, d1, hM, fun H3 z' ss' s3 hz' l1' r' => ⟨z', h, t, ss', rfl, hz', l1', fun H4 p' kd' s' s4 np' hp' lf' => ?_⟩⟩
    have s24 := s3.trans s4
    have s04 := s02.trans s24
    have ls' := lf'.ships r' d0
    have cm := ls.comes d0 ls' ho
    refine ⟨_, rfl, .tuple [.str kd'.str, .int s'], .tuple [.str kd.str, .int s], .tup (SqT.of hp') (.cons (.str _) (.cons (.int _) .nil)), .tup (SqT.of (s24 _ _ hp)) (.cons (.str _) (.cons (.int _) .nil)), shaped_lot _ _, shaped_lot _ _, _, rfl, ?_⟩
    rw [eqv_lot]
    by_cases e : kd = kd' ∧ s = s'
    · obtain ⟨e1, e2⟩ := e
      subst e1
      subst e2
      rw [decide_eq_true rfl, decide_eq_true rfl]
      refine iteF ?_
      refine ⟨_, rfl, _, rfl, p, _, 1, .int s, rfl, rfl, SqA.t (s24 _ _ hp), rfl, v, h, t, s, ds, rfl, (hv.same s04).a, ?_⟩
      refine ⟨_, rfl, _, rfl, _, rfl, v, l, h, t, _, ds, L, rfl, (hv.same s04).a, hl.same s04, by omega, hL, fun H5 a1 s5 na1 ha1 => ?_⟩
      have s05 := s04.trans s5
      refine ⟨_, rfl, _, rfl, _, rfl, v, m, h, t, _, ds, M, rfl, (hv.same s05).a, hm.same s05, by omega, hM, fun H6 a2 s6 na2 ha2 => ?_⟩
      refine ⟨_, _, dp_ni (s6 _ _ ha1), dp_ni ha2, shaped_ints _, shaped_ints _, ?_⟩
      rw [eqv_ints]
      refine k H6 _ (s05.trans s6) ?_
      rw [decide_eq_true_eq, fast_eq hL hM]
      refine Iff.trans ?_ cm.symm
      constructor
      · intro q
        exact ⟨⟨rfl, rfl⟩, fun i hi z => q i hi (decide_eq_true (by omega))⟩
      · rintro ⟨_, q⟩ i hi z
        have z' : ds.getD i 0 > mk h t ds.length s := of_decide_eq_true z
        exact q i hi (by show ¬ ds.getD i 0 ≤ _; omega)
    · have no : (decide (kd'.str = kd.str) && decide (s' = s)) = false := by
        rw [Bool.and_eq_false_iff, decide_eq_false_iff_not, decide_eq_false_iff_not]
        by_cases e1 : kd'.str = kd.str
        · exact .inr fun e2 => e ⟨(Kd.str_inj e1).symm, e2.symm⟩
        · exact .inl e1
      rw [no]
      refine iteT (k H4 false s04 ?_)
      exact ⟨fun z => (by cases z), fun z => absurd (cm.mp z).1 e⟩
end
end Sh

namespace Sh
open PySem PySem.Spec PyProof.Rows L2
/-! ### comprehensions in short -/
/-- [x for x in xs if test], xs ships: those of whom the test says p -/
theorem lc_filter {σ : L2.St} {H : Hp} {C : Addr} {vs : List Nat} {i : Nat} {tt : TT} {Qd : Hp → Prop} {X : List Nat} {J : It} {G : Hp → Prop} (p : Nat → Bool) (W : Walk J (ni X).length G (YAt (ni X))) (g : ∀ H', Same H H' → G H') (nC : H C = none) (lX : X.length ≤ 1000)
    (hw : ∀ v, wipe ((wipe σ vs).set i (some v)) vs = wipe σ vs) (hv : ∀ v : V, ((wipe σ vs).set i (some v))[i]? = some (some v))
    (ht : ∀ x ∈ X, ∀ H', Same H H' → ∀ Q : Bool → Hp → Prop, Q (p x) H' → tt ((wipe σ vs).set i (some (.int (x : Int)))) H' Q) (hd : ∀ H', Same H H' → H' C = some (.lst (ni (X.filter p))) → Qd H') :
    ∃ W : Nat → Nat → Hp → Prop, (∃ m, W 0 m (upd H C (.lst []))) ∧ ∀ j m H, W j m H →
      (J.stop j H ∧ Qd H) ∨ (J.go j H ∧ ∃ Nx : Hp → Prop, (∀ H', Nx H' → ∃ m', m' < m ∧ W (j + 1) m' H') ∧ ∀ x H', J.yld j H x H' → gName i x (wipe σ vs) H' fun σ2 H2 => wipe σ2 vs = wipe σ vs ∧ tt σ2 H2 fun b H3 =>
        if b = true then tVar i σ2 H3 fun y H4 => ∃ acc, H4 C = some (.lst acc) ∧ acc.length < sizeLine ∧ Nx (upd H4 C (.lst (acc ++ [y]))) else Nx H3) := by
  refine lc_it W (fun j H' => Same H H' ∧ H' C = some (.lst (ni ((X.take j).filter p)))) ⟨same_new nC, upd_same⟩ (fun j H' _ z => g H' z.1) ?_ ?_
  · rintro j x H3 H4 hj ⟨s3, hC⟩ ⟨rfl, gx⟩
    rw [ni_len] at hj
    obtain rfl : .int ((X[j] : Nat) : Int) = x := Option.some.inj ((ni_get hj).symm.trans gx)
    refine ⟨hw _, ht X[j] (List.getElem_mem hj) _ s3 _ ?_⟩
    cases e : p X[j] with
    | true =>
      rw [if_pos rfl]
      refine ⟨_, hv _, _, hC, ?_, same_over s3 nC, ?_⟩
      · rw [ni_len]
        have h1 := List.length_filter_le p (X.take j)
        rw [List.length_take] at h1
        exact small1000 (by omega)
      · rw [upd_same, take_succ_get hj, List.filter_append, ni_app, List.filter_cons_of_pos e]
        rfl
    | false =>
      rw [if_neg Bool.false_ne_true]
      refine ⟨s3, ?_⟩
      rw [hC, take_succ_get hj, List.filter_append, List.filter_cons_of_neg (by rw [e]; exact Bool.false_ne_true)]
      simp
  · rintro H3 ⟨s3, hC⟩
    rw [ni_len, List.take_length] at hC
    exact hd H3 s3 hC
/-- all ships below n, as range walks them -/
theorem walk_rg (n : Nat) : Walk (Itr 0 n) (ni (List.range n)).length (fun _ => True) (YAt (ni (List.range n))) := by
  have e : (ni (List.range n)).length = n := by rw [ni_len, List.length_range]
  rw [e]
  refine ⟨fun _ _ hi _ => hi, fun _ _ => Nat.le_refl _, fun i H x H' hi _ y => ⟨y.1, ?_⟩⟩
  rw [ni_get (by rw [List.length_range]; exact hi), y.2, List.getElem_range, Int.zero_add]
/-- truths, one a ship: all([..]) -/
theorem lc_truths {σ : L2.St} {H : Hp} {C : Addr} {vs : List Nat} {i : Nat} {te : TE} {Qd : Hp → Prop} {X : List Nat} {J : It} {G : Hp → Prop} (W : Walk J (ni X).length G (YAt (ni X))) (g : ∀ H', Same H H' → G H') (nC : H C = none) (lX : X.length ≤ 1000)
    (hw : ∀ v, wipe ((wipe σ vs).set i (some v)) vs = wipe σ vs)
    (ht : ∀ x ∈ X, ∀ H', Same H H' → ∀ Q : V → Hp → Prop, (∀ H2, Same H' H2 → Q (.bl true) H2) → te ((wipe σ vs).set i (some (.int (x : Int)))) H' Q) (hd : ∀ H', Same H H' → H' C = some (.lst ((List.replicate X.length true).map V.bl)) → Qd H') :
    ∃ W : Nat → Nat → Hp → Prop, (∃ m, W 0 m (upd H C (.lst []))) ∧ ∀ j m H, W j m H →
      (J.stop j H ∧ Qd H) ∨ (J.go j H ∧ ∃ Nx : Hp → Prop, (∀ H', Nx H' → ∃ m', m' < m ∧ W (j + 1) m' H') ∧ ∀ x H', J.yld j H x H' → gName i x (wipe σ vs) H' fun σ2 H2 => wipe σ2 vs = wipe σ vs ∧ tYes σ2 H2 fun b H3 =>
        if b = true then te σ2 H3 fun y H4 => ∃ acc, H4 C = some (.lst acc) ∧ acc.length < sizeLine ∧ Nx (upd H4 C (.lst (acc ++ [y]))) else Nx H3) := by
  refine lc_it W (fun j H' => Same H H' ∧ H' C = some (.lst ((List.replicate j true).map V.bl))) ⟨same_new nC, upd_same⟩ (fun j H' _ z => g H' z.1) ?_ ?_
  · rintro j x H3 H4 hj ⟨s3, hC⟩ ⟨rfl, gx⟩
    rw [ni_len] at hj
    obtain rfl : .int ((X[j] : Nat) : Int) = x := Option.some.inj ((ni_get hj).symm.trans gx)
    refine ⟨hw _, tyes (iteT (ht X[j] (List.getElem_mem hj) _ s3 _ fun H5 s5 => ?_))⟩
    refine ⟨_, s5 _ _ hC, ?_, same_over (s3.trans s5) nC, ?_⟩
    · rw [List.length_map, List.length_replicate]
      exact small1000 (by omega)
    · rw [upd_same, List.replicate_succ', List.map_append]
      rfl
  · rintro H3 ⟨s3, hC⟩
    rw [ni_len] at hC
    exact hd H3 s3 hC
theorem all_true (n : Nat) : (List.replicate n true).all id = true := by simp
end Sh

namespace Sh
open PySem PySem.Spec PyProof.Rows L2
/-! ### what is told: seas and standings -/
/-- a standing told: a tuple that is read -/
def LotT (K : PySem.W.Frag) (H : Hp) (v : V) (L : List Nat) : Prop := ∃ p, v = .ref p ∧ SqT K H p (ni L)
theorem LotT.a {K : PySem.W.Frag} {H : Hp} {v : V} {L : List Nat} (h : LotT K H v L) : LotA K H v L := let ⟨p, e, q⟩ := h; ⟨p, e, .inr q⟩
theorem LotT.same {K : PySem.W.Frag} {H H' : Hp} {v : V} {L : List Nat} (h : LotT K H v L) (s : Same H H') : LotT K H' v L := let ⟨p, e, q⟩ := h; ⟨p, e, Same.tup s q⟩
theorem tup_but {K : PySem.W.Frag} {H H' : Hp} {b p : Addr} {n : Nat} {xs : List V} (q : SqT K H p xs) (x : BoxAt H b n) (u : But b H H') : SqT K H' p xs := by
  obtain ⟨ys, hb, _⟩ := x
  rcases q with (q | ⟨o, q⟩) | q
  · exact .inl (.inl (u _ _ (ne_of q hb (by intro z; cases z)) q))
  · exact .inl (.inr ⟨o, u _ _ (ne_of q hb (by intro z; cases z)) q⟩)
  · exact .inr q
theorem LotT.but {K : PySem.W.Frag} {H H' : Hp} {b : Addr} {n : Nat} {v : V} {L : List Nat} (h : LotT K H v L) (x : BoxAt H b n) (u : But b H H') : LotT K H' v L := let ⟨p, e, q⟩ := h; ⟨p, e, tup_but q x u⟩
theorem LotT.dp {K : PySem.W.Frag} {H : Hp} {v : V} {L : List Nat} (h : LotT K H v L) : Dp K H v (.tuple ((L.map fun (i : Nat) => (i : Int)).map .int)) := by
  obtain ⟨p, e, q⟩ := h
  rw [e]
  rw [ni_ints] at q
  exact .tup q (DpAll.ints _)
/-- a sea told -/
def SeaT (K : PySem.W.Frag) (H : Hp) (v : V) (h t : Int) (ds : List Int) : Prop := ∃ p q, v = .ref p ∧ SqT K H p [.int h, .int t, .ref q] ∧ SqT K H q (ds.map V.int)
theorem SeaT.a {K : PySem.W.Frag} {H : Hp} {v : V} {h t : Int} {ds : List Int} (s : SeaT K H v h t ds) : SeaA K H v h t ds := let ⟨p, q, e, a, b⟩ := s; ⟨p, q, e, .inr a, .inr b⟩
theorem SeaT.same {K : PySem.W.Frag} {H H' : Hp} {v : V} {h t : Int} {ds : List Int} (s : SeaT K H v h t ds) (e : Same H H') : SeaT K H' v h t ds := let ⟨p, q, e1, a, b⟩ := s; ⟨p, q, e1, Same.tup e a, Same.tup e b⟩
theorem SeaT.but {K : PySem.W.Frag} {H H' : Hp} {b : Addr} {n : Nat} {v : V} {h t : Int} {ds : List Int} (s : SeaT K H v h t ds) (x : BoxAt H b n) (u : But b H H') : SeaT K H' v h t ds := let ⟨p, q, e1, a, c⟩ := s; ⟨p, q, e1, tup_but a x u, tup_but c x u⟩
theorem SeaT.dp {K : PySem.W.Frag} {H : Hp} {v : V} {h t : Int} {ds : List Int} (s : SeaT K H v h t ds) : Dp K H v (.tuple [.int h, .int t, .tuple (ds.map .int)]) := by
  obtain ⟨p, q, e, a, b⟩ := s
  rw [e]
  exact .tup a (.cons (.int _) (.cons (.int _) (.cons (.tup b (DpAll.ints _)) .nil)))
end Sh

namespace Th
section
variable {k : Nat} {G : Nat → Nat → Bool} {S U : Nat → Bool}
/-- what lies beyond the ships doesn't matter -/
theorem Reach.ext (h : Reach k G S U) : ∀ {S' U' : Nat → Bool}, (∀ i, i < k → S' i = S i) → (∀ i, i < k → U' i = U i) → (∀ i, ¬ i < k → U' i = S' i) → Reach k G S' U' := by
  induction h with
  | refl =>
    intro S' U' a b c
    have : U' = S' := by
      funext i
      by_cases hi : i < k
      · rw [b i hi, a i hi]
      · exact c i hi
    rw [this]
    exact .refl _
  | @step B W r s ih =>
    intro S' U' a b c
    have r' := ih (S' := S') (U' := fun i => if i < k then B i else S' i) a (fun i hi => by show (if i < k then B i else S' i) = B i; rw [if_pos hi]) (fun i hi => by show (if i < k then B i else S' i) = S' i; rw [if_neg hi])
    refine r'.step ?_
    have cB : cnt k (fun i => if i < k then B i else S' i) = cnt k B := cnt_congr fun i hi => by show (if i < k then B i else S' i) = B i; rw [if_pos hi]
    have fl : ∀ i, i < k → W = flip B i → U' = flip (fun i => if i < k then B i else S' i) i := fun i hi e => by
      funext j
      by_cases hj : j < k
      · rw [b j hj, e]
        by_cases z : j = i
        · subst z
          rw [flip_self, flip_self]
          show _ = !(if j < k then B j else S' j)
          rw [if_pos hj]
        · rw [flip_ne _ z, flip_ne _ z]
          show _ = (if j < k then B j else S' j)
          rw [if_pos hj]
      · rw [c j hj, flip_ne _ (show j ≠ i by omega)]
        show _ = (if j < k then B j else S' j)
        rw [if_neg hj]
    cases s with
    | @up i hi hs hg =>
      rw [fl i hi rfl]
      exact .up hi (by show (if i < k then B i else S' i) = false; rw [if_pos hi]; exact hs) (by rw [cB]; exact hg)
    | @dn i hi hs hg =>
      rw [fl i hi rfl]
      exact .dn hi (by show (if i < k then B i else S' i) = true; rw [if_pos hi]; exact hs) (by rw [cB]; exact hg)
end
end Th
namespace Sh
open PySem PySem.Spec PyProof.Rows L2
theorem away_away {c : Nat} {L : List Nat} (h : Lot c L) : away c (away c L) = L := lot_ext (away_lot c _) h fun i hi => by rw [mem_away hi, mem_away hi, Bool.not_not]
theorem away_len {c : Nat} {L : List Nat} (h : Lot c L) : (away c L).length + L.length = c := by
  rw [← cnt_mem h, ← cnt_mem (away_lot c L), Th.cnt_congr (S := mem (away c L)) (U := Th.co (mem L)) fun i hi => mem_away hi]
  have := Th.cnt_co c (mem L)
  omega
theorem gof_turn {h t : Int} {ds : List Int} {s i : Nat} (hs : s < ds.length) : Th.dual ds.length (Gof h t ds) s i = Gof t h ds s i := by
  unfold Th.dual Gof
  rw [mk_turn hs]
theorem rl_turn {h t : Int} {ds : List Int} {L M : List Nat} (hL : Lot ds.length L) (hM : Lot ds.length M) (r : Rl h t ds L M) : Rl t h ds (away ds.length L) (away ds.length M) := by
  have r2 := (Th.Reach.dual r).congr (G' := Gof t h ds) fun s i hs => gof_turn hs
  exact r2.ext (fun i hi => mem_away hi) (fun i hi => mem_away hi) (fun i hi => by rw [mem_out (away_lot _ _) hi, mem_out (away_lot _ _) hi])
theorem near_away {c : Nat} {L : List Nat} (h : Lot c L) {i : Nat} (hi : i < c) : near (away c L) i = c - 1 - near L i := by
  have l1 := away_len h
  have l2 := h.len
  rw [near_cnt h hi, near_cnt (away_lot c L) hi]
  have m := mem_away (L := L) hi
  unfold mem at m
  by_cases z : i ∈ L
  · have z2 : ¬ i ∈ away c L := fun q => by rw [decide_eq_true q, decide_eq_true z] at m; cases m
    have lp : 0 < L.length := List.length_pos_iff.mpr (List.ne_nil_of_mem z)
    rw [if_pos z, if_neg z2]
    omega
  · have z2 : i ∈ away c L := by
      rw [decide_eq_false z] at m
      exact of_decide_eq_true m
    rw [if_neg z, if_pos z2]
    omega
theorem may_turn {h t : Int} {ds : List Int} {L : List Nat} (hL : Lot ds.length L) {i : Nat} (hi : i < ds.length) : mayB t h ds (away ds.length L) i = mayB h t ds L i := by
  rw [may_G, may_G, near_away hL hi]
  have hn : near L i < ds.length := by
    have l2 := hL.len
    rw [near_cnt hL hi]
    split
    · omega
    · rename_i z
      have : L.length ≠ ds.length := fun e => by
        have l1 := away_len hL
        have e0 : away ds.length L = [] := List.eq_nil_of_length_eq_zero (by omega)
        have m := mem_away (L := L) hi
        unfold mem at m
        rw [e0, decide_eq_false z] at m
        simp at m
      omega
  unfold Gof
  rw [mk_turn (h := h) (t := t) (by omega), show ds.length - 1 - (ds.length - 1 - near L i) = near L i by omega]
theorem most_turn {h t : Int} {ds : List Int} {L : List Nat} {m : Nat} (hL : Lot ds.length L) (a : IsLeast h t ds L m) : IsMost t h ds (away ds.length L) (ds.length - m) := by
  obtain ⟨⟨M, l1, r1, e1⟩, h1⟩ := a
  refine ⟨⟨away ds.length M, away_lot _ _, rl_turn hL l1 r1, ?_⟩, fun M' l2 r2 => ?_⟩
  · have := away_len l1
    omega
  · have r3 := rl_turn (away_lot _ _) l2 r2
    rw [away_away hL] at r3
    have := h1 _ (away_lot _ _) r3
    have := away_len l2
    omega
theorem least_turn {h t : Int} {ds : List Int} {L : List Nat} {m : Nat} (hL : Lot ds.length L) (a : IsMost h t ds L m) : IsLeast t h ds (away ds.length L) (ds.length - m) := by
  obtain ⟨⟨M, l1, r1, e1⟩, h1⟩ := a
  refine ⟨⟨away ds.length M, away_lot _ _, rl_turn hL l1 r1, ?_⟩, fun M' l2 r2 => ?_⟩
  · have := away_len l1
    omega
  · have r3 := rl_turn (away_lot _ _) l2 r2
    rw [away_away hL] at r3
    have := h1 _ (away_lot _ _) r3
    have := away_len l2
    omega
theorem movers_turn {h t : Int} {ds : List Int} {L ms : List Nat} (hL : Lot ds.length L) (a : IsMovers h t ds L ms) : IsMovers t h ds (away ds.length L) ms := by
  refine ⟨a.1, fun i hi => ?_⟩
  rw [a.2 i hi]
  constructor
  · rintro ⟨M, l, r, m⟩
    exact ⟨away ds.length M, away_lot _ _, rl_turn hL l r, by rw [may_turn l hi]; exact m⟩
  · rintro ⟨M, l, r, m⟩
    have r3 := rl_turn (away_lot _ _) l r
    rw [away_away hL] at r3
    exact ⟨away ds.length M, away_lot _ _, r3, by rw [may_turn l hi]; exact m⟩
/-! ### rows of crossings -/
def goes (h t : Int) (ds : List Int) : List Nat → List Nat → Option (List Nat)
  | L, [] => some L
  | L, i :: r => if i < ds.length ∧ mayB h t ds L i = true then goes h t ds (gone L i) r else none
theorem goes_app {h t : Int} {ds : List Int} : ∀ {r : List Nat} {L M : List Nat} (s : List Nat), goes h t ds L r = some M → goes h t ds L (r ++ s) = goes h t ds M s
  | [], L, M, s, e => by
    cases e
    rfl
  | i :: r, L, M, s, e => by
    unfold goes at e
    by_cases c : i < ds.length ∧ mayB h t ds L i = true
    · rw [if_pos c] at e
      show (if i < ds.length ∧ mayB h t ds L i = true then goes h t ds (gone L i) (r ++ s) else none) = _
      rw [if_pos c]
      exact goes_app s e
    · rw [if_neg c] at e
      cases e
theorem goes_rl {h t : Int} {ds : List Int} : ∀ {r : List Nat} {L M : List Nat}, Lot ds.length L → goes h t ds L r = some M → Lot ds.length M ∧ Rl h t ds L M
  | [], L, M, hL, e => by
    cases e
    exact ⟨hL, .refl _⟩
  | i :: r, L, M, hL, e => by
    unfold goes at e
    by_cases c : i < ds.length ∧ mayB h t ds L i = true
    · rw [if_pos c] at e
      obtain ⟨a, b⟩ := goes_rl (gone_lot hL c.1) e
      exact ⟨a, (rl_one hL c.1 c.2).trans b⟩
    · rw [if_neg c] at e
      cases e
theorem gone_gone {c : Nat} {L : List Nat} {i : Nat} (hL : Lot c L) (hi : i < c) : gone (gone L i) i = L := lot_ext (gone_lot (gone_lot hL hi) hi) hL fun j _ => by rw [gone_mem, gone_mem, Th.flip_flip]
theorem goes_back {h t : Int} {ds : List Int} : ∀ {r : List Nat} {L M : List Nat}, Lot ds.length L → goes h t ds L r = some M → goes h t ds M r.reverse = some L
  | [], L, M, hL, e => by
    cases e
    rfl
  | i :: r, L, M, hL, e => by
    unfold goes at e
    by_cases c : i < ds.length ∧ mayB h t ds L i = true
    · rw [if_pos c] at e
      have b := goes_back (gone_lot hL c.1) e
      rw [List.reverse_cons, goes_app [i] b]
      show (if i < ds.length ∧ mayB h t ds (gone L i) i = true then goes h t ds (gone (gone L i) i) [] else none) = _
      have m : mayB h t ds (gone L i) i = true := by rw [may_G, may_back (h := h) (t := t) hL c.1, ← may_G]; exact c.2
      rw [if_pos ⟨c.1, m⟩, gone_gone hL c.1]
      rfl
    · rw [if_neg c] at e
      cases e
theorem SeaT.d {K : PySem.W.Frag} {H : Hp} {v : V} {h t : Int} {ds : List Int} (s : SeaT K H v h t ds) : SeaD K H v h t ds := let ⟨p, q, e, a, b⟩ := s; ⟨p, q, e, .inr a, b⟩
def spOther (K : PySem.W.Frag) : Sp := fun vs H Q _ => ∃ (v l : V) (h t : Int) (ds : List Int) (L : List Nat), vs = [v, l] ∧ SeaA K H v h t ds ∧ LotA K H l L ∧ ds.length ≤ 100 ∧ Lot ds.length L ∧ ∀ (H' : Hp) (r : V), Same H H' → LotT K H' r (away ds.length L) → Q r H'
def spTurned (K : PySem.W.Frag) : Sp := fun vs H Q _ => ∃ (v : V) (h t : Int) (ds : List Int), vs = [v] ∧ SeaA K H v h t ds ∧ ds.length ≤ 100 ∧ ∀ (H' : Hp) (r : V), Same H H' → SeaT K H' r t h ds → Q r H'
/-- a row of ships is handed in: all may go -/
def spCrossedAll (K : PySem.W.Frag) : Sp := fun vs H Q _ => ∃ (v l r : V) (h t : Int) (ds : List Int) (L M row : List Nat), vs = [v, l, r] ∧ SeaA K H v h t ds ∧ LotA K H l L ∧ LotA K H r row ∧ ds.length ≤ 100 ∧ row.length ≤ 1000 ∧ Lot ds.length L ∧ goes h t ds L row = some M ∧
  ∀ (H' : Hp) (z : V), Same H H' → LotT K H' z M → Q z H'
end Sh

namespace Sh
open PySem PySem.Spec PyProof.Rows L2
theorem lets_mem {h t : Int} {ds : List Int} {L : List Nat} {i : Nat} : i ∈ lets h t ds L ds.length ↔ i < ds.length ∧ mayB h t ds L i = true := by
  unfold lets
  rw [List.mem_filter, List.mem_range]
theorem sqT_upd {K : PySem.W.Frag} {H : Hp} {p q : Addr} {xs ys : List V} {o : HO} (e : H p = some (.lst xs)) (h : SqT K H q ys) : SqT K (upd H p o) q ys := by
  rcases h with (h | ⟨u, h⟩) | h
  · exact .inl (.inl (by rw [upd_ne (ne_of h e (by intro z; cases z))]; exact h))
  · exact .inl (.inr ⟨u, by rw [upd_ne (ne_of h e (by intro z; cases z))]; exact h⟩)
  · exact .inr h
end Sh

namespace Sh
open PySem PySem.Spec PyProof.Rows L2 LamX
/-! ### all but the box, and tables, stand -/
def ButT (b : Addr) (H H' : Hp) : Prop := ∀ a o, a ≠ b → H a = some o → (∀ ps, o ≠ .tbl ps) → H' a = some o
section
variable {K : PySem.W.Frag} {H H1 H' : Hp} {b p : Addr} {n : Nat} {v : V} {h t : Int} {ds : List Int} {L : List Nat} {T : List (Addr × Str)}
theorem ButT.of (u : But b H H') : ButT b H H' := fun a o z e _ => u a o z e
theorem ButT.ext (e : ExtN H H') : ButT b H H' := fun a o _ x z => e a o x z
theorem ButT.trans (u : ButT b H H1) (w : ButT b H1 H') : ButT b H H' := fun a o z e m => w a o z (u a o z e m) m
theorem tabs_but (t : Tabs T H) (x : BoxAt H b n) (u : But b H H') : Tabs T H' := fun q hq => by
  obtain ⟨xs, hb, _⟩ := x
  obtain ⟨ps, h1, h2, h3⟩ := t q hq
  refine ⟨ps, u _ _ (ne_of h1 hb (by intro z; cases z)) h1, h2, fun pos cv hc => ?_⟩
  obtain ⟨c, e1, e2⟩ := h3 pos cv hc
  exact ⟨c, e1, u _ _ (ne_of e2 hb (by intro z; unfold CodeO at z; cases z)) e2⟩
theorem BoxAt.ext (x : BoxAt H b n) (e : ExtN H H') : BoxAt H' b n := let ⟨xs, hb, k⟩ := x; ⟨xs, e _ _ hb (fun _ z => by cases z), k⟩
theorem SeaT.ext (s : SeaT K H v h t ds) (e : ExtN H H') : SeaT K H' v h t ds := let ⟨p, q, a, x, y⟩ := s; ⟨p, q, a, ext_tup e x, ext_tup e y⟩
theorem LotT.ext (s : LotT K H v L) (e : ExtN H H') : LotT K H' v L := let ⟨p, a, x⟩ := s; ⟨p, a, ext_tup e x⟩
theorem Kp.ofE {xs : List V} (e : ExtN H H') (x : H p = some (.tup xs)) : Kp p H H' := fun o y => e _ _ y fun ps z => by
  rw [x] at y
  cases y
  cases z
theorem Kp.ofEl {xs : List V} (e : ExtN H H') (x : H p = some (.lst xs)) : Kp p H H' := fun o y => e _ _ y fun ps z => by
  rw [x] at y
  cases y
  cases z
end
def spRightT (Tl : List (Addr × Str)) : Sp := fun vs H Q _ => ∃ b : Addr, vs = [.ref b] ∧ BoxAt H b 100000 ∧ Tabs Tl H ∧ ∀ H', ButT b H H' → Tabs Tl H' → Q (.bl true) H'
end Sh
namespace Sh
open PySem PySem.Spec PyProof.Rows L2
theorem with_df {K : PySem.W.Frag} {mg : Str → Option Value} {R : Prop} {x : Str} {st : Stmt} {h : Heap} {f : Addr} {oc : Value} {od an : Option Addr} {sl : Array (Option Value)} {kV dc pm cd ct : Value} (X : K.In h) (G : h.Ns mainGlobals mg)
    (a : PySem.W.nsIn K mainGlobals x = some (some (.ref f))) (l : K.lookup f = some ⟨oc, od, .func (PySem.W.fnOf x x (defArgs st) (defBody st) (defScope st) .none kV dc pm an cd ct), sl⟩)
    (c : PySem.W.codeIn K cd x = true) (k : PySem.W.keepIn K (.ref f) = true) (r : Df K mg x st → R) : R := r ⟨f, _, fun_mk l c k, PySem.W.mg_of X G a⟩
end Sh

namespace Sh
open PySem PySem.Spec PyProof.Rows L2
theorem eqv_tup : ∀ ns ms : List Int, PyData.eqv (.tuple (ns.map .int)) (.tuple (ms.map .int)) = decide (ns = ms)
  | [], [] => rfl
  | [], _ :: _ => rfl
  | _ :: _, [] => rfl
  | n :: ns, m :: ms => by
    show ((n == m) && PyData.eqv (.tuple (ns.map .int)) (.tuple (ms.map .int))) = _
    rw [eqv_tup ns ms, Bool.eq_iff_iff, Bool.and_eq_true, beq_iff_eq, decide_eq_true_eq, decide_eq_true_eq]
    exact ⟨fun ⟨a, b⟩ => by rw [a, b], fun e => by injection e with a b; exact ⟨a, b⟩⟩
theorem shaped_tup (ns : List Int) : SeqAt.shaped (.tuple (ns.map .int)) = true := by
  have := shaped_ints ns
  exact this
theorem dp_niT {K : PySem.W.Frag} {H : Hp} {a : Addr} {L : List Nat} (h : SqT K H a (ni L)) : Dp K H (.ref a) (.tuple ((L.map fun (i : Nat) => (i : Int)).map .int)) := .tup h (by rw [ni_ints]; exact DpAll.ints _)
theorem ni_map_inj {L M : List Nat} : (L.map fun (i : Nat) => (i : Int)) = (M.map fun (i : Nat) => (i : Int)) ↔ L = M := by
  constructor
  · intro e
    have := congrArg (List.map Int.toNat) e
    rw [List.map_map, List.map_map, show (Int.toNat ∘ fun (i : Nat) => (i : Int)) = id from rfl, List.map_id, List.map_id] at this
    exact this
  · intro e
    rw [e]
theorem eqv_niT (L M : List Nat) : PyData.eqv (.tuple ((L.map fun (i : Nat) => (i : Int)).map .int)) (.tuple ((M.map fun (i : Nat) => (i : Int)).map .int)) = decide (L = M) := by
  rw [eqv_tup, Bool.eq_iff_iff, decide_eq_true_eq, decide_eq_true_eq]
  exact ni_map_inj
end Sh

namespace Sh
open PySem PySem.Spec PyProof.Rows L2 LamX
theorem SeaA.ext {K : PySem.W.Frag} {H H' : Hp} {v : V} {h t : Int} {ds : List Int} (s : SeaA K H v h t ds) (e : ExtN H H') : SeaA K H' v h t ds := let ⟨p, q, a, b, c⟩ := s; ⟨p, q, a, ext_sqA e b, ext_sqA e c⟩
theorem LotA.ext {K : PySem.W.Frag} {H H' : Hp} {v : V} {L : List Nat} (s : LotA K H v L) (e : ExtN H H') : LotA K H' v L := let ⟨p, a, b⟩ := s; ⟨p, a, ext_sqA e b⟩
theorem SeaD.ext {K : PySem.W.Frag} {H H' : Hp} {v : V} {h t : Int} {ds : List Int} (s : SeaD K H v h t ds) (e : ExtN H H') : SeaD K H' v h t ds := let ⟨p, q, a, b, c⟩ := s; ⟨p, q, a, ext_sqA e b, by first | exact ext_tup e c | exact ext_sqA e c⟩
end Sh

namespace Sh
open PySem PySem.Spec PyProof.Rows L2 LamX
/-! ### the program: who lies otherwise, the window between -/
def spOth (K : PySem.W.Frag) : Sp := fun vs H Q _ => ∃ (l m : V) (n : Nat) (L M : List Nat), vs = [l, m] ∧ LotA K H l L ∧ LotA K H m M ∧ n ≤ 24 ∧ Lot n L ∧ Lot n M ∧
  ∀ (H' : Hp) (p : Addr), Same H H' → H p = none → H' p = some (.lst (ni (othL n L M))) → Q (.ref p) H'
def spWinB (Tl : List (Addr × Str)) (K : PySem.W.Frag) : Sp := fun vs H Q _ => ∃ (v l m : V) (h t : Int) (ds : List Int) (L M : List Nat), vs = [v, l, m] ∧ SeaA K H v h t ds ∧ LotA K H l L ∧ LotA K H m M ∧ ds.length ≤ 24 ∧ Lot ds.length L ∧ Lot ds.length M ∧ othL ds.length L M ≠ [] ∧ Tabs Tl H ∧
  (∀ d, IsDeep ds L M d → ¬ lowI h d > highI t ds.length d) ∧
  ∀ (H' : Hp) (p : Addr) (d : Int), ExtN H H' → Tabs Tl H' → IsDeep ds L M d → H' p = some (.tup [.int (lowI h d), .int (highI t ds.length d)]) → Q (.ref p) H'
theorem set_keys {c : Nat} {ks ns : List Int} {X : List Nat} (e : ns = X.map fun (i : Nat) => (i : Int)) (lt : ∀ i ∈ X, i < c) (nd : ks.Nodup) (m : ∀ k, k ∈ ks ↔ k ∈ ns) (hc : c ≤ 24) : ks.length ≤ 24 := by
  have := nodup_len nd (m := (List.range c).map fun (i : Nat) => (i : Int)) fun k hk => by
    obtain ⟨i, hi, e2⟩ := List.mem_map.mp (e ▸ (m k).mp hk)
    exact List.mem_map.mpr ⟨i, List.mem_range.mpr (lt i hi), e2⟩
  rw [List.length_map, List.length_range] at this
  omega
theorem set_small {c : Nat} {ns : List Int} {X : List Nat} (e : ns = X.map fun (i : Nat) => (i : Int)) (lt : ∀ i ∈ X, i < c) (hc : c ≤ 24) : ∀ k : Int, decide (k ∈ ns) = true → 0 ≤ k ∧ k < 32 := fun k hk => by
  rw [decide_eq_true_eq, e] at hk
  obtain ⟨i, hi, rfl⟩ := List.mem_map.mp hk
  have := lt i hi
  omega
theorem map_in {X : List Nat} {i : Nat} : ((i : Int) ∈ X.map fun (j : Nat) => (j : Int)) ↔ i ∈ X := by
  rw [List.mem_map]
  exact ⟨fun ⟨j, hj, e⟩ => by
    have : j = i := by omega
    exact this ▸ hj, fun z => ⟨i, z, rfl⟩⟩
theorem oth_lot (n : Nat) (L M : List Nat) : Lot n (othL n L M) := (Lot.all n).filter _
theorem rise_oth {c : Nat} {ns : List Int} {L M : List Nat} (up : ns.Pairwise (· < ·)) (lt : ∀ k ∈ ns, 0 ≤ k ∧ k < (c : Int)) (m : ∀ i : Nat, i < c → ((i : Int) ∈ ns ↔ mem L i ≠ mem M i)) : ns = (othL c L M).map fun (i : Nat) => (i : Int) := by
  obtain ⟨X, rfl, hX⟩ := nat_list (c := c) (ns := ns) fun z hz => ⟨(lt z hz).1, (lt z hz).2⟩
  have pl : Lot c X := ⟨(List.pairwise_map.mp up).imp fun {a b} z => by omega, hX⟩
  congr 1
  refine lot_ext pl (oth_lot _ _ _) fun i hi => ?_
  have e := m i hi
  rw [map_in] at e
  unfold mem at e ⊢
  rw [Bool.eq_iff_iff, decide_eq_true_eq, decide_eq_true_eq, e, oth_mem]
  exact ⟨fun z => ⟨hi, z⟩, fun z => z.2⟩
abbrev s_otherwise_ones : Stmt := topS 46
theorem sc_otherwise_ones : FnScope (["one", "other"] : List Str) (["one", "other"] : List Str) (defScope s_otherwise_ones) := ⟨rfl, rfl, rfl, by decide +kernel, rfl, by decide +kernel, by decide +kernel⟩
theorem b_otherwise_ones (kV doc pm : Value) (an : Option Addr) (cdv ct : Value) (us : List Value) (hl : us.length = (["one", "other"] : List Str).length) : bindArgs (PySem.W.fnOf "otherwise_ones" "otherwise_ones" (defArgs s_otherwise_ones) (defBody s_otherwise_ones) (defScope s_otherwise_ones) .none kV doc pm an cdv ct) ⟨us, []⟩ = pure ((["one", "other"] : List Str).zip us) :=
  match us, hl with | [_, _], _ => rfl
abbrev s_window_between : Stmt := topS 47
theorem sc_window_between : FnScope (["sea", "one", "other", "draughts"] : List Str) (["sea", "one", "other"] : List Str) (defScope s_window_between) := ⟨rfl, rfl, rfl, by decide +kernel, rfl, by decide +kernel, by decide +kernel⟩
theorem b_window_between (kV doc pm : Value) (an : Option Addr) (cdv ct : Value) (us : List Value) (hl : us.length = (["sea", "one", "other"] : List Str).length) : bindArgs (PySem.W.fnOf "window_between" "window_between" (defArgs s_window_between) (defBody s_window_between) (defScope s_window_between) .none kV doc pm an cdv ct) ⟨us, []⟩ = pure ((["sea", "one", "other"] : List Str).zip us) :=
  match us, hl with | [_, _, _], _ => rfl
section
variable {P : Program} {w : World} {K : PySem.W.Frag} {mg : Str → Option Value} {base : Heap}
theorem ok_otherwise {k : Nat} (D : Df K mg "otherwise_ones" s_otherwise_ones) (T : Bt mg) : Ok P w K mg base (k + 1) "otherwise_ones" s_otherwise_ones ["one", "other"] (spOth K) := by
  refine D.ok sc_otherwise_ones b_otherwise_ones (fun vs H Q E h => ?_) (fun f cdv A outer s H vs Q E hr h => ?_)
  · obtain ⟨l, m, n, L, M, rfl, _⟩ := h
    rfl
  · obtain ⟨l, m, n, L, M, rfl, ⟨pl, rfl, hl⟩, ⟨pm, rfl, hm⟩, n24, hL, hM, q⟩ := h
    refine ⟨_, (pss_one (ps_ret (pe_callB (cr_sortedSetw w rfl) (by rfl) T.sorted_ (by decide +kernel) (pa_cons (pe_op (op_xorS w rfl) (pe_callTy (cr_setAw w rfl) (by rfl) T.set_ (by decide +kernel) (pa_cons (pv 0) pa_nil)) (pe_callTy (cr_setAw w rfl) (by rfl) T.set_ (by decide +kernel) (pa_cons (pv 1) pa_nil))) pa_nil)))), ?_⟩
    refine ⟨_, rfl, pl, L.map fun (i : Nat) => (i : Int), rfl, by rw [← ni_ints]; exact hl, by rw [List.length_map]; have := hL.len; omega, fun a ks na nd kk => ?_⟩
    have s1 : Same H (upd H a (SetO w a (fun j => decide (j ∈ L.map fun (i : Nat) => (i : Int))) ks.length)) := same_new na
    have e1 : upd H a (SetO w a (fun j => decide (j ∈ L.map fun (i : Nat) => (i : Int))) ks.length) a = some (SetO w a (fun j => decide (j ∈ L.map fun (i : Nat) => (i : Int))) ks.length) := upd_same
    generalize upd H a (SetO w a (fun j => decide (j ∈ L.map fun (i : Nat) => (i : Int))) ks.length) = H1 at s1 e1
    refine ⟨_, rfl, pm, M.map fun (i : Nat) => (i : Int), rfl, by rw [← ni_ints]; exact Same.sqA s1 hm, by rw [List.length_map]; have := hM.len; omega, fun a2 ks2 na2 nd2 kk2 => ?_⟩
    have ne : a ≠ a2 := ne_of_none e1 na2
    refine ⟨a, a2, _, _, _, _, rfl, rfl, ne, by rw [upd_ne ne]; exact e1, upd_same, set_keys rfl hL.lt nd kk n24, set_keys rfl hM.lt nd2 kk2 n24, set_small rfl hL.lt n24, set_small rfl hM.lt n24, fun p n' np ln => ?_⟩
    have s3 := s1.trans (same_new (o := SetO w a2 (fun j => decide (j ∈ M.map fun (i : Nat) => (i : Int))) ks2.length) na2)
    refine ⟨p, _, n', rfl, upd_same, by omega, fun ns3 p3 up3 m3 l3 np3 => ?_⟩
    have e3 : ns3 = (othL n L M).map fun (i : Nat) => (i : Int) := rise_oth up3 (fun z hz => ?_) (fun i hi => ?_)
    · subst e3
      refine q _ p3 (s3.trans ((same_new np).trans (same_new np3))) ?_ ?_
      · exact (s3.trans (same_new np)).free np3
      · rw [upd_same, ni_ints]
    · have z1 := (m3 z).mp hz
      have z2 : z ∈ (L.map fun (i : Nat) => (i : Int)) ∨ z ∈ (M.map fun (i : Nat) => (i : Int)) := by
        by_cases y : z ∈ (L.map fun (i : Nat) => (i : Int))
        · exact .inl y
        · by_cases y2 : z ∈ (M.map fun (i : Nat) => (i : Int))
          · exact .inr y2
          · rw [decide_eq_false y, decide_eq_false y2] at z1
            cases z1
      rcases z2 with y | y
      · obtain ⟨i, hi, rfl⟩ := List.mem_map.mp y
        have := hL.lt i hi
        omega
      · obtain ⟨i, hi, rfl⟩ := List.mem_map.mp y
        have := hM.lt i hi
        omega
    · rw [m3, bne_iff_ne]
      unfold mem
      have a1 : decide ((i : Int) ∈ L.map fun (j : Nat) => (j : Int)) = decide (i ∈ L) := by rw [Bool.eq_iff_iff, decide_eq_true_eq, decide_eq_true_eq, map_in]
      have a2 : decide ((i : Int) ∈ M.map fun (j : Nat) => (j : Int)) = decide (i ∈ M) := by rw [Bool.eq_iff_iff, decide_eq_true_eq, decide_eq_true_eq, map_in]
      rw [a1, a2]
theorem ok_winB {k : Nat} {c Pt : Addr} {Tl : List (Addr × Str)} (D : DfC K mg "window_between" s_window_between c) (T : Bt mg) (TB : TabB base mg c Pt) (hm : (Pt, ("window_between.<locals>.<lambda>" : Str)) ∈ Tl) (hu : ∀ q ∈ Tl, q.1 = Pt → q.2 = ("window_between.<locals>.<lambda>" : Str))
    (O_otherwise_ones : Ok P w K mg base k "otherwise_ones" s_otherwise_ones ["one", "other"] (spOth K)) (O_window_of : Ok P w K mg base k "window_of" s_window_of ["sea", "ship"] (spWindow K)) :
    Ok P w K mg base (k + 3) "window_between" s_window_between ["sea", "one", "other"] (spWinB Tl K) := by
  refine D.ok sc_window_between b_window_between (fun vs H Q E h => ?_) (fun f A outer s H vs Q E hr h => ?_)
  · obtain ⟨v, l, m, h, t, ds, L, M, rfl, _⟩ := h
    rfl
  · obtain ⟨v, l, m, h, t, ds, L, M, rfl, hv, hl, hm', d24, hL, hM, one, hT, hw, q1⟩ := h
    obtain ⟨p, q, rfl, hp, hq⟩ := id hv
    refine ⟨_, pss_cons (ps_set (i := 3) sc_window_between.nd rfl (.inr rfl) (pe_ix ix_lt (pv 0) pe_int (fun _ _ => rfl))) (pss_one (ps_ret (pe_fn O_window_of (hr.mono (by omega)) (pa_cons (pv 0) (pa_cons
      (pe_maxLam (T := Tl) (j := k) (hr.mono (by omega)) (p := "ship") TB rfl hm hu (lamS1_by (sc := defScope s_window_between) (q := "ship") (by decide +kernel)) (show ("ship" : Str) ∉ (["sea", "one", "other", "draughts"] : List Str) by decide) rfl (fun _ _ _ _ _ => rfl)
        (fun A outer s' H' f c' hr2 => pe_ix (ix_ltK K) (pv 3) (pv 4) (fun _ _ => rfl)) (pe_fn O_otherwise_ones (hr.mono (by omega)) (pa_cons (pv 1) (pa_cons (pv 2) pa_nil))) (by rfl) T.max_ (by decide +kernel)) pa_nil))))), ?_⟩
    refine ⟨_, rfl, p, _, 2, .ref q, rfl, rfl, hp, rfl, ?_⟩
    refine ⟨_, rfl, _, rfl, _, rfl, l, m, ds.length, L, M, rfl, hl, hm', d24, hL, hM, fun H1 po s1 np1 hpo => ?_⟩
    have hv1 := hv.same s1
    have hq1 := Same.sqA s1 hq
    refine ⟨po, (othL ds.length L M).map fun (i : Nat) => (i : Int), fun z => ds.getD z.toNat 0, rfl, by rw [hpo, ni_ints], fun z => one (List.map_eq_nil_iff.mp z), hT.ext s1, fun c' H2 e2 t2 hc => ⟨fun n hn => ?_, fun Mx hMx hbest => ?_⟩⟩
    · obtain ⟨i, hi, rfl⟩ := List.mem_map.mp hn
      have hi' := (oth_mem.mp hi).1
      refine ⟨.ref q, rfl, _, rfl, ?_⟩
      refine ⟨q, _, _, .int (ds.getD i 0), rfl, rfl, ext_sqA e2 hq1, at_nat (j := i) rfl (by simp [hi']), ?_⟩
      exact ⟨rfl, rfl⟩
    · obtain ⟨i, hi, rfl⟩ := List.mem_map.mp hMx
      have hi' := (oth_mem.mp hi).1
      have dp : IsDeep ds L M (ds.getD i 0) := ⟨⟨i, hi, rfl⟩, fun j hj => by
        have := hbest (j : Int) (List.mem_map.mpr ⟨j, hj, rfl⟩)
        simpa using this⟩
      refine ⟨.ref p, h, t, ds.getD i 0, i, ds, rfl, hv1.ext e2, by simp [hi'], fun z => absurd z (hw _ dp), fun _ r nr => ?_⟩
      exact q1 _ r _ ((ExtN.of s1).trans (e2.trans (ext_same (same_new nr)))) (t2.ext (same_new nr)) dp upd_same
end
end Sh

namespace Sh
open PySem PySem.Spec PyProof.Rows L2 LamX
/-! ### the program: lacks -/
def spAmong (K : PySem.W.Frag) : Sp := fun vs H Q _ => ∃ (v : V) (pc ps : Addr) (h t : Int) (ds : List Int) (C : List Nat) (ss : List Int), vs = [v, .ref pc, .ref ps] ∧ SeaA K H v h t ds ∧ SqA K H pc (ni C) ∧ C.length ≤ 100 ∧ (∀ i ∈ C, i < ds.length) ∧ SqL K H ps (ss.map V.int) ∧ 0 < ss.length ∧ ss.length ≤ 100 ∧
  ∀ (H' : Hp) (m : Int), Same H H' → m ∈ ss.map (mk h t ds.length) → (∀ y ∈ ss.map (mk h t ds.length), y ≤ m) → Q (.int (gaI ds m C : Nat)) H'
abbrev s_goers_among : Stmt := topS 49
theorem sc_goers_among : FnScope (["sea", "ships", "steps", "draughts", "mark", "step", "ship"] : List Str) (["sea", "ships", "steps"] : List Str) (defScope s_goers_among) := ⟨rfl, rfl, rfl, by decide +kernel, rfl, by decide +kernel, by decide +kernel⟩
theorem b_goers_among (kV doc pm : Value) (an : Option Addr) (cdv ct : Value) (us : List Value) (hl : us.length = (["sea", "ships", "steps"] : List Str).length) : bindArgs (PySem.W.fnOf "goers_among" "goers_among" (defArgs s_goers_among) (defBody s_goers_among) (defScope s_goers_among) .none kV doc pm an cdv ct) ⟨us, []⟩ = pure ((["sea", "ships", "steps"] : List Str).zip us) :=
  match us, hl with | [_, _, _], _ => rfl
section
variable {P : Program} {w : World} {K : PySem.W.Frag} {mg : Str → Option Value} {base : Heap}
theorem ok_among {k : Nat} (D : Df K mg "goers_among" s_goers_among) (T : Bt mg) (O_mark_at : Ok P w K mg base k "mark_at" s_mark_at ["sea", "step"] (spMark K)) : Ok P w K mg base (k + 1) "goers_among" s_goers_among ["sea", "ships", "steps"] (spAmong K) := by
  refine D.ok sc_goers_among b_goers_among (fun vs H Q E h => ?_) (fun f cdv A outer s H vs Q E hr h => ?_)
  · obtain ⟨v, pc, ps, h, t, ds, C, ss, rfl, _⟩ := h
    rfl
  · obtain ⟨v, pc, ps, h, t, ds, X, ss, rfl, hv, hc, c100, hlt, hs, s0, s100, q⟩ := h
    obtain ⟨p, qd, rfl, hp, hq⟩ := id hv
    refine ⟨_, (pss_cons (ps_set (i := 3) sc_goers_among.nd rfl (.inr rfl) (pe_ix ix_lt (pv 0) pe_int (fun _ _ => rfl)))
      (pss_cons (ps_set (i := 4) sc_goers_among.nd rfl (.inr rfl) (pe_callB (cr_max rfl) (by rfl) T.max_ (by decide +kernel) (pa_cons (pe_lc (own := [("step", 5)]) (g := (gName 5)) (tt := tYes) (by rfl) sc_goers_among.nd (pi_seq (pv 2)) (blkOk_by (own := [("step", 5)]) (N := (["sea", "ships", "steps", "draughts", "mark", "step", "ship"] : List Str)) (sc := defScope s_goers_among) (by decide +kernel)) (fun _ _ _ _ _ => (pg_name (i := 5) sc_goers_among.nd rfl (.inl rfl))) (fun _ _ _ _ _ => pts_nil) (fun _ _ _ _ _ => (pe_fn O_mark_at (hr.mono (by omega)) (pa_cons (pv 0) (pa_cons (pv 5) pa_nil))))) pa_nil)))
      (pss_one (ps_ret (pe_callB call_len_seq (by rfl) T.len_ PySem.boot_len (pa_cons (pe_lc (own := [("ship", 6)]) (g := (gName 6)) (by rfl) sc_goers_among.nd (pi_seq (pv 1)) (blkOk_by (own := [("ship", 6)]) (N := (["sea", "ships", "steps", "draughts", "mark", "step", "ship"] : List Str)) (sc := defScope s_goers_among) (by decide +kernel)) (fun _ _ _ _ _ => (pg_name (i := 6) sc_goers_among.nd rfl (.inl rfl))) (fun _ _ _ _ _ => (pts_one (pt_cmpR op_le (pe_ix (ix_ltK K) (pv 3) (pv 6) (fun _ _ => rfl)) (pv 4) (nomark _)))) (fun _ _ _ _ _ => (pv 6))) pa_nil)))))), ?_⟩
    refine ⟨_, rfl, p, _, 2, .ref qd, rfl, rfl, hp, rfl, ?_⟩
    refine ⟨_, rfl, ps, _, H, rfl, .inl hs, Kp.refl _ _, fun J hJ C nC => ?_⟩
    obtain ⟨G, g, W⟩ := hJ.walk
    refine lc_it W (fun j H' => Same H H' ∧ H' C = some (.lst (((ss.take j).map (mk h t ds.length)).map V.int))) ⟨same_new nC, upd_same⟩ (fun j H' _ z => g H' (.ofS z.1)) ?_ ?_
    · rintro j x H3 H4 hj ⟨s3, hC⟩ ⟨rfl, gx⟩
      rw [List.length_map] at hj
      obtain rfl : .int ss[j] = x := Option.some.inj ((by simp [hj] : (ss.map V.int)[j]? = some (.int ss[j])).symm.trans gx)
      refine ⟨rfl, tyes (iteT ?_)⟩
      refine ⟨_, rfl, _, rfl, .ref p, h, t, ss[j], ds, rfl, hv.same s3, _, hC, ?_, same_over s3 nC, ?_⟩
      · rw [List.length_map, List.length_map, List.length_take]
        exact small1000 (by omega)
      · rw [upd_same, List.take_succ_eq_append_getElem hj, List.map_append, List.map_append]
        rfl
    · rintro H1 ⟨s1, hC⟩
      rw [List.length_map] at hC
      rw [List.take_length] at hC
      refine ⟨C, _, rfl, SqL.of hC, by rw [List.length_map]; exact s0, fun m hm hb => ?_⟩
      refine ⟨_, rfl, pc, _, H1, rfl, Same.sqA s1 hc, Kp.refl _ _, fun J2 hJ2 C2 nC2 => ?_⟩
      obtain ⟨G2, g2, W2⟩ := hJ2.walk
      refine lc_it W2 (fun j H' => Same H1 H' ∧ H' C2 = some (.lst (ni ((X.take j).filter fun i => decide (ds.getD i 0 ≤ m))))) ⟨same_new nC2, upd_same⟩ (fun j H' _ z => g2 H' (.ofS z.1)) ?_ ?_
      · rintro j x H3 H4 hj ⟨s3, hC3⟩ ⟨rfl, gx⟩
        rw [ni_len] at hj
        obtain rfl : .int ((X[j] : Nat) : Int) = x := Option.some.inj ((ni_get hj).symm.trans gx)
        have hi' := hlt X[j] (List.getElem_mem hj)
        refine ⟨rfl, ?_⟩
        refine ⟨_, rfl, _, rfl, qd, _, _, .int (ds.getD X[j] 0), rfl, rfl, Same.sqA (s1.trans s3) hq, at_nat (j := X[j]) rfl (by simp [hi']), ?_⟩
        refine ⟨_, rfl, _, _, rfl, rfl, _, rfl, ite2 (fun c => ?_) (fun c => ?_)⟩
        · have c0 : ds.getD X[j] 0 ≤ m := of_decide_eq_true c
          refine ⟨_, rfl, _, hC3, ?_, same_over s3 nC2, ?_⟩
          · rw [ni_len]
            have h1 := List.length_filter_le (fun i => decide (ds.getD i 0 ≤ m)) (X.take j)
            rw [List.length_take] at h1
            exact small1000 (by omega)
          · rw [upd_same, List.take_succ_eq_append_getElem hj, List.filter_append, List.filter_cons_of_pos (by simpa using c0), List.filter_nil]
            unfold ni
            rw [List.map_append]
            rfl
        · have c0 : ¬ ds.getD X[j] 0 ≤ m := fun z => c (decide_eq_true z)
          refine ⟨s3, ?_⟩
          rw [hC3, List.take_succ_eq_append_getElem hj, List.filter_append, List.filter_cons_of_neg (by simpa using c0), List.filter_nil, List.append_nil]
      · rintro H2 ⟨s2, hC2⟩
        rw [ni_len, List.take_length] at hC2
        refine ⟨C2, _, rfl, .inl (SqL.of hC2), ?_⟩
        rw [ni_len]
        exact q H2 m (s1.trans s2) hm hb
end
end Sh

namespace Sh
open PySem PySem.Spec PyProof.Rows L2 LamX
/-! ### the program: both ways, what a paper shows -/
def WaysAt (K : PySem.W.Frag) (H : Hp) (p : Addr) (ws : List (List Nat × List Nat)) : Prop := ∃ ts : List Addr, H p = some (.lst (ts.map V.ref)) ∧ ts.length = ws.length ∧ ∀ (j : Nat) (hj : j < ts.length) (hw : j < ws.length), ∃ (a b : V) (c : Addr),
  H ts[j] = some (.tup [a, b, .ref c]) ∧ LotA K H a ws[j].1 ∧ LotA K H b ws[j].2 ∧ H c = some (.lst (ni (comL ws[j].1 ws[j].2)))
theorem WaysAt.ext {K : PySem.W.Frag} {H H' : Hp} {p : Addr} {ws : List (List Nat × List Nat)} (z : WaysAt K H p ws) (e : ExtN H H') : WaysAt K H' p ws := by
  obtain ⟨ts, a, b, c⟩ := z
  refine ⟨ts, ext_lst e a, b, fun j hj hw => ?_⟩
  obtain ⟨x, y, z, h1, h2, h3, h4⟩ := c j hj hw
  exact ⟨x, y, z, ext_tupl e h1, h2.ext e, h3.ext e, ext_lst e h4⟩
def spWays (K : PySem.W.Frag) : Sp := fun vs H Q _ => ∃ (l m : V) (n : Nat) (L M : List Nat), vs = [l, m] ∧ LotA K H l L ∧ LotA K H m M ∧ n ≤ 24 ∧ Lot n L ∧ Lot n M ∧ ∀ (H' : Hp) (p : Addr), Same H H' → H p = none → WaysAt K H' p [(L, M), (M, L)] → Q (.ref p) H'
/-- the most of both ways -/
def spLacks (K : PySem.W.Frag) (val : Int → Int → List Int → List Nat → List Nat → Int → Int) : Sp := fun vs H Q _ => ∃ (v : V) (p : Addr) (h t s : Int) (ds : List Int) (ws : List (List Nat × List Nat)), vs = [v, .ref p, .int s] ∧ SeaA K H v h t ds ∧ WaysAt K H p ws ∧ ds.length ≤ 24 ∧ 0 < ws.length ∧ ws.length ≤ 100 ∧
  (∀ x ∈ ws, Lot ds.length x.1 ∧ Lot ds.length x.2) ∧ ∀ (H' : Hp) (m : Int), Same H H' → m ∈ ws.map (fun x => val h t ds x.1 x.2 s) → (∀ y ∈ ws.map (fun x => val h t ds x.1 x.2 s), y ≤ m) → Q (.int m) H'
def spLacks2 (K : PySem.W.Frag) : Sp := fun vs H Q _ => ∃ (v : V) (p : Addr) (h t s r : Int) (ds : List Int) (ws : List (List Nat × List Nat)), vs = [v, .ref p, .int s, .int r] ∧ SeaA K H v h t ds ∧ WaysAt K H p ws ∧ ds.length ≤ 24 ∧ 0 < ws.length ∧ ws.length ≤ 100 ∧
  (∀ x ∈ ws, Lot ds.length x.1 ∧ Lot ds.length x.2) ∧ ∀ (H' : Hp) (m : Int), Same H H' → m ∈ ws.map (fun x => vC h t ds x.1 x.2 s r) → (∀ y ∈ ws.map (fun x => vC h t ds x.1 x.2 s r), y ≤ m) → Q (.int m) H'
theorem com_lot {n : Nat} {L M : List Nat} (hM : Lot n M) : Lot n (comL L M) := hM.filter _
abbrev s_both_ways : Stmt := topS 50
theorem sc_both_ways : FnScope (["one", "other", "comers", "leavers", "ship"] : List Str) (["one", "other"] : List Str) (defScope s_both_ways) := ⟨rfl, rfl, rfl, by decide +kernel, rfl, by decide +kernel, by decide +kernel⟩
theorem b_both_ways (kV doc pm : Value) (an : Option Addr) (cdv ct : Value) (us : List Value) (hl : us.length = (["one", "other"] : List Str).length) : bindArgs (PySem.W.fnOf "both_ways" "both_ways" (defArgs s_both_ways) (defBody s_both_ways) (defScope s_both_ways) .none kV doc pm an cdv ct) ⟨us, []⟩ = pure ((["one", "other"] : List Str).zip us) :=
  match us, hl with | [_, _], _ => rfl
abbrev s_lacking_below : Stmt := topS 51
theorem sc_lacking_below : FnScope (["sea", "ways", "step", "start", "end", "comers"] : List Str) (["sea", "ways", "step"] : List Str) (defScope s_lacking_below) := ⟨rfl, rfl, rfl, by decide +kernel, rfl, by decide +kernel, by decide +kernel⟩
theorem b_lacking_below (kV doc pm : Value) (an : Option Addr) (cdv ct : Value) (us : List Value) (hl : us.length = (["sea", "ways", "step"] : List Str).length) : bindArgs (PySem.W.fnOf "lacking_below" "lacking_below" (defArgs s_lacking_below) (defBody s_lacking_below) (defScope s_lacking_below) .none kV doc pm an cdv ct) ⟨us, []⟩ = pure ((["sea", "ways", "step"] : List Str).zip us) :=
  match us, hl with | [_, _, _], _ => rfl
abbrev s_lacking_above : Stmt := topS 52
theorem sc_lacking_above : FnScope (["sea", "ways", "step", "start", "end", "comers"] : List Str) (["sea", "ways", "step"] : List Str) (defScope s_lacking_above) := ⟨rfl, rfl, rfl, by decide +kernel, rfl, by decide +kernel, by decide +kernel⟩
theorem b_lacking_above (kV doc pm : Value) (an : Option Addr) (cdv ct : Value) (us : List Value) (hl : us.length = (["sea", "ways", "step"] : List Str).length) : bindArgs (PySem.W.fnOf "lacking_above" "lacking_above" (defArgs s_lacking_above) (defBody s_lacking_above) (defScope s_lacking_above) .none kV doc pm an cdv ct) ⟨us, []⟩ = pure ((["sea", "ways", "step"] : List Str).zip us) :=
  match us, hl with | [_, _, _], _ => rfl
abbrev s_lacking_both : Stmt := topS 53
theorem sc_lacking_both : FnScope (["sea", "ways", "low", "high", "start", "end", "comers"] : List Str) (["sea", "ways", "low", "high"] : List Str) (defScope s_lacking_both) := ⟨rfl, rfl, rfl, by decide +kernel, rfl, by decide +kernel, by decide +kernel⟩
theorem b_lacking_both (kV doc pm : Value) (an : Option Addr) (cdv ct : Value) (us : List Value) (hl : us.length = (["sea", "ways", "low", "high"] : List Str).length) : bindArgs (PySem.W.fnOf "lacking_both" "lacking_both" (defArgs s_lacking_both) (defBody s_lacking_both) (defScope s_lacking_both) .none kV doc pm an cdv ct) ⟨us, []⟩ = pure ((["sea", "ways", "low", "high"] : List Str).zip us) :=
  match us, hl with | [_, _, _, _], _ => rfl
section
variable {P : Program} {w : World} {K : PySem.W.Frag} {mg : Str → Option Value} {base : Heap}
theorem ok_ways {k : Nat} (D : Df K mg "both_ways" s_both_ways) (T : Bt mg) : Ok P w K mg base (k + 1) "both_ways" s_both_ways ["one", "other"] (spWays K) := by
  refine D.ok sc_both_ways b_both_ways (fun vs H Q E h => ?_) (fun f cdv A outer s H vs Q E hr h => ?_)
  · obtain ⟨l, m, n, L, M, rfl, _⟩ := h
    rfl
  · obtain ⟨l, m, n, L, M, rfl, ⟨pl, rfl, hl⟩, ⟨pm, rfl, hm⟩, n24, hL, hM, q⟩ := h
    have lL := hL.len
    have lM := hM.len
    refine ⟨_, (pss_cons (ps_setLc (i := 2) (own := [("ship", 4)]) (g := (gName 4)) (by rfl) sc_both_ways.nd rfl rfl (sw_true rfl rfl rfl (by decide +kernel)) (pi_seq (pv 1)) (blkOk_by (own := [("ship", 4)]) (N := (["one", "other", "comers", "leavers", "ship"] : List Str)) (sc := defScope s_both_ways) (by decide +kernel)) (fun _ _ _ _ _ => (pg_name (i := 4) sc_both_ways.nd rfl (.inl rfl))) (fun _ _ _ _ _ => (pts_one (pt_cmpR (op_notInK K) (pv 4) (pv 0) (by rfl)))) (fun _ _ _ _ _ => (pv 4)))
      (pss_cons (ps_setLc (i := 3) (own := [("ship", 4)]) (g := (gName 4)) (by rfl) sc_both_ways.nd rfl rfl (sw_true rfl rfl rfl (by decide +kernel)) (pi_seq (pv 0)) (blkOk_by (own := [("ship", 4)]) (N := (["one", "other", "comers", "leavers", "ship"] : List Str)) (sc := defScope s_both_ways) (by decide +kernel)) (fun _ _ _ _ _ => (pg_name (i := 4) sc_both_ways.nd rfl (.inl rfl))) (fun _ _ _ _ _ => (pts_one (pt_cmpR (op_notInK K) (pv 4) (pv 1) (by rfl)))) (fun _ _ _ _ _ => (pv 4)))
      (pss_one (ps_ret (pe_lst (pa_cons (pe_tup (pa_cons (pv 0) (pa_cons (pv 1) (pa_cons (pv 2) pa_nil)))) (pa_cons (pe_tup (pa_cons (pv 1) (pa_cons (pv 0) (pa_cons (pv 3) pa_nil)))) pa_nil))))))), ?_⟩
    refine ⟨_, rfl, pm, _, H, rfl, hm, Kp.refl _ _, fun J hJ C nC => ?_⟩
    obtain ⟨G, g, W⟩ := hJ.walk
    refine lc_it W (fun j H' => Same H H' ∧ H' C = some (.lst (ni (comL L (M.take j))))) ⟨same_new nC, upd_same⟩ (fun j H' _ z => g H' (.ofS z.1)) ?_ ?_
    · rintro j x H3 H4 hj ⟨s3, hC⟩ ⟨rfl, gx⟩
      rw [ni_len] at hj
      obtain rfl : .int ((M[j] : Nat) : Int) = x := Option.some.inj ((ni_get hj).symm.trans gx)
      refine ⟨rfl, ?_⟩
      refine ⟨_, rfl, _, rfl, pl, _, rfl, Same.sqA s3 hl, rfl, ni_flat L, _, rfl, ?_⟩
      rw [if_pos rfl, in_ni]
      unfold comL at hC ⊢
      by_cases z : M[j] ∈ L
      · rw [decide_eq_true z, Bool.not_true]
        refine iteF ⟨s3, ?_⟩
        rw [hC, List.take_succ_eq_append_getElem hj, List.filter_append, List.filter_cons_of_neg (by simpa using z), List.filter_nil, List.append_nil]
      · rw [decide_eq_false z, Bool.not_false]
        refine iteT ⟨_, rfl, _, hC, ?_, same_over s3 nC, ?_⟩
        · rw [ni_len]
          have h1 := List.length_filter_le (fun i => !decide (i ∈ L)) (M.take j)
          rw [List.length_take] at h1
          exact small1000 (by omega)
        · rw [upd_same, List.take_succ_eq_append_getElem hj, List.filter_append, List.filter_cons_of_pos (by simpa using z), List.filter_nil]
          unfold ni
          rw [List.map_append]
          rfl
    · rintro H1 ⟨s1, hC⟩
      rw [ni_len, List.take_length] at hC
      refine ⟨_, rfl, pl, _, H1, rfl, Same.sqA s1 hl, Kp.refl _ _, fun J2 hJ2 C2 nC2 => ?_⟩
      obtain ⟨G2, g2, W2⟩ := hJ2.walk
      refine lc_it W2 (fun j H' => Same H1 H' ∧ H' C2 = some (.lst (ni (comL M (L.take j))))) ⟨same_new nC2, upd_same⟩ (fun j H' _ z => g2 H' (.ofS z.1)) ?_ ?_
      · rintro j x H3 H4 hj ⟨s3, hC3⟩ ⟨rfl, gx⟩
        rw [ni_len] at hj
        obtain rfl : .int ((L[j] : Nat) : Int) = x := Option.some.inj ((ni_get hj).symm.trans gx)
        refine ⟨rfl, ?_⟩
        refine ⟨_, rfl, _, rfl, pm, _, rfl, Same.sqA (s1.trans s3) hm, rfl, ni_flat M, _, rfl, ?_⟩
        rw [if_pos rfl, in_ni]
        unfold comL at hC3 ⊢
        by_cases z : L[j] ∈ M
        · rw [decide_eq_true z, Bool.not_true]
          refine iteF ⟨s3, ?_⟩
          rw [hC3, List.take_succ_eq_append_getElem hj, List.filter_append, List.filter_cons_of_neg (by simpa using z), List.filter_nil, List.append_nil]
        · rw [decide_eq_false z, Bool.not_false]
          refine iteT ⟨_, rfl, _, hC3, ?_, same_over s3 nC2, ?_⟩
          · rw [ni_len]
            have h1 := List.length_filter_le (fun i => !decide (i ∈ M)) (L.take j)
            rw [List.length_take] at h1
            exact small1000 (by omega)
          · rw [upd_same, List.take_succ_eq_append_getElem hj, List.filter_append, List.filter_cons_of_pos (by simpa using z), List.filter_nil]
            unfold ni
            rw [List.map_append]
            rfl
      · rintro H2 ⟨s2, hC2⟩
        rw [ni_len, List.take_length] at hC2
        refine ⟨_, rfl, _, rfl, _, rfl, (by show 3 ≤ sizeLine; decide), fun t1 n1 => ?_⟩
        refine ⟨_, rfl, _, rfl, _, rfl, (by show 3 ≤ sizeLine; decide), fun t2 n2 => ?_⟩
        refine ⟨(by show 2 ≤ sizeLine; decide), fun p np => ?_⟩
        have sA : Same H2 (upd H2 t1 (.tup [.ref pl, .ref pm, .ref C])) := same_new n1
        have e1 : upd H2 t1 (.tup [.ref pl, .ref pm, .ref C]) t1 = some (.tup [.ref pl, .ref pm, .ref C]) := upd_same
        generalize upd H2 t1 (.tup [.ref pl, .ref pm, .ref C]) = H3 at *
        have sB : Same H3 (upd H3 t2 (.tup [.ref pm, .ref pl, .ref C2])) := same_new n2
        have e2 : upd H3 t2 (.tup [.ref pm, .ref pl, .ref C2]) t2 = some (.tup [.ref pm, .ref pl, .ref C2]) := upd_same
        generalize upd H3 t2 (.tup [.ref pm, .ref pl, .ref C2]) = H4 at *
        have sC := sB.trans (same_new (o := .lst [.ref t1, .ref t2]) np)
        have sD := sA.trans sC
        have s0 := s1.trans (s2.trans sD)
        refine q _ p s0 ((s1.trans (s2.trans (sA.trans sB))).free np) ⟨[t1, t2], upd_same, rfl, fun j hj hw => ?_⟩
        match j, hj, hw with
        | 0, _, _ => exact ⟨.ref pl, .ref pm, C, sC _ _ e1, ⟨pl, rfl, Same.sqA s0 hl⟩, ⟨pm, rfl, Same.sqA s0 hm⟩, (s2.trans sD) _ _ hC⟩
        | 1, _, _ => exact ⟨.ref pm, .ref pl, C2, same_new np _ _ e2, ⟨pm, rfl, Same.sqA s0 hm⟩, ⟨pl, rfl, Same.sqA s0 hl⟩, sD _ _ hC2⟩
        | n + 2, hj, _ => exact absurd hj (by simp)
theorem ok_lbelow {k : Nat} (D : Df K mg "lacking_below" s_lacking_below) (T : Bt mg) (O_goers_among : Ok P w K mg base k "goers_among" s_goers_among ["sea", "ships", "steps"] (spAmong K)) : Ok P w K mg base (k + 1) "lacking_below" s_lacking_below ["sea", "ways", "step"] (spLacks K vB) := by
  refine D.ok sc_lacking_below b_lacking_below (fun vs H Q E h => ?_) (fun f cdv A outer s H vs Q E hr h => ?_)
  · obtain ⟨v, p, h, t, st, ds, ws, rfl, _⟩ := h
    rfl
  · obtain ⟨v, p, h, t, st, ds, ws, rfl, hv, hw0, d24, w0, w100, hlots, q⟩ := h
    obtain ⟨ts, hts, hlen, hway⟩ := id hw0
    refine ⟨_, (pss_one (ps_ret (pe_callB (cr_max rfl) (by rfl) T.max_ (by decide +kernel) (pa_cons (pe_lc (own := [("start", 3), ("end", 4), ("comers", 5)]) (g := (gSeq K 3 (gCons (gName 3) (gCons (gName 4) (gCons (gName 5) gNil))))) (tt := tYes) (by rfl) sc_lacking_below.nd (pi_seq (pv 1)) (blkOk_by (own := [("start", 3), ("end", 4), ("comers", 5)]) (N := (["sea", "ways", "step", "start", "end", "comers"] : List Str)) (sc := defScope s_lacking_below) (by decide +kernel)) (fun _ _ _ _ _ => (pg_seq rfl (pgs_cons (pg_name (i := 3) sc_lacking_below.nd rfl (.inl rfl)) (pgs_cons (pg_name (i := 4) sc_lacking_below.nd rfl (.inl rfl)) (pgs_cons (pg_name (i := 5) sc_lacking_below.nd rfl (.inl rfl)) pgs_nil))))) (fun _ _ _ _ _ => pts_nil) (fun _ _ _ _ _ => (pe_op op_sub (pe_op op_sub (pe_op op_add (pv 2) pe_int) (pe_callB (call_lenK K) (by rfl) T.len_ PySem.boot_len (pa_cons (pv 3) pa_nil))) (pe_fn O_goers_among (hr.mono (by omega)) (pa_cons (pv 0) (pa_cons (pv 5) (pa_cons (pe_lst (pa_cons (pv 2) pa_nil)) pa_nil))))))) pa_nil)))), ?_⟩
    refine ⟨_, rfl, p, _, H, rfl, SqA.l hts, Kp.refl _ _, fun J hJ C nC => ?_⟩
    obtain ⟨G, g, W⟩ := hJ.walk
    refine lc_it W (fun j H' => Same H H' ∧ H' C = some (.lst (((ws.take j).map fun x => vB h t ds x.1 x.2 st).map V.int))) ⟨same_new nC, upd_same⟩ (fun j H' _ z => g H' (.ofS z.1)) ?_ ?_
    · rintro j x H3 H4 hj ⟨s3, hC⟩ ⟨rfl, gx⟩
      rw [List.length_map] at hj
      have hj2 : j < ws.length := hlen ▸ hj
      obtain rfl : V.ref ts[j] = x := Option.some.inj ((by simp [hj] : (ts.map V.ref)[j]? = some (V.ref ts[j])).symm.trans gx)
      obtain ⟨a, b, c, ht, ⟨pa, rfl, ha⟩, ⟨pb, rfl, hb⟩, hc⟩ := hway j hj hj2
      obtain ⟨lA, lB⟩ := hlots ws[j] (List.getElem_mem hj2)
      have lC := (com_lot (L := ws[j].1) lB).len
      refine ⟨ts[j], _, rfl, SqA.t (s3 _ _ ht), rfl, _, _, rfl, _, _, rfl, _, _, rfl, rfl, rfl, tyes (iteT ?_)⟩
      refine ⟨_, rfl, st, 1, rfl, rfl, ?_⟩
      refine ⟨_, rfl, pa, _, rfl, Same.sqA s3 ha, ?_⟩
      refine ⟨_, _, rfl, rfl, ?_⟩
      refine ⟨_, rfl, _, rfl, _, rfl, (by show 1 ≤ sizeLine; decide), fun ls nls => ?_⟩
      have s4 := s3.trans (same_new (o := .lst [V.int st]) nls)
      refine ⟨v, c, ls, h, t, ds, comL ws[j].1 ws[j].2, [st], rfl, hv.same s4, SqA.l (s4 _ _ hc), by omega, (com_lot (L := ws[j].1) lB).lt, SqL.of upd_same, Nat.zero_lt_succ _, by simp, fun H5 m s5 hm hbm => ?_⟩
      obtain rfl : m = mk h t ds.length st := List.mem_singleton.mp hm
      rw [ni_len]
      refine ⟨_, _, rfl, rfl, ?_⟩
      have s35 := s4.trans s5
      have hC5 : H5 C = _ := s5 _ _ (same_new nls _ _ hC)
      refine ⟨_, hC5, ?_, same_over s35 nC, ?_⟩
      · rw [List.length_map, List.length_map, List.length_take]
        exact small1000 (by omega)
      · rw [upd_same, List.take_succ_eq_append_getElem hj2, List.map_append, List.map_append]
        rfl
    · rintro H1 ⟨s1, hC⟩
      rw [List.length_map, hlen, List.take_length] at hC
      refine ⟨C, _, rfl, SqL.of hC, by rw [List.length_map]; exact w0, fun m hm hb => ?_⟩
      exact q H1 m s1 hm hb
theorem ok_labove {k : Nat} (D : Df K mg "lacking_above" s_lacking_above) (T : Bt mg) (O_goers_among : Ok P w K mg base k "goers_among" s_goers_among ["sea", "ships", "steps"] (spAmong K)) : Ok P w K mg base (k + 1) "lacking_above" s_lacking_above ["sea", "ways", "step"] (spLacks K vA) := by
  refine D.ok sc_lacking_above b_lacking_above (fun vs H Q E h => ?_) (fun f cdv A outer s H vs Q E hr h => ?_)
  · obtain ⟨v, p, h, t, st, ds, ws, rfl, _⟩ := h
    rfl
  · obtain ⟨v, p, h, t, st, ds, ws, rfl, hv, hw0, d24, w0, w100, hlots, q⟩ := h
    obtain ⟨ts, hts, hlen, hway⟩ := id hw0
    refine ⟨_, (pss_one (ps_ret (pe_callB (cr_max rfl) (by rfl) T.max_ (by decide +kernel) (pa_cons (pe_lc (own := [("start", 3), ("end", 4), ("comers", 5)]) (g := (gSeq K 3 (gCons (gName 3) (gCons (gName 4) (gCons (gName 5) gNil))))) (tt := tYes) (by rfl) sc_lacking_above.nd (pi_seq (pv 1)) (blkOk_by (own := [("start", 3), ("end", 4), ("comers", 5)]) (N := (["sea", "ways", "step", "start", "end", "comers"] : List Str)) (sc := defScope s_lacking_above) (by decide +kernel)) (fun _ _ _ _ _ => (pg_seq rfl (pgs_cons (pg_name (i := 3) sc_lacking_above.nd rfl (.inl rfl)) (pgs_cons (pg_name (i := 4) sc_lacking_above.nd rfl (.inl rfl)) (pgs_cons (pg_name (i := 5) sc_lacking_above.nd rfl (.inl rfl)) pgs_nil))))) (fun _ _ _ _ _ => pts_nil) (fun _ _ _ _ _ => (pe_op op_sub (pe_op op_sub (pe_callB (call_lenK K) (by rfl) T.len_ PySem.boot_len (pa_cons (pv 4) pa_nil)) (pv 2)) (pe_fn O_goers_among (hr.mono (by omega)) (pa_cons (pv 0) (pa_cons (pv 5) (pa_cons (pe_lst (pa_cons (pv 2) pa_nil)) pa_nil))))))) pa_nil)))), ?_⟩
    refine ⟨_, rfl, p, _, H, rfl, SqA.l hts, Kp.refl _ _, fun J hJ C nC => ?_⟩
    obtain ⟨G, g, W⟩ := hJ.walk
    refine lc_it W (fun j H' => Same H H' ∧ H' C = some (.lst (((ws.take j).map fun x => vA h t ds x.1 x.2 st).map V.int))) ⟨same_new nC, upd_same⟩ (fun j H' _ z => g H' (.ofS z.1)) ?_ ?_
    · rintro j x H3 H4 hj ⟨s3, hC⟩ ⟨rfl, gx⟩
      rw [List.length_map] at hj
      have hj2 : j < ws.length := hlen ▸ hj
      obtain rfl : V.ref ts[j] = x := Option.some.inj ((by simp [hj] : (ts.map V.ref)[j]? = some (V.ref ts[j])).symm.trans gx)
      obtain ⟨a, b, c, ht, ⟨pa, rfl, ha⟩, ⟨pb, rfl, hb⟩, hc⟩ := hway j hj hj2
      obtain ⟨lA, lB⟩ := hlots ws[j] (List.getElem_mem hj2)
      have lC := (com_lot (L := ws[j].1) lB).len
      refine ⟨ts[j], _, rfl, SqA.t (s3 _ _ ht), rfl, _, _, rfl, _, _, rfl, _, _, rfl, rfl, rfl, tyes (iteT ?_)⟩
      refine ⟨_, rfl, pb, _, rfl, Same.sqA s3 hb, ?_⟩
      refine ⟨_, rfl, _, _, rfl, rfl, ?_⟩
      refine ⟨_, rfl, _, rfl, _, rfl, (by show 1 ≤ sizeLine; decide), fun ls nls => ?_⟩
      have s4 := s3.trans (same_new (o := .lst [V.int st]) nls)
      refine ⟨v, c, ls, h, t, ds, comL ws[j].1 ws[j].2, [st], rfl, hv.same s4, SqA.l (s4 _ _ hc), by omega, (com_lot (L := ws[j].1) lB).lt, SqL.of upd_same, Nat.zero_lt_succ _, by simp, fun H5 m s5 hm hbm => ?_⟩
      obtain rfl : m = mk h t ds.length st := List.mem_singleton.mp hm
      rw [ni_len]
      refine ⟨_, _, rfl, rfl, ?_⟩
      have s35 := s4.trans s5
      have hC5 : H5 C = _ := s5 _ _ (same_new nls _ _ hC)
      refine ⟨_, hC5, ?_, same_over s35 nC, ?_⟩
      · rw [List.length_map, List.length_map, List.length_take]
        exact small1000 (by omega)
      · rw [upd_same, List.take_succ_eq_append_getElem hj2, List.map_append, List.map_append]
        rfl
    · rintro H1 ⟨s1, hC⟩
      rw [List.length_map, hlen, List.take_length] at hC
      refine ⟨C, _, rfl, SqL.of hC, by rw [List.length_map]; exact w0, fun m hm hb => ?_⟩
      exact q H1 m s1 hm hb
theorem ok_lboth {k : Nat} (D : Df K mg "lacking_both" s_lacking_both) (T : Bt mg) (O_goers_among : Ok P w K mg base k "goers_among" s_goers_among ["sea", "ships", "steps"] (spAmong K)) : Ok P w K mg base (k + 1) "lacking_both" s_lacking_both ["sea", "ways", "low", "high"] (spLacks2 K) := by
  refine D.ok sc_lacking_both b_lacking_both (fun vs H Q E h => ?_) (fun f cdv A outer s H vs Q E hr h => ?_)
  · obtain ⟨v, p, h, t, st, rr, ds, ws, rfl, _⟩ := h
    rfl
  · obtain ⟨v, p, h, t, st, rr, ds, ws, rfl, hv, hw0, d24, w0, w100, hlots, q⟩ := h
    obtain ⟨ts, hts, hlen, hway⟩ := id hw0
    refine ⟨_, (pss_one (ps_ret (pe_callB (cr_max rfl) (by rfl) T.max_ (by decide +kernel) (pa_cons (pe_lc (own := [("start", 4), ("end", 5), ("comers", 6)]) (g := (gSeq K 3 (gCons (gName 4) (gCons (gName 5) (gCons (gName 6) gNil))))) (tt := tYes) (by rfl) sc_lacking_both.nd (pi_seq (pv 1)) (blkOk_by (own := [("start", 4), ("end", 5), ("comers", 6)]) (N := (["sea", "ways", "low", "high", "start", "end", "comers"] : List Str)) (sc := defScope s_lacking_both) (by decide +kernel)) (fun _ _ _ _ _ => (pg_seq rfl (pgs_cons (pg_name (i := 4) sc_lacking_both.nd rfl (.inl rfl)) (pgs_cons (pg_name (i := 5) sc_lacking_both.nd rfl (.inl rfl)) (pgs_cons (pg_name (i := 6) sc_lacking_both.nd rfl (.inl rfl)) pgs_nil))))) (fun _ _ _ _ _ => pts_nil) (fun _ _ _ _ _ => (pe_op op_sub (pe_op op_sub (pe_op op_add (pe_op op_sub (pe_op op_add (pv 2) pe_int) (pe_callB (call_lenK K) (by rfl) T.len_ PySem.boot_len (pa_cons (pv 4) pa_nil))) (pe_callB (call_lenK K) (by rfl) T.len_ PySem.boot_len (pa_cons (pv 5) pa_nil))) (pv 3)) (pe_fn O_goers_among (hr.mono (by omega)) (pa_cons (pv 0) (pa_cons (pv 6) (pa_cons (pe_lst (pa_cons (pv 2) (pa_cons (pv 3) pa_nil))) pa_nil))))))) pa_nil)))), ?_⟩
    refine ⟨_, rfl, p, _, H, rfl, SqA.l hts, Kp.refl _ _, fun J hJ C nC => ?_⟩
    obtain ⟨G, g, W⟩ := hJ.walk
    refine lc_it W (fun j H' => Same H H' ∧ H' C = some (.lst (((ws.take j).map fun x => vC h t ds x.1 x.2 st rr).map V.int))) ⟨same_new nC, upd_same⟩ (fun j H' _ z => g H' (.ofS z.1)) ?_ ?_
    · rintro j x H3 H4 hj ⟨s3, hC⟩ ⟨rfl, gx⟩
      rw [List.length_map] at hj
      have hj2 : j < ws.length := hlen ▸ hj
      obtain rfl : V.ref ts[j] = x := Option.some.inj ((by simp [hj] : (ts.map V.ref)[j]? = some (V.ref ts[j])).symm.trans gx)
      obtain ⟨a, b, c, ht, ⟨pa, rfl, ha⟩, ⟨pb, rfl, hb⟩, hc⟩ := hway j hj hj2
      obtain ⟨lA, lB⟩ := hlots ws[j] (List.getElem_mem hj2)
      have lC := (com_lot (L := ws[j].1) lB).len
      refine ⟨ts[j], _, rfl, SqA.t (s3 _ _ ht), rfl, _, _, rfl, _, _, rfl, _, _, rfl, rfl, rfl, tyes (iteT ?_)⟩
      refine ⟨_, rfl, st, 1, rfl, rfl, ?_⟩
      refine ⟨_, rfl, pa, _, rfl, Same.sqA s3 ha, ?_⟩
      refine ⟨_, _, rfl, rfl, ?_⟩
      refine ⟨_, rfl, pb, _, rfl, Same.sqA s3 hb, ?_⟩
      refine ⟨_, _, rfl, rfl, ?_⟩
      refine ⟨_, rfl, _, _, rfl, rfl, ?_⟩
      refine ⟨_, rfl, _, rfl, _, rfl, _, rfl, (by show 2 ≤ sizeLine; decide), fun ls nls => ?_⟩
      have s4 := s3.trans (same_new (o := .lst [V.int st, V.int rr]) nls)
      refine ⟨v, c, ls, h, t, ds, comL ws[j].1 ws[j].2, [st, rr], rfl, hv.same s4, SqA.l (s4 _ _ hc), by omega, (com_lot (L := ws[j].1) lB).lt, SqL.of upd_same, Nat.zero_lt_succ _, by simp, fun H5 m s5 hm hbm => ?_⟩
      obtain rfl : m = mx2 (mk h t ds.length st) (mk h t ds.length rr) := by
        have b1 := hbm (mk h t ds.length st) (by simp)
        have b2 := hbm (mk h t ds.length rr) (by simp)
        unfold mx2
        rcases List.mem_cons.mp hm with z | z
        · rw [z] at b2 ⊢
          split <;> omega
        · have z := List.mem_singleton.mp z
          rw [z] at b1 ⊢
          split <;> omega
      rw [ni_len, ni_len]
      refine ⟨_, _, rfl, rfl, ?_⟩
      have s35 := s4.trans s5
      have hC5 : H5 C = _ := s5 _ _ (same_new nls _ _ hC)
      refine ⟨_, hC5, ?_, same_over s35 nC, ?_⟩
      · rw [List.length_map, List.length_map, List.length_take]
        exact small1000 (by omega)
      · rw [upd_same, List.take_succ_eq_append_getElem hj2, List.map_append, List.map_append]
        rfl
    · rintro H1 ⟨s1, hC⟩
      rw [List.length_map, hlen, List.take_length] at hC
      refine ⟨C, _, rfl, SqL.of hC, by rw [List.length_map]; exact w0, fun m hm hb => ?_⟩
      exact q H1 m s1 hm hb
end
end Sh

namespace Sh
open PySem PySem.Spec PyProof.Rows L2 LamX
/-! ### the program: all papers -/
theorem pi_seqK {X : Cx} {tg l : Expr} {tl : TE} (K : PySem.W.Frag) (hl : PE X l tl) (hK : X.K = K := by rfl) : PI X tg l (iSeq K tl) := hK ▸ pi_seq hl
theorem walk_out {J : It} {n : Nat} {G : Hp → Prop} {Y : Nat → Hp → V → Hp → Prop} {B : (Hp → Prop) → V → Hp → Prop} {H0 : Hp} {Qd : Hp → Prop} (w : Walk J n G Y) (Pv : Nat → Hp → Prop) (h0 : Pv 0 H0) (hG : ∀ i H, i ≤ n → Pv i H → G H)
    (hs : ∀ i x H H', i < n → Pv i H → Y i H x H' → B (Pv (i + 1)) x H') (hd : ∀ H, Pv n H → Qd H) :
    ∃ W : Nat → Nat → Hp → Prop, (∃ m, W 0 m H0) ∧ ∀ i m H, W i m H → (J.stop i H ∧ Qd H) ∨ (J.go i H ∧ ∃ Nx : Hp → Prop, (∀ H', Nx H' → ∃ m', m' < m ∧ W (i + 1) m' H') ∧ ∀ x H', J.yld i H x H' → B Nx x H') := by
  refine ⟨fun i m H => m = n - i ∧ i ≤ n ∧ Pv i H, ⟨n, by simp, Nat.zero_le _, h0⟩, ?_⟩
  rintro i m H ⟨rfl, hi, p⟩
  have q := hG i H hi p
  by_cases hlt : i < n
  · exact .inr ⟨w.goes i H hlt q, Pv (i + 1), fun H' p' => ⟨n - (i + 1), by omega, rfl, hlt, p'⟩, fun x H' y => hs i x H H' hlt p (w.yields i H x H' hlt q y)⟩
  · have e : i = n := by omega
    subst e
    exact .inl ⟨w.stops H q, hd H p⟩
end Sh

namespace Sh
open PySem PySem.Spec PyProof.Rows L2 LamX
/-! ### the program: all papers -/
inductive Pap
  | below (s : Int)
  | above (s : Int)
  | both (s r : Int)
def Pap.vals : Pap → List V
  | .below s => [.str "below", .int s]
  | .above s => [.str "above", .int s]
  | .both s r => [.str "both", .int s, .int r]
def Pap.val (h t : Int) (ds : List Int) (L M : List Nat) : Pap → Int
  | .below s => vB h t ds L M s
  | .above s => vA h t ds L M s
  | .both s r => vC h t ds L M s r
def PapL (H : Hp) : List V → List Pap → Prop
  | [], [] => True
  | x :: xs, q :: qs => (∃ a, x = .ref a ∧ H a = some (.tup q.vals)) ∧ PapL H xs qs
  | _, _ => False
theorem PapL.ext {H H' : Hp} (e : ExtN H H') : ∀ {xs : List V} {qs : List Pap}, PapL H xs qs → PapL H' xs qs
  | [], [], _ => True.intro
  | _ :: _, _ :: _, ⟨⟨a, h1, h2⟩, r⟩ => ⟨⟨a, h1, ext_tupl e h2⟩, PapL.ext e r⟩
theorem PapL.len {H : Hp} : ∀ {xs : List V} {qs : List Pap}, PapL H xs qs → xs.length = qs.length
  | [], [], _ => rfl
  | _ :: _, _ :: _, ⟨_, r⟩ => congrArg (· + 1) (PapL.len r)
theorem PapL.app {H : Hp} {ys : List V} {ps : List Pap} (z : PapL H ys ps) : ∀ {xs : List V} {qs : List Pap}, PapL H xs qs → PapL H (xs ++ ys) (qs ++ ps)
  | [], [], _ => z
  | _ :: _, _ :: _, ⟨h, r⟩ => ⟨h, PapL.app z r⟩
theorem PapL.one {H : Hp} {a : Addr} {q : Pap} (h : H a = some (.tup q.vals)) : PapL H [.ref a] [q] := ⟨⟨a, rfl, h⟩, True.intro⟩
theorem PapL.put {H : Hp} {C : Addr} {o : HO} {ys : List V} (hC : H C = some (.lst ys)) : ∀ {xs : List V} {qs : List Pap}, PapL H xs qs → PapL (upd H C o) xs qs
  | [], [], _ => True.intro
  | _ :: _, _ :: _, ⟨⟨a, h1, h2⟩, r⟩ => ⟨⟨a, h1, by rw [upd_ne (ne_of h2 hC (by intro z; cases z))]; exact h2⟩, PapL.put hC r⟩
theorem PapL.get {H : Hp} : ∀ {xs : List V} {qs : List Pap} {i : Nat} {x : V}, PapL H xs qs → xs[i]? = some x → ∃ (q : Pap) (a : Addr), qs[i]? = some q ∧ x = .ref a ∧ H a = some (.tup q.vals)
  | [], [], _, _, _, e => by simp at e
  | y :: _, q :: _, 0, x, ⟨⟨a, h1, h2⟩, _⟩, e => by
    obtain rfl : y = x := by simpa using e
    exact ⟨q, a, rfl, h1, h2⟩
  | _ :: _, _ :: _, i + 1, x, ⟨_, r⟩, e => PapL.get r (i := i) (by simpa using e)
def papB (a : Nat) : List Pap := (List.range a).map fun i => Pap.below ((i : Nat) : Int)
def papA (lo : Int) (b : Nat) : List Pap := (List.range b).map fun i => Pap.above (lo + ((i : Nat) : Int))
def papR (lo : Int) (i b : Nat) : List Pap := (List.range b).map fun j => Pap.both ((i : Nat) : Int) (lo + ((j : Nat) : Int))
def papC (lo : Int) (a b : Nat) : List Pap := (List.range a).flatMap fun i => papR lo i b
def paps (lo : Int) (a b : Nat) : List Pap := papB a ++ papA lo b ++ papC lo a b
theorem papB_succ (a : Nat) : papB (a + 1) = papB a ++ [.below (a : Int)] := by unfold papB; rw [List.range_succ, List.map_append]; rfl
theorem papA_succ (lo : Int) (a : Nat) : papA lo (a + 1) = papA lo a ++ [.above (lo + (a : Int))] := by unfold papA; rw [List.range_succ, List.map_append]; rfl
theorem papR_succ (lo : Int) (i b : Nat) : papR lo i (b + 1) = papR lo i b ++ [.both (i : Int) (lo + (b : Int))] := by unfold papR; rw [List.range_succ, List.map_append]; rfl
theorem papC_succ (lo : Int) (a b : Nat) : papC lo (a + 1) b = papC lo a b ++ papR lo a b := by unfold papC; rw [List.range_succ, List.flatMap_append]; simp
theorem papC_len (lo : Int) (a b : Nat) : (papC lo a b).length = a * b := by
  induction a with
  | zero => simp [papC]
  | succ a ih =>
    rw [papC_succ, List.length_append, ih, Nat.succ_mul]
    congr 1
    simp [papR]
def spPapers (K : PySem.W.Frag) : Sp := fun vs H Q _ => ∃ (v : V) (pw : Addr) (h t lo hi : Int) (ds : List Int), vs = [v, .ref pw] ∧ SeaA K H v h t ds ∧ H pw = some (.tup [.int lo, .int hi]) ∧ ds.length ≤ 24 ∧ 0 ≤ lo ∧ lo ≤ ds.length ∧ 0 ≤ hi ∧ hi < ds.length ∧
  ∀ (H' : Hp) (p : Addr) (xs : List V), Same H H' → H p = none → H' p = some (.lst xs) → PapL H' xs (paps (hi + 1) lo.toNat (ds.length - (hi + 1).toNat)) → Q (.ref p) H'
abbrev s_step_papers : Stmt := topS 55
theorem sc_step_papers : FnScope (["sea", "window", "first", "last", "lows", "highs", "papers", "low", "high"] : List Str) (["sea", "window"] : List Str) (defScope s_step_papers) := ⟨rfl, rfl, rfl, by decide +kernel, rfl, by decide +kernel, by decide +kernel⟩
theorem b_step_papers (kV doc pm : Value) (an : Option Addr) (cdv ct : Value) (us : List Value) (hl : us.length = (["sea", "window"] : List Str).length) : bindArgs (PySem.W.fnOf "step_papers" "step_papers" (defArgs s_step_papers) (defBody s_step_papers) (defScope s_step_papers) .none kV doc pm an cdv ct) ⟨us, []⟩ = pure ((["sea", "window"] : List Str).zip us) :=
  match us, hl with | [_, _], _ => rfl
section
variable {P : Program} {w : World} {K : PySem.W.Frag} {mg : Str → Option Value} {base : Heap}
theorem rg_nat (lo : Int) (n : Nat) : True := trivial
theorem ok_papers {k : Nat} (D : Df K mg "step_papers" s_step_papers) (T : Bt mg) : Ok P w K mg base (k + 1) "step_papers" s_step_papers ["sea", "window"] (spPapers K) := by
  refine D.ok sc_step_papers b_step_papers (fun vs H Q E h => ?_) (fun f cdv A outer s H vs Q E hr h => ?_)
  · obtain ⟨v, pw, h, t, lo, hi, ds, rfl, _⟩ := h
    rfl
  · obtain ⟨v, pw, h, t, lo, hi, ds, rfl, hv, hw, d24, l0, l1, h0, h1, q⟩ := h
    obtain ⟨p, qd, rfl, hp, hq⟩ := id hv
    refine ⟨_, (pss_cons (ps_asg (pv 1) (pg_seq rfl (pgs_cons (pg_name (i := 2) sc_step_papers.nd rfl (.inl rfl)) (pgs_cons (pg_name (i := 3) sc_step_papers.nd rfl (.inl rfl)) pgs_nil))))
      (pss_cons (ps_set (i := 4) sc_step_papers.nd rfl (.inl rfl) (pe_listRg (by rfl) (by rfl) T.list_ (prg_1 (by rfl) T.range_ (pv 2))))
      (pss_cons (ps_set (i := 5) sc_step_papers.nd rfl (.inr rfl) (pe_listRg (by rfl) (by rfl) T.list_ (prg_2 (by rfl) T.range_ (pe_op op_add (pv 3) pe_int) (pe_callB call_len_seq (by rfl) T.len_ PySem.boot_len (pa_cons (pe_ix ix_lt (pv 0) pe_int (fun _ _ => rfl)) pa_nil)))))
      (pss_cons (ps_set (i := 6) sc_step_papers.nd rfl (.inl rfl) (pe_op op_cat (pe_lc (own := [("low", 7)]) (g := (gName 7)) (tt := tYes) (by rfl) sc_step_papers.nd (pi_seq (pv 4)) (blkOk_by (own := [("low", 7)]) (N := (["sea", "window", "first", "last", "lows", "highs", "papers", "low", "high"] : List Str)) (sc := defScope s_step_papers) (by decide +kernel)) (fun _ _ _ _ _ => (pg_name (i := 7) sc_step_papers.nd rfl (.inl rfl))) (fun _ _ _ _ _ => pts_nil) (fun _ _ _ _ _ => (pe_tup (pa_cons pe_str (pa_cons (pv 7) pa_nil))))) (pe_lc (own := [("high", 8)]) (g := (gName 8)) (tt := tYes) (by rfl) sc_step_papers.nd (pi_seq (pv 5)) (blkOk_by (own := [("high", 8)]) (N := (["sea", "window", "first", "last", "lows", "highs", "papers", "low", "high"] : List Str)) (sc := defScope s_step_papers) (by decide +kernel)) (fun _ _ _ _ _ => (pg_name (i := 8) sc_step_papers.nd rfl (.inl rfl))) (fun _ _ _ _ _ => pts_nil) (fun _ _ _ _ _ => (pe_tup (pa_cons pe_str (pa_cons (pv 8) pa_nil)))))))
      (pss_one (ps_ret (pe_op op_cat (pv 6) (pe_lc2 (own := [("low", 7), ("high", 8)]) (vs1 := [8]) (g := (gName 7)) (g1 := (gName 8)) (tt := tYes) (tt1 := tYes) (by rfl) sc_step_papers.nd (pi_seq (pv 4)) (blkOk_by (own := [("low", 7), ("high", 8)]) (N := (["sea", "window", "first", "last", "lows", "highs", "papers", "low", "high"] : List Str)) (sc := defScope s_step_papers) (by decide +kernel)) (by decide) (fun _ _ _ _ _ => (pg_name (i := 7) sc_step_papers.nd rfl (.inl rfl))) (fun _ _ _ _ _ => pts_nil) (fun _ _ _ _ _ => (pi_seqK K (pv 5))) (fun _ _ _ _ _ => (pg_name (i := 8) sc_step_papers.nd rfl (.inl rfl))) (fun _ _ _ _ _ => pts_nil) (fun _ _ _ _ _ => (pe_tup (pa_cons pe_str (pa_cons (pv 7) (pa_cons (pv 8) pa_nil))))))))))))), ?_⟩
    refine ⟨_, rfl, pw, _, rfl, SqA.t hw, rfl, _, _, rfl, _, _, rfl, rfl, ?_⟩
    have lo_n : ((lo - 0).toNat) = lo.toNat := by rw [Int.sub_zero]
    refine ⟨_, rfl, lo, rfl, ⟨by omega, by omega, by omega, by omega, by omega⟩, fun q1 n1 => ?_⟩
    have s1 : Same H (upd H q1 (.lst (rgV 0 lo))) := same_new n1
    have e1 : upd H q1 (.lst (rgV 0 lo)) q1 = some (.lst (rgV 0 lo)) := upd_same
    generalize upd H q1 (.lst (rgV 0 lo)) = H1 at s1 e1
    refine ⟨_, rfl, hi, 1, rfl, rfl, _, rfl, p, _, 2, .ref qd, rfl, rfl, Same.sqA s1 hp, rfl, qd, _, rfl, Same.sqA s1 hq, _, _, rfl, rfl, ?_⟩
    rw [List.length_map]
    refine ⟨⟨by omega, by omega, by omega, by omega, by omega⟩, fun q2 n2 => ?_⟩
    have s2 : Same H1 (upd H1 q2 (.lst (rgV (hi + 1) ds.length))) := same_new n2
    have e2 : upd H1 q2 (.lst (rgV (hi + 1) ds.length)) q2 = some (.lst (rgV (hi + 1) ds.length)) := upd_same
    have e12 := s2 _ _ e1
    generalize upd H1 q2 (.lst (rgV (hi + 1) ds.length)) = H2 at s2 e2 e12
    have la : (rgV 0 lo).length = lo.toNat := by rw [rgV_length, Int.sub_zero]
    have lb : (rgV (hi + 1) ds.length).length = ds.length - (hi + 1).toNat := by rw [rgV_length]; omega
    have ga : ∀ i, i < lo.toNat → (rgV 0 lo)[i]? = some (.int ((i : Nat) : Int)) := fun i hi' => by
      unfold rgV
      rw [List.getElem?_map, List.getElem?_range (by rw [Int.sub_zero]; exact hi')]
      simp
    have gb : ∀ i, i < ds.length - (hi + 1).toNat → (rgV (hi + 1) ds.length)[i]? = some (.int (hi + 1 + ((i : Nat) : Int))) := fun i hi' => by
      unfold rgV
      rw [List.getElem?_map, List.getElem?_range (by omega)]
      rfl
    generalize rgV 0 lo = A1 at *
    generalize rgV (hi + 1) ds.length = B1 at *
    generalize ea : lo.toNat = a at *
    generalize eb : ds.length - (hi + 1).toNat = b at *
    have a24 : a ≤ 24 := by omega
    have b24 : b ≤ 24 := by omega
    -- below
    refine ⟨_, rfl, q1, _, H2, rfl, SqA.l e12, Kp.refl _ _, fun J hJ C nC => ?_⟩
    obtain ⟨G, g, W⟩ := hJ.walk
    refine lc_it W (fun j H' => Same H2 H' ∧ ∃ xs, H' C = some (.lst xs) ∧ PapL H' xs (papB j)) ⟨same_new nC, [], upd_same, True.intro⟩ (fun j H' _ z => g H' (.ofS z.1)) ?_ ?_
    · rintro j x H3 H4 hj ⟨s3, xs, hC, pl⟩ ⟨rfl, gx⟩
      rw [la] at hj
      obtain rfl : .int ((j : Nat) : Int) = x := Option.some.inj ((ga j hj).symm.trans gx)
      refine ⟨rfl, tyes (iteT ?_)⟩
      refine ⟨_, rfl, (by show 2 ≤ sizeLine; decide), fun tp ntp => ?_⟩
      have sT : Same H4 (upd H4 tp (.tup [.str "below", .int (j : Int)])) := same_new ntp
      have eT : upd H4 tp (.tup [.str "below", .int (j : Int)]) tp = some (.tup [.str "below", .int (j : Int)]) := upd_same
      generalize upd H4 tp (.tup [.str "below", .int (j : Int)]) = HT at sT eT
      have hl := pl.len
      refine ⟨_, sT _ _ hC, ?_, same_over (s3.trans sT) nC, _, upd_same, ?_⟩
      · rw [hl]
        unfold papB
        rw [List.length_map, List.length_range]
        exact small1000 (by omega)
      · rw [papB_succ]
        exact PapL.app (PapL.put (sT _ _ hC) (PapL.one (q := .below (j : Int)) eT)) (PapL.put (sT _ _ hC) (pl.ext (ExtN.of sT)))
    · rintro H3 ⟨s3, xs1, hC1, pl1⟩
      rw [la] at pl1
      have len1 := pl1.len
      have e23 := s3 _ _ e2
      have e13 := s3 _ _ e12
      -- above
      refine ⟨_, rfl, q2, _, H3, rfl, SqA.l e23, Kp.refl _ _, fun J2 hJ2 C2 nC2 => ?_⟩
      obtain ⟨G2, g2, W2⟩ := hJ2.walk
      refine lc_it W2 (fun j H' => Same H3 H' ∧ ∃ xs, H' C2 = some (.lst xs) ∧ PapL H' xs (papA (hi + 1) j)) ⟨same_new nC2, [], upd_same, True.intro⟩ (fun j H' _ z => g2 H' (.ofS z.1)) ?_ ?_
      · rintro j x H4 H5 hj ⟨s4, xs, hC, pl⟩ ⟨rfl, gx⟩
        rw [lb] at hj
        obtain rfl : .int (hi + 1 + ((j : Nat) : Int)) = x := Option.some.inj ((gb j hj).symm.trans gx)
        refine ⟨rfl, tyes (iteT ?_)⟩
        refine ⟨_, rfl, (by show 2 ≤ sizeLine; decide), fun tp ntp => ?_⟩
        have sT : Same H5 (upd H5 tp (.tup [.str "above", .int (hi + 1 + (j : Int))])) := same_new ntp
        have eT : upd H5 tp (.tup [.str "above", .int (hi + 1 + (j : Int))]) tp = some (.tup [.str "above", .int (hi + 1 + (j : Int))]) := upd_same
        generalize upd H5 tp (.tup [.str "above", .int (hi + 1 + (j : Int))]) = HT at sT eT
        have hl := pl.len
        refine ⟨_, sT _ _ hC, ?_, same_over (s4.trans sT) nC2, _, upd_same, ?_⟩
        · rw [hl]
          unfold papA
          rw [List.length_map, List.length_range]
          exact small1000 (by omega)
        · rw [papA_succ]
          exact PapL.app (PapL.put (sT _ _ hC) (PapL.one (q := .above (hi + 1 + (j : Int))) eT)) (PapL.put (sT _ _ hC) (pl.ext (ExtN.of sT)))
      · rintro H4 ⟨s4, xs2, hC2, pl2⟩
        rw [lb] at pl2
        have len2 := pl2.len
        have k1 : (papB a).length = a := by simp [papB]
        have k2 : (papA (hi + 1) b).length = b := by simp [papA]
        refine ⟨C, C2, xs1, xs2, rfl, rfl, s4 _ _ hC1, hC2, ?_, fun pp npp => ?_⟩
        · exact Nat.le_of_lt (small1000 (by omega))
        have s5 : Same H4 (upd H4 pp (.lst (xs1 ++ xs2))) := same_new npp
        have e5 : upd H4 pp (.lst (xs1 ++ xs2)) pp = some (.lst (xs1 ++ xs2)) := upd_same
        have pl3 : PapL (upd H4 pp (.lst (xs1 ++ xs2))) (xs1 ++ xs2) (papB a ++ papA (hi + 1) b) := PapL.ext (ExtN.of s5) (PapL.app pl2 (pl1.ext (ExtN.of s4)))
        generalize upd H4 pp (.lst (xs1 ++ xs2)) = H5 at s5 e5 pl3
        have e15 := s5 _ _ (s4 _ _ e13)
        have e25 := s5 _ _ (s4 _ _ e23)
        -- both
        refine ⟨_, rfl, _, rfl, q1, _, H5, rfl, SqA.l e15, Kp.refl _ _, fun J3 hJ3 C3 nC3 => ?_⟩
        obtain ⟨G3, g3, W3⟩ := hJ3.walk
        refine walk_out W3 (fun i H' => Same H5 H' ∧ ∃ xs, H' C3 = some (.lst xs) ∧ PapL H' xs (papC (hi + 1) i b)) ⟨same_new nC3, [], upd_same, True.intro⟩ (fun j H' _ z => g3 H' (.ofS z.1)) ?_ ?_
        · rintro i x H6 H7 hi6 ⟨s6, xs, hC6, pl6⟩ ⟨rfl, gx⟩
          rw [la] at hi6
          obtain rfl : .int ((i : Nat) : Int) = x := Option.some.inj ((ga i hi6).symm.trans gx)
          refine ⟨rfl, tyes (iteT ?_)⟩
          have e27 := s6 _ _ e25
          refine ⟨_, rfl, q2, _, H7, rfl, SqA.l e27, Kp.refl _ _, fun J4 hJ4 => ?_⟩
          obtain ⟨G4, g4, W4⟩ := hJ4.walk
          refine walk_out W4 (fun j H' => Same H5 H' ∧ ∃ xs', H' C3 = some (.lst xs') ∧ PapL H' xs' (papC (hi + 1) i b ++ papR (hi + 1) i j)) ⟨s6, xs, hC6, by rw [show papR (hi + 1) i 0 = [] from rfl, List.append_nil]; exact pl6⟩ (fun j H' _ z => g4 H' fun o y => ?_) ?_ ?_
          · rw [e27] at y
            rw [← Option.some.inj y]
            exact z.1 _ _ e25
          · rintro j x H8 H9 hj ⟨s8, xs', hC, pl⟩ ⟨rfl, gx⟩
            rw [lb] at hj
            obtain rfl : .int (hi + 1 + ((j : Nat) : Int)) = x := Option.some.inj ((gb j hj).symm.trans gx)
            refine ⟨rfl, tyes (iteT ?_)⟩
            refine ⟨_, rfl, _, rfl, (by show 3 ≤ sizeLine; decide), fun tp ntp => ?_⟩
            have sT : Same H9 (upd H9 tp (.tup [.str "both", .int (i : Int), .int (hi + 1 + (j : Int))])) := same_new ntp
            have eT : upd H9 tp (.tup [.str "both", .int (i : Int), .int (hi + 1 + (j : Int))]) tp = some (.tup [.str "both", .int (i : Int), .int (hi + 1 + (j : Int))]) := upd_same
            generalize upd H9 tp (.tup [.str "both", .int (i : Int), .int (hi + 1 + (j : Int))]) = HT at sT eT
            have hl := pl.len
            have ab : i * b ≤ 24 * 24 := Nat.mul_le_mul (by omega) b24
            refine ⟨_, sT _ _ hC, ?_, same_over (s8.trans sT) nC3, _, upd_same, ?_⟩
            · rw [hl, List.length_append, papC_len]
              unfold papR
              rw [List.length_map, List.length_range]
              exact small1000 (by omega)
            · rw [papR_succ, ← List.append_assoc]
              exact PapL.app (PapL.put (sT _ _ hC) (PapL.one (q := .both (i : Int) (hi + 1 + (j : Int))) eT)) (PapL.put (sT _ _ hC) (pl.ext (ExtN.of sT)))
          · rintro H8 ⟨s8, xs', hC, pl⟩
            rw [lb] at pl
            exact ⟨s8, xs', hC, by rw [papC_succ]; exact pl⟩
        · rintro H6 ⟨s6, xs6, hC6, pl6⟩
          rw [la] at pl6
          have len6 := pl6.len
          rw [papC_len] at len6
          have ab : a * b ≤ 24 * 24 := Nat.mul_le_mul a24 b24
          refine ⟨pp, C3, _, xs6, rfl, rfl, s6 _ _ e5, hC6, ?_, fun pr npr => ?_⟩
          · rw [List.length_append]
            exact Nat.le_of_lt (small1000 (by omega))
          have s7 : Same H6 (upd H6 pr (.lst (xs1 ++ xs2 ++ xs6))) := same_new npr
          exact q _ pr _ (s1.trans (s2.trans (s3.trans (s4.trans (s5.trans (s6.trans s7)))))) ((s1.trans (s2.trans (s3.trans (s4.trans (s5.trans s6))))).free npr) upd_same (PapL.ext (ExtN.of s7) (PapL.app pl6 (pl3.ext (ExtN.of s6))))
end
end Sh

namespace Sh
open PySem PySem.Spec PyProof.Rows L2 LamX
/-! ### the program: what a paper shows, what is lacking -/
def spBy (K : PySem.W.Frag) : Sp := fun vs H Q _ => ∃ (v : V) (p pp : Addr) (h t : Int) (ds : List Int) (ws : List (List Nat × List Nat)) (q : Pap), vs = [v, .ref p, .ref pp] ∧ SeaA K H v h t ds ∧ WaysAt K H p ws ∧ H pp = some (.tup q.vals) ∧ ds.length ≤ 24 ∧ 0 < ws.length ∧ ws.length ≤ 100 ∧
  (∀ x ∈ ws, Lot ds.length x.1 ∧ Lot ds.length x.2) ∧ ∀ (H' : Hp) (m : Int), Same H H' → m ∈ ws.map (fun x => q.val h t ds x.1 x.2) → (∀ y ∈ ws.map (fun x => q.val h t ds x.1 x.2), y ≤ m) → Q (.int m) H'
abbrev s_lacking_by : Stmt := topS 54
theorem sc_lacking_by : FnScope (["sea", "ways", "paper"] : List Str) (["sea", "ways", "paper"] : List Str) (defScope s_lacking_by) := ⟨rfl, rfl, rfl, by decide +kernel, rfl, by decide +kernel, by decide +kernel⟩
theorem b_lacking_by (kV doc pm : Value) (an : Option Addr) (cdv ct : Value) (us : List Value) (hl : us.length = (["sea", "ways", "paper"] : List Str).length) : bindArgs (PySem.W.fnOf "lacking_by" "lacking_by" (defArgs s_lacking_by) (defBody s_lacking_by) (defScope s_lacking_by) .none kV doc pm an cdv ct) ⟨us, []⟩ = pure ((["sea", "ways", "paper"] : List Str).zip us) :=
  match us, hl with | [_, _, _], _ => rfl
section
variable {P : Program} {w : World} {K : PySem.W.Frag} {mg : Str → Option Value} {base : Heap}
theorem ok_by {k : Nat} (D : Df K mg "lacking_by" s_lacking_by) (T : Bt mg) (O_lacking_below : Ok P w K mg base k "lacking_below" s_lacking_below ["sea", "ways", "step"] (spLacks K vB)) (O_lacking_above : Ok P w K mg base k "lacking_above" s_lacking_above ["sea", "ways", "step"] (spLacks K vA))
    (O_lacking_both : Ok P w K mg base k "lacking_both" s_lacking_both ["sea", "ways", "low", "high"] (spLacks2 K)) : Ok P w K mg base (k + 1) "lacking_by" s_lacking_by ["sea", "ways", "paper"] (spBy K) := by
  refine D.ok sc_lacking_by b_lacking_by (fun vs H Q E h => ?_) (fun f cdv A outer s H vs Q E hr h => ?_)
  · obtain ⟨v, p, pp, h, t, ds, ws, q, rfl, _⟩ := h
    rfl
  · obtain ⟨v, p, pp, h, t, ds, ws, q, rfl, hv, hw, hp, d24, w0, w100, hl, k⟩ := h
    refine ⟨_, (pss_cons (ps_if (pt_cmpR op_eq (pe_ix ix_lt (pv 2) pe_int (fun _ _ => rfl)) pe_str (nomark _))
        (pss_one (ps_ret (pe_fn O_lacking_below (hr.mono (by omega)) (pa_cons (pv 0) (pa_cons (pv 1) (pa_cons (pe_ix ix_lt (pv 2) pe_int (fun _ _ => rfl)) pa_nil))))))
        pss_nil)
      (pss_cons (ps_if (pt_cmpR op_eq (pe_ix ix_lt (pv 2) pe_int (fun _ _ => rfl)) pe_str (nomark _))
        (pss_one (ps_ret (pe_fn O_lacking_above (hr.mono (by omega)) (pa_cons (pv 0) (pa_cons (pv 1) (pa_cons (pe_ix ix_lt (pv 2) pe_int (fun _ _ => rfl)) pa_nil))))))
        pss_nil)
      (pss_one (ps_ret (pe_fn O_lacking_both (hr.mono (by omega)) (pa_cons (pv 0) (pa_cons (pv 1) (pa_cons (pe_ix ix_lt (pv 2) pe_int (fun _ _ => rfl)) (pa_cons (pe_ix ix_lt (pv 2) pe_int (fun _ _ => rfl)) pa_nil))))))))), ?_⟩
    cases q with
    | below st =>
      refine ⟨_, rfl, pp, _, 0, _, rfl, rfl, SqA.t hp, rfl, rfl, _, rfl, ?_⟩
      rw [decide_eq_true rfl]
      refine iteT ?_
      refine ⟨_, rfl, _, rfl, _, rfl, pp, _, 1, _, rfl, rfl, SqA.t hp, rfl, ?_⟩
      exact ⟨v, p, h, t, st, ds, ws, rfl, hv, hw, d24, w0, w100, hl, fun H' m s1 hm hb => k H' m s1 hm hb⟩
    | above st =>
      refine ⟨_, rfl, pp, _, 0, _, rfl, rfl, SqA.t hp, rfl, rfl, _, rfl, ?_⟩
      rw [decide_eq_false (show ¬ V.str "above" = V.str "below" by intro z; injection z with z; revert z; decide)]
      refine iteF ?_
      refine ⟨_, rfl, pp, _, 0, _, rfl, rfl, SqA.t hp, rfl, rfl, _, rfl, ?_⟩
      rw [decide_eq_true rfl]
      refine iteT ?_
      refine ⟨_, rfl, _, rfl, _, rfl, pp, _, 1, _, rfl, rfl, SqA.t hp, rfl, ?_⟩
      exact ⟨v, p, h, t, st, ds, ws, rfl, hv, hw, d24, w0, w100, hl, fun H' m s1 hm hb => k H' m s1 hm hb⟩
    | both st rr =>
      refine ⟨_, rfl, pp, _, 0, _, rfl, rfl, SqA.t hp, rfl, rfl, _, rfl, ?_⟩
      rw [decide_eq_false (show ¬ V.str "both" = V.str "below" by intro z; injection z with z; revert z; decide)]
      refine iteF ?_
      refine ⟨_, rfl, pp, _, 0, _, rfl, rfl, SqA.t hp, rfl, rfl, _, rfl, ?_⟩
      rw [decide_eq_false (show ¬ V.str "both" = V.str "above" by intro z; injection z with z; revert z; decide)]
      refine iteF ?_
      refine ⟨_, rfl, _, rfl, _, rfl, pp, _, 1, _, rfl, rfl, SqA.t hp, rfl, _, rfl, pp, _, 2, _, rfl, rfl, SqA.t hp, rfl, ?_⟩
      exact ⟨v, p, h, t, st, rr, ds, ws, rfl, hv, hw, d24, w0, w100, hl, fun H' m s1 hm hb => k H' m s1 hm hb⟩
end
end Sh

namespace Sh
open PySem PySem.Spec PyProof.Rows L2 LamX
/-! ### the program: what is lacking, how far -/
def spLackOf (Tl : List (Addr × Str)) (K : PySem.W.Frag) : Sp := fun vs H Q _ => ∃ (v l m : V) (h t : Int) (ds : List Int) (L M : List Nat), vs = [v, l, m] ∧ SeaD K H v h t ds ∧ LotT K H l L ∧ LotT K H m M ∧ ds.length ≤ 24 ∧ 0 < ds.length ∧ Lot ds.length L ∧ Lot ds.length M ∧ Rl h t ds L M ∧ Tabs Tl H ∧
  ∀ (H' : Hp) (p : Addr) (n : Nat) (sh : V), ExtN H H' → Tabs Tl H' → H' p = some (.tup [.int (n : Int), sh]) → IsLack h t ds L M n → Q (.ref p) H'
def spFar (Tl : List (Addr × Str)) (K : PySem.W.Frag) : Sp := fun vs H Q _ => ∃ (v l m : V) (h t : Int) (ds : List Int) (L M : List Nat), vs = [v, l, m] ∧ SeaD K H v h t ds ∧ LotT K H l L ∧ LotT K H m M ∧ ds.length ≤ 24 ∧ 0 < ds.length ∧ Lot ds.length L ∧ Lot ds.length M ∧ Rl h t ds L M ∧ Tabs Tl H ∧
  ∀ (H' : Hp) (n : Nat), ExtN H H' → Tabs Tl H' → IsFar h t ds L M n → Q (.int (n : Int)) H'
theorem LotT.extF {K : PySem.W.Frag} {H H' : Hp} {v : V} {L : List Nat} (s : LotT K H v L) (e : ExtN H H') : LotT K H' v L := let ⟨p, a, x⟩ := s; ⟨p, a, ext_tup e x⟩
section
variable {h t : Int} {ds : List Int} {L M : List Nat}
/-- the papers are all there are -/
theorem pap_le {lo hi m : Int} (l0 : 0 ≤ lo) (l1 : lo ≤ ds.length) (h0 : 0 ≤ hi) (h1 : hi < ds.length) (m0 : 0 ≤ m) (a : ∀ q ∈ paps (hi + 1) lo.toNat (ds.length - (hi + 1).toNat), q.val h t ds L M ≤ m ∧ q.val h t ds M L ≤ m) : PapLe h t ds L M lo hi m := by
  refine ⟨m0, fun s hs => ?_, fun s hn hs => ?_, fun s r hs hn hr => ?_⟩
  · refine a (.below s) (List.mem_append_left _ (List.mem_append_left _ (List.mem_map.mpr ⟨s, List.mem_range.mpr (by omega), rfl⟩)))
  · have z := a (.above s) (List.mem_append_left _ (List.mem_append_right _ (List.mem_map.mpr ⟨s - (hi + 1).toNat, List.mem_range.mpr (by omega), by congr 1; omega⟩)))
    exact z
  · have z := a (.both s r) (List.mem_append_right _ (List.mem_flatMap.mpr ⟨s, List.mem_range.mpr (by omega), List.mem_map.mpr ⟨r - (hi + 1).toNat, List.mem_range.mpr (by omega), by congr 1; omega⟩⟩))
    exact z
theorem le_pap {lo hi m : Int} (l0 : 0 ≤ lo) (h0 : 0 ≤ hi) (p : PapLe h t ds L M lo hi m) : ∀ q ∈ paps (hi + 1) lo.toNat (ds.length - (hi + 1).toNat), q.val h t ds L M ≤ m ∧ q.val h t ds M L ≤ m := by
  intro q hq
  rcases List.mem_append.mp hq with hq | hq
  · rcases List.mem_append.mp hq with hq | hq
    · obtain ⟨s, hs, rfl⟩ := List.mem_map.mp hq
      have := List.mem_range.mp hs
      exact p.b s (by omega)
    · obtain ⟨s, hs, rfl⟩ := List.mem_map.mp hq
      have := List.mem_range.mp hs
      have z := p.a (s + (hi + 1).toNat) (by omega) (by omega)
      rw [show ((s + (hi + 1).toNat : Nat) : Int) = hi + 1 + (s : Int) by omega] at z
      exact z
  · obtain ⟨s, hs, hq⟩ := List.mem_flatMap.mp hq
    obtain ⟨r, hr, rfl⟩ := List.mem_map.mp hq
    have := List.mem_range.mp hs
    have := List.mem_range.mp hr
    have z := p.c s (r + (hi + 1).toNat) (by omega) (by omega) (by omega)
    rw [show ((r + (hi + 1).toNat : Nat) : Int) = hi + 1 + (r : Int) by omega] at z
    exact z
theorem lack_small {n : Nat} (d24 : ds.length ≤ 24) (d0 : 0 < ds.length) (k : IsLack h t ds L M n) : n ≤ 100 := by
  have tk := (top_G h t d0).lt
  have c1 := Th.cnt_le ds.length (mem L)
  have c2 := Th.cnt_le ds.length (mem M)
  have p : ∀ P Q : Nat → Bool, (0 : Int) ≤ Th.CI ds.length P Q := fun P Q => Th.CI_nonneg P Q
  refine k.2 100 ⟨by omega, fun s hs _ => ?_, fun s hs _ => ?_, fun s hs hk _ => ?_, fun s hs hk _ => ?_, fun s r hs hr hk _ _ => ?_, fun s r hs hr hk _ _ => ?_⟩
  · have := p (Th.com (mem L) (mem M)) (Gof h t ds s)
    omega
  · have := p (Th.com (mem M) (mem L)) (Gof h t ds s)
    omega
  · have := p (Th.com (mem L) (mem M)) (Gof h t ds s)
    omega
  · have := p (Th.com (mem M) (mem L)) (Gof h t ds s)
    omega
  · have := p (Th.com (mem L) (mem M)) (fun i => Gof h t ds s i || Gof h t ds r i)
    omega
  · have := p (Th.com (mem M) (mem L)) (fun i => Gof h t ds s i || Gof h t ds r i)
    omega
/-- the most that papers show -/
structure MostP (h t : Int) (ds : List Int) (L M : List Nat) (qs : List Pap) (n : Nat) : Prop where
  le : ∀ q ∈ qs, q.val h t ds L M ≤ n ∧ q.val h t ds M L ≤ n
  ex : n = 0 ∨ ∃ q ∈ qs, q.val h t ds L M = n ∨ q.val h t ds M L = n
theorem MostP.more {qs : List Pap} {n : Nat} {q : Pap} {m : Int} (a : MostP h t ds L M qs n) (hm : m ∈ [(L, M), (M, L)].map fun x => q.val h t ds x.1 x.2) (hb : ∀ y ∈ [(L, M), (M, L)].map (fun x => q.val h t ds x.1 x.2), y ≤ m) :
    (m > n → MostP h t ds L M (qs ++ [q]) m.toNat) ∧ (¬ m > n → MostP h t ds L M (qs ++ [q]) n) := by
  have b1 := hb (q.val h t ds L M) (by simp)
  have b2 := hb (q.val h t ds M L) (by simp)
  constructor
  · intro z
    have e : ((m.toNat : Nat) : Int) = m := by omega
    refine ⟨fun q' hq => ?_, .inr ⟨q, by simp, ?_⟩⟩
    · rw [e]
      rcases List.mem_append.mp hq with y | y
      · have := a.le q' y
        omega
      · rw [List.mem_singleton.mp y]
        exact ⟨b1, b2⟩
    · rw [e]
      rcases List.mem_cons.mp hm with y | y
      · exact .inl y.symm
      · exact .inr (List.mem_singleton.mp y).symm
  · intro z
    refine ⟨fun q' hq => ?_, ?_⟩
    · rcases List.mem_append.mp hq with y | y
      · exact a.le q' y
      · rw [List.mem_singleton.mp y]
        omega
    · rcases a.ex with y | ⟨q', y, e⟩
      · exact .inl y
      · exact .inr ⟨q', List.mem_append_left _ y, e⟩
theorem most_lack {d : Int} {n : Nat} (d0 : 0 < ds.length) (hL : Lot ds.length L) (hM : Lot ds.length M) (r : Rl h t ds L M) (D : IsDeep ds L M d) (a : MostP h t ds L M (paps (highI t ds.length d + 1) (lowI h d).toNat (ds.length - (highI t ds.length d + 1).toNat)) n) : IsLack h t ds L M n := by
  have tp := top_G h t d0
  have wT := (D.win (h := h) (t := t) tp.lt).mp (Th.win_top tp r)
  have hl := high_lt t d d0
  have tk := tp.lt
  have l0 : 0 ≤ lowI h d := by
    unfold lowI
    split <;> omega
  refine ⟨(pap_iff d0 hL hM r D).mp (pap_le l0 (by omega) (by omega) hl (by omega) a.le), fun m' hm => ?_⟩
  have p := le_pap l0 (by omega) ((pap_iff d0 hL hM r D).mpr hm)
  rcases a.ex with z | ⟨q, hq, z⟩
  · omega
  · have := p q hq
    omega
end
abbrev s_lack_of : Stmt := topS 56
theorem sc_lack_of : FnScope (["sea", "one", "other", "lack", "shown_by", "ways", "paper", "lacking"] : List Str) (["sea", "one", "other"] : List Str) (defScope s_lack_of) := ⟨rfl, rfl, rfl, by decide +kernel, rfl, by decide +kernel, by decide +kernel⟩
theorem b_lack_of (kV doc pm : Value) (an : Option Addr) (cdv ct : Value) (us : List Value) (hl : us.length = (["sea", "one", "other"] : List Str).length) : bindArgs (PySem.W.fnOf "lack_of" "lack_of" (defArgs s_lack_of) (defBody s_lack_of) (defScope s_lack_of) .none kV doc pm an cdv ct) ⟨us, []⟩ = pure ((["sea", "one", "other"] : List Str).zip us) :=
  match us, hl with | [_, _, _], _ => rfl
abbrev s_how_far : Stmt := topS 58
theorem sc_how_far : FnScope (["sea", "one", "other", "lack", "paper"] : List Str) (["sea", "one", "other"] : List Str) (defScope s_how_far) := ⟨rfl, rfl, rfl, by decide +kernel, rfl, by decide +kernel, by decide +kernel⟩
theorem b_how_far (kV doc pm : Value) (an : Option Addr) (cdv ct : Value) (us : List Value) (hl : us.length = (["sea", "one", "other"] : List Str).length) : bindArgs (PySem.W.fnOf "how_far" "how_far" (defArgs s_how_far) (defBody s_how_far) (defScope s_how_far) .none kV doc pm an cdv ct) ⟨us, []⟩ = pure ((["sea", "one", "other"] : List Str).zip us) :=
  match us, hl with | [_, _, _], _ => rfl
section
variable {P : Program} {w : World} {K : PySem.W.Frag} {mg : Str → Option Value} {base : Heap}
theorem ok_lack_of {k : Nat} {Tl : List (Addr × Str)} (D : Df K mg "lack_of" s_lack_of) (T : Bt mg) (O_comes_to : Ok P w K mg base k "comes_to" s_comes_to ["sea", "one", "other"] (spComes K)) (O_both_ways : Ok P w K mg base k "both_ways" s_both_ways ["one", "other"] (spWays K))
    (O_step_papers : Ok P w K mg base k "step_papers" s_step_papers ["sea", "window"] (spPapers K)) (O_window_between : Ok P w K mg base k "window_between" s_window_between ["sea", "one", "other"] (spWinB Tl K)) (O_lacking_by : Ok P w K mg base k "lacking_by" s_lacking_by ["sea", "ways", "paper"] (spBy K)) :
    Ok P w K mg base (k + 1) "lack_of" s_lack_of ["sea", "one", "other"] (spLackOf Tl K) := by
  refine D.ok sc_lack_of b_lack_of (fun vs H Q E h => ?_) (fun f cdv A outer s H vs Q E hr h => ?_)
  · obtain ⟨v, l, m, h, t, ds, L, M, rfl, _⟩ := h
    rfl
  · obtain ⟨v, l, m, h, t, ds, L, M, rfl, hv, hl, hm, d24, d0, hL, hM, hr', hT, q⟩ := h
    obtain ⟨pl, rfl, hl1⟩ := id hl
    obtain ⟨pm, rfl, hm1⟩ := id hm
    refine ⟨_, (pss_cons (ps_if (pt_not (pt_val (pe_fn O_comes_to (hr.mono (by omega)) (pa_cons (pv 0) (pa_cons (pv 1) (pa_cons (pv 2) pa_nil))))))
        (pss_one ps_never)
        pss_nil)
      (pss_cons (ps_set (i := 3) sc_lack_of.nd rfl (.inl rfl) pe_int)
      (pss_cons (ps_set (i := 4) sc_lack_of.nd rfl (.inl rfl) (pe_tup (pa_cons pe_str pa_nil)))
      (pss_cons (ps_if (pt_cmpR (op_eqD hr.units) (pe_callTy call_tuple_of (by rfl) T.tuple_ (by decide +kernel) (pa_cons (pv 1) pa_nil)) (pe_callTy call_tuple_of (by rfl) T.tuple_ (by decide +kernel) (pa_cons (pv 2) pa_nil)) (nomark _))
        (pss_one (ps_ret (pe_tup (pa_cons (pv 3) (pa_cons (pv 4) pa_nil)))))
        pss_nil)
      (pss_cons (ps_set (i := 5) sc_lack_of.nd rfl (.inl rfl) (pe_fn O_both_ways (hr.mono (by omega)) (pa_cons (pv 1) (pa_cons (pv 2) pa_nil))))
      (pss_cons (ps_for PassesOwn.never rfl (pi_seq (pe_fn O_step_papers (hr.mono (by omega)) (pa_cons (pv 0) (pa_cons (pe_fn O_window_between (hr.mono (by omega)) (pa_cons (pv 0) (pa_cons (pv 1) (pa_cons (pv 2) pa_nil)))) pa_nil)))) (pg_name (i := 6) sc_lack_of.nd rfl (.inl rfl))
        (pss_cons (ps_set (i := 7) sc_lack_of.nd rfl (.inl rfl) (pe_fn O_lacking_by (hr.mono (by omega)) (pa_cons (pv 0) (pa_cons (pv 5) (pa_cons (pv 6) pa_nil)))))
          (pss_one (ps_if (pt_cmpR op_gt (pv 7) (pv 3) (nomark _))
            (pss_cons (ps_set (i := 3) sc_lack_of.nd rfl (.inl rfl) (pv 7))
              (pss_one (ps_set (i := 4) sc_lack_of.nd rfl (.inl rfl) (pv 6))))
            pss_nil))))
      (pss_one (ps_ret (pe_tup (pa_cons (pv 3) (pa_cons (pv 4) pa_nil))))))))))), ?_⟩
    refine ⟨_, rfl, _, rfl, _, rfl, v, _, _, h, t, ds, L, M, rfl, hv, hl.a, hm.a, by omega, d0, hL, hM, fun H1 b s1 hb => ?_⟩
    obtain rfl : b = true := hb.mpr hr'
    refine ⟨true, rfl, ?_⟩
    refine iteF ?_
    refine ⟨(by show 1 ≤ sizeLine; decide), fun pn nn => ?_⟩
    have s2 : Same H1 (upd H1 pn (.tup [.str "none"])) := same_new nn
    generalize upd H1 pn (.tup [.str "none"]) = H2 at s2
    have s02 := s1.trans s2
    have hl2 := Same.tup s02 hl1
    have hm2 := Same.tup s02 hm1
    refine ⟨_, rfl, pl, _, rfl, .inr ⟨hl2, ?_⟩⟩
    refine ⟨_, rfl, pm, _, rfl, .inr ⟨hm2, ?_⟩⟩
    refine ⟨_, _, dp_niT hl2, dp_niT hm2, shaped_tup _, shaped_tup _, ?_⟩
    rw [eqv_niT]
    refine ⟨_, rfl, ite2 (fun c => ?_) (fun c => ?_)⟩
    · obtain rfl : L = M := of_decide_eq_true c
      refine ⟨_, rfl, _, rfl, (by show 2 ≤ sizeLine; decide), fun pr npr => ?_⟩
      exact q _ pr 0 _ (ExtN.of (s02.trans (same_new npr))) (hT.ext (s02.trans (same_new npr))) upd_same (lack_none h t ds L)
    · have ne : L ≠ M := fun z => c (decide_eq_true z)
      refine ⟨_, rfl, _, rfl, _, _, ds.length, L, M, rfl, (hl.same s02).a, (hm.same s02).a, d24, hL, hM, fun H3 pw s3 npw hw => ?_⟩
      have s03 := s02.trans s3
      refine ⟨_, rfl, _, rfl, _, rfl, _, rfl, v, _, _, h, t, ds, L, M, rfl, hv.a.same s03, (hl.same s03).a, (hm.same s03).a, d24, hL, hM, fun z => ne (oth_nil hL hM z), hT.ext s03, fun d dp => ?_, fun H4 pwin d e4 t4 dp hwin => ?_⟩
      · have tp := top_G h t d0
        have wT := (dp.win (h := h) (t := t) tp.lt).mp (Th.win_top tp hr')
        omega
      have tp := top_G h t d0
      have wT := (dp.win (h := h) (t := t) tp.lt).mp (Th.win_top tp hr')
      have tk := tp.lt
      have hhl := high_lt t d d0
      have l0 : 0 ≤ lowI h d := by
        unfold lowI
        split <;> omega
      have e04 := (ExtN.of s03).trans e4
      refine ⟨v, pwin, h, t, lowI h d, highI t ds.length d, ds, rfl, hv.a.ext e04, hwin, d24, l0, by omega, by omega, hhl, fun H5 pp xs s5 np5 hxs plx => ?_⟩
      have e05 := e04.trans (ExtN.of s5)
      have w5 := (hw.ext e4).ext (ExtN.of s5)
      have v5 := hv.a.ext e05
      have lx := plx.len
      have mk := fun n => most_lack (n := n) d0 hL hM hr' dp
      generalize paps (highI t ds.length d + 1) (lowI h d).toNat (ds.length - (highI t ds.length d + 1).toNat) = qs at *
      refine ⟨pp, xs, H5, rfl, SqA.l hxs, Kp.refl _ _, fun J hJ => ?_⟩
      obtain ⟨G, g, W⟩ := hJ.walk
      refine for_it W (fun i σ H' => ∃ (n : Nat) (sh : V) (y z : Option V), σ = [some v, some (.ref pl), some (.ref pm), some (.int (n : Int)), some sh, some (.ref pw), y, z] ∧ Same H5 H' ∧ MostP h t ds L M (qs.take i) n) ⟨0, .ref pn, none, none, rfl, Same.refl _, ⟨fun q hq => by simp at hq, .inl rfl⟩⟩ (fun i σ H' _ ⟨_, _, _, _, _, z, _⟩ => g H' (.ofS z)) ?_ ?_
      · rintro i x σ H6 H7 hi ⟨n, sh, y, z, rfl, s6, mp⟩ ⟨rfl, gx⟩
        obtain ⟨qp, a, hq, rfl, ha⟩ := (plx.ext (ExtN.of s6)).get gx
        refine ⟨_, rfl, _, rfl, _, rfl, v, pw, a, h, t, ds, [(L, M), (M, L)], qp, rfl, v5.same s6, w5.ext (ExtN.of s6), ha, d24, Nat.zero_lt_succ _, by simp, fun x hx => ?_, fun H8 m s8 hm8 hb8 => ?_⟩
        · rcases List.mem_cons.mp hx with z | z
          · rw [z]
            exact ⟨hL, hM⟩
          · rw [List.mem_singleton.mp z]
            exact ⟨hM, hL⟩
        obtain ⟨m1, m2⟩ := mp.more hm8 hb8
        have tk1 : qs.take (i + 1) = qs.take i ++ [qp] := by
          rw [List.take_succ, hq]
          rfl
        refine ⟨_, rfl, _, rfl, _, _, rfl, rfl, _, rfl, ite2 (fun c => ?_) (fun c => ?_)⟩
        · have c0 : m > n := of_decide_eq_true c
          have em : m = ((m.toNat : Nat) : Int) := by omega
          refine ⟨_, rfl, _, rfl, m.toNat, .ref a, some (.ref a), some (.int m), ?_, s6.trans s8, by rw [tk1]; exact m1 c0⟩
          rw [← em]
          rfl
        · have c0 : ¬ m > n := fun z => c (decide_eq_true z)
          exact ⟨n, sh, _, _, rfl, s6.trans s8, by rw [tk1]; exact m2 c0⟩
      · rintro σ H6 ⟨n, sh, y, z, rfl, s6, mp⟩
        rw [lx, List.take_length] at mp
        refine ⟨_, rfl, _, rfl, (by show 2 ≤ sizeLine; decide), fun pr npr => ?_⟩
        exact q _ pr n _ (e05.trans (ExtN.of (s6.trans (same_new npr)))) (((t4.ext s5).ext s6).ext (same_new npr)) upd_same (mk n mp)
theorem ok_how_far {k : Nat} {Tl : List (Addr × Str)} (D : Df K mg "how_far" s_how_far) (T : Bt mg) (O_lack_of : Ok P w K mg base k "lack_of" s_lack_of ["sea", "one", "other"] (spLackOf Tl K)) (O_otherwise_ones : Ok P w K mg base k "otherwise_ones" s_otherwise_ones ["one", "other"] (spOth K)) :
    Ok P w K mg base (k + 1) "how_far" s_how_far ["sea", "one", "other"] (spFar Tl K) := by
  refine D.ok sc_how_far b_how_far (fun vs H Q E h => ?_) (fun f cdv A outer s H vs Q E hr h => ?_)
  · obtain ⟨v, l, m, h, t, ds, L, M, rfl, _⟩ := h
    rfl
  · obtain ⟨v, l, m, h, t, ds, L, M, rfl, hv, hl, hm, d24, d0, hL, hM, hr', hT, q⟩ := h
    refine ⟨_, (pss_cons (ps_asg (pe_fn O_lack_of (hr.mono (by omega)) (pa_cons (pv 0) (pa_cons (pv 1) (pa_cons (pv 2) pa_nil)))) (pg_seq rfl (pgs_cons (pg_name (i := 3) sc_how_far.nd rfl (.inl rfl)) (pgs_cons (pg_name (i := 4) sc_how_far.nd rfl (.inl rfl)) pgs_nil))))
      (pss_one (ps_ret (pe_op op_add (pe_callB call_len_seq (by rfl) T.len_ PySem.boot_len (pa_cons (pe_fn O_otherwise_ones (hr.mono (by omega)) (pa_cons (pv 1) (pa_cons (pv 2) pa_nil))) pa_nil)) (pe_op op_mul pe_int (pv 3)))))), ?_⟩
    refine ⟨_, rfl, _, rfl, _, rfl, v, l, m, h, t, ds, L, M, rfl, hv, hl, hm, d24, d0, hL, hM, hr', hT, fun H1 p n sh e1 t1 hp kl => ?_⟩
    refine ⟨p, _, rfl, SqA.t hp, rfl, _, _, rfl, _, _, rfl, rfl, ?_⟩
    refine ⟨_, rfl, _, rfl, l, m, ds.length, L, M, rfl, (hl.extF e1).a, (hm.extF e1).a, d24, hL, hM, fun H2 po s2 np ho => ?_⟩
    refine ⟨po, _, rfl, .inl (SqL.of ho), ?_⟩
    refine ⟨_, rfl, _, _, rfl, rfl, .inl ⟨by decide, by decide⟩, _, _, rfl, rfl, ?_⟩
    have z := q H2 ((othL ds.length L M).length + 2 * n) (e1.trans (ExtN.of s2)) (t1.ext s2) (far_lack d0 hr' kl)
    rw [ni_len]
    rw [show (((othL ds.length L M).length + 2 * n : Nat) : Int) = ((othL ds.length L M).length : Int) + 2 * (n : Int) by omega] at z
    exact z
end
end Sh

namespace Sh
open PySem PySem.Spec PyProof.Rows L2
/-! ### the program: fleets -/
def MoversF (h t : Int) (ss : List Srt) (ms : List Int) : Prop := ∃ kd s, LotF h t ss kd s ∧
  (((nextS kd s < 0 ∨ (mny ss : Int) ≤ nextS kd s) ∧ ms = []) ∨ (0 ≤ nextS kd s ∧ nextS kd s < (mny ss : Int) ∧ ms = (ss.filter fun x => decide (x.1 ≤ mk h t (mny ss) (nextS kd s)) && decide (0 < x.2.1 + x.2.2)).map fun x => x.1))
def ComesF (h t : Int) (ss ss' : List Srt) (b : Bool) : Prop := ∃ kd s kd' s', LotF h t ss kd s ∧ LotF h t ss' kd' s' ∧ (b = true ↔ (kd = kd' ∧ s = s') ∧ fxF ss (mk h t (mny ss) s) = fxF ss' (mk h t (mny ss') s))
def spFleetMovers (K : PySem.W.Frag) : Sp := fun vs H Q _ => ∃ (v : V) (h t : Int) (ss : List Srt), vs = [v] ∧ FltA K H v h t ss ∧ ss.length ≤ 1000 ∧ ∀ (H' : Hp) (p : Addr) (ms : List Int), Same H H' → H p = none → H' p = some (.lst (ms.map V.int)) → MoversF h t ss ms → Q (.ref p) H'
def spFleetComes (K : PySem.W.Frag) : Sp := fun vs H Q _ => ∃ (v v' : V) (h t : Int) (ss ss' : List Srt), vs = [v, v'] ∧ FltA K H v h t ss ∧ FltA K H v' h t ss' ∧ ss.length ≤ 1000 ∧ ss'.length ≤ 1000 ∧ ∀ (H' : Hp) (b : Bool), Same H H' → ComesF h t ss ss' b → Q (.bl b) H'
section
variable {P : Program} {w : World} {K : PySem.W.Frag} {mg : Str → Option Value} {base : Heap}
end
/-! ### every fleet has its ships one by one -/
end Sh
namespace Th
theorem cnt_add (a b : Nat) (f : Nat → Bool) : cnt (a + b) f = cnt a f + cnt b (fun i => f (a + i)) := by
  induction b with
  | zero => rfl
  | succ b ih =>
    rw [← Nat.add_assoc, cnt_succ, ih, cnt_succ]
    omega
theorem cnt_const (n : Nat) (b : Bool) : cnt n (fun _ => b) = if b = true then n else 0 := by
  induction n with
  | zero => cases b <;> rfl
  | succ n ih =>
    rw [cnt_succ, ih]
    cases b <;> simp
end Th
namespace Sh
theorem le_sum : ∀ {l : List Nat} {a : Nat}, a ∈ l → a ≤ l.sum
  | b :: l, a, h => by
    rw [List.sum_cons]
    rcases List.mem_cons.mp h with e | e
    · omega
    · have := le_sum e
      omega
theorem filter_one : ∀ {l : List Srt} {x : Srt}, (l.map fun x => x.1).Nodup → x ∈ l → l.filter (fun y => decide (y.1 = x.1)) = [x]
  | a :: l, x, nd, h => by
    rw [List.map_cons] at nd
    obtain ⟨n1, n2⟩ := List.nodup_cons.mp nd
    rcases List.mem_cons.mp h with e | e
    · subst e
      rw [List.filter_cons_of_pos (by simp)]
      have : l.filter (fun y => decide (y.1 = x.1)) = [] := by
        rw [List.filter_eq_nil_iff]
        intro y hy q
        exact n1 (List.mem_map.mpr ⟨y, hy, of_decide_eq_true q⟩)
      rw [this]
    · have ne : ¬ a.1 = x.1 := fun q => n1 (List.mem_map.mpr ⟨x, e, q.symm⟩)
      rw [List.filter_cons_of_neg (by simpa using ne)]
      exact filter_one n2 e
theorem rp_ex : ∀ ss : List Srt, ∃ (D : Nat → Int) (S : Nat → Bool), Rp ss (mny ss) D S
  | [] => ⟨fun _ => 0, fun _ => false, ⟨fun _ => rfl, fun _ => rfl⟩⟩
  | x :: ss => by
    obtain ⟨D, S, r⟩ := rp_ex ss
    have em : mny (x :: ss) = mny ss + (x.2.1 + x.2.2) := by
      unfold mny
      rw [List.map_cons, List.sum_cons]
      omega
    refine ⟨fun i => if i < mny ss then D i else x.1, fun i => if i < mny ss then S i else decide (i < mny ss + x.2.1), ?_⟩
    have key : ∀ (P : Int → Bool) (b : Bool), Th.cnt (mny (x :: ss)) (fun i => P (if i < mny ss then D i else x.1) && ((if i < mny ss then S i else decide (i < mny ss + x.2.1)) == b)) = Th.cnt (mny ss) (fun i => P (D i) && (S i == b)) + if P x.1 = true then (if b = true then x.2.1 else x.2.2) else 0 := fun P b => by
      rw [em, Th.cnt_add]
      congr 1
      · refine Th.cnt_congr fun i hi => ?_
        rw [if_pos hi, if_pos hi]
      · rw [Th.cnt_add]
        have e1 : Th.cnt x.2.1 (fun i => P (if mny ss + i < mny ss then D (mny ss + i) else x.1) && ((if mny ss + i < mny ss then S (mny ss + i) else decide (mny ss + i < mny ss + x.2.1)) == b)) = Th.cnt x.2.1 (fun _ => P x.1 && b) := Th.cnt_congr fun i hi => by
          rw [if_neg (by omega), if_neg (by omega), decide_eq_true (by omega)]
          cases b <;> rfl
        have e2 : Th.cnt x.2.2 (fun i => P (if mny ss + (x.2.1 + i) < mny ss then D (mny ss + (x.2.1 + i)) else x.1) && ((if mny ss + (x.2.1 + i) < mny ss then S (mny ss + (x.2.1 + i)) else decide (mny ss + (x.2.1 + i) < mny ss + x.2.1)) == b)) = Th.cnt x.2.2 (fun _ => P x.1 && !b) := Th.cnt_congr fun i hi => by
          rw [if_neg (by omega), if_neg (by omega), decide_eq_false (by omega)]
          cases b <;> rfl
        rw [e1, e2, Th.cnt_const, Th.cnt_const]
        cases P x.1 <;> cases b <;> simp
    refine ⟨fun P => ?_, fun P => ?_⟩
    · have k := key P true
      have e : ∀ (f g : Nat → Bool), (fun i => f i && (g i == true)) = (fun i => f i && g i) := fun f g => by
        funext i
        cases g i <;> rfl
      rw [e (fun i => P (if i < mny ss then D i else x.1)), e (fun i => P (D i)) S, ← r.here P] at k
      rw [k]
      by_cases c : P x.1 = true
      · rw [List.filter_cons_of_pos (p := fun x : Srt => P x.1) c, List.map_cons, List.sum_cons, if_pos c]
        show x.2.1 + _ = _ + x.2.1
        omega
      · rw [List.filter_cons_of_neg (p := fun x : Srt => P x.1) c, if_neg c]
        rfl
    · have k := key P false
      have e : ∀ (f g : Nat → Bool), (fun i => f i && (g i == false)) = (fun i => f i && !g i) := fun f g => by
        funext i
        cases g i <;> rfl
      rw [e (fun i => P (if i < mny ss then D i else x.1)), e (fun i => P (D i)) S, ← r.there P] at k
      rw [k]
      by_cases c : P x.1 = true
      · rw [List.filter_cons_of_pos (p := fun x : Srt => P x.1) c, List.map_cons, List.sum_cons, if_pos c]
        show x.2.2 + _ = _ + x.2.2
        omega
      · rw [List.filter_cons_of_neg (p := fun x : Srt => P x.1) c, if_neg c]
        rfl
section
variable {ss : List Srt} {h t : Int} {D : Nat → Int} {S : Nat → Bool}
theorem MaxF.ships {m : Int} (r : Rp ss (mny ss) D S) (k0 : 0 < mny ss) (q : MaxF h t ss m) : ∃ n : Nat, m = (n : Int) ∧ Th.IsMax (mny ss) (Gd h t (mny ss) D) S n := by
  obtain ⟨kd, s, lf, hm⟩ := q
  exact (lf.ships r k0).max r k0 hm
theorem MinF.ships {m : Int} (r : Rp ss (mny ss) D S) (k0 : 0 < mny ss) (q : MinF h t ss m) : ∃ n : Nat, m = (n : Int) ∧ Th.IsMin (mny ss) (Gd h t (mny ss) D) S n := by
  obtain ⟨kd, s, lf, hm⟩ := q
  exact (lf.ships r k0).min r k0 hm
theorem max_uniq {m m' : Int} (k0 : 0 < mny ss) (a : MaxF h t ss m) (b : MaxF h t ss m') : m = m' := by
  obtain ⟨D, S, r⟩ := rp_ex ss
  obtain ⟨n, rfl, ⟨U, rU, cU⟩, hU⟩ := a.ships r k0
  obtain ⟨n', rfl, ⟨U', rU', cU'⟩, hU'⟩ := b.ships r k0
  have := hU U' rU'
  have := hU' U rU
  omega
theorem min_uniq {m m' : Int} (k0 : 0 < mny ss) (a : MinF h t ss m) (b : MinF h t ss m') : m = m' := by
  obtain ⟨D, S, r⟩ := rp_ex ss
  obtain ⟨n, rfl, ⟨U, rU, cU⟩, hU⟩ := a.ships r k0
  obtain ⟨n', rfl, ⟨U', rU', cU'⟩, hU'⟩ := b.ships r k0
  have := hU U' rU'
  have := hU' U rU
  omega
/-- turned about: all less the least, all less the most -/
theorem max_turn {m m' : Int} (k0 : 0 < mny ss) (a : MaxF t h (turnF ss) m) (b : MinF h t ss m') : m = (mny ss : Int) - m' := by
  obtain ⟨D, S, r⟩ := rp_ex ss
  have r' := r.turn
  have km := mny_turn ss
  rw [← km] at r'
  obtain ⟨n, rfl, ⟨U, rU, cU⟩, hU⟩ := a.ships r' (by omega)
  obtain ⟨n', rfl, ⟨U', rU', cU'⟩, hU'⟩ := b.ships r k0
  rw [km] at rU cU hU
  have gt : ∀ s i, s < mny ss → Gd t h (mny ss) D s i = Th.dual (mny ss) (Gd h t (mny ss) D) s i := fun s i hs => Gd_turn hs
  have r1 : Th.Reach (mny ss) (Gd h t (mny ss) D) S (Th.co U) := by
    refine Th.Reach.codual ?_
    rw [Th.co_co]
    exact rU.congr gt
  have r2 := rU'.dual.congr (G' := Gd t h (mny ss) D) fun s i hs => (gt s i hs).symm
  have := hU _ r2
  have := hU' _ r1
  have := Th.cnt_co (mny ss) U
  have := Th.cnt_co (mny ss) U'
  omega
theorem min_turn {m m' : Int} (k0 : 0 < mny ss) (a : MinF t h (turnF ss) m) (b : MaxF h t ss m') : m = (mny ss : Int) - m' := by
  have km := mny_turn ss
  have b' : MaxF h t (turnF (turnF ss)) m' := by rw [turn_turn]; exact b
  have := max_turn (ss := turnF ss) (h := t) (t := h) (by omega) b' a
  omega
/-- who moves, by ships -/
theorem movers_ships {ms : List Int} (r : Rp ss (mny ss) D S) (k0 : 0 < mny ss) (up : (ss.map fun x => x.1).Nodup) (q : MoversF h t ss ms) : ms.Sublist (ss.map fun x => x.1) ∧ ∀ x ∈ ss, x.1 ∈ ms ↔ ∃ i, i < mny ss ∧ D i = x.1 ∧ Th.Moves (mny ss) (Gd h t (mny ss) D) S i := by
  obtain ⟨kd, s, lf, q⟩ := q
  have ls := lf.ships r k0
  rcases q with ⟨no, rfl⟩ | ⟨n0, n1, rfl⟩
  · refine ⟨List.nil_sublist _, fun x hx => ⟨fun z => (by cases z), fun ⟨i, hi, _, m⟩ => ?_⟩⟩
    have := (ls.moves k0 hi).mp m
    omega
  · refine ⟨(List.filter_sublist).map _, fun x hx => ?_⟩
    rw [List.mem_map]
    constructor
    · rintro ⟨y, hy, e⟩
      obtain ⟨hy1, hy2⟩ := List.mem_filter.mp hy
      rw [Bool.and_eq_true, decide_eq_true_eq, decide_eq_true_eq] at hy2
      have c1 := r.here fun d => decide (d = y.1)
      have c2 := r.there fun d => decide (d = y.1)
      have m1 : y.2.1 ≤ ((ss.filter fun x => decide (x.1 = y.1)).map fun x => x.2.1).sum := le_sum (List.mem_map.mpr ⟨y, List.mem_filter.mpr ⟨hy1, decide_eq_true rfl⟩, rfl⟩)
      have m2 : y.2.2 ≤ ((ss.filter fun x => decide (x.1 = y.1)).map fun x => x.2.2).sum := le_sum (List.mem_map.mpr ⟨y, List.mem_filter.mpr ⟨hy1, decide_eq_true rfl⟩, rfl⟩)
      have c3 := Th.cnt_split (k := mny ss) (fun i => decide (D i = y.1)) S
      obtain ⟨i, hi, hd⟩ := Th.cnt_pos_ex (k := mny ss) (S := fun i => decide (D i = y.1)) (by omega)
      have hd' : D i = y.1 := of_decide_eq_true hd
      exact ⟨i, hi, by rw [hd', e], (ls.moves k0 hi).mpr ⟨n0, n1, by rw [hd']; exact hy2.1⟩⟩
    · rintro ⟨i, hi, e, m⟩
      have q := (ls.moves k0 hi).mp m
      refine ⟨x, List.mem_filter.mpr ⟨hx, ?_⟩, rfl⟩
      rw [Bool.and_eq_true, decide_eq_true_eq, decide_eq_true_eq]
      refine ⟨by rw [← e]; exact q.2.2, ?_⟩
      -- the one sort of that draught has a ship
      have one : ss.filter (fun y => decide (y.1 = x.1)) = [x] := filter_one up hx
      have c1 := r.here fun d => decide (d = x.1)
      have c2 := r.there fun d => decide (d = x.1)
      rw [one] at c1 c2
      have c3 := Th.cnt_split (k := mny ss) (fun i => decide (D i = x.1)) S
      have c4 := Th.cnt_pos (k := mny ss) (S := fun i => decide (D i = x.1)) hi (decide_eq_true e)
      have c1' : x.2.1 + 0 = Th.cnt (mny ss) (fun i => decide (D i = x.1) && S i) := c1
      have c2' : x.2.2 + 0 = Th.cnt (mny ss) (fun i => decide (D i = x.1) && !S i) := c2
      omega
end
end Sh

namespace Ct
/-! ### how many ways to take so many of so many -/
def bin : Nat → Nat → Nat
  | _, 0 => 1
  | 0, _ + 1 => 0
  | n + 1, p + 1 => bin n p + bin n (p + 1)
theorem bin_zero (n : Nat) : bin n 0 = 1 := by cases n <;> rfl
theorem bin_gt : ∀ {n p : Nat}, n < p → bin n p = 0
  | 0, p + 1, _ => rfl
  | n + 1, p + 1, h => by
    show bin n p + bin n (p + 1) = 0
    rw [bin_gt (n := n) (p := p) (by omega), bin_gt (n := n) (p := p + 1) (by omega)]
theorem bin_self : ∀ n : Nat, bin n n = 1
  | 0 => rfl
  | n + 1 => by
    show bin n n + bin n (n + 1) = 1
    rw [bin_self n, bin_gt (by omega)]
theorem bin_succ_mul : ∀ n p : Nat, (n + 1) * bin n p = bin (n + 1) (p + 1) * (p + 1)
  | 0, 0 => rfl
  | 0, p + 1 => by
    show 1 * 0 = (0 + bin 0 (p + 2)) * (p + 2)
    rw [bin_gt (n := 0) (p := p + 2) (by omega)]
    simp
  | n + 1, 0 => by
    have ih : (n + 1) * 1 = bin (n + 1) 1 * 1 := by
      have := bin_succ_mul n 0
      rw [bin_zero] at this
      exact this
    show (n + 2) * 1 = (1 + bin (n + 1) 1) * 1
    omega
  | n + 1, p + 1 => by
    have a := bin_succ_mul n p
    have b := bin_succ_mul n (p + 1)
    show (n + 2) * bin (n + 1) (p + 1) = (bin (n + 1) (p + 1) + bin (n + 1) (p + 1 + 1)) * (p + 1 + 1)
    have e2 : bin (n + 1) (p + 1) = bin n p + bin n (p + 1) := rfl
    have m : (n + 1) * bin (n + 1) (p + 1) = (n + 1) * bin n p + (n + 1) * bin n (p + 1) := by rw [e2, Nat.mul_add]
    generalize bin (n + 1) (p + 1) = X at *
    generalize bin (n + 1) (p + 1 + 1) = Y at *
    rw [Nat.add_mul X Y, ← b, show X * (p + 1 + 1) = X * (p + 1) + X from Nat.mul_succ _ _, ← a, show (n + 2) * X = (n + 1) * X + X from Nat.succ_mul _ _, m]
    omega
theorem bin_step {n p : Nat} (h : p ≤ n) : bin n p * (n - p) = bin n (p + 1) * (p + 1) := by
  have a := bin_succ_mul n p
  have e : bin (n + 1) (p + 1) * (p + 1) = bin n p * (p + 1) + bin n (p + 1) * (p + 1) := by
    show (bin n p + bin n (p + 1)) * (p + 1) = _
    rw [Nat.add_mul]
  have c : bin n p * (n - p) + bin n p * (p + 1) = (n + 1) * bin n p := by
    rw [← Nat.mul_add, Nat.mul_comm]
    congr 1
    omega
  generalize bin (n + 1) (p + 1) * (p + 1) = X at *
  generalize bin n (p + 1) * (p + 1) = Y at *
  generalize bin n p * (p + 1) = Z at *
  generalize bin n p * (n - p) = V at *
  omega
theorem bin_le : ∀ n p : Nat, bin n p ≤ 2 ^ n
  | n, 0 => by rw [bin_zero]; exact Nat.one_le_two_pow
  | 0, p + 1 => Nat.zero_le _
  | n + 1, p + 1 => by
    have a := bin_le n p
    have b := bin_le n (p + 1)
    show bin n p + bin n (p + 1) ≤ 2 ^ (n + 1)
    rw [Nat.pow_succ]
    omega
open Th (cnt cnt_succ cnt_congr cnt_zero)
/-! ### how many lots of k ships there are of a kind -/
def put (U : Nat → Bool) (k : Nat) : Nat → Bool := fun i => if i = k then true else U i
theorem put_self (U : Nat → Bool) (k : Nat) : put U k k = true := if_pos rfl
theorem put_ne (U : Nat → Bool) {k i : Nat} (h : i ≠ k) : put U k i = U i := if_neg h
def cf : Nat → ((Nat → Bool) → Bool) → Nat
  | 0, P => if P (fun _ => false) = true then 1 else 0
  | k + 1, P => cf k P + cf k (fun U => P (put U k))
theorem cf_congr : ∀ {k : Nat} {P P' : (Nat → Bool) → Bool}, (∀ U, (∀ i, k ≤ i → U i = false) → P U = P' U) → cf k P = cf k P'
  | 0, P, P', h => by
    unfold cf
    rw [h _ fun _ _ => rfl]
  | k + 1, P, P', h => by
    unfold cf
    rw [cf_congr (k := k) (P := P) (P' := P') fun U hU => h U fun i hi => hU i (by omega), cf_congr (k := k) (P := fun U => P (put U k)) (P' := fun U => P' (put U k)) fun U hU => h _ fun i hi => by rw [put_ne _ (by omega)]; exact hU i (by omega)]
theorem cf_false : ∀ k : Nat, cf k (fun _ => false) = 0
  | 0 => rfl
  | k + 1 => by
    show cf k (fun _ => false) + cf k (fun _ => false) = 0
    rw [cf_false k]
theorem cf_add : ∀ {k : Nat} {Q R : (Nat → Bool) → Bool}, (∀ U, (Q U && R U) = false) → cf k (fun U => Q U || R U) = cf k Q + cf k R
  | 0, Q, R, h => by
    have := h fun _ => false
    show (if (Q (fun _ => false) || R (fun _ => false)) = true then 1 else 0) = (if Q (fun _ => false) = true then 1 else 0) + (if R (fun _ => false) = true then 1 else 0)
    cases a : Q (fun _ => false) <;> cases b : R (fun _ => false) <;> rw [a, b] at this <;> first | rfl | cases this
  | k + 1, Q, R, h => by
    show cf k (fun U => Q U || R U) + cf k (fun U => Q (put U k) || R (put U k)) = (cf k Q + cf k fun U => Q (put U k)) + (cf k R + cf k fun U => R (put U k))
    rw [cf_add h, cf_add (Q := fun U => Q (put U k)) (R := fun U => R (put U k)) fun U => h _]
    omega
/-- by what f tells -/
theorem cf_parts {k : Nat} {P : (Nat → Bool) → Bool} {f : (Nat → Bool) → Nat} : ∀ m : Nat, ((List.range (m + 1)).map fun x => cf k (fun U => P U && (f U == x))).sum = cf k (fun U => P U && decide (f U ≤ m))
  | 0 => by
    show cf k (fun U => P U && (f U == 0)) + 0 = _
    rw [Nat.add_zero]
    refine cf_congr fun U _ => ?_
    congr 1
    rw [Bool.eq_iff_iff, beq_iff_eq, decide_eq_true_eq]
    omega
  | m + 1 => by
    rw [List.range_succ, List.map_append, List.sum_append, cf_parts m]
    show _ + (cf k (fun U => P U && (f U == m + 1)) + 0) = _
    rw [Nat.add_zero, ← cf_add]
    · refine cf_congr fun U _ => ?_
      rw [← Bool.and_or_distrib_left]
      congr 1
      rw [Bool.eq_iff_iff, Bool.or_eq_true, beq_iff_eq, decide_eq_true_eq, decide_eq_true_eq]
      omega
    · intro U
      cases P U
      · rfl
      · show (decide (f U ≤ m) && (f U == m + 1)) = false
        by_cases c : f U ≤ m
        · have : (f U == m + 1) = false := by
            rw [beq_eq_false_iff_ne]
            omega
          rw [this, Bool.and_false]
        · rw [decide_eq_false c]
          rfl
/-- only such ships -/
def subB (A : Nat → Bool) : Nat → (Nat → Bool) → Bool
  | 0, _ => true
  | k + 1, U => subB A k U && (!U k || A k)
theorem subB_iff {A : Nat → Bool} {U : Nat → Bool} : ∀ {k : Nat}, subB A k U = true ↔ ∀ i, i < k → U i = true → A i = true
  | 0 => ⟨fun _ i hi => by omega, fun _ => rfl⟩
  | k + 1 => by
    have ih := subB_iff (A := A) (U := U) (k := k)
    show (subB A k U && (!U k || A k)) = true ↔ _
    rw [Bool.and_eq_true, ih]
    constructor
    · rintro ⟨a, b⟩ i hi hu
      by_cases e : i = k
      · subst e
        rw [hu] at b
        exact b
      · exact a i (by omega) hu
    · intro h
      refine ⟨fun i hi => h i (by omega), ?_⟩
      cases e : U k with
      | false => rfl
      | true => rw [h k (by omega) e]; rfl
theorem subB_put {A U : Nat → Bool} {k : Nat} : subB A k (put U k) = subB A k U := by
  rw [Bool.eq_iff_iff, subB_iff, subB_iff]
  constructor
  · intro h i hi hu
    exact h i hi (by rw [put_ne _ (by omega)]; exact hu)
  · intro h i hi hu
    rw [put_ne _ (by omega)] at hu
    exact h i hi hu
theorem cnt_put {U B : Nat → Bool} {k : Nat} : cnt k (fun i => put U k i && B i) = cnt k (fun i => U i && B i) := cnt_congr fun i hi => by rw [put_ne _ (by omega)]
/-- those of A as P says, so many of B: ways of the one times ways of the other -/
theorem split {A B : Nat → Bool} (dj : ∀ i, A i = true → B i = false) : ∀ {k : Nat} {P : (Nat → Bool) → Bool} {x : Nat},
    cf k (fun U => subB (fun i => A i || B i) k U && P (fun i => U i && A i) && (cnt k (fun i => U i && B i) == x)) = cf k (fun U => subB A k U && P U) * bin (cnt k B) x
  | 0, P, x => by
    show (if (true && P (fun _ => false) && (0 == x)) = true then 1 else 0) = (if (true && P (fun _ => false)) = true then 1 else 0) * bin 0 x
    cases x with
    | zero => cases P (fun _ => false) <;> rfl
    | succ x => cases P (fun _ => false) <;> rfl
  | k + 1, P, x => by
    have i1 := split dj (k := k) (P := P) (x := x)
    have t1 : cf k (fun U => subB (fun i => A i || B i) (k + 1) U && P (fun i => U i && A i) && (cnt (k + 1) (fun i => U i && B i) == x)) = cf k (fun U => subB A k U && P U) * bin (cnt k B) x := by
      rw [← i1]
      refine cf_congr fun U hU => ?_
      have u0 := hU k (Nat.le_refl _)
      show (subB _ k U && (!U k || _) && _ && _) = _
      rw [cnt_succ, u0]
      simp
    have r1 : cf k (fun U => subB A (k + 1) U && P U) = cf k (fun U => subB A k U && P U) := cf_congr fun U hU => by
      have u0 := hU k (Nat.le_refl _)
      show (subB A k U && (!U k || A k) && P U) = _
      rw [u0]
      simp
    show cf k (fun U => subB (fun i => A i || B i) (k + 1) U && P (fun i => U i && A i) && (cnt (k + 1) (fun i => U i && B i) == x)) + cf k (fun U => subB (fun i => A i || B i) (k + 1) (put U k) && P (fun i => put U k i && A i) && (cnt (k + 1) (fun i => put U k i && B i) == x)) =
      (cf k (fun U => subB A (k + 1) U && P U) + cf k (fun U => subB A (k + 1) (put U k) && P (put U k))) * bin (cnt (k + 1) B) x
    rw [t1, r1]
    have sp : ∀ (C : Nat → Bool) (U : Nat → Bool), subB C (k + 1) (put U k) = (subB C k U && C k) := fun C U => by
      show (subB C k (put U k) && (!put U k k || C k)) = _
      rw [subB_put, put_self]
      simp
    have cp : ∀ U : Nat → Bool, cnt (k + 1) (fun i => put U k i && B i) = cnt k (fun i => U i && B i) + if B k = true then 1 else 0 := fun U => by
      rw [cnt_succ, cnt_put, put_self, Bool.true_and]
    cases a : A k with
    | true =>
      have b := dj k a
      have t2 : cf k (fun U => subB (fun i => A i || B i) (k + 1) (put U k) && P (fun i => put U k i && A i) && (cnt (k + 1) (fun i => put U k i && B i) == x)) = cf k (fun U => subB A k U && P (put U k)) * bin (cnt k B) x := by
        rw [← split dj (k := k) (P := fun V => P (put V k)) (x := x)]
        refine cf_congr fun U hU => ?_
        have e : (fun i => put U k i && A i) = put (fun i => U i && A i) k := by
          funext i
          by_cases z : i = k
          · subst z
            rw [put_self, put_self, a]
            rfl
          · rw [put_ne _ z, put_ne _ z]
        rw [sp, cp, b, e, a]
        simp
      have r2 : cf k (fun U => subB A (k + 1) (put U k) && P (put U k)) = cf k (fun U => subB A k U && P (put U k)) := cf_congr fun U hU => by rw [sp, a, Bool.and_true]
      rw [t2, r2, cnt_succ, b, Nat.add_mul]
      simp
    | false =>
      have r2 : cf k (fun U => subB A (k + 1) (put U k) && P (put U k)) = 0 := by
        rw [← cf_false k]
        exact cf_congr fun U hU => by rw [sp, a]; simp
      rw [r2, Nat.add_zero, cnt_succ]
      cases b : B k with
      | false =>
        have t2 : cf k (fun U => subB (fun i => A i || B i) (k + 1) (put U k) && P (fun i => put U k i && A i) && (cnt (k + 1) (fun i => put U k i && B i) == x)) = 0 := by
          rw [← cf_false k]
          exact cf_congr fun U hU => by rw [sp, a, b]; simp
        rw [t2]
        simp
      | true =>
        have e : ∀ U : Nat → Bool, (fun i => put U k i && A i) = (fun i => U i && A i) := fun U => by
          funext i
          by_cases z : i = k
          · subst z
            rw [a, Bool.and_false, Bool.and_false]
          · rw [put_ne _ z]
        cases x with
        | zero =>
          have t2 : cf k (fun U => subB (fun i => A i || B i) (k + 1) (put U k) && P (fun i => put U k i && A i) && (cnt (k + 1) (fun i => put U k i && B i) == 0)) = 0 := by
            refine Eq.trans (cf_congr fun U hU => ?_) (cf_false k)
            rw [cp, b]
            simp
          rw [t2, bin_zero, bin_zero]
          simp
        | succ x =>
          have t2 : cf k (fun U => subB (fun i => A i || B i) (k + 1) (put U k) && P (fun i => put U k i && A i) && (cnt (k + 1) (fun i => put U k i && B i) == x + 1)) = cf k (fun U => subB A k U && P U) * bin (cnt k B) x := by
            rw [← split dj (k := k) (P := P) (x := x)]
            refine cf_congr fun U hU => ?_
            rw [sp, cp, e, b, a]
            have q : (cnt k (fun i => U i && B i) + 1 == x + 1) = (cnt k (fun i => U i && B i) == x) := by
              rw [Bool.eq_iff_iff, beq_iff_eq, beq_iff_eq]
              omega
            simp [q]
          rw [t2, if_pos rfl]
          show _ = _ * (bin (cnt k B) x + bin (cnt k B) (x + 1))
          simp only [Nat.add_zero, Nat.mul_add]
          omega
/-- the others as they are -/
theorem fixed {A X : Nat → Bool} : ∀ {k : Nat} {P : (Nat → Bool) → Bool},
    cf k (fun M => (List.range k).all (fun i => A i || (M i == X i)) && P (fun i => M i && A i)) = cf k (fun U => subB A k U && P U)
  | 0, P => rfl
  | k + 1, P => by
    have al : ∀ M : Nat → Bool, (List.range (k + 1)).all (fun i => A i || (M i == X i)) = ((List.range k).all (fun i => A i || (M i == X i)) && (A k || (M k == X k))) := fun M => by
      rw [List.range_succ, List.all_append]
      simp
    have ap : ∀ M : Nat → Bool, (List.range k).all (fun i => A i || (put M k i == X i)) = (List.range k).all (fun i => A i || (M i == X i)) := fun M => by
      rw [Bool.eq_iff_iff, List.all_eq_true, List.all_eq_true]
      constructor
      · intro h i hi
        have := h i hi
        rw [put_ne _ (by have := List.mem_range.mp hi; omega)] at this
        exact this
      · intro h i hi
        rw [put_ne _ (by have := List.mem_range.mp hi; omega)]
        exact h i hi
    have sp : ∀ U : Nat → Bool, subB A (k + 1) (put U k) = (subB A k U && A k) := fun U => by
      show (subB A k (put U k) && (!put U k k || A k)) = _
      rw [subB_put, put_self]
      simp
    have r1 : cf k (fun U => subB A (k + 1) U && P U) = cf k (fun U => subB A k U && P U) := cf_congr fun U hU => by
      have u0 := hU k (Nat.le_refl _)
      show (subB A k U && (!U k || A k) && P U) = _
      rw [u0]
      simp
    show cf k (fun M => (List.range (k + 1)).all (fun i => A i || (M i == X i)) && P (fun i => M i && A i)) + cf k (fun M => (List.range (k + 1)).all (fun i => A i || (put M k i == X i)) && P (fun i => put M k i && A i)) = cf k (fun U => subB A (k + 1) U && P U) + cf k (fun U => subB A (k + 1) (put U k) && P (put U k))
    rw [r1]
    cases a : A k with
    | true =>
      have t1 : cf k (fun M => (List.range (k + 1)).all (fun i => A i || (M i == X i)) && P (fun i => M i && A i)) = cf k (fun U => subB A k U && P U) := by
        rw [← fixed (k := k) (P := P) (X := X)]
        exact cf_congr fun U hU => by rw [al, a]; simp
      have t2 : cf k (fun M => (List.range (k + 1)).all (fun i => A i || (put M k i == X i)) && P (fun i => put M k i && A i)) = cf k (fun U => subB A (k + 1) (put U k) && P (put U k)) := by
        have q : cf k (fun U => subB A (k + 1) (put U k) && P (put U k)) = cf k (fun U => subB A k U && P (put U k)) := cf_congr fun U hU => by rw [sp, a, Bool.and_true]
        rw [q, ← fixed (k := k) (P := fun V => P (put V k)) (X := X)]
        refine cf_congr fun U hU => ?_
        have e : (fun i => put U k i && A i) = put (fun i => U i && A i) k := by
          funext i
          by_cases z : i = k
          · subst z
            rw [put_self, put_self, a]
            rfl
          · rw [put_ne _ z, put_ne _ z]
        rw [al, ap, e, a]
        simp
      rw [t1, t2]
    | false =>
      have r2 : cf k (fun U => subB A (k + 1) (put U k) && P (put U k)) = 0 := by
        rw [← cf_false k]
        exact cf_congr fun U hU => by rw [sp, a]; simp
      have e : ∀ U : Nat → Bool, (fun i => put U k i && A i) = (fun i => U i && A i) := fun U => by
        funext i
        by_cases z : i = k
        · subst z
          rw [a, Bool.and_false, Bool.and_false]
        · rw [put_ne _ z]
      have ih := fixed (A := A) (X := X) (k := k) (P := P)
      rw [r2, Nat.add_zero, ← ih]
      cases x : X k with
      | false =>
        have t1 : cf k (fun M => (List.range (k + 1)).all (fun i => A i || (M i == X i)) && P (fun i => M i && A i)) = cf k (fun M => (List.range k).all (fun i => A i || (M i == X i)) && P (fun i => M i && A i)) := cf_congr fun U hU => by
          rw [al, a, x, hU k (Nat.le_refl _)]
          simp
        have t2 : cf k (fun M => (List.range (k + 1)).all (fun i => A i || (put M k i == X i)) && P (fun i => put M k i && A i)) = 0 := by
          rw [← cf_false k]
          exact cf_congr fun U hU => by rw [al, a, x, put_self]; simp
        rw [t1, t2]
      | true =>
        have t1 : cf k (fun M => (List.range (k + 1)).all (fun i => A i || (M i == X i)) && P (fun i => M i && A i)) = 0 := by
          rw [← cf_false k]
          exact cf_congr fun U hU => by rw [al, a, x, hU k (Nat.le_refl _)]; simp
        have t2 : cf k (fun M => (List.range (k + 1)).all (fun i => A i || (put M k i == X i)) && P (fun i => put M k i && A i)) = cf k (fun M => (List.range k).all (fun i => A i || (M i == X i)) && P (fun i => M i && A i)) := cf_congr fun U hU => by
          rw [al, ap, e, a, x, put_self]
          simp
        rw [t1, t2]
        omega
/-! ### step by step from above: those who go, fewer with each step down -/
section
variable {k N f : Nat} {G : Nat → Nat → Bool}
/-- at each step from e on it is not stuck -/
def free (k N f : Nat) (G : Nat → Nat → Bool) (e : Nat) (U : Nat → Bool) : Bool := (List.range N).all fun n => decide (n < e) || decide (n < cnt k (G n) + f + cnt k (fun i => U i && !G n i))
theorem free_iff {e : Nat} {U : Nat → Bool} : free k N f G e U = true ↔ ∀ n, e ≤ n → n < N → n < cnt k (G n) + f + cnt k (fun i => U i && !G n i) := by
  unfold free
  rw [List.all_eq_true]
  constructor
  · intro h n he hn
    have := h n (List.mem_range.mpr hn)
    rw [Bool.or_eq_true, decide_eq_true_eq, decide_eq_true_eq] at this
    omega
  · intro h n hn
    rw [Bool.or_eq_true, decide_eq_true_eq, decide_eq_true_eq]
    by_cases c : n < e
    · exact .inl c
    · exact .inr (h n (by omega) (List.mem_range.mp hn))
/-- so many ways, of those that go at N and not at e -/
def ways (k N f : Nat) (G : Nat → Nat → Bool) (e t : Nat) : Nat := cf k (fun U => subB (fun i => G N i && !G e i) k U && (free k N f G e U && (cnt k U == t)))
theorem ways_top (t : Nat) : ways k N f G N t = if t = 0 then 1 else 0 := by
  have z : ∀ U, subB (fun i => G N i && !G N i) k U = true → cnt k U = 0 := fun U h => by
    rw [cnt_congr (U := fun _ => false) fun i hi => ?_]
    · exact Th.cnt_const k false
    · cases e : U i with
      | false => rfl
      | true =>
        have := subB_iff.mp h i hi e
        cases q : G N i <;> rw [q] at this <;> cases this
  have one : cf k (fun U => subB (fun i => G N i && !G N i) k U) = 1 := by
    have : ∀ {k : Nat}, cf k (fun U => subB (fun i => G N i && !G N i) k U) = 1 := fun {k} => by
      induction k with
      | zero => rfl
      | succ k ih =>
        have t1 : cf k (fun U => subB (fun i => G N i && !G N i) (k + 1) U) = 1 := by
          refine Eq.trans (cf_congr fun U hU => ?_) ih
          show (subB _ k U && (!U k || _)) = _
          rw [hU k (Nat.le_refl _)]
          simp
        have t2 : cf k (fun U => subB (fun i => G N i && !G N i) (k + 1) (put U k)) = 0 := by
          refine Eq.trans (cf_congr fun U hU => ?_) (cf_false k)
          show (subB _ k (put U k) && (!put U k k || (G N k && !G N k))) = false
          rw [put_self]
          cases G N k <;> simp
        show cf k (fun U => subB (fun i => G N i && !G N i) (k + 1) U) + cf k (fun U => subB (fun i => G N i && !G N i) (k + 1) (put U k)) = 1
        rw [t1, t2]
    exact this
  unfold ways
  by_cases c : t = 0
  · rw [if_pos c, ← one]
    refine cf_congr fun U hU => ?_
    cases q : subB (fun i => G N i && !G N i) k U with
    | false => rfl
    | true =>
      have fr : free k N f G N U = true := free_iff.mpr fun n h1 h2 => by omega
      rw [fr, z U q, c]
      rfl
  · rw [if_neg c]
    refine Eq.trans (cf_congr fun U hU => ?_) (cf_false k)
    cases q : subB (fun i => G N i && !G N i) k U with
    | false => rfl
    | true =>
      rw [z U q]
      have : (0 == t) = false := by rw [beq_eq_false_iff_ne]; omega
      rw [this, Bool.and_false, Bool.and_false]
/-- with so many more -/
theorem join {A B : Nat → Bool} (dj : ∀ i, A i = true → B i = false) {P : (Nat → Bool) → Bool} (t : Nat) :
    cf k (fun U => subB (fun i => A i || B i) k U && P (fun i => U i && A i) && (cnt k U == t)) = ((List.range (t + 1)).map fun x => cf k (fun U => subB A k U && (P U && (cnt k U == x))) * bin (cnt k B) (t - x)).sum := by
  have sp : ∀ {U : Nat → Bool}, subB (fun i => A i || B i) k U = true → cnt k U = cnt k (fun i => U i && A i) + cnt k (fun i => U i && B i) := fun {U} h => by
    rw [Th.cnt_split (k := k) U A]
    congr 1
    refine cnt_congr fun i hi => ?_
    cases e : U i with
    | false => rfl
    | true =>
      have := subB_iff.mp h i hi e
      cases a : A i with
      | true => rw [dj i a]; rfl
      | false =>
        rw [a] at this
        rw [show B i = true from this]
        rfl
  have e1 : ∀ x, x ∈ List.range (t + 1) → cf k (fun U => subB A k U && (P U && (cnt k U == x))) * bin (cnt k B) (t - x) = cf k (fun U => (subB (fun i => A i || B i) k U && P (fun i => U i && A i) && (cnt k U == t)) && (cnt k (fun i => U i && A i) == x)) := fun x hx => by
    rw [← split dj (k := k) (P := fun V => P V && (cnt k V == x)) (x := t - x)]
    refine cf_congr fun U hU => ?_
    have xl := List.mem_range.mp hx
    cases q : subB (fun i => A i || B i) k U with
    | false => rfl
    | true =>
      rw [sp q]
      cases P (fun i => U i && A i)
      · rfl
      · show (true && (true && (cnt k (fun i => U i && A i) == x)) && (cnt k (fun i => U i && B i) == t - x)) = ((true && true && (cnt k (fun i => U i && A i) + cnt k (fun i => U i && B i) == t)) && (cnt k (fun i => U i && A i) == x))
        rw [Bool.eq_iff_iff]
        simp only [Bool.true_and, Bool.and_eq_true, beq_iff_eq]
        omega
  rw [List.map_congr_left e1, cf_parts]
  refine cf_congr fun U hU => ?_
  cases q : subB (fun i => A i || B i) k U with
  | false => rfl
  | true =>
    have := sp q
    cases P (fun i => U i && A i)
    · rfl
    · show (true && true && (cnt k U == t)) = ((true && true && (cnt k U == t)) && decide (cnt k (fun i => U i && A i) ≤ t))
      rw [Bool.eq_iff_iff]
      simp only [Bool.true_and, Bool.and_eq_true, beq_iff_eq, decide_eq_true_eq]
      omega
theorem ways_step {e : Nat} (he : e < N) (mono : ∀ a b i, a ≤ b → b ≤ N → G a i = true → G b i = true) (t : Nat) :
    ways k N f G e t = if e < cnt k (G e) + f + t then ((List.range (t + 1)).map fun x => ways k N f G (e + 1) x * bin (cnt k (G (e + 1)) - cnt k (G e)) (t - x)).sum else 0 := by
  have cB : cnt k (fun i => G (e + 1) i && !G e i) = cnt k (G (e + 1)) - cnt k (G e) := by
    have := Th.cnt_split (k := k) (G (e + 1)) (G e)
    have e2 : cnt k (fun i => G (e + 1) i && G e i) = cnt k (G e) := cnt_congr fun i hi => by
      cases q : G e i with
      | false => rw [Bool.and_false]
      | true => rw [mono e (e + 1) i (by omega) (by omega) q]; rfl
    omega
  have eAB : (fun i => G N i && !G e i) = fun i => (G N i && !G (e + 1) i) || (G (e + 1) i && !G e i) := by
    funext i
    cases a : G e i with
    | true =>
      rw [mono e (e + 1) i (by omega) (by omega) a]
      simp
    | false =>
      cases b : G (e + 1) i with
      | true => rw [mono (e + 1) N i (by omega) (by omega) b]; rfl
      | false => simp
  have dj : ∀ i, (G N i && !G (e + 1) i) = true → (G (e + 1) i && !G e i) = false := fun i h => by
    cases b : G (e + 1) i with
    | true => rw [b] at h; simp at h
    | false => rfl
  have inA : ∀ {U : Nat → Bool} {n : Nat}, e + 1 ≤ n → n ≤ N → subB (fun i => G N i && !G e i) k U = true → cnt k (fun i => (U i && (G N i && !G (e + 1) i)) && !G n i) = cnt k (fun i => U i && !G n i) := fun {U n} h1 h2 h => cnt_congr fun i hi => by
    cases u : U i with
    | false => rfl
    | true =>
      have gN := subB_iff.mp h i hi u
      cases b : G n i with
      | true => simp
      | false =>
        have : G (e + 1) i = false := by
          cases c : G (e + 1) i with
          | false => rfl
          | true => rw [mono (e + 1) n i h1 h2 c] at b; cases b
        rw [this]
        cases q : G N i with
        | true => rfl
        | false => rw [q] at gN; cases gN
  have key : ways k N f G e t = if e < cnt k (G e) + f + t then cf k (fun U => subB (fun i => (G N i && !G (e + 1) i) || (G (e + 1) i && !G e i)) k U && free k N f G (e + 1) (fun i => U i && (G N i && !G (e + 1) i)) && (cnt k U == t)) else 0 := by
    unfold ways
    rw [← eAB]
    have cU : ∀ {U : Nat → Bool}, subB (fun i => G N i && !G e i) k U = true → cnt k (fun i => U i && !G e i) = cnt k U := fun {U} h => cnt_congr fun i hi => by
      cases u : U i with
      | false => rfl
      | true =>
        have := subB_iff.mp h i hi u
        cases b : G e i with
        | true => rw [b] at this; simp at this
        | false => rfl
    have fr : ∀ {U : Nat → Bool}, subB (fun i => G N i && !G e i) k U = true → (free k N f G e U = true ↔ e < cnt k (G e) + f + cnt k U ∧ free k N f G (e + 1) (fun i => U i && (G N i && !G (e + 1) i)) = true) := fun {U} h => by
      rw [free_iff, free_iff]
      constructor
      · intro a
        refine ⟨?_, fun n h1 h2 => ?_⟩
        · have := a e (Nat.le_refl _) he
          rw [cU h] at this
          exact this
        · rw [inA h1 (by omega) h]
          exact a n (by omega) h2
      · rintro ⟨a, b⟩ n h1 h2
        by_cases c : n = e
        · rw [c, cU h]
          exact a
        · have := b n (by omega) h2
          rw [inA (by omega) (by omega) h] at this
          exact this
    by_cases c : e < cnt k (G e) + f + t
    · rw [if_pos c]
      refine cf_congr fun U hU => ?_
      cases q : subB (fun i => G N i && !G e i) k U with
      | false => rfl
      | true =>
        rw [Bool.eq_iff_iff]
        simp only [Bool.true_and, Bool.and_eq_true, beq_iff_eq]
        rw [fr q]
        constructor
        · rintro ⟨⟨_, a⟩, b⟩
          exact ⟨a, b⟩
        · rintro ⟨a, b⟩
          exact ⟨⟨by rw [b]; exact c, a⟩, b⟩
    · rw [if_neg c]
      refine Eq.trans (cf_congr fun U hU => ?_) (cf_false k)
      cases q : subB (fun i => G N i && !G e i) k U with
      | false => rfl
      | true =>
        rw [Bool.eq_false_iff]
        simp only [Bool.true_and, ne_eq, Bool.and_eq_true, beq_iff_eq]
        rintro ⟨a, b⟩
        have := ((fr q).mp a).1
        rw [b] at this
        exact c this
  rw [key]
  by_cases c : e < cnt k (G e) + f + t
  · rw [if_pos c, if_pos c, join dj, cB]
    rfl
  · rw [if_neg c, if_neg c]
/-- all of them, of those that go at N -/
theorem ways_all (mono : ∀ a b i, a ≤ b → b ≤ N → G a i = true → G b i = true) (t : Nat) :
    cf k (fun U => subB (G N) k U && (free k N f G 0 U && (cnt k U == t))) = ((List.range (t + 1)).map fun x => ways k N f G 0 x * bin (cnt k (G 0)) (t - x)).sum := by
  have eAB : G N = fun i => (G N i && !G 0 i) || G 0 i := by
    funext i
    cases a : G 0 i with
    | true => rw [mono 0 N i (by omega) (by omega) a]; rfl
    | false => simp
  have dj : ∀ i, (G N i && !G 0 i) = true → G 0 i = false := fun i h => by
    cases b : G 0 i with
    | true => rw [b] at h; simp at h
    | false => rfl
  have inA : ∀ {U : Nat → Bool} {n : Nat}, n ≤ N → subB (G N) k U = true → cnt k (fun i => (U i && (G N i && !G 0 i)) && !G n i) = cnt k (fun i => U i && !G n i) := fun {U n} h2 h => cnt_congr fun i hi => by
    cases u : U i with
    | false => rfl
    | true =>
      have gN := subB_iff.mp h i hi u
      rw [gN]
      cases b : G n i with
      | true => simp
      | false =>
        have : G 0 i = false := by
          cases c : G 0 i with
          | false => rfl
          | true => rw [mono 0 n i (by omega) h2 c] at b; cases b
        rw [this]
        rfl
  have j := join (k := k) dj (P := free k N f G 0) t
  rw [← eAB] at j
  unfold ways
  rw [← j]
  refine cf_congr fun U hU => ?_
  cases q : subB (G N) k U with
  | false => rfl
  | true =>
    have : free k N f G 0 (fun i => U i && (G N i && !G 0 i)) = free k N f G 0 U := by
      rw [Bool.eq_iff_iff, free_iff, free_iff]
      constructor
      · intro a n h1 h2
        have := a n h1 h2
        rw [inA (by omega) q] at this
        exact this
      · intro a n h1 h2
        rw [inA (by omega) q]
        exact a n h1 h2
    rw [this, Bool.true_and, Bool.true_and]
end
end Ct

namespace Ct
open Th (cnt cnt_succ cnt_congr cnt_zero)
theorem sum_zeros {F : Nat → Nat} {a : Nat} (h : ∀ x, a ≤ x → F x = 0) : ∀ b, a ≤ b → ((List.range b).map F).sum = ((List.range a).map F).sum
  | 0, hb => by
    obtain rfl : a = 0 := by omega
    rfl
  | b + 1, hb => by
    by_cases e : a = b + 1
    · rw [e]
    · rw [List.range_succ, List.map_append, List.sum_append, sum_zeros h b (by omega)]
      show _ + (F b + 0) = _
      rw [h b (by omega)]
      rfl
/-! ### the ways as a list of numbers -/
def cv (ws : List Nat) (m t : Nat) : Nat := ((List.range ws.length).map fun i => if i ≤ t then ws.getD i 0 * bin m (t - i) else 0).sum
theorem getD_ge {ws : List Nat} {x : Nat} (h : ws.length ≤ x) : ws.getD x 0 = 0 := by
  rw [List.getD_eq_getElem?_getD, List.getElem?_eq_none h]
  rfl
theorem cv_eq (ws : List Nat) (m t : Nat) : cv ws m t = ((List.range (t + 1)).map fun x => ws.getD x 0 * bin m (t - x)).sum := by
  have a := sum_zeros (F := fun x => if x ≤ t then ws.getD x 0 * bin m (t - x) else 0) (a := ws.length) (fun x hx => by rw [getD_ge hx]; simp) (ws.length + (t + 1)) (by omega)
  have b := sum_zeros (F := fun x => if x ≤ t then ws.getD x 0 * bin m (t - x) else 0) (a := t + 1) (fun x hx => by rw [if_neg (by omega)]) (ws.length + (t + 1)) (by omega)
  unfold cv
  rw [← a, b]
  congr 1
  refine List.map_congr_left fun x hx => ?_
  rw [if_pos (by have := List.mem_range.mp hx; omega)]
theorem cv_zero {ws : List Nat} {m t : Nat} (h : ws.length + m ≤ t) : cv ws m t = 0 := by
  unfold cv
  have : ∀ l : List Nat, (∀ i ∈ l, i < ws.length) → (l.map fun i => if i ≤ t then ws.getD i 0 * bin m (t - i) else 0).sum = 0 := fun l => by
    induction l with
    | nil => intro _; rfl
    | cons i l ih =>
      intro hl
      rw [List.map_cons, List.sum_cons, ih fun j hj => hl j (.tail _ hj)]
      have := hl i (.head _)
      rw [bin_gt (n := m) (p := t - i) (by omega)]
      simp
  exact this _ fun i hi => List.mem_range.mp hi
def more (ws : List Nat) (m : Nat) : List Nat := (List.range (ws.length + m)).map (cv ws m)
theorem map_range_getD {F : Nat → Nat} {n t : Nat} : ((List.range n).map F).getD t 0 = if t < n then F t else 0 := by
  rw [List.getD_eq_getElem?_getD, List.getElem?_map]
  by_cases c : t < n
  · rw [if_pos c, List.getElem?_range c]
    rfl
  · rw [if_neg c, List.getElem?_eq_none (by rw [List.length_range]; omega)]
    rfl
theorem more_get (ws : List Nat) (m t : Nat) : (more ws m).getD t 0 = cv ws m t := by
  unfold more
  rw [map_range_getD]
  by_cases c : t < ws.length + m
  · rw [if_pos c]
  · rw [if_neg c, cv_zero (by omega)]
def mask (g f e : Nat) (ws : List Nat) : List Nat := (List.range ws.length).map fun t => if e < g + f + t then ws.getD t 0 else 0
theorem mask_get (g f e : Nat) (ws : List Nat) (t : Nat) : (mask g f e ws).getD t 0 = if e < g + f + t then ws.getD t 0 else 0 := by
  unfold mask
  rw [map_range_getD]
  by_cases c : t < ws.length
  · rw [if_pos c]
  · rw [if_neg c, getD_ge (by omega)]
    simp
def dp (g : Nat → Nat) (f N : Nat) : Nat → List Nat
  | 0 => [1]
  | j + 1 => mask (g (N - (j + 1))) f (N - (j + 1)) (more (dp g f N j) (g (N - j) - g (N - (j + 1))))
def tot (g : Nat → Nat) (f N : Nat) : Nat := ((List.range (more (dp g f N N) (g 0)).length).map fun t => if f + t ≤ N then (more (dp g f N N) (g 0)).getD t 0 else 0).sum
section
variable {k N f : Nat} {G : Nat → Nat → Bool}
theorem dp_ways (mono : ∀ a b i, a ≤ b → b ≤ N → G a i = true → G b i = true) : ∀ j, j ≤ N → ∀ t, (dp (fun e => cnt k (G e)) f N j).getD t 0 = ways k N f G (N - j) t
  | 0, _, t => by
    rw [Nat.sub_zero, ways_top]
    show [1].getD t 0 = _
    cases t <;> rfl
  | j + 1, hj, t => by
    have ih := dp_ways mono j (by omega)
    have e : N - j = N - (j + 1) + 1 := by omega
    show (mask _ f (N - (j + 1)) (more (dp (fun e => cnt k (G e)) f N j) _)).getD t 0 = _
    rw [mask_get, more_get, cv_eq, ways_step (by omega) mono]
    congr 1
    congr 1
    refine List.map_congr_left fun x _ => ?_
    rw [ih x]
    show ways k N f G (N - j) x * bin (cnt k (G (N - j)) - cnt k (G (N - (j + 1)))) (t - x) = _
    rw [e]
/-- those who are no more than N here, never stuck on the way up, who lies fast as X has it -/
def below (k N : Nat) (G : Nat → Nat → Bool) (X M : Nat → Bool) : Bool := (List.range k).all (fun i => G N i || (M i == X i)) && (decide (cnt k M ≤ N) && (List.range N).all (fun n => decide (n < cnt k (fun i => M i || G n i))))
theorem cnt_or {S g : Nat → Bool} : cnt k (fun i => S i || g i) = cnt k g + cnt k (fun i => S i && !g i) := by
  have := Th.cnt_and_or (k := k) S g
  omega
theorem below_cnt (mono : ∀ a b i, a ≤ b → b ≤ N → G a i = true → G b i = true) {X M : Nat → Bool} (h : (List.range k).all (fun i => G N i || (M i == X i)) = true) : cnt k M = cnt k (fun i => X i && !G N i) + cnt k (fun i => M i && G N i) ∧ ∀ n, n ≤ N → cnt k (fun i => M i && !G n i) = cnt k (fun i => X i && !G N i) + cnt k (fun i => (M i && G N i) && !G n i) := by
  have e : ∀ i, i < k → G N i = false → M i = X i := fun i hi g => by
    have := List.all_eq_true.mp h i (List.mem_range.mpr hi)
    rw [g] at this
    exact beq_iff_eq.mp this
  have x1 : cnt k (fun i => M i && !G N i) = cnt k (fun i => X i && !G N i) := cnt_congr fun i hi => by
    cases g : G N i with
    | true => simp
    | false => rw [e i hi g]
  refine ⟨?_, fun n hn => ?_⟩
  · have := Th.cnt_split (k := k) M (G N)
    omega
  · have := Th.cnt_split (k := k) (fun i => M i && !G n i) (G N)
    have y1 : cnt k (fun i => (M i && !G n i) && !G N i) = cnt k (fun i => X i && !G N i) := by
      rw [← x1]
      refine cnt_congr fun i hi => ?_
      cases g : G N i with
      | true => simp
      | false =>
        have : G n i = false := by
          cases c : G n i with
          | false => rfl
          | true => rw [mono n N i hn (Nat.le_refl _) c] at g; cases g
        rw [this]
        simp
    have y2 : cnt k (fun i => (M i && !G n i) && G N i) = cnt k (fun i => (M i && G N i) && !G n i) := cnt_congr fun i hi => by cases M i <;> cases G n i <;> cases G N i <;> rfl
    omega
theorem below_tot (mono : ∀ a b i, a ≤ b → b ≤ N → G a i = true → G b i = true) (X : Nat → Bool) : cf k (below k N G X) = tot (fun e => cnt k (G e)) (cnt k (fun i => X i && !G N i)) N := by
  have key : cf k (below k N G X) = cf k (fun M => (List.range k).all (fun i => G N i || (M i == X i)) && (fun U => free k N (cnt k (fun i => X i && !G N i)) G 0 U && decide (cnt k (fun i => X i && !G N i) + cnt k U ≤ N)) (fun i => M i && G N i)) := cf_congr fun M hM => by
    unfold below
    cases q : (List.range k).all (fun i => G N i || (M i == X i)) with
    | false => rfl
    | true =>
      obtain ⟨c1, c2⟩ := below_cnt mono q
      dsimp only
      rw [Bool.true_and, Bool.true_and, c1, Bool.and_comm]
      congr 1
      rw [Bool.eq_iff_iff, free_iff, List.all_eq_true]
      constructor
      · intro a n _ hn
        have := of_decide_eq_true (a n (List.mem_range.mpr hn))
        rw [cnt_or, c2 n (by omega)] at this
        omega
      · intro a n hn
        have hn' := List.mem_range.mp hn
        have := a n (Nat.zero_le _) hn'
        refine decide_eq_true ?_
        rw [cnt_or, c2 n (by omega)]
        omega
  rw [key, fixed (P := fun U => free k N (cnt k (fun i => X i && !G N i)) G 0 U && decide (cnt k (fun i => X i && !G N i) + cnt k U ≤ N))]
  generalize cnt k (fun i => X i && !G N i) = f
  have p := cf_parts (k := k) (P := fun U => subB (G N) k U && (free k N f G 0 U && decide (f + cnt k U ≤ N))) (f := fun U => cnt k U) N
  have e0 : cf k (fun U => subB (G N) k U && (free k N f G 0 U && decide (f + cnt k U ≤ N))) = cf k (fun U => (subB (G N) k U && (free k N f G 0 U && decide (f + cnt k U ≤ N))) && decide (cnt k U ≤ N)) := cf_congr fun U _ => by
    cases subB (G N) k U
    · rfl
    · cases free k N f G 0 U
      · rfl
      · rw [Bool.eq_iff_iff]
        simp only [Bool.true_and, Bool.and_eq_true, decide_eq_true_eq]
        omega
  rw [e0, ← p]
  have e1 : ∀ t, cf k (fun U => (subB (G N) k U && (free k N f G 0 U && decide (f + cnt k U ≤ N))) && (cnt k U == t)) = if f + t ≤ N then (more (dp (fun e => cnt k (G e)) f N N) (cnt k (G 0))).getD t 0 else 0 := fun t => by
    have d := dp_ways (k := k) (f := f) mono N (Nat.le_refl _)
    by_cases c : f + t ≤ N
    · rw [if_pos c, more_get, cv_eq]
      have w := ways_all (k := k) (f := f) mono t
      have e2 : ((List.range (t + 1)).map fun x => (dp (fun e => cnt k (G e)) f N N).getD x 0 * bin (cnt k (G 0)) (t - x)).sum = ((List.range (t + 1)).map fun x => ways k N f G 0 x * bin (cnt k (G 0)) (t - x)).sum := by
        congr 1
        refine List.map_congr_left fun x _ => ?_
        rw [d x, Nat.sub_self]
      rw [e2, ← w]
      refine cf_congr fun U _ => ?_
      rw [Bool.eq_iff_iff]
      simp only [Bool.and_eq_true, decide_eq_true_eq, beq_iff_eq]
      constructor
      · rintro ⟨⟨a, b, _⟩, e⟩
        exact ⟨a, b, e⟩
      · rintro ⟨a, b, e⟩
        exact ⟨⟨a, b, by rw [e]; exact c⟩, e⟩
    · rw [if_neg c]
      refine Eq.trans (cf_congr fun U _ => ?_) (cf_false k)
      rw [Bool.eq_false_iff]
      simp only [ne_eq, Bool.and_eq_true, decide_eq_true_eq, beq_iff_eq]
      rintro ⟨⟨_, _, b⟩, e⟩
      rw [e] at b
      exact c b
  unfold tot
  have lhs : ((List.range (N + 1)).map fun x => cf k (fun U => (subB (G N) k U && (free k N f G 0 U && decide (f + cnt k U ≤ N))) && (cnt k U == x))).sum = ((List.range (N + 1)).map fun t => if f + t ≤ N then (more (dp (fun e => cnt k (G e)) f N N) (cnt k (G 0))).getD t 0 else 0).sum := by
    congr 1
    exact List.map_congr_left fun x _ => e1 x
  rw [lhs]
  generalize more (dp (fun e => cnt k (G e)) f N N) (cnt k (G 0)) = ws
  have a := sum_zeros (F := fun t => if f + t ≤ N then ws.getD t 0 else 0) (a := N + 1) (fun x hx => by rw [if_neg (by omega)]) (ws.length + (N + 1)) (by omega)
  have b := sum_zeros (F := fun t => if f + t ≤ N then ws.getD t 0 else 0) (a := ws.length) (fun x hx => by rw [getD_ge hx]; simp) (ws.length + (N + 1)) (by omega)
  rw [← a, b]
/-- turned about there are as many -/
theorem cf_co : ∀ {k : Nat} {P : (Nat → Bool) → Bool}, (∀ U V, (∀ i, i < k → U i = V i) → P U = P V) → cf k (fun M => P (Th.co M)) = cf k P
  | 0, P, h => by
    show (if P (Th.co fun _ => false) = true then 1 else 0) = (if P (fun _ => false) = true then 1 else 0)
    rw [h (Th.co fun _ => false) (fun _ => false) fun i hi => by omega]
  | k + 1, P, h => by
    have p1 : ∀ U V : Nat → Bool, (∀ i, i < k → U i = V i) → P (put U k) = P (put V k) := fun U V e => h _ _ fun i hi => by
      by_cases z : i = k
      · subst z
        rw [put_self, put_self]
      · rw [put_ne _ z, put_ne _ z]
        exact e i (by omega)
    have p0 : ∀ U V : Nat → Bool, (∀ i, i < k → U i = V i) → P (fun i => if i = k then false else U i) = P (fun i => if i = k then false else V i) := fun U V e => h _ _ fun i hi => by
      by_cases z : i = k
      · rw [if_pos z, if_pos z]
      · rw [if_neg z, if_neg z]
        exact e i (by omega)
    have t1 : cf k (fun M => P (Th.co M)) = cf k (fun U => P (put U k)) := by
      rw [← cf_co (k := k) (P := fun U => P (put U k)) p1]
      refine cf_congr fun M hM => h _ _ fun i hi => ?_
      by_cases z : i = k
      · subst z
        rw [put_self]
        show (!M i) = true
        rw [hM i (Nat.le_refl _)]
        rfl
      · rw [put_ne _ z]
    have t2 : cf k (fun M => P (Th.co (put M k))) = cf k P := by
      have q : cf k P = cf k (fun U => P (fun i => if i = k then false else U i)) := cf_congr fun U hU => h _ _ fun i hi => by
        by_cases z : i = k
        · rw [if_pos z, z]
          exact hU k (Nat.le_refl _)
        · rw [if_neg z]
      rw [q, ← cf_co (k := k) (P := fun U => P (fun i => if i = k then false else U i)) p0]
      refine cf_congr fun M hM => h _ _ fun i hi => ?_
      show (!put M k i) = _
      by_cases z : i = k
      · rw [if_pos z, z, put_self]
        rfl
      · rw [if_neg z, put_ne _ z]
        rfl
    show cf k (fun M => P (Th.co M)) + cf k (fun M => P (Th.co (put M k))) = cf k P + cf k (fun U => P (put U k))
    rw [t1, t2]
    omega
end
end Ct

namespace Ct
open Th (cnt cnt_succ cnt_congr cnt_zero)
section
variable {k N T : Nat} {G : Nat → Nat → Bool} {S M : Nat → Bool}
theorem fast_all {g : Nat → Bool} : (∀ i, i < k → g i = false → M i = S i) ↔ (List.range k).all (fun i => g i || (M i == S i)) = true := by
  rw [List.all_eq_true]
  constructor
  · intro a i hi
    cases q : g i with
    | true => rfl
    | false => rw [a i (List.mem_range.mp hi) q]; simp
  · intro a i hi q
    have := a i (List.mem_range.mpr hi)
    rw [q] at this
    exact beq_iff_eq.mp this
theorem below_iff : below k N G S M = true ↔ (∀ i, i < k → G N i = false → M i = S i) ∧ cnt k M ≤ N ∧ ∀ n, cnt k M ≤ n → n < N → n < cnt k (fun i => M i || G n i) := by
  unfold below
  rw [Bool.and_eq_true, Bool.and_eq_true, ← fast_all, List.all_eq_true, decide_eq_true_eq]
  refine and_congr Iff.rfl (and_congr Iff.rfl ⟨fun a n _ h2 => of_decide_eq_true (a n (List.mem_range.mpr h2)), fun a n hn => decide_eq_true ?_⟩)
  by_cases z : cnt k M ≤ n
  · exact a n z (List.mem_range.mp hn)
  · have : cnt k M ≤ cnt k (fun i => M i || G n i) := Th.cnt_mono fun i _ h => by rw [h]; rfl
    omega
theorem below_low (h : Th.StuckLow k G N S) (t : Th.Top k G T) (hN : N ≤ T) (ho : ∀ i, ¬ i < k → M i = S i) : Th.Reach k G S M ↔ below k N G S M = true := by
  rw [h.iff t hN ho, below_iff]
  have fx : (∀ i, i < k → (M i || G N i) = (S i || G N i)) ↔ ∀ i, i < k → G N i = false → M i = S i := by
    constructor
    · intro a i hi g
      have := a i hi
      rw [g, Bool.or_false, Bool.or_false] at this
      exact this
    · intro a i hi
      cases g : G N i with
      | true => rw [Bool.or_true, Bool.or_true]
      | false => rw [a i hi g]
  rw [fx]
  constructor
  · rintro ⟨⟨a, b, c⟩, d⟩
    exact ⟨d, a, b⟩
  · rintro ⟨d, a, b⟩
    refine ⟨⟨a, b, ?_⟩, d⟩
    rw [cnt_congr (fx.mpr d)]
    exact h.2.2
theorem below_same {X U V : Nat → Bool} (e : ∀ i, i < k → U i = V i) : below k N G X U = below k N G X V := by
  rw [Bool.eq_iff_iff, below_iff, below_iff, cnt_congr e]
  have e2 : ∀ n, cnt k (fun i => U i || G n i) = cnt k (fun i => V i || G n i) := fun n => cnt_congr fun i hi => by rw [e i hi]
  constructor
  · rintro ⟨a, b, c⟩
    exact ⟨fun i hi g => by rw [← e i hi]; exact a i hi g, b, fun n h1 h2 => by rw [← e2]; exact c n h1 h2⟩
  · rintro ⟨a, b, c⟩
    exact ⟨fun i hi g => by rw [e i hi]; exact a i hi g, b, fun n h1 h2 => by rw [e2]; exact c n h1 h2⟩
/-- sinking is rising, turned about, but for the top's own step -/
theorem sinks_iff (hT : T < k) (hf : cnt k (fun i => M i && !G T i) ≤ T) : Th.Sinks k G T M ↔ cnt k (Th.co M) ≤ k - 1 - T ∧ ∀ n, cnt k (Th.co M) ≤ n → n < k - 1 - T → n < cnt k (fun i => Th.co M i || Th.dual k G n i) := by
  have c0 := Th.cnt_co k M
  have key : ∀ s, s < k → cnt k (fun i => Th.co M i || G s i) + cnt k (fun i => M i && !G s i) = k := fun s hs => by
    have e : (fun i => Th.co M i || G s i) = Th.co (fun i => M i && !G s i) := Th.co_or M (G s)
    rw [e]
    have := Th.cnt_co k (fun i => M i && !G s i)
    omega
  constructor
  · rintro ⟨a, b⟩
    refine ⟨by omega, fun n h1 h2 => ?_⟩
    have q := b (k - 1 - n) (by omega) (by omega)
    have := key (k - 1 - n) (by omega)
    show n < cnt k (fun i => Th.co M i || G (k - 1 - n) i)
    omega
  · rintro ⟨a, b⟩
    refine ⟨by omega, fun s h1 h2 => ?_⟩
    by_cases e : s = T
    · rw [e]
      exact hf
    · have sk : s < k := by omega
      have q : k - 1 - s < cnt k (fun i => Th.co M i || G (k - 1 - (k - 1 - s)) i) := b (k - 1 - s) (by omega) (by omega)
      rw [show k - 1 - (k - 1 - s) = s by omega] at q
      have := key s sk
      omega
theorem below_open (h : Th.Open k G T S) (t : Th.Top k G T) (ho : ∀ i, ¬ i < k → M i = S i) : Th.Reach k G S M ↔ (below k T G S M || below k (k - 1 - T) (Th.dual k G) (Th.co S) (Th.co M)) = true := by
  have hT := t.lt
  have f0 : cnt k (fun i => S i && !G T i) ≤ T := by
    rcases h.1 with r | r
    · have : cnt k (fun i => S i && !G T i) ≤ cnt k S := Th.cnt_mono fun i _ q => by
        cases e : S i with
        | true => rfl
        | false => rw [e] at q; cases q
      have := r.1
      omega
    · exact r.2 T (Nat.le_refl _) r.1
  have fM : (∀ i, i < k → G T i = false → M i = S i) → cnt k (fun i => M i && !G T i) ≤ T := fun a => by
    rw [cnt_congr (U := fun i => S i && !G T i) fun i hi => ?_]
    · exact f0
    · cases g : G T i with
      | true => simp
      | false => rw [a i hi g]
  have dl : ∀ i, Th.dual k G (k - 1 - T) i = G T i := fun i => by
    show G (k - 1 - (k - 1 - T)) i = _
    rw [show k - 1 - (k - 1 - T) = T by omega]
  have fc : (∀ i, i < k → Th.dual k G (k - 1 - T) i = false → Th.co M i = Th.co S i) ↔ ∀ i, i < k → G T i = false → M i = S i := by
    constructor
    · intro a i hi g
      have := a i hi (by rw [dl]; exact g)
      revert this
      show (!M i) = (!S i) → _
      cases M i <;> cases S i <;> simp
    · intro a i hi g
      rw [dl] at g
      show (!M i) = (!S i)
      rw [a i hi g]
  rw [Bool.or_eq_true, below_iff, below_iff, fc]
  constructor
  · intro r
    have a := Th.fast_inv t r
    rcases (h.same t r).1 with q | q
    · exact .inl ⟨a, q⟩
    · exact .inr ⟨a, (sinks_iff hT (fM a)).mp q⟩
  · rintro (⟨a, q⟩ | ⟨a, q⟩)
    · exact Th.open_reach t h.1 (.inl q) a ho
    · exact Th.open_reach t h.1 (.inr ((sinks_iff hT (fM a)).mpr q)) a ho
/-- how many it comes to -/
noncomputable def fam (k : Nat) (G : Nat → Nat → Bool) (S : Nat → Bool) : Nat := cf k (fun M => @decide (Th.Reach k G S M) (Classical.propDecidable _))
theorem fam_of {P : (Nat → Bool) → Bool} (S0 : ∀ i, ¬ i < k → S i = false) (h : ∀ M, (∀ i, ¬ i < k → M i = S i) → (Th.Reach k G S M ↔ P M = true)) : fam k G S = cf k P := cf_congr fun M hM => by
  rw [Bool.eq_iff_iff]
  exact Iff.trans (@decide_eq_true_iff _ (Classical.propDecidable _)) (h M fun i hi => by rw [S0 i hi, hM i (by omega)])
theorem fam_low (S0 : ∀ i, ¬ i < k → S i = false) (h : Th.StuckLow k G N S) (t : Th.Top k G T) (hN : N ≤ T) : fam k G S = cf k (below k N G S) := fam_of S0 fun M ho => below_low h t hN ho
theorem fam_high (S0 : ∀ i, ¬ i < k → S i = false) (h : Th.StuckLow k (Th.dual k G) N (Th.co S)) (t : Th.Top k G T) (hN : N ≤ k - 1 - T) : fam k G S = cf k (below k N (Th.dual k G) (Th.co S)) := by
  rw [fam_of S0 fun M ho => Iff.trans ⟨fun r => r.dual, fun r => r.codual⟩ (below_low h t.dual hN fun i hi => by show (!M i) = (!S i); rw [ho i hi])]
  exact cf_co (P := below k N (Th.dual k G) (Th.co S)) fun U V e => below_same e
theorem fam_open (S0 : ∀ i, ¬ i < k → S i = false) (h : Th.Open k G T S) (t : Th.Top k G T) : fam k G S = cf k (below k T G S) + cf k (below k (k - 1 - T) (Th.dual k G) (Th.co S)) := by
  rw [fam_of S0 fun M ho => below_open h t ho, cf_add, cf_co (P := below k (k - 1 - T) (Th.dual k G) (Th.co S)) fun U V e => below_same e]
  intro M
  rw [Bool.eq_false_iff]
  intro q
  rw [Bool.and_eq_true, below_iff, below_iff] at q
  have := q.1.2.1
  have := q.2.2.1
  have := Th.cnt_co k M
  have := t.lt
  omega
end
end Ct

namespace Sh
open PySem PySem.Spec PyProof.Rows L2
def nl (ws : List Nat) : List V := (ws.map fun (n : Nat) => (n : Int)).map V.int
theorem nl_len (ws : List Nat) : (nl ws).length = ws.length := by unfold nl; rw [List.length_map, List.length_map]
theorem nl_get {ws : List Nat} {i : Nat} (h : i < ws.length) : (nl ws)[i]? = some (.int ((ws[i] : Nat) : Int)) := by
  unfold nl
  rw [List.getElem?_map, List.getElem?_map, List.getElem?_eq_getElem h]
  rfl
theorem nl_set {ws : List Nat} {i n : Nat} : (nl ws).set i (.int (n : Int)) = nl (ws.set i n) := by
  unfold nl
  rw [List.map_set, List.map_set]
def spWaysTake : Sp := fun vs H Q _ => ∃ (m : Nat) (t : Int), vs = [.int (m : Int), .int t] ∧ m ≤ 1000 ∧ ∀ H', Same H H' → Q (.int ((if t < 0 then 0 else Ct.bin m t.toNat : Nat) : Int)) H'
def spWithMore (K : PySem.W.Frag) : Sp := fun vs H Q _ => ∃ (p : Addr) (ws : List Nat) (m : Nat), vs = [.ref p, .int (m : Int)] ∧ SqL K H p (nl ws) ∧ ws.length ≤ 500 ∧ m ≤ 60 ∧ ∀ (H' : Hp) (q : Addr), Same H H' → H q = none → H' q = some (.lst (nl (Ct.more ws m))) → Q (.ref q) H'
def spWaysBelow (K : PySem.W.Frag) : Sp := fun vs H Q _ => ∃ (v l : V) (h t : Int) (ss : List Srt) (kd : Kd) (N : Nat), vs = [v, l] ∧ FltA K H v h t ss ∧ ss.length ≤ 1000 ∧ LtA K H l kd (N : Int) ∧ mny ss ≤ 60 ∧ N ≤ 60 ∧ (∀ e, e < N → gmF ss (mk h t (mny ss) (e : Int)) ≤ gmF ss (mk h t (mny ss) ((e + 1 : Nat) : Int))) ∧
  ∀ H', Same H H' → Q (.int ((Ct.tot (fun e => gmF ss (mk h t (mny ss) (e : Int))) (fxF ss (mk h t (mny ss) (N : Int))).sum N : Nat) : Int)) H'
abbrev s_ways_to_take : Stmt := topS 21
theorem sc_ways_to_take : FnScope (["many", "taken", "ways", "place"] : List Str) (["many", "taken"] : List Str) (defScope s_ways_to_take) := ⟨rfl, rfl, rfl, by decide +kernel, rfl, by decide +kernel, by decide +kernel⟩
theorem b_ways_to_take (kV doc pm : Value) (an : Option Addr) (cdv ct : Value) (us : List Value) (hl : us.length = (["many", "taken"] : List Str).length) : bindArgs (PySem.W.fnOf "ways_to_take" "ways_to_take" (defArgs s_ways_to_take) (defBody s_ways_to_take) (defScope s_ways_to_take) .none kV doc pm an cdv ct) ⟨us, []⟩ = pure ((["many", "taken"] : List Str).zip us) :=
  match us, hl with | [_, _], _ => rfl
abbrev s_with_more : Stmt := topS 22
theorem sc_with_more : FnScope (["ways", "many", "longer", "taken", "number", "more"] : List Str) (["ways", "many"] : List Str) (defScope s_with_more) := ⟨rfl, rfl, rfl, by decide +kernel, rfl, by decide +kernel, by decide +kernel⟩
theorem b_with_more (kV doc pm : Value) (an : Option Addr) (cdv ct : Value) (us : List Value) (hl : us.length = (["ways", "many"] : List Str).length) : bindArgs (PySem.W.fnOf "with_more" "with_more" (defArgs s_with_more) (defBody s_with_more) (defScope s_with_more) .none kV doc pm an cdv ct) ⟨us, []⟩ = pure ((["ways", "many"] : List Str).zip us) :=
  match us, hl with | [_, _], _ => rfl
abbrev s_ways_below : Stmt := topS 23
theorem sc_ways_below : FnScope (["fleet", "lot", "step", "fixed", "ways", "goers", "earlier", "fewer", "taken", "number"] : List Str) (["fleet", "lot"] : List Str) (defScope s_ways_below) := ⟨rfl, rfl, rfl, by decide +kernel, rfl, by decide +kernel, by decide +kernel⟩
theorem b_ways_below (kV doc pm : Value) (an : Option Addr) (cdv ct : Value) (us : List Value) (hl : us.length = (["fleet", "lot"] : List Str).length) : bindArgs (PySem.W.fnOf "ways_below" "ways_below" (defArgs s_ways_below) (defBody s_ways_below) (defScope s_ways_below) .none kV doc pm an cdv ct) ⟨us, []⟩ = pure ((["fleet", "lot"] : List Str).zip us) :=
  match us, hl with | [_, _], _ => rfl
section
variable {P : Program} {w : World} {K : PySem.W.Frag} {mg : Str → Option Value} {base : Heap}
theorem ok_ways_take {k : Nat} (D : Df K mg "ways_to_take" s_ways_to_take) (T : Bt mg) : Ok P w K mg base (k + 1) "ways_to_take" s_ways_to_take ["many", "taken"] spWaysTake := by
  refine D.ok sc_ways_to_take b_ways_to_take (fun vs H Q E h => ?_) (fun f cdv A outer s H vs Q E hr h => ?_)
  · obtain ⟨m, t, rfl, _⟩ := h
    rfl
  · obtain ⟨m, t, rfl, m1, q⟩ := h
    refine ⟨_, (pss_cons (ps_if (PW.pt (pw_or (pt_cmpR op_lt (pv 1) pe_int (nomark _)) (pw_or1 (pt_cmpR op_gt (pv 1) (pv 0) (nomark _)))))
        (pss_one (ps_ret pe_int))
        pss_nil)
      (pss_cons (ps_set (i := 2) sc_ways_to_take.nd rfl (.inl rfl) pe_int)
      (pss_cons (ps_for PassesOwn.never rfl (pi_range1 (by rfl) T.range_ (pa_cons (pv 1) pa_nil)) (pg_name (i := 3) sc_ways_to_take.nd rfl (.inl rfl))
        (pss_one (ps_set (i := 2) sc_ways_to_take.nd rfl (.inl rfl) (pe_op op_fdiv (pe_op op_mul (pv 2) (pe_op op_sub (pv 0) (pv 3))) (pe_op op_add (pv 3) pe_int)))))
      (pss_one (ps_ret (pv 2)))))), ?_⟩
    refine ⟨_, rfl, _, _, rfl, rfl, _, rfl, ?_⟩
    by_cases c : t < 0
    · rw [decide_eq_true c]
      rw [if_pos c] at q
      exact iteT (iteT (q H (Same.refl _)))
    rw [decide_eq_false c]
    refine iteF ?_
    rw [if_neg c] at q
    refine ⟨_, rfl, _, rfl, _, _, rfl, rfl, _, rfl, ?_⟩
    by_cases c2 : (m : Int) < t
    · rw [decide_eq_true c2]
      rw [Ct.bin_gt (by omega)] at q
      exact iteT (q H (Same.refl _))
    rw [decide_eq_false c2]
    refine iteF ?_
    obtain ⟨tn, rfl⟩ := Int.eq_ofNat_of_zero_le (show 0 ≤ t by omega)
    rw [Int.toNat_natCast] at q
    refine ⟨_, rfl, (tn : Int), rfl, by omega, by omega, ?_⟩
    rw [Int.toNat_natCast]
    refine for_range (lo := 0) (n := tn) (fun i σ H' => ∃ y3 : Option V, σ = [some (.int (m : Int)), some (.int (tn : Int)), some (.int ((Ct.bin m i : Nat) : Int)), y3] ∧ H' = H) ⟨none, by rw [Ct.bin_zero]; rfl, rfl⟩ ?_ ?_
    · rintro i σ H1 hi ⟨y3, rfl, rfl⟩
      refine ⟨_, rfl, _, rfl, _, rfl, _, _, rfl, rfl, _, _, rfl, rfl, .inr ⟨by omega, by omega⟩, _, rfl, _, 1, rfl, rfl, _, _, rfl, rfl, ⟨by omega, by omega⟩, ?_⟩
      refine ⟨some (.int (0 + (i : Int))), ?_, rfl⟩
      have e : ((Ct.bin m i : Nat) : Int) * ((m : Int) - (0 + (i : Int))) / (0 + (i : Int) + 1) = ((Ct.bin m (i + 1) : Nat) : Int) := by
        have b := Ct.bin_step (n := m) (p := i) (by omega)
        have c : ((Ct.bin m i : Nat) : Int) * ((m : Int) - (0 + (i : Int))) = ((Ct.bin m (i + 1) : Nat) : Int) * (0 + (i : Int) + 1) := by
          have d := congrArg (fun n : Nat => (n : Int)) b
          simp only [Int.natCast_mul] at d
          rw [show ((m - i : Nat) : Int) = (m : Int) - (0 + (i : Int)) by omega, show ((i + 1 : Nat) : Int) = 0 + (i : Int) + 1 by omega] at d
          exact d
        rw [c]
        exact Int.mul_ediv_cancel _ (by omega)
      rw [← e]
      rfl
    · rintro σ H1 ⟨y3, rfl, rfl⟩
      exact ⟨_, rfl, q _ (Same.refl _)⟩
/-- as far as the first i and j of the next have been laid -/
def cvp (ws : List Nat) (m i t : Nat) : Nat := ((List.range i).map fun x => if x ≤ t then ws.getD x 0 * Ct.bin m (t - x) else 0).sum
def cvq (ws : List Nat) (m i j t : Nat) : Nat := cvp ws m i t + if i ≤ t ∧ t - i < j then ws.getD i 0 * Ct.bin m (t - i) else 0
theorem cvq_zero (ws : List Nat) (m i t : Nat) : cvq ws m i 0 t = cvp ws m i t := by
  unfold cvq
  rw [if_neg (by omega), Nat.add_zero]
theorem cvq_last (ws : List Nat) (m i t : Nat) : cvq ws m i (m + 1) t = cvp ws m (i + 1) t := by
  unfold cvq cvp
  rw [List.range_succ, List.map_append, List.sum_append]
  show _ = _ + ((if i ≤ t then ws.getD i 0 * Ct.bin m (t - i) else 0) + 0)
  by_cases c : i ≤ t
  · rw [if_pos c]
    by_cases d : t - i < m + 1
    · rw [if_pos ⟨c, d⟩]
      rfl
    · rw [if_neg (fun z => d z.2), Ct.bin_gt (by omega)]
      simp
  · rw [if_neg (fun z => c z.1), if_neg c]
theorem cvq_step (ws : List Nat) (m i j t : Nat) : cvq ws m i (j + 1) t = if t = i + j then cvq ws m i j t + ws.getD i 0 * Ct.bin m j else cvq ws m i j t := by
  unfold cvq
  by_cases c : t = i + j
  · subst c
    rw [if_pos rfl, if_pos ⟨by omega, by omega⟩, if_neg (by omega), show i + j - i = j by omega, Nat.add_zero]
  · rw [if_neg c]
    by_cases d : i ≤ t ∧ t - i < j
    · rw [if_pos d, if_pos ⟨d.1, by omega⟩]
    · rw [if_neg d, if_neg (fun z => d ⟨z.1, by omega⟩)]
theorem range_set {n a v : Nat} {F : Nat → Nat} : ((List.range n).map F).set a v = (List.range n).map fun t => if t = a then v else F t := by
  apply List.ext_getElem?
  intro i
  rw [List.getElem?_set, List.length_map, List.length_range, List.getElem?_map, List.getElem?_map]
  by_cases h : i < n
  · rw [List.getElem?_range h]
    by_cases c : a = i
    · subst c
      rw [if_pos rfl, if_pos h]
      show some v = some (if a = a then v else F a)
      rw [if_pos rfl]
    · rw [if_neg c]
      show some (F i) = some (if i = a then v else F i)
      rw [if_neg fun z => c z.symm]
  · rw [List.getElem?_eq_none (by rw [List.length_range]; omega)]
    by_cases c : a = i
    · rw [if_pos c, if_neg (by omega)]
      rfl
    · rw [if_neg c]
      rfl
set_option maxHeartbeats 4000000 in
theorem ok_with_more {k : Nat} (D : Df K mg "with_more" s_with_more) (T : Bt mg) (O_ways_to_take : Ok P w K mg base k "ways_to_take" s_ways_to_take ["many", "taken"] spWaysTake) : Ok P w K mg base (k + 1) "with_more" s_with_more ["ways", "many"] (spWithMore K) := by
  refine D.ok sc_with_more b_with_more (fun vs H Q E h => ?_) (fun f cdv A outer s H vs Q E hr h => ?_)
  · obtain ⟨p, ws, m, rfl, _⟩ := h
    rfl
  · obtain ⟨p, ws, m, rfl, hp, w1, m1, q⟩ := h
    refine ⟨_, (pss_cons (ps_set (i := 2) sc_with_more.nd rfl (.inl rfl) (pe_op op_rep (pe_lst (pa_cons pe_int pa_nil)) (pe_op op_add (pe_callB call_len_seq (by rfl) T.len_ PySem.boot_len (pa_cons (pv 0) pa_nil)) (pv 1))))
      (pss_cons (ps_for PassesOwn.never rfl (pi_enumA (by rfl) T.enumerate_ (pa_cons (pv 0) pa_nil)) (pg_seq rfl (pgs_cons (pg_name (i := 3) sc_with_more.nd rfl (.inl rfl)) (pgs_cons (pg_name (i := 4) sc_with_more.nd rfl (.inl rfl)) pgs_nil)))
        (pss_one (ps_for PassesOwn.never rfl (pi_range1 (by rfl) T.range_ (pa_cons (pe_op op_add (pv 1) pe_int) pa_nil)) (pg_name (i := 5) sc_with_more.nd rfl (.inl rfl))
            (pss_one (ps_augS (pv 2) (pe_op op_add (pv 3) (pv 5)) pget_nat (pe_op op_mul (pv 4) (pe_fn O_ways_to_take (hr.mono (by omega)) (pa_cons (pv 1) (pa_cons (pv 5) pa_nil)))) ip_add set_list)))))
      (pss_one (ps_ret (pv 2))))), ?_⟩
    refine ⟨(by show 1 ≤ sizeLine; decide), fun l0 nl0 => ?_⟩
    have s1 : Same H (upd H l0 (.lst [.int 0])) := same_new nl0
    have e1 : upd H l0 (.lst [.int 0]) l0 = _ := upd_same
    generalize upd H l0 (.lst [.int 0]) = H1 at s1 e1
    refine ⟨_, rfl, p, _, rfl, .inl (s1.seq hp), _, rfl, _, _, rfl, rfl, ?_⟩
    rw [nl_len]
    refine ⟨l0, _, _, rfl, rfl, e1, by omega, by omega, ?_, fun L nL => ?_⟩
    · show 1 * _ ≤ sizeLine
      rw [Nat.one_mul]
      exact Nat.le_trans (show _ ≤ 1000 by omega) (by decide)
    have e0 : (List.replicate ((ws.length : Int) + (m : Int)).toNat [V.int 0]).flatten = nl ((List.range (ws.length + m)).map (cvp ws m 0)) := by
      rw [show ((ws.length : Int) + (m : Int)).toNat = ws.length + m by omega]
      unfold nl
      rw [List.map_map, List.map_map]
      have : ∀ n, (List.replicate n [V.int 0]).flatten = (List.range n).map fun _ => V.int 0 := fun n => by
        induction n with
        | zero => rfl
        | succ n ih => rw [List.replicate_succ', List.flatten_append, ih, List.range_succ, List.map_append]; rfl
      rw [this]
      rfl
    rw [e0]
    have s2 : Same H1 (upd H1 L (.lst (nl ((List.range (ws.length + m)).map (cvp ws m 0))))) := same_new nL
    have e2 : upd H1 L (.lst (nl ((List.range (ws.length + m)).map (cvp ws m 0)))) L = _ := upd_same
    generalize upd H1 L (.lst (nl ((List.range (ws.length + m)).map (cvp ws m 0)))) = H2 at s2 e2
    have s02 := s1.trans s2
    have nL0 : H L = none := s1.free nL
    refine ⟨_, rfl, p, _, H, rfl, .inl hp, Kp.ofS s02, fun J hJ => ?_⟩
    obtain ⟨G, g, W⟩ := hJ.walk
    refine for_it W (fun i σ H' => ∃ y3 y4 y5 : Option V, σ = [some (.ref p), some (.int (m : Int)), some (.ref L), y3, y4, y5] ∧ Same H H' ∧ H' L = some (.lst (nl ((List.range (ws.length + m)).map (cvp ws m i))))) ⟨none, none, none, rfl, s02, e2⟩ (fun i σ H' _ ⟨_, _, _, _, z, _⟩ => g H' (.ofS z)) ?_ ?_
    · rintro i x σ Ha Hb hi ⟨y3, y4, y5, rfl, sm, hL⟩ ⟨u, x1, x2, rfl, nu, rfl, g1, g2⟩
      rw [nl_len] at hi
      obtain rfl : .int (i : Nat) = x1 := Option.some.inj g1
      obtain rfl : .int ((ws[i] : Nat) : Int) = x2 := Option.some.inj ((nl_get hi).symm.trans g2)
      have sb : Same Ha (upd Ha u (.tup [.int (i : Nat), .int ((ws[i] : Nat) : Int)])) := same_new nu
      refine ⟨u, _, rfl, SqA.t upd_same, rfl, _, _, rfl, _, _, rfl, rfl, ?_⟩
      have smb := sm.trans sb
      have hLb := sb _ _ hL
      generalize upd Ha u (.tup [.int (i : Nat), .int ((ws[i] : Nat) : Int)]) = Hb at smb hLb
      have eg : ws.getD i 0 = ws[i] := by simp [hi]
      refine ⟨_, rfl, _, 1, rfl, rfl, _, rfl, by omega, by omega, ?_⟩
      rw [show ((m : Int) + 1).toNat = m + 1 by omega]
      refine for_range (lo := 0) (n := m + 1) (fun j σ H' => ∃ y5 : Option V, σ = [some (.ref p), some (.int (m : Int)), some (.ref L), some (.int (i : Nat)), some (.int ((ws[i] : Nat) : Int)), y5] ∧ Same H H' ∧ H' L = some (.lst (nl ((List.range (ws.length + m)).map (cvq ws m i j))))) ⟨_, rfl, smb, by rw [hLb, funext (cvq_zero ws m i)]⟩ ?_ ?_
      · rintro j σ Hc hj ⟨y5, rfl, sc, hLc⟩
        have ij : i + j < ws.length + m := by omega
        refine ⟨_, rfl, _, rfl, _, rfl, _, _, rfl, rfl, L, _, i + j, .int ((cvq ws m i j (i + j) : Nat) : Int), rfl, ?_, SqL.of hLc, ?_, ?_⟩
        · show V.int ((i : Int) + (0 + (j : Int))) = V.int ((i + j : Nat) : Int)
          rw [Int.zero_add, Int.natCast_add]
        · rw [nl_get (by rw [List.length_map, List.length_range]; exact ij)]
          simp
        refine ⟨_, rfl, _, rfl, _, rfl, m, 0 + (j : Int), rfl, by omega, fun Hd sd => ?_⟩
        rw [if_neg (by omega), show (0 + (j : Int)).toNat = j by omega]
        have bl := Ct.bin_le m j
        have b2 : (2 : Nat) ^ m ≤ 2 ^ 60 := Nat.pow_le_pow_right (by decide) m1
        have b3 : (2 : Nat) ^ 60 = 1152921504606846976 := by decide
        refine ⟨_, _, rfl, rfl, .inr ⟨by omega, by omega⟩, _, _, rfl, rfl, L, _, _, i + j, rfl, rfl, sd _ _ hLc, ?_, ?_⟩
        · rw [nl_len, List.length_map, List.length_range]
          unfold ixN
          rw [if_pos (by omega), if_pos (by omega)]
          congr 1
          omega
        refine ⟨_, rfl, same_over (sc.trans sd) nL0, ?_⟩
        rw [upd_same]
        rw [show (V.int (((cvq ws m i j (i + j) : Nat) : Int) + ((ws[i] : Nat) : Int) * ((Ct.bin m j : Nat) : Int))) = .int ((cvq ws m i j (i + j) + ws[i] * Ct.bin m j : Nat) : Int) by rw [Int.natCast_add, Int.natCast_mul]]
        rw [nl_set, range_set]
        congr 3
        refine List.map_congr_left fun t _ => ?_
        rw [cvq_step, eg]
        by_cases c : t = i + j
        · rw [if_pos c, if_pos c, c]
        · rw [if_neg c, if_neg c]
      · rintro σ Hc ⟨y5, rfl, sc, hLc⟩
        exact ⟨_, _, _, rfl, sc, by rw [hLc, funext (cvq_last ws m i)]⟩
    · rintro σ Hz ⟨y3, y4, y5, rfl, sz, hLz⟩
      rw [nl_len] at hLz
      exact ⟨_, rfl, q Hz L sz nL0 hLz⟩
end
end Sh

namespace Sh
open PySem PySem.Spec PyProof.Rows L2
theorem dp_len (g : Nat → Nat) (f N : Nat) (up : ∀ e, e < N → g e ≤ g (e + 1)) : ∀ j, j ≤ N → (Ct.dp g f N j).length + g (N - j) = 1 + g N
  | 0, _ => by
    rw [Nat.sub_zero]
    rfl
  | j + 1, hj => by
    have ih := dp_len g f N up j (by omega)
    have u := up (N - (j + 1)) (by omega)
    rw [show N - (j + 1) + 1 = N - j by omega] at u
    show (Ct.mask _ f _ (Ct.more (Ct.dp g f N j) _)).length + _ = _
    unfold Ct.mask Ct.more
    rw [List.length_map, List.length_range, List.length_map, List.length_range]
    omega
theorem nsumI : ∀ l : List Nat, (l.map fun (i : Nat) => (i : Int)).sum = ((l.sum : Nat) : Int)
  | [] => rfl
  | a :: l => by
    rw [List.map_cons, List.sum_cons, List.sum_cons, nsumI l]
    omega
theorem gm_le (ss : List Srt) (m : Int) : gmF ss m ≤ mny ss := by
  unfold gmF mny
  induction ss with
  | nil => exact Nat.le_refl _
  | cons x ss ih =>
    by_cases c : x.1 ≤ m
    · rw [List.filter_cons_of_pos (by simpa using c), List.map_cons, List.sum_cons, List.map_cons, List.sum_cons]
      omega
    · rw [List.filter_cons_of_neg (by simpa using c), List.map_cons, List.sum_cons]
      omega
theorem take_map_range (F : Nat → Nat) {n i : Nat} (h : i < n) : ((List.range n).map F).take (i + 1) = ((List.range n).map F).take i ++ [F i] := by
  rw [take_succ_get (by rw [List.length_map, List.length_range]; exact h)]
  simp
/-- the sum of those so far -/
def totP (ws : List Nat) (f N i : Nat) : List Nat := ((List.range i).filter fun t => decide (f + t ≤ N)).map fun t => ws.getD t 0
theorem totP_sum (ws : List Nat) (f N : Nat) : ∀ i, (totP ws f N i).sum = ((List.range i).map fun t => if f + t ≤ N then ws.getD t 0 else 0).sum
  | 0 => rfl
  | i + 1 => by
    have ih := totP_sum ws f N i
    unfold totP at ih ⊢
    rw [List.range_succ, List.filter_append, List.map_append, List.sum_append, ih, List.map_append, List.sum_append]
    congr 1
    by_cases c : f + i ≤ N
    · rw [List.filter_cons_of_pos (by simpa using c)]
      show _ = (if f + i ≤ N then ws.getD i 0 else 0) + 0
      rw [if_pos c]
      rfl
    · rw [List.filter_cons_of_neg (by simpa using c)]
      show _ = (if f + i ≤ N then ws.getD i 0 else 0) + 0
      rw [if_neg c]
      rfl
section
variable {P : Program} {w : World} {K : PySem.W.Frag} {mg : Str → Option Value} {base : Heap}
set_option maxHeartbeats 4000000 in
theorem ok_ways_below {k : Nat} (D : Df K mg "ways_below" s_ways_below) (T : Bt mg) (O_fixed_ones : Ok P w K mg base k "fixed_ones" s_fixed_ones ["fleet", "lot"] (spFixed K)) (O_goers_many : Ok P w K mg base k "goers_many" s_goers_many ["fleet", "step"] (spGoersMany K)) (O_with_more : Ok P w K mg base k "with_more" s_with_more ["ways", "many"] (spWithMore K)) :
    Ok P w K mg base (k + 1) "ways_below" s_ways_below ["fleet", "lot"] (spWaysBelow K) := by
  refine D.ok sc_ways_below b_ways_below (fun vs H Q E h => ?_) (fun f cdv A outer s H vs Q E hr h => ?_)
  · obtain ⟨v, l, h, t, ss, kd, N, rfl, _⟩ := h
    rfl
  · obtain ⟨v, l, h, t, ss, kd, N, rfl, hv, l1, hl, m1, N1, up, q⟩ := h
    have gb : ∀ e : Nat, gmF ss (mk h t (mny ss) (e : Int)) ≤ 60 := fun e => Nat.le_trans (gm_le ss _) m1
    generalize eg : (fun e : Nat => gmF ss (mk h t (mny ss) (e : Int))) = g at q
    have ge : ∀ e : Nat, gmF ss (mk h t (mny ss) (e : Int)) = g e := fun e => congrFun eg e
    simp only [ge] at up gb
    refine ⟨_, (pss_cons (ps_set (i := 2) sc_ways_below.nd rfl (.inr rfl) (pe_ix ix_lt (pv 1) pe_int (fun _ _ => rfl)))
      (pss_cons (ps_set (i := 3) sc_ways_below.nd rfl (.inr rfl) (pe_callB (cr_sum rfl) (by rfl) T.sum_ (by decide +kernel) (pa_cons (pe_fn O_fixed_ones (hr.mono (by omega)) (pa_cons (pv 0) (pa_cons (pv 1) pa_nil))) pa_nil)))
      (pss_cons (ps_set (i := 4) sc_ways_below.nd rfl (.inl rfl) (pe_lst (pa_cons pe_int pa_nil)))
      (pss_cons (ps_set (i := 5) sc_ways_below.nd rfl (.inr rfl) (pe_fn O_goers_many (hr.mono (by omega)) (pa_cons (pv 0) (pa_cons (pv 2) pa_nil))))
      (pss_cons (ps_for PassesOwn.never rfl (pi_revR (by rfl) T.reversed_ (prg_1 (by rfl) T.range_ (pv 2))) (pg_name (i := 6) sc_ways_below.nd rfl (.inr rfl))
        (pss_cons (ps_set (i := 7) sc_ways_below.nd rfl (.inl rfl) (pe_fn O_goers_many (hr.mono (by omega)) (pa_cons (pv 0) (pa_cons (pv 6) pa_nil))))
          (pss_cons (ps_set (i := 4) sc_ways_below.nd rfl (.inl rfl) (pe_fn O_with_more (hr.mono (by omega)) (pa_cons (pv 4) (pa_cons (pe_op op_sub (pv 5) (pv 7)) pa_nil))))
          (pss_cons (ps_set (i := 5) sc_ways_below.nd rfl (.inr rfl) (pv 7))
          (pss_one (ps_setLc (i := 4) (own := [("taken", 8), ("number", 9)]) (g := (gSeq K 2 (gCons (gName 8) (gCons (gName 9) gNil)))) (tt := tYes) (by rfl) sc_ways_below.nd rfl rfl (sw_true rfl rfl rfl (by decide +kernel)) (pi_enumA (by rfl) T.enumerate_ (pa_cons (pv 4) pa_nil)) (blkOk_by (own := [("taken", 8), ("number", 9)]) (N := (["fleet", "lot", "step", "fixed", "ways", "goers", "earlier", "fewer", "taken", "number"] : List Str)) (sc := defScope s_ways_below) (by decide +kernel)) (fun _ _ _ _ _ => (pg_seq rfl (pgs_cons (pg_name (i := 8) sc_ways_below.nd rfl (.inl rfl)) (pgs_cons (pg_name (i := 9) sc_ways_below.nd rfl (.inl rfl)) pgs_nil)))) (fun _ _ _ _ _ => pts_nil) (fun _ _ _ _ _ => (pe_ifExp (pt_cmpR op_gt (pe_op op_add (pe_op op_add (pv 5) (pv 3)) (pv 8)) (pv 6) (nomark _)) (pv 9) pe_int))))))))
      (pss_cons (ps_set (i := 4) sc_ways_below.nd rfl (.inl rfl) (pe_fn O_with_more (hr.mono (by omega)) (pa_cons (pv 4) (pa_cons (pv 5) pa_nil))))
      (pss_one (ps_ret (pe_callB (cr_sum rfl) (by rfl) T.sum_ (by decide +kernel) (pa_cons (pe_lc (own := [("taken", 8), ("number", 9)]) (g := (gSeq K 2 (gCons (gName 8) (gCons (gName 9) gNil)))) (by rfl) sc_ways_below.nd (pi_enumA (by rfl) T.enumerate_ (pa_cons (pv 4) pa_nil)) (blkOk_by (own := [("taken", 8), ("number", 9)]) (N := (["fleet", "lot", "step", "fixed", "ways", "goers", "earlier", "fewer", "taken", "number"] : List Str)) (sc := defScope s_ways_below) (by decide +kernel)) (fun _ _ _ _ _ => (pg_seq rfl (pgs_cons (pg_name (i := 8) sc_ways_below.nd rfl (.inl rfl)) (pgs_cons (pg_name (i := 9) sc_ways_below.nd rfl (.inl rfl)) pgs_nil)))) (fun _ _ _ _ _ => (pts_one (pt_cmpR op_le (pe_op op_add (pv 3) (pv 8)) (pv 2) (nomark _)))) (fun _ _ _ _ _ => (pv 9))) pa_nil)))))))))), ?_⟩
    obtain ⟨lp, rfl, hlp⟩ := id hl
    refine ⟨_, rfl, lp, _, 1, .int (N : Int), rfl, rfl, hlp, rfl, ?_⟩
    refine ⟨_, rfl, _, rfl, v, .ref lp, h, t, (N : Int), ss, kd, rfl, hv, l1, hl, fun H1 a s1 na ha => ⟨a, _, rfl, SqL.of ha, ?_⟩⟩
    rw [nsumI]
    generalize ef : (fxF ss (mk h t (mny ss) (N : Int))).sum = f' at q
    refine ⟨(by show 1 ≤ sizeLine; decide), fun w0 nw0 => ?_⟩
    have s2 : Same H1 (upd H1 w0 (.lst [.int 1])) := same_new nw0
    have e2 : upd H1 w0 (.lst [.int 1]) w0 = some (.lst (nl (Ct.dp g f' N 0))) := upd_same
    generalize upd H1 w0 (.lst [.int 1]) = H2 at s2 e2
    have s02 := s1.trans s2
    refine ⟨_, rfl, _, rfl, v, h, t, (N : Int), ss, rfl, hv.same s02, l1, fun H3 s3 => ?_⟩
    rw [ge N]
    have s03 := s02.trans s3
    refine ⟨_, rfl, (N : Int), rfl, by omega, by omega, by omega, by omega, ?_⟩
    rw [show ((N : Int) - 0).toNat = N by omega]
    refine for_rangeC (lo := 0 + (N : Int) - 1) (c := -1) (n := N) (fun j σ H' => ∃ (wp : Addr) (y6 y7 y8 y9 : Option V), σ = [some v, some (.ref lp), some (.int (N : Int)), some (.int (f' : Int)), some (.ref wp), some (.int ((g (N - j) : Nat) : Int)), y6, y7, y8, y9] ∧ Same H H' ∧ H' wp = some (.lst (nl (Ct.dp g f' N j)))) ⟨w0, none, none, none, none, rfl, s03, s3 _ _ e2⟩ ?_ ?_
    · rintro j σ Ha hj ⟨wp, y6, y7, y8, y9, rfl, sa, hw⟩
      have dl := dp_len g f' N up j (by omega)
      have gN := gb N
      have u := up (N - (j + 1)) (by omega)
      rw [show N - (j + 1) + 1 = N - j by omega] at u
      have ee : 0 + (N : Int) - 1 + ((j : Nat) : Int) * -1 = ((N - (j + 1) : Nat) : Int) := by omega
      rw [ee]
      refine ⟨_, rfl, _, rfl, v, h, t, ((N - (j + 1) : Nat) : Int), ss, rfl, hv.same sa, l1, fun Hb sb => ?_⟩
      rw [ge]
      have gj := gb (N - j)
      refine ⟨_, rfl, _, rfl, _, rfl, _, _, rfl, rfl, wp, Ct.dp g f' N j, g (N - j) - g (N - (j + 1)), ?_, SqL.of (sb _ _ hw), by omega, by omega, fun Hc wq sc nwq hwq => ?_⟩
      · rw [show ((g (N - j) - g (N - (j + 1)) : Nat) : Int) = ((g (N - j) : Nat) : Int) - ((g (N - (j + 1)) : Nat) : Int) by omega]
        rfl
      have s0c := sa.trans (sb.trans sc)
      refine ⟨_, rfl, ?_⟩
      have dl2 := dp_len g f' N up (j + 1) (by omega)
      have lm : (Ct.more (Ct.dp g f' N j) (g (N - j) - g (N - (j + 1)))).length ≤ 1 + g N := by
        unfold Ct.more
        rw [List.length_map, List.length_range]
        omega
      have ed : Ct.dp g f' N (j + 1) = Ct.mask (g (N - (j + 1))) f' (N - (j + 1)) (Ct.more (Ct.dp g f' N j) (g (N - j) - g (N - (j + 1)))) := rfl
      rw [ed]
      generalize Ct.more (Ct.dp g f' N j) (g (N - j) - g (N - (j + 1))) = ws at hwq lm
      refine ⟨_, rfl, wq, _, Hc, rfl, SqA.l hwq, Kp.refl _ _, fun J hJ C nC => ?_⟩
      obtain ⟨G, gg, W⟩ := hJ.walk
      refine lc_it W (fun i H' => Same Hc H' ∧ H' C = some (.lst (nl ((Ct.mask (g (N - (j + 1))) f' (N - (j + 1)) ws).take i)))) ⟨same_new nC, upd_same⟩ (fun i H' _ z => gg H' (.ofS z.1)) ?_ ?_
      · rintro i x Hd He hi ⟨sm, hC⟩ ⟨u', x1, x2, rfl, nu, rfl, g1, g2⟩
        rw [nl_len] at hi
        obtain rfl : .int (i : Nat) = x1 := Option.some.inj g1
        obtain rfl : .int ((ws[i] : Nat) : Int) = x2 := Option.some.inj ((nl_get hi).symm.trans g2)
        have sf : Same Hd (upd Hd u' (.tup [.int (i : Nat), .int ((ws[i] : Nat) : Int)])) := same_new nu
        refine ⟨u', _, rfl, SqA.t upd_same, rfl, _, _, rfl, _, _, rfl, rfl, rfl, tyes (iteT ?_)⟩
        have sm2 := sm.trans sf
        have hC2 := sf _ _ hC
        generalize upd Hd u' (.tup [.int (i : Nat), .int ((ws[i] : Nat) : Int)]) = He at sm2 hC2
        have lt : (nl ((Ct.mask (g (N - (j + 1))) f' (N - (j + 1)) ws).take i)).length < sizeLine := by
          rw [nl_len, List.length_take]
          exact Nat.lt_of_le_of_lt (show _ ≤ 61 by omega) (by decide)
        have eg2 : ws.getD i 0 = ws[i] := by simp [hi]
        have tk1 : (Ct.mask (g (N - (j + 1))) f' (N - (j + 1)) ws).take (i + 1) = (Ct.mask (g (N - (j + 1))) f' (N - (j + 1)) ws).take i ++ [if N - (j + 1) < g (N - (j + 1)) + f' + i then ws[i] else 0] := by
          unfold Ct.mask
          rw [take_map_range _ hi, eg2]
        refine ⟨_, rfl, _, rfl, _, _, rfl, rfl, _, rfl, _, _, rfl, rfl, _, rfl, _, _, rfl, rfl, _, rfl, ite2 (fun c => ?_) (fun c => ?_)⟩
        · have c0 := of_decide_eq_true c
          refine ⟨_, rfl, _, hC2, lt, same_over sm2 nC, ?_⟩
          rw [upd_same, tk1, if_pos (by omega)]
          unfold nl
          rw [List.map_append, List.map_append]
          rfl
        · have c0 : ¬ _ := fun z => c (decide_eq_true z)
          refine ⟨_, hC2, lt, same_over sm2 nC, ?_⟩
          rw [upd_same, tk1, if_neg (by omega)]
          unfold nl
          rw [List.map_append, List.map_append]
          rfl
      · rintro Hd ⟨sm, hC⟩
        rw [nl_len, List.take_of_length_le (by unfold Ct.mask; rw [List.length_map, List.length_range]; exact Nat.le_refl _)] at hC
        exact ⟨C, _, _, _, _, rfl, s0c.trans sm, hC⟩
    · rintro σ Hz ⟨wp, y6, y7, y8, y9, rfl, sz, hw⟩
      have dl := dp_len g f' N up N (Nat.le_refl _)
      have gN := gb N
      rw [Nat.sub_self] at dl ⊢
      have g0 := gb 0
      refine ⟨_, rfl, _, rfl, wp, Ct.dp g f' N N, g 0, rfl, SqL.of hw, by omega, g0, fun Hc wq sc nwq hwq => ?_⟩
      have s0c := sz.trans sc
      have lm : (Ct.more (Ct.dp g f' N N) (g 0)).length ≤ 61 := by
        unfold Ct.more
        rw [List.length_map, List.length_range]
        omega
      unfold Ct.tot at q
      generalize Ct.more (Ct.dp g f' N N) (g 0) = ws at hwq lm q
      refine ⟨_, rfl, wq, _, Hc, rfl, SqA.l hwq, Kp.refl _ _, fun J hJ C nC => ?_⟩
      obtain ⟨G, gg, W⟩ := hJ.walk
      refine lc_it W (fun i H' => Same Hc H' ∧ H' C = some (.lst (nl (totP ws f' N i)))) ⟨same_new nC, upd_same⟩ (fun i H' _ z => gg H' (.ofS z.1)) ?_ ?_
      · rintro i x Hd He hi ⟨sm, hC⟩ ⟨u', x1, x2, rfl, nu, rfl, g1, g2⟩
        rw [nl_len] at hi
        obtain rfl : .int (i : Nat) = x1 := Option.some.inj g1
        obtain rfl : .int ((ws[i] : Nat) : Int) = x2 := Option.some.inj ((nl_get hi).symm.trans g2)
        have sf : Same Hd (upd Hd u' (.tup [.int (i : Nat), .int ((ws[i] : Nat) : Int)])) := same_new nu
        refine ⟨u', _, rfl, SqA.t upd_same, rfl, _, _, rfl, _, _, rfl, rfl, rfl, ?_⟩
        have sm2 := sm.trans sf
        have hC2 := sf _ _ hC
        generalize upd Hd u' (.tup [.int (i : Nat), .int ((ws[i] : Nat) : Int)]) = He at sm2 hC2
        have eg2 : ws.getD i 0 = ws[i] := by simp [hi]
        have ts : totP ws f' N (i + 1) = totP ws f' N i ++ if f' + i ≤ N then [ws[i]] else [] := by
          unfold totP
          rw [List.range_succ, List.filter_append, List.map_append]
          congr 1
          by_cases c : f' + i ≤ N
          · rw [List.filter_cons_of_pos (by simpa using c), if_pos c, ← eg2]
            rfl
          · rw [List.filter_cons_of_neg (by simpa using c), if_neg c]
            rfl
        refine ⟨_, rfl, _, rfl, _, _, rfl, rfl, _, rfl, _, _, rfl, rfl, _, rfl, ite2 (fun c => ?_) (fun c => ?_)⟩
        · have c0 := of_decide_eq_true c
          refine ⟨_, rfl, _, hC2, ?_, same_over sm2 nC, ?_⟩
          · rw [nl_len]
            unfold totP
            rw [List.length_map]
            exact Nat.lt_of_le_of_lt (List.length_filter_le _ _) (by rw [List.length_range]; exact Nat.lt_of_lt_of_le hi (Nat.le_trans lm (by decide)))
          · rw [upd_same, ts, if_pos (by omega)]
            unfold nl
            rw [List.map_append, List.map_append]
            rfl
        · have c0 : ¬ _ := fun z => c (decide_eq_true z)
          refine ⟨sm2, ?_⟩
          rw [hC2, ts, if_neg (by omega), List.append_nil]
      · rintro Hd ⟨sm, hC⟩
        rw [nl_len] at hC
        refine ⟨C, _, rfl, SqL.of hC, ?_⟩
        rw [nsumI, totP_sum]
        exact q _ (s0c.trans sm)
end
end Sh

namespace Sh
open PySem PySem.Spec PyProof.Rows L2
/-! ### fleet_of, the draughts a list or a tuple -/
def spFleetOfA (K : PySem.W.Frag) : Sp := fun vs H Q _ => ∃ (v l : V) (h t : Int) (ds : List Int) (L : List Nat), vs = [v, l] ∧ SeaA K H v h t ds ∧ LotA K H l L ∧ ds.length ≤ 60 ∧ Lot ds.length L ∧
  ∀ (H' : Hp) (z : V) (ss : List Srt), Same H H' → FltA K H' z h t ss → ss.length ≤ 1000 → Rp ss ds.length (fun i => ds.getD i 0) (mem L) → Q z H'
section
variable {P : Program} {w : World} {K : PySem.W.Frag} {mg : Str → Option Value} {base : Heap}
set_option maxHeartbeats 8000000 in
theorem ok_fleet_ofA {k : Nat} (D : Df K mg "fleet_of" s_fleet_of) (T : Bt mg) : Ok P w K mg base (k + 1) "fleet_of" s_fleet_of ["sea", "standing"] (spFleetOfA K) := by
  refine D.ok sc_fleet_of b_fleet_of (fun vs H Q E h => ?_) (fun f cdv A outer s H vs Q E hr h => ?_)
  · obtain ⟨v, l, h, t, ds, L, rfl, _⟩ := h
    rfl
  · obtain ⟨v, l, h, t, ds, L, rfl, ⟨p, q, rfl, hp, hq⟩, ⟨pl, rfl, hl⟩, d1, hL, k⟩ := h
    have ll := hL.len
    refine ⟨_, (pss_cons (ps_asg (pv 0) (pg_seq rfl (pgs_cons (pg_name (i := 2) sc_fleet_of.nd rfl (.inl rfl)) (pgs_cons (pg_name (i := 3) sc_fleet_of.nd rfl (.inl rfl)) (pgs_cons (pg_name (i := 4) sc_fleet_of.nd rfl (.inr rfl)) pgs_nil)))))
      (pss_cons (ps_setLc (i := 5) (own := [("ship", 10)]) (g := (gName 10)) (tt := tYes) (by rfl) sc_fleet_of.nd rfl rfl (sw_true rfl rfl rfl (by decide +kernel)) (pi_seq (pv 1)) (blkOk_by (own := [("ship", 10)]) (N := (["sea", "standing", "here", "there", "draughts", "ours", "sorts", "draught", "many", "lying", "ship", "other"] : List Str)) (sc := defScope s_fleet_of) (by decide +kernel)) (fun _ _ _ _ _ => (pg_name (i := 10) sc_fleet_of.nd rfl (.inl rfl))) (fun _ _ _ _ _ => pts_nil) (fun _ _ _ _ _ => (pe_ix (ix_ltK K) (pv 4) (pv 10) (fun _ _ => rfl))))
      (pss_cons (ps_set (i := 6) sc_fleet_of.nd rfl (.inl rfl) (pe_lst pa_nil))
      (pss_cons (ps_for PassesOwn.never rfl (pi_seq (pe_callB (cr_sortedSetw w rfl) (by rfl) T.sorted_ (by decide +kernel) (pa_cons (pe_callTy (cr_setAw w rfl) (by rfl) T.set_ (by decide +kernel) (pa_cons (pv 4) pa_nil)) pa_nil))) (pg_name (i := 7) sc_fleet_of.nd rfl (.inr rfl))
        (pss_cons (ps_set (i := 8) sc_fleet_of.nd rfl (.inl rfl) (pe_callB call_len_seq (by rfl) T.len_ PySem.boot_len (pa_cons (pe_lc (own := [("other", 11)]) (g := (gName 11)) (by rfl) sc_fleet_of.nd (pi_seq (pv 4)) (blkOk_by (own := [("other", 11)]) (N := (["sea", "standing", "here", "there", "draughts", "ours", "sorts", "draught", "many", "lying", "ship", "other"] : List Str)) (sc := defScope s_fleet_of) (by decide +kernel)) (fun _ _ _ _ _ => (pg_name (i := 11) sc_fleet_of.nd rfl (.inl rfl))) (fun _ _ _ _ _ => (pts_one (pt_cmpR op_eq (pv 11) (pv 7) (nomark _)))) (fun _ _ _ _ _ => (pv 11))) pa_nil)))
          (pss_cons (ps_set (i := 9) sc_fleet_of.nd rfl (.inl rfl) (pe_callB call_len_seq (by rfl) T.len_ PySem.boot_len (pa_cons (pe_lc (own := [("other", 11)]) (g := (gName 11)) (by rfl) sc_fleet_of.nd (pi_seq (pv 5)) (blkOk_by (own := [("other", 11)]) (N := (["sea", "standing", "here", "there", "draughts", "ours", "sorts", "draught", "many", "lying", "ship", "other"] : List Str)) (sc := defScope s_fleet_of) (by decide +kernel)) (fun _ _ _ _ _ => (pg_name (i := 11) sc_fleet_of.nd rfl (.inl rfl))) (fun _ _ _ _ _ => (pts_one (pt_cmpR op_eq (pv 11) (pv 7) (nomark _)))) (fun _ _ _ _ _ => (pv 11))) pa_nil)))
          (pss_one (ps_expr (pe_bm PySem.F.plainAttrs_list PySem.F.slot_list_append PySem.F.type_list_append mt_append (pv 6) (pa_cons (pe_tup (pa_cons (pv 7) (pa_cons (pv 9) (pa_cons (pe_op op_sub (pv 8) (pv 9)) pa_nil)))) pa_nil)))))))
      (pss_one (ps_ret (pe_tup (pa_cons (pv 2) (pa_cons (pv 3) (pa_cons (pe_callTy call_tuple_of (by rfl) T.tuple_ (by decide +kernel) (pa_cons (pv 6) pa_nil)) pa_nil)))))))))), ?_⟩
    refine ⟨_, rfl, p, _, rfl, hp, rfl, _, _, rfl, _, _, rfl, _, _, rfl, rfl, ?_⟩
    -- ours
    refine ⟨_, rfl, pl, _, H, rfl, hl, Kp.refl _ _, fun J hJ C nC => ?_⟩
    obtain ⟨G, g, W⟩ := hJ.walk
    refine lc_it W (fun i H' => Same H H' ∧ H' C = some (.lst (((L.take i).map fun j => ds.getD j 0).map V.int))) ⟨same_new nC, upd_same⟩ (fun i H' _ z => g H' (.ofS z.1)) ?_ ?_
    · rintro i x H1 H2 hi ⟨sm, hC⟩ ⟨rfl, gx⟩
      rw [ni_len] at hi
      obtain rfl : .int ((L[i] : Nat) : Int) = x := Option.some.inj ((ni_get hi).symm.trans gx)
      have hlt := hL.lt L[i] (List.getElem_mem hi)
      refine ⟨rfl, tyes (iteT ⟨_, rfl, _, rfl, q, _, _, .int (ds.getD L[i] 0), rfl, rfl, Same.sqA sm hq, at_nat rfl (by simp [hlt]), _, hC, ?_, same_over sm nC, ?_⟩)⟩
      · rw [List.length_map, List.length_map, List.length_take]
        exact small1000 (by omega)
      · rw [upd_same, take_succ_get hi, List.map_append, List.map_append]
        rfl
    rintro H1 ⟨s1, hC⟩
    rw [ni_len, List.take_length] at hC
    -- sorts
    refine ⟨Nat.zero_le _, fun F nF => ?_⟩
    have s2 : Same H1 (upd H1 F (.lst [])) := same_new nF
    have e2 : upd H1 F (.lst []) F = some (.lst []) := upd_same
    have nF0 : H F = none := s1.free nF
    have CF : C ≠ F := ne_of_none hC nF
    generalize upd H1 F (.lst []) = H2 at s2 e2
    have s02 := s1.trans s2
    refine ⟨_, rfl, q, ds, rfl, Same.sqA s02 hq, by omega, fun a ks na kn km => ?_⟩
    have hc : ks.length ≤ ds.length := nodup_len kn fun x hx => (km x).mp hx
    generalize ks.length = c at hc
    refine ⟨a, _, c, rfl, upd_same, by omega, fun ns b up hm hlen nb => ?_⟩
    have sA : Same H2 (upd H2 a (SetO w a (fun j => decide (j ∈ ds)) c)) := same_new na
    have sB := sA.trans (same_new nb (o := .lst (ns.map V.int)))
    have eb : upd (upd H2 a (SetO w a (fun j => decide (j ∈ ds)) c)) b (.lst (ns.map V.int)) b = some (.lst (ns.map V.int)) := upd_same
    generalize upd (upd H2 a (SetO w a (fun j => decide (j ∈ ds)) c)) b (.lst (ns.map V.int)) = H3 at sB eb
    have s03 := s02.trans sB
    have hC3 := sB _ _ (s2 _ _ hC)
    have hF3 := sB _ _ e2
    have bF : b ≠ F := fun e => by
      subst e
      rw [sA _ _ e2] at nb
      cases nb
    have nn : ns.Nodup := up.imp fun z => by omega
    refine ⟨b, _, H3, rfl, SqA.l eb, Kp.refl _ _, fun J2 hJ2 => ?_⟩
    obtain ⟨G2, g2, W2⟩ := hJ2.walk
    refine for_it W2 (fun i σ H' => ∃ (y7 y8 y9 : Option V) (us : List Addr), σ = [some (.ref p), some (.ref pl), some (.int h), some (.int t), some (.ref q), some (.ref C), some (.ref F), y7, y8, y9, none, none] ∧ Same H H' ∧ H' C = some (.lst ((L.map fun j => ds.getD j 0).map V.int)) ∧ H' b = some (.lst (ns.map V.int)) ∧ H' F = some (.lst (us.map V.ref)) ∧ SrtsN H' us (sortsOf ds L (ns.take i)))
      ⟨none, none, none, [], rfl, s03, hC3, eb, hF3, rfl, fun i r x a _ => by simp at a⟩ (fun i σ H' _ ⟨_, _, _, _, _, _, _, z, _⟩ => g2 H' fun o e => by rw [eb] at e; cases e; exact z) ?_ ?_
    · rintro i x σ H5' H4 hi ⟨y7, y8, y9, us, rfl, s4, hC4, hb4, hF4, hu4⟩ ⟨rfl, gx⟩
      rw [List.length_map] at hi
      obtain rfl : .int ns[i] = x := by
        have g3 : (ns.map V.int)[i]? = some (.int ns[i]) := by simp [hi]
        exact Option.some.inj (g3.symm.trans gx)
      have f : ∀ (xs : List Int) (j : Nat) (hj : j < xs.length), ((xs.take (j + 1)).filter fun o => decide (o = ns[i])) = ((xs.take j).filter fun o => decide (o = ns[i])) ++ (if xs[j] = ns[i] then [xs[j]] else []) := fun xs j hj => by
        rw [take_succ_get hj, List.filter_append]
        congr 1
        by_cases c : xs[j] = ns[i]
        · rw [if_pos c, List.filter_cons_of_pos (by simpa using c)]; rfl
        · rw [if_neg c, List.filter_cons_of_neg (by simpa using c)]; rfl
      have fl : ∀ (xs : List Int) (j : Nat), xs.length ≤ 60 → (((xs.take j).filter fun o => decide (o = ns[i])).map V.int).length < sizeLine := fun xs j hx => by
        have h1 := List.length_filter_le (fun o => decide (o = ns[i])) (xs.take j)
        rw [List.length_take] at h1
        rw [List.length_map]
        exact small1000 (by omega)
      -- many
      refine ⟨_, rfl, q, _, H4, rfl, Same.sqA s4 hq, Kp.refl _ _, fun J3 hJ3 M nM => ?_⟩
      obtain ⟨G3, g3, W3⟩ := hJ3.walk
      refine lc_it W3 (fun j H' => Same H4 H' ∧ H' M = some (.lst (((ds.take j).filter fun o => decide (o = ns[i])).map V.int))) ⟨same_new nM, upd_same⟩ (fun j H' _ z => g3 H' (.ofS z.1)) ?_ ?_
      · rintro j x H5 H6 hj ⟨sm, hM⟩ ⟨rfl, gx2⟩
        rw [List.length_map] at hj
        obtain rfl : .int ds[j] = x := by
          have g4 : (ds.map V.int)[j]? = some (.int ds[j]) := by simp [hj]
          exact Option.some.inj (g4.symm.trans gx2)
        refine ⟨rfl, _, rfl, _, rfl, rfl, _, rfl, ite2 (fun c => ?_) (fun c => ?_)⟩
        · have c0 : ds[j] = ns[i] := V.int.inj (of_decide_eq_true c)
          refine ⟨_, rfl, _, hM, fl ds j d1, same_over sm nM, ?_⟩
          rw [upd_same, f ds j hj, if_pos c0, List.map_append]
          rfl
        · have c0 : ¬ ds[j] = ns[i] := fun z => c (decide_eq_true (by rw [z]))
          refine ⟨sm, ?_⟩
          rw [hM, f ds j hj, if_neg c0, List.append_nil]
      rintro H5 ⟨s5, hM⟩
      rw [List.length_map, List.take_length] at hM
      refine ⟨M, _, rfl, .inl (SqL.of hM), ?_⟩
      -- lying
      refine ⟨_, rfl, C, _, H5, rfl, SqA.l (s5 _ _ hC4), Kp.refl _ _, fun J4 hJ4 N nN => ?_⟩
      obtain ⟨G4, g4, W4⟩ := hJ4.walk
      have lo : (L.map fun j => ds.getD j 0).length ≤ 60 := by rw [List.length_map]; omega
      refine lc_it W4 (fun j H' => Same H5 H' ∧ H' N = some (.lst ((((L.map fun j => ds.getD j 0).take j).filter fun o => decide (o = ns[i])).map V.int))) ⟨same_new nN, upd_same⟩ (fun j H' _ z => g4 H' (.ofS z.1)) ?_ ?_
      · rintro j x H6 H7 hj ⟨sm, hN⟩ ⟨rfl, gx2⟩
        rw [List.length_map] at hj
        obtain rfl : .int (L.map fun j => ds.getD j 0)[j] = x := by
          have g5 : ((L.map fun j => ds.getD j 0).map V.int)[j]? = some (.int (L.map fun j => ds.getD j 0)[j]) := by rw [List.getElem?_map, List.getElem?_eq_getElem hj]; rfl
          exact Option.some.inj (g5.symm.trans gx2)
        refine ⟨rfl, _, rfl, _, rfl, rfl, _, rfl, ite2 (fun c => ?_) (fun c => ?_)⟩
        · have c0 : (L.map fun j => ds.getD j 0)[j] = ns[i] := V.int.inj (of_decide_eq_true c)
          refine ⟨_, rfl, _, hN, fl _ j lo, same_over sm nN, ?_⟩
          rw [upd_same, f _ j hj, if_pos c0, List.map_append]
          rfl
        · have c0 : ¬ (L.map fun j => ds.getD j 0)[j] = ns[i] := fun z => c (decide_eq_true (by rw [z]))
          refine ⟨sm, ?_⟩
          rw [hN, f _ j hj, if_neg c0, List.append_nil]
      rintro H6 ⟨s6, hN⟩
      rw [List.length_map, List.take_length] at hN
      refine ⟨N, _, rfl, .inl (SqL.of hN), ?_⟩
      have s46 := s5.trans s6
      have hF6 := s46 _ _ hF4
      -- sorts.append
      refine ⟨_, rfl, .inl ⟨rfl, _, SqL.of hF6⟩, _, rfl, _, rfl, _, rfl, _, rfl, _, _, rfl, rfl, (by show 3 ≤ sizeLine; decide), fun u nu => ?_⟩
      have lu : us.length = i := by
        rw [hu4.1]
        unfold sortsOf
        rw [List.length_map, List.length_take]
        omega
      refine ⟨F, _, _, rfl, rfl, same_new nu _ _ hF6, ?_, _, _, _, us ++ [u], rfl, same_over ((s4.trans s46).trans (same_new nu)) nF0, ?_, ?_, ?_, ?_⟩
      · rw [List.length_map, lu]
        exact small1000 (by omega)
      · rw [upd_ne CF]
        exact same_new nu _ _ (s46 _ _ hC4)
      · rw [upd_ne bF]
        exact same_new nu _ _ (s46 _ _ hb4)
      · rw [upd_same, List.map_append]
        rfl
      · have e : sortsOf ds L (ns.take (i + 1)) = sortsOf ds L (ns.take i) ++ [(ns[i], ((L.map fun i => ds.getD i 0).filter fun o => decide (o = ns[i])).length, (ds.filter fun o => decide (o = ns[i])).length - ((L.map fun i => ds.getD i 0).filter fun o => decide (o = ns[i])).length)] := by
          unfold sortsOf
          rw [take_succ_get hi, List.map_append]
          rfl
        rw [e]
        refine ((hu4.same s46).push' (x := (ns[i], ((L.map fun i => ds.getD i 0).filter fun o => decide (o = ns[i])).length, (ds.filter fun o => decide (o = ns[i])).length - ((L.map fun i => ds.getD i 0).filter fun o => decide (o = ns[i])).length)) nu ?_).put (same_new nu _ _ hF6)
        have le := lying_le hL ns[i]
        unfold SrtV
        rw [List.length_map, List.length_map]
        dsimp only
        rw [show (((ds.filter fun o => decide (o = ns[i])).length - ((L.map fun i => ds.getD i 0).filter fun o => decide (o = ns[i])).length : Nat) : Int) = ((ds.filter fun o => decide (o = ns[i])).length : Int) - (((L.map fun i => ds.getD i 0).filter fun o => decide (o = ns[i])).length : Int) by omega]
    · rintro σ H4 ⟨y7, y8, y9, us, rfl, s4, hC4, hb4, hF4, hu4⟩
      rw [List.length_map, List.take_length] at hu4
      refine ⟨_, rfl, _, rfl, _, rfl, F, _, rfl, .inl ⟨SqL.of hF4, fun a2 na2 => ⟨(by show 3 ≤ sizeLine; decide), fun b2 nb2 => ?_⟩⟩⟩
      have sa2 : Same H4 (upd H4 a2 (.tup (us.map V.ref))) := same_new na2
      have sb2 := sa2.trans (same_new nb2 (o := .tup [.int h, .int t, .ref a2]))
      refine k _ _ (sortsOf ds L ns) (s4.trans sb2) ⟨b2, a2, us, rfl, SqA.t upd_same, SqA.t (same_new nb2 _ _ upd_same), (hu4.same sb2).a⟩ ?_ (sorts_rp hL nn fun d hd => (hm d).mpr (decide_eq_true hd))
      unfold sortsOf
      rw [List.length_map, hlen]
      omega
end
end Sh

namespace Ct
theorem dp_congr {g g' : Nat → Nat} {f N : Nat} (h : ∀ e, e ≤ N → g e = g' e) : ∀ j, dp g f N j = dp g' f N j
  | 0 => rfl
  | j + 1 => by
    show mask (g (N - (j + 1))) f (N - (j + 1)) (more (dp g f N j) (g (N - j) - g (N - (j + 1)))) = mask (g' (N - (j + 1))) f (N - (j + 1)) (more (dp g' f N j) (g' (N - j) - g' (N - (j + 1))))
    rw [dp_congr h j, h (N - (j + 1)) (by omega), h (N - j) (by omega)]
theorem tot_congr {g g' : Nat → Nat} {f N : Nat} (h : ∀ e, e ≤ N → g e = g' e) : tot g f N = tot g' f N := by
  unfold tot
  rw [dp_congr h, h 0 (Nat.zero_le _)]
end Ct
namespace Sh
open PySem PySem.Spec PyProof.Rows L2
theorem tot_below {ss : List Srt} {h t : Int} {k N : Nat} {D : Nat → Int} {S : Nat → Bool} (r : Rp ss k D S) {G : Nat → Nat → Bool} (eG : ∀ e i, e ≤ N → G e i = Gd h t k D e i) (mono : ∀ a b i, a ≤ b → b ≤ N → G a i = true → G b i = true) :
    Ct.tot (fun e => gmF ss (mk h t (mny ss) (e : Int))) (fxF ss (mk h t (mny ss) (N : Int))).sum N = Ct.cf k (Ct.below k N G S) ∧ ∀ e, e < N → gmF ss (mk h t (mny ss) (e : Int)) ≤ gmF ss (mk h t (mny ss) ((e + 1 : Nat) : Int)) := by
  have km := r.mny
  have ce : ∀ e, e ≤ N → gmF ss (mk h t (mny ss) (e : Int)) = Th.cnt k (G e) := fun e he => by
    rw [r.gm, km]
    exact Th.cnt_congr fun i hi => (eG e i he).symm
  constructor
  · rw [Ct.below_tot mono S, Ct.tot_congr ce, r.fx, km]
    congr 1
    exact Th.cnt_congr fun i hi => by rw [eG N i (Nat.le_refl _)]; rfl
  · intro e he
    rw [ce e (by omega), ce (e + 1) (by omega)]
    exact Th.cnt_mono fun i _ z => mono e (e + 1) i (by omega) (by omega) z
def spFamily (K : PySem.W.Frag) : Sp := fun vs H Q _ => ∃ (v l : V) (h t : Int) (ds : List Int) (L : List Nat), vs = [v, l] ∧ SeaA K H v h t ds ∧ LotA K H l L ∧ ds.length ≤ 60 ∧ 0 < ds.length ∧ Lot ds.length L ∧ ∀ H', Same H H' → Q (.int ((Ct.fam ds.length (Gof h t ds) (mem L) : Nat) : Int)) H'
abbrev s_family_size : Stmt := topS 24
theorem sc_family_size : FnScope (["sea", "standing", "fleet", "lot", "size"] : List Str) (["sea", "standing"] : List Str) (defScope s_family_size) := ⟨rfl, rfl, rfl, by decide +kernel, rfl, by decide +kernel, by decide +kernel⟩
theorem b_family_size (kV doc pm : Value) (an : Option Addr) (cdv ct : Value) (us : List Value) (hl : us.length = (["sea", "standing"] : List Str).length) : bindArgs (PySem.W.fnOf "family_size" "family_size" (defArgs s_family_size) (defBody s_family_size) (defScope s_family_size) .none kV doc pm an cdv ct) ⟨us, []⟩ = pure ((["sea", "standing"] : List Str).zip us) :=
  match us, hl with | [_, _], _ => rfl
section
variable {P : Program} {w : World} {K : PySem.W.Frag} {mg : Str → Option Value} {base : Heap}
set_option maxHeartbeats 4000000 in
theorem ok_family {k : Nat} (D : Df K mg "family_size" s_family_size) (T : Bt mg) (C : Cn mg) (O_fleet_of : Ok P w K mg base k "fleet_of" s_fleet_of ["sea", "standing"] (spFleetOfA K)) (O_lot_of : Ok P w K mg base k "lot_of" s_lot_of ["fleet"] (spLotOf K)) (O_ways_below : Ok P w K mg base k "ways_below" s_ways_below ["fleet", "lot"] (spWaysBelow K))
    (O_turned_fleet : Ok P w K mg base k "turned_fleet" s_turned_fleet ["fleet"] (spTurnedF K)) (O_turned_lot : Ok P w K mg base k "turned_lot" s_turned_lot ["fleet", "lot"] (spTurnedLot K)) :
    Ok P w K mg base (k + 1) "family_size" s_family_size ["sea", "standing"] (spFamily K) := by
  obtain ⟨_, g_LOW⟩ := C.low
  obtain ⟨_, g_HIGH⟩ := C.high
  refine D.ok sc_family_size b_family_size (fun vs H Q E h => ?_) (fun f cdv A outer s H vs Q E hr h => ?_)
  · obtain ⟨v, l, h, t, ds, L, rfl, _⟩ := h
    rfl
  · obtain ⟨v, l, h, t, ds, L, rfl, hv, hl, d1, d0, hL, q⟩ := h
    refine ⟨_, (pss_cons (ps_set (i := 2) sc_family_size.nd rfl (.inl rfl) (pe_fn O_fleet_of (hr.mono (by omega)) (pa_cons (pv 0) (pa_cons (pv 1) pa_nil))))
      (pss_cons (ps_set (i := 3) sc_family_size.nd rfl (.inl rfl) (pe_fn O_lot_of (hr.mono (by omega)) (pa_cons (pv 2) pa_nil)))
      (pss_cons (ps_set (i := 4) sc_family_size.nd rfl (.inl rfl) pe_int)
      (pss_cons (ps_if (pt_cmpR op_ne (pe_ix ix_lt (pv 3) pe_int (fun _ _ => rfl)) (pe_glob (v := .str "high") (by rfl) g_HIGH ⟨_, rfl⟩) (nomark _))
        (pss_one (ps_aug (i := 4) sc_family_size.nd rfl (.inl rfl) (pe_fn O_ways_below (hr.mono (by omega)) (pa_cons (pv 2) (pa_cons (pv 3) pa_nil))) ip_add))
        pss_nil)
      (pss_cons (ps_if (pt_cmpR op_ne (pe_ix ix_lt (pv 3) pe_int (fun _ _ => rfl)) (pe_glob (v := .str "low") (by rfl) g_LOW ⟨_, rfl⟩) (nomark _))
        (pss_one (ps_aug (i := 4) sc_family_size.nd rfl (.inl rfl) (pe_fn O_ways_below (hr.mono (by omega)) (pa_cons (pe_fn O_turned_fleet (hr.mono (by omega)) (pa_cons (pv 2) pa_nil)) (pa_cons (pe_fn O_turned_lot (hr.mono (by omega)) (pa_cons (pv 2) (pa_cons (pv 3) pa_nil))) pa_nil))) ip_add))
        pss_nil)
      (pss_one (ps_ret (pv 4)))))))), ?_⟩
    refine ⟨_, rfl, _, rfl, v, l, h, t, ds, L, rfl, hv, hl, d1, hL, fun H1 z ss s1 hz l1 r => ?_⟩
    refine ⟨_, rfl, z, h, t, ss, rfl, hz, l1, fun H2 pp kd s' s2 np hp lf => ?_⟩
    have s02 := s1.trans s2
    have hz2 := hz.same s2
    have ls := lf.ships r d0
    have km := r.mny
    have tp := top_D h t (fun i => ds.getD i 0) d0
    have S0 : ∀ i, ¬ i < ds.length → mem L i = false := fun i hi => by
      unfold mem
      exact decide_eq_false fun z => hi (hL.lt i z)
    have eGo : Gof h t ds = Gd h t ds.length (fun i => ds.getD i 0) := rfl
    rw [eGo] at q
    have monoU : ∀ N, N ≤ (topI h t ds.length).toNat → ∀ a b i, a ≤ b → b ≤ N → Gd h t ds.length (fun i => ds.getD i 0) a i = true → Gd h t ds.length (fun i => ds.getD i 0) b i = true := fun N hN a b i h1 h2 g => tp.up a b i h1 (by omega) g
    have monoD : ∀ N, N ≤ ds.length - 1 - (topI h t ds.length).toNat → ∀ a b i, a ≤ b → b ≤ N → Th.dual ds.length (Gd h t ds.length (fun i => ds.getD i 0)) a i = true → Th.dual ds.length (Gd h t ds.length (fun i => ds.getD i 0)) b i = true := fun N hN a b i h1 h2 g => tp.dual.up a b i h1 (by omega) g
    have lt := tp.lt
    have lowW : ∀ N, N ≤ (topI h t ds.length).toNat → _ := fun N hN => tot_below (h := h) (t := t) (N := N) r (G := Gd h t ds.length (fun i => ds.getD i 0)) (fun e i _ => rfl) (monoU N hN)
    have highW : ∀ N, N ≤ ds.length - 1 - (topI h t ds.length).toNat → _ := fun N hN => tot_below (h := t) (t := h) (N := N) r.turn (G := Th.dual ds.length (Gd h t ds.length (fun i => ds.getD i 0))) (fun e i he => (Gd_turn (by omega)).symm) (monoD N hN)
    have kt : mny (turnF ss) = ds.length := by rw [mny_turn, km]
    have lt2 : (turnF ss).length ≤ 1000 := by unfold turnF; rw [List.length_map]; exact l1
    cases kd with
    | low =>
      obtain ⟨N, e, a, b⟩ := ls
      subst e
      obtain ⟨w1, w2⟩ := lowW N a
      refine ⟨_, rfl, pp, _, 0, .str _, rfl, rfl, SqA.t hp, rfl, rfl, _, rfl, iteT ?_⟩
      refine ⟨_, rfl, _, rfl, _, rfl, z, .ref pp, h, t, ss, .low, N, rfl, hz2, l1, ⟨pp, rfl, SqA.t hp⟩, by omega, by omega, w2, fun H3 s3 => ⟨_, _, rfl, rfl, ?_⟩⟩
      refine ⟨_, rfl, pp, _, 0, .str _, rfl, rfl, SqA.t (s3 _ _ hp), rfl, rfl, _, rfl, iteF ?_⟩
      refine ⟨_, rfl, ?_⟩
      dsimp only
      rw [w1, Int.zero_add, ← Ct.fam_low S0 b tp a]
      exact (q _ (s02.trans s3))
    | high =>
      obtain ⟨N, e, a, b⟩ := ls
      subst e
      obtain ⟨w1, w2⟩ := highW N a
      refine ⟨_, rfl, pp, _, 0, .str _, rfl, rfl, SqA.t hp, rfl, rfl, _, rfl, iteF ?_⟩
      refine ⟨_, rfl, pp, _, 0, .str _, rfl, rfl, SqA.t hp, rfl, rfl, _, rfl, iteT ?_⟩
      refine ⟨_, rfl, _, rfl, z, h, t, ss, rfl, hz2, l1, fun H3 z3 s3 hz3 => ?_⟩
      refine ⟨_, rfl, _, rfl, z, .ref pp, h, t, _, ss, .high, rfl, hz2.same s3, l1, ⟨pp, rfl, SqA.t (s3 _ _ hp)⟩, fun H4 z4 s4 hz4 => ?_⟩
      rw [km, show (ds.length : Int) - 1 - ((ds.length : Int) - 1 - (N : Int)) = (N : Int) by omega] at hz4
      refine ⟨z3, z4, t, h, turnF ss, _, N, rfl, hz3.same s4, lt2, hz4, by omega, by omega, w2, fun H5 s5 => ⟨_, _, rfl, rfl, ?_⟩⟩
      refine ⟨_, rfl, ?_⟩
      dsimp only
      rw [w1, Int.zero_add, ← Ct.fam_high S0 b tp a]
      exact (q _ (s02.trans (s3.trans (s4.trans s5))))
    | top =>
      obtain ⟨e, a⟩ := ls
      have t0 := top_lo' h t ds.length
      obtain ⟨T', eT⟩ : ∃ T' : Nat, topI h t ds.length = (T' : Int) := ⟨_, (Int.toNat_of_nonneg t0).symm⟩
      have e2 : (topI h t ds.length).toNat = T' := by omega
      rw [e2] at a tp lowW highW lt
      obtain rfl : s' = (T' : Int) := by omega
      obtain ⟨w1, w2⟩ := lowW T' (Nat.le_refl _)
      obtain ⟨w3, w4⟩ := highW (ds.length - 1 - T') (Nat.le_refl _)
      refine ⟨_, rfl, pp, _, 0, .str _, rfl, rfl, SqA.t hp, rfl, rfl, _, rfl, iteT ?_⟩
      refine ⟨_, rfl, _, rfl, _, rfl, z, .ref pp, h, t, ss, .top, T', rfl, hz2, l1, ⟨pp, rfl, SqA.t hp⟩, by omega, by omega, w2, fun H3 s3 => ⟨_, _, rfl, rfl, ?_⟩⟩
      have hp3 := s3 _ _ hp
      have hz3 := hz2.same s3
      refine ⟨_, rfl, pp, _, 0, .str _, rfl, rfl, SqA.t hp3, rfl, rfl, _, rfl, iteT ?_⟩
      refine ⟨_, rfl, _, rfl, z, h, t, ss, rfl, hz3, l1, fun H4 z4 s4 hz4 => ?_⟩
      refine ⟨_, rfl, _, rfl, z, .ref pp, h, t, _, ss, .top, rfl, hz3.same s4, l1, ⟨pp, rfl, SqA.t (s4 _ _ hp3)⟩, fun H5 z5 s5 hz5 => ?_⟩
      rw [km, show (ds.length : Int) - 1 - (T' : Int) = ((ds.length - 1 - T' : Nat) : Int) by omega] at hz5
      refine ⟨z4, z5, t, h, turnF ss, _, ds.length - 1 - T', rfl, hz4.same s5, lt2, hz5, by omega, by omega, w4, fun H6 s6 => ⟨_, _, rfl, rfl, ?_⟩⟩
      refine ⟨_, rfl, ?_⟩
      dsimp only
      rw [w1, w3, Int.zero_add, ← Int.natCast_add, ← Ct.fam_open S0 a tp]
      exact (q _ (s02.trans (s3.trans (s4.trans (s5.trans s6)))))
end
end Sh

namespace Ct
open Th (cnt cnt_succ cnt_congr cnt_zero)
/-! ### how many lots all standings fall into -/
theorem cf_none : ∀ k : Nat, cf k (fun U => subB (fun _ => false) k U) = 1
  | 0 => rfl
  | k + 1 => by
    have t1 : cf k (fun U => subB (fun _ => false) (k + 1) U) = 1 := by
      refine Eq.trans (cf_congr fun U hU => ?_) (cf_none k)
      show (subB _ k U && (!U k || false)) = _
      rw [hU k (Nat.le_refl _)]
      simp
    have t2 : cf k (fun U => subB (fun _ => false) (k + 1) (put U k)) = 0 := by
      refine Eq.trans (cf_congr fun U hU => ?_) (cf_false k)
      show (subB _ k (put U k) && (!put U k k || false)) = false
      rw [put_self]
      simp
    show cf k (fun U => subB (fun _ => false) (k + 1) U) + cf k (fun U => subB (fun _ => false) (k + 1) (put U k)) = 1
    rw [t1, t2]
theorem cf_sub {k : Nat} (B : Nat → Bool) (x : Nat) : cf k (fun U => subB B k U && (cnt k U == x)) = bin (cnt k B) x := by
  have s := split (A := fun _ => false) (B := B) (fun i h => by cases h) (k := k) (P := fun _ => true) (x := x)
  have e1 : cf k (fun U => subB (fun _ => false) k U && (fun _ => true) U) = 1 := Eq.trans (cf_congr fun U _ => by simp) (cf_none k)
  rw [e1, Nat.one_mul] at s
  rw [← s]
  refine cf_congr fun U hU => ?_
  have e2 : (fun i => (fun _ : Nat => false) i || B i) = B := by
    funext i
    rfl
  rw [e2]
  cases q : subB B k U with
  | false => rfl
  | true =>
    have : cnt k (fun i => U i && B i) = cnt k U := cnt_congr fun i hi => by
      cases u : U i with
      | false => rfl
      | true => rw [subB_iff.mp q i hi u]; rfl
    rw [this]
    rfl
section
variable {k T : Nat} {G : Nat → Nat → Bool}
/-- full: so many, and all who go at that step -/
def fullB (k T : Nat) (G : Nat → Nat → Bool) (U : Nat → Bool) : Bool := (List.range k).all (fun i => !G (cnt k U) i || U i) && decide (cnt k U ≤ T)
theorem full_iff {U : Nat → Bool} : fullB k T G U = true ↔ (∀ i, i < k → G (cnt k U) i = true → U i = true) ∧ cnt k U ≤ T := by
  unfold fullB
  rw [Bool.and_eq_true, List.all_eq_true, decide_eq_true_eq]
  refine and_congr ⟨fun a i hi g => ?_, fun a i hi => ?_⟩ Iff.rfl
  · have := a i (List.mem_range.mpr hi)
    rw [g] at this
    exact this
  · cases g : G (cnt k U) i with
    | false => rfl
    | true => rw [a i (List.mem_range.mp hi) g]; rfl
def lowN (k T : Nat) (g : Nat → Nat) : Nat := ((List.range (T + 1)).map fun N => if N < g N then 0 else bin (k - g N) (N - g N)).sum
theorem cnt_not' (B : Nat → Bool) : cnt k (fun i => !B i) = k - cnt k B := by
  have := Th.cnt_co k B
  have e : cnt k (Th.co B) = cnt k (fun i => !B i) := rfl
  omega
theorem low_many : cf k (fullB k T G) = lowN k T (fun e => cnt k (G e)) := by
  have p := cf_parts (k := k) (P := fun U => (List.range k).all (fun i => !G (cnt k U) i || U i)) (f := fun U => cnt k U) T
  have e0 : cf k (fullB k T G) = cf k (fun U => (List.range k).all (fun i => !G (cnt k U) i || U i) && decide (cnt k U ≤ T)) := rfl
  rw [e0, ← p]
  unfold lowN
  congr 1
  refine List.map_congr_left fun N _ => ?_
  have e1 : cf k (fun U => (List.range k).all (fun i => !G (cnt k U) i || U i) && (cnt k U == N)) = cf k (fun M => (List.range k).all (fun i => !G N i || (M i == (fun _ => true) i)) && (fun V => cnt k (G N) + cnt k V == N) (fun i => M i && !G N i)) := cf_congr fun U _ => by
    have ee : (fun i => !G N i || (U i == (fun _ => true) i)) = fun i => !G N i || U i := by
      funext i
      cases U i <;> rfl
    rw [Bool.eq_iff_iff, Bool.and_eq_true, Bool.and_eq_true, beq_iff_eq, beq_iff_eq]
    have al : (List.range k).all (fun i => !G N i || (U i == (fun _ => true) i)) = true → cnt k U = cnt k (G N) + cnt k (fun i => U i && !G N i) := fun a => by
      have sp := Th.cnt_split (k := k) U (G N)
      have : cnt k (fun i => U i && G N i) = cnt k (G N) := cnt_congr fun i hi => by
        have := List.all_eq_true.mp a i (List.mem_range.mpr hi)
        cases g : G N i with
        | false => rw [Bool.and_false]
        | true =>
          rw [g] at this
          have u : U i = true := by simpa using this
          rw [u]
          rfl
      omega
    constructor
    · rintro ⟨a, b⟩
      rw [b] at a
      have a' : (List.range k).all (fun i => !G N i || (U i == (fun _ => true) i)) = true := by
        rw [ee]
        exact a
      exact ⟨a', by rw [← al a']; exact b⟩
    · rintro ⟨a, b⟩
      have c := al a
      rw [b] at c
      refine ⟨?_, c⟩
      rw [ee] at a
      rw [c]
      exact a
  rw [e1, fixed (P := fun V => cnt k (G N) + cnt k V == N)]
  dsimp only
  by_cases c : N < cnt k (G N)
  · rw [if_pos c]
    refine Eq.trans (cf_congr fun U _ => ?_) (cf_false k)
    have : (cnt k (G N) + cnt k U == N) = false := by rw [beq_eq_false_iff_ne]; omega
    rw [this, Bool.and_false]
  · rw [if_neg c, ← cnt_not', ← cf_sub]
    refine cf_congr fun U _ => ?_
    congr 1
    rw [Bool.eq_iff_iff, beq_iff_eq, beq_iff_eq]
    omega
/-- those who can lie fast in an open one -/
def fastB (k T : Nat) (G : Nat → Nat → Bool) (X : Nat → Bool) : Bool := subB (fun i => !G T i) k X && (decide (cnt k X ≤ T) && decide (T < cnt k X + cnt k (G T)))
def topN (k T gT : Nat) : Nat := ((List.range (k - gT + 1)).map fun f => if f ≤ T ∧ T < f + gT then bin (k - gT) f else 0).sum
theorem top_many : cf k (fastB k T G) = topN k T (cnt k (G T)) := by
  have ck := cnt_not' (k := k) (G T)
  have p := cf_parts (k := k) (P := fastB k T G) (f := fun U => cnt k U) (k - cnt k (G T))
  have e0 : cf k (fastB k T G) = cf k (fun U => fastB k T G U && decide (cnt k U ≤ k - cnt k (G T))) := cf_congr fun U _ => by
    cases q : fastB k T G U with
    | false => rfl
    | true =>
      have sb : subB (fun i => !G T i) k U = true := by
        unfold fastB at q
        exact (Bool.and_eq_true _ _ ▸ q).1
      have : cnt k U ≤ cnt k (fun i => !G T i) := Th.cnt_mono fun i hi u => subB_iff.mp sb i hi u
      rw [decide_eq_true (by omega)]
      rfl
  rw [e0, ← p]
  unfold topN
  congr 1
  refine List.map_congr_left fun f _ => ?_
  by_cases c : f ≤ T ∧ T < f + cnt k (G T)
  · rw [if_pos c, ← ck, ← cf_sub]
    refine cf_congr fun U _ => ?_
    unfold fastB
    rw [Bool.eq_iff_iff]
    simp only [Bool.and_eq_true, decide_eq_true_eq, beq_iff_eq]
    constructor
    · rintro ⟨⟨a, _⟩, b⟩
      exact ⟨a, b⟩
    · rintro ⟨a, b⟩
      exact ⟨⟨a, by omega, by omega⟩, b⟩
  · rw [if_neg c]
    refine Eq.trans (cf_congr fun U _ => ?_) (cf_false k)
    unfold fastB
    rw [Bool.eq_false_iff]
    simp only [ne_eq, Bool.and_eq_true, decide_eq_true_eq, beq_iff_eq]
    rintro ⟨⟨_, a, b⟩, e⟩
    exact c (by omega)
end
theorem some_of {B : Nat → Bool} : ∀ {k x : Nat}, x ≤ cnt k B → ∃ V : Nat → Bool, (∀ i, V i = true → B i = true ∧ i < k) ∧ cnt k V = x
  | k, 0, _ => ⟨fun _ => false, fun i h => (by cases h), Th.cnt_const k false⟩
  | 0, x + 1, h => by rw [cnt_zero] at h; omega
  | k + 1, x + 1, h => by
    rw [cnt_succ] at h
    cases b : B k with
    | false =>
      rw [b] at h
      obtain ⟨V, a, c⟩ := some_of (B := B) (k := k) (x := x + 1) (by simpa using h)
      refine ⟨V, fun i hi => ⟨(a i hi).1, by have := (a i hi).2; omega⟩, ?_⟩
      rw [cnt_succ, c]
      cases v : V k with
      | false => rfl
      | true => have := (a k v).2; omega
    | true =>
      rw [b, if_pos rfl] at h
      obtain ⟨V, a, c⟩ := some_of (B := B) (k := k) (x := x) (by omega)
      refine ⟨put V k, fun i hi => ?_, ?_⟩
      · by_cases e : i = k
        · rw [e]
          exact ⟨b, by omega⟩
        · rw [put_ne _ e] at hi
          exact ⟨(a i hi).1, by have := (a i hi).2; omega⟩
      · rw [cnt_succ, put_self, if_pos rfl, cnt_congr (U := V) fun i hi => put_ne _ (by omega), c]
end Ct

namespace Sh
open PySem PySem.Spec PyProof.Rows L2
theorem allLots_lot : ∀ {c : Nat} {L : List Nat}, L ∈ allLots c → Lot c L
  | 0, L, h => by
    rw [List.mem_singleton.mp h]
    exact Lot.nil _
  | c + 1, L, h => by
    rcases List.mem_append.mp h with z | z
    · have l := allLots_lot z
      exact ⟨l.up, fun i hi => Nat.lt_succ_of_lt (l.lt i hi)⟩
    · obtain ⟨M, hM, rfl⟩ := List.mem_map.mp z
      have l := allLots_lot hM
      refine ⟨List.pairwise_append.mpr ⟨l.up, List.pairwise_singleton _ _, fun a ha b hb => ?_⟩, fun i hi => ?_⟩
      · rw [List.mem_singleton.mp hb]
        exact l.lt a ha
      · rcases List.mem_append.mp hi with y | y
        · exact Nat.lt_succ_of_lt (l.lt i y)
        · rw [List.mem_singleton.mp y]
          omega
end Sh

namespace Sh
open PySem PySem.Spec PyProof.Rows L2
/-! ### lots as the functions that they are -/
theorem allLots_nd : ∀ c : Nat, (allLots c).Nodup
  | 0 => by
    show [([] : List Nat)].Nodup
    simp
  | c + 1 => by
    refine List.nodup_append.mpr ⟨allLots_nd c, ?_, fun a ha b hb e => ?_⟩
    · refine List.pairwise_map.mpr ((allLots_nd c).imp fun h e => h ?_)
      exact List.append_cancel_right e
    · obtain ⟨M, hM, rfl⟩ := List.mem_map.mp hb
      have := (allLots_lot ha).lt c (by rw [e]; simp)
      omega
theorem cf_lots : ∀ {k : Nat} {P : (Nat → Bool) → Bool}, ((allLots k).filter fun L => P (mem L)).length = Ct.cf k P
  | 0, P => by
    show (List.filter (fun L => P (mem L)) [[]]).length = if P (fun _ => false) = true then 1 else 0
    have e : mem [] = fun _ => false := by
      funext i
      exact decide_eq_false (by simp)
    by_cases c : P (mem []) = true
    · rw [List.filter_cons_of_pos (p := fun L => P (mem L)) c, if_pos (by rw [← e]; exact c)]
      rfl
    · rw [List.filter_cons_of_neg (p := fun L => P (mem L)) c, if_neg (by rw [← e]; exact c)]
      rfl
  | k + 1, P => by
    show (List.filter (fun L => P (mem L)) (allLots k ++ (allLots k).map fun L => L ++ [k])).length = Ct.cf k P + Ct.cf k (fun U => P (Ct.put U k))
    rw [List.filter_append, List.length_append, cf_lots, List.filter_map, List.length_map, ← cf_lots (k := k) (P := fun U => P (Ct.put U k))]
    congr 2
    congr 1
    funext L
    show P (mem (L ++ [k])) = P (Ct.put (mem L) k)
    congr 1
    funext i
    unfold mem Ct.put
    by_cases e : i = k
    · rw [if_pos e]
      exact decide_eq_true (by rw [e]; simp)
    · rw [if_neg e, decide_eq_decide, List.mem_append, List.mem_singleton]
      exact ⟨fun z => z.elim id fun y => absurd y e, .inl⟩
/-- as many as come to one another -/
theorem fam_len {h t : Int} {ds : List Int} {L : List Nat} {F : List (List Nat)} (nd : F.Nodup) (all : ∀ M, M ∈ F ↔ Lot ds.length M ∧ Rl h t ds L M) : F.length = Ct.fam ds.length (Gof h t ds) (mem L) := by
  unfold Ct.fam
  rw [← cf_lots]
  have key : ∀ M, M ∈ (allLots ds.length).filter (fun M => @decide (Th.Reach ds.length (Gof h t ds) (mem L) (mem M)) (Classical.propDecidable _)) ↔ M ∈ F := fun M => by
    rw [List.mem_filter, all]
    exact and_congr ⟨allLots_lot, lot_all⟩ (@decide_eq_true_iff _ (Classical.propDecidable _))
  exact Nat.le_antisymm (nodup_len nd fun x hx => (key x).mpr hx) (nodup_len ((allLots_nd _).filter _) fun x hx => (key x).mp hx)
/-! ### one of each -/
structure Trans (h t : Int) (ds : List Int) (R : List (List Nat)) : Prop where
  lot : ∀ M ∈ R, Lot ds.length M
  all : ∀ M, Lot ds.length M → ∃ N ∈ R, Rl h t ds M N
  apart : R.Pairwise fun M N => ¬ Rl h t ds M N
theorem pigeon {α : Type} [DecidableEq α] {rel : α → α → Prop} : ∀ {R R' : List α}, (∀ M ∈ R, ∃ N ∈ R', rel M N) → R.Pairwise (fun M M' => ¬ ∃ N, rel M N ∧ rel M' N) → R.length ≤ R'.length
  | [], _, _, _ => Nat.zero_le _
  | M :: R, R', h, p => by
    obtain ⟨N, hN, r⟩ := h M (.head _)
    obtain ⟨p1, p2⟩ := List.pairwise_cons.mp p
    have := pigeon (R := R) (R' := R'.erase N) (fun M' hM' => by
      obtain ⟨N', hN', r'⟩ := h M' (.tail _ hM')
      refine ⟨N', (List.mem_erase_of_ne fun e => p1 M' hM' ⟨N, r, by rw [← e]; exact r'⟩).mpr hN', r'⟩) p2
    rw [List.length_erase_of_mem hN] at this
    have : 0 < R'.length := List.length_pos_of_mem hN
    rw [List.length_cons]
    omega
theorem Trans.len {h t : Int} {ds : List Int} {R R' : List (List Nat)} (a : Trans h t ds R) (b : Trans h t ds R') : R.length = R'.length := by
  have key : ∀ {R R' : List (List Nat)}, Trans h t ds R → Trans h t ds R' → R.length ≤ R'.length := fun {R R'} a b => pigeon (rel := Rl h t ds) (fun M hM => b.all M (a.lot M hM)) (a.apart.imp fun n ⟨N, r1, r2⟩ => n (Th.Reach.trans r1 (Th.Reach.symm r2)))
  exact Nat.le_antisymm (key a b) (key b a)
def famsN (k T : Nat) (G : Nat → Nat → Bool) : Nat := Ct.lowN k T (fun e => Th.cnt k (G e)) + Ct.topN k T (Th.cnt k (G T)) + Ct.lowN k (k - 1 - T) (fun e => Th.cnt k (Th.dual k G e))
theorem full_stuck {k T : Nat} {G : Nat → Nat → Bool} {U : Nat → Bool} (h : Ct.fullB k T G U = true) : Th.StuckLow k G (Th.cnt k U) U := by
  obtain ⟨a, _⟩ := Ct.full_iff.mp h
  refine ⟨Nat.le_refl _, fun n h1 h2 => by omega, ?_⟩
  rw [Th.cnt_congr (U := U) fun i hi => ?_]
  · exact Nat.le_refl _
  · cases g : G (Th.cnt k U) i with
    | false => rw [Bool.or_false]
    | true => rw [a i hi g]; rfl
theorem trans_ex {h t : Int} {ds : List Int} (d0 : 0 < ds.length) : ∃ R, Trans h t ds R ∧ R.length = famsN ds.length (topI h t ds.length).toNat (Gof h t ds) := by
  have tp : Th.Top ds.length (Gof h t ds) (topI h t ds.length).toNat := top_D h t (fun i => ds.getD i 0) d0
  generalize (topI h t ds.length).toNat = T at tp
  have hT := tp.lt
  -- the full ones
  have lowS : ∀ {M : List Nat}, M ∈ (allLots ds.length).filter (fun M => Ct.fullB ds.length T (Gof h t ds) (mem M)) → ∃ N, N ≤ T ∧ N = Th.cnt ds.length (mem M) ∧ Th.StuckLow ds.length (Gof h t ds) N (mem M) := fun {M} hM => by
    have b := (List.mem_filter.mp hM).2
    exact ⟨_, (Ct.full_iff.mp b).2, rfl, full_stuck b⟩
  have highS : ∀ {M : List Nat}, M ∈ (allLots ds.length).filter (fun M => Ct.fullB ds.length (ds.length - 1 - T) (Th.dual ds.length (Gof h t ds)) (Th.co (mem M))) → ∃ N, N ≤ ds.length - 1 - T ∧ N = Th.cnt ds.length (Th.co (mem M)) ∧ Th.StuckLow ds.length (Th.dual ds.length (Gof h t ds)) N (Th.co (mem M)) := fun {M} hM => by
    have b := (List.mem_filter.mp hM).2
    exact ⟨_, (Ct.full_iff.mp b).2, rfl, full_stuck b⟩
  -- the open ones
  have repX : ∀ X : List Nat, ∃ M : List Nat, Lot ds.length M ∧ (Lot ds.length X → Ct.fastB ds.length T (Gof h t ds) (mem X) = true → Th.Open ds.length (Gof h t ds) T (mem M) ∧ ∀ i, i < ds.length → Gof h t ds T i = false → mem M i = mem X i) := fun X => by
    by_cases c : Ct.fastB ds.length T (Gof h t ds) (mem X) = true
    · have b := c
      unfold Ct.fastB at b
      rw [Bool.and_eq_true, Bool.and_eq_true, decide_eq_true_eq, decide_eq_true_eq, Ct.subB_iff] at b
      obtain ⟨b1, b2, b3⟩ := b
      obtain ⟨V, v1, v2⟩ := Ct.some_of (B := Gof h t ds T) (k := ds.length) (x := T - Th.cnt ds.length (mem X)) (by omega)
      have mm : ∀ i, i < ds.length → mem (lotOf ds.length fun i => mem X i || V i) i = (mem X i || V i) := fun i hi => lotOf_mem hi
      have cX : Th.cnt ds.length (fun i => mem X i && !Gof h t ds T i) = Th.cnt ds.length (mem X) := Th.cnt_congr fun i hi => by
        cases q : mem X i with
        | false => rfl
        | true =>
          have := b1 i hi q
          rw [this]
          rfl
      have cU : Th.cnt ds.length (fun i => mem X i || Gof h t ds T i) = Th.cnt ds.length (mem X) + Th.cnt ds.length (Gof h t ds T) := by
        have := Th.cnt_and_or (k := ds.length) (mem X) (Gof h t ds T)
        omega
      have cM : Th.cnt ds.length (mem (lotOf ds.length fun i => mem X i || V i)) = T := by
        rw [Th.cnt_congr mm]
        have a := Th.cnt_and_or (k := ds.length) (mem X) V
        have e : Th.cnt ds.length (fun i => mem X i && !V i) = Th.cnt ds.length (mem X) := Th.cnt_congr fun i hi => by
          cases q : mem X i with
          | false => rfl
          | true =>
            have g := b1 i hi q
            cases v : V i with
            | false => rfl
            | true =>
              have g2 := (v1 i v).1
              rw [g2] at g
              cases g
        omega
      refine ⟨lotOf ds.length fun i => mem X i || V i, lotOf_lot _ _, fun _ _ => ⟨⟨.inl ⟨by rw [cM]; exact Nat.le_refl _, fun n h1 h2 => by rw [cM] at h1; omega⟩, ?_⟩, fun i hi g => ?_⟩⟩
      · have e : Th.cnt ds.length (fun i => mem (lotOf ds.length fun i => mem X i || V i) i || Gof h t ds T i) = Th.cnt ds.length (fun i => mem X i || Gof h t ds T i) := Th.cnt_congr fun i hi => by
          rw [mm i hi]
          cases v : V i with
          | false => rw [Bool.or_false]
          | true => rw [(v1 i v).1, Bool.or_true, Bool.or_true]
        rw [e, cU]
        omega
      · rw [mm i hi]
        cases v : V i with
        | false => rw [Bool.or_false]
        | true =>
          have := (v1 i v).1
          rw [g] at this
          cases this
    · exact ⟨[], Lot.nil _, fun _ z => absurd z c⟩
  obtain ⟨rep, hrep⟩ := Classical.skolem.mp repX
  have topS : ∀ {M : List Nat}, M ∈ ((allLots ds.length).filter fun X => Ct.fastB ds.length T (Gof h t ds) (mem X)).map rep → Th.Open ds.length (Gof h t ds) T (mem M) := fun {M} hM => by
    obtain ⟨X, hX, rfl⟩ := List.mem_map.mp hM
    obtain ⟨h1, h2⟩ := List.mem_filter.mp hX
    exact ((hrep X).2 (allLots_lot h1) h2).1
  refine ⟨(allLots ds.length).filter (fun M => Ct.fullB ds.length T (Gof h t ds) (mem M)) ++ ((allLots ds.length).filter fun X => Ct.fastB ds.length T (Gof h t ds) (mem X)).map rep ++ (allLots ds.length).filter (fun M => Ct.fullB ds.length (ds.length - 1 - T) (Th.dual ds.length (Gof h t ds)) (Th.co (mem M))), ⟨?_, ?_, ?_⟩, ?_⟩
  · intro M hM
    rcases List.mem_append.mp hM with z | z
    · rcases List.mem_append.mp z with z | z
      · exact allLots_lot (List.mem_filter.mp z).1
      · obtain ⟨X, hX, rfl⟩ := List.mem_map.mp z
        exact (hrep X).1
    · exact allLots_lot (List.mem_filter.mp z).1
  · intro M hM
    have ow : ∀ i, ¬ i < ds.length → mem M i = false := fun i hi => decide_eq_false fun z => hi (hM.lt i z)
    rcases Th.sorts (S := mem M) tp with ⟨N, hN, sl⟩ | ⟨N, hN, sl⟩ | q
    · obtain ⟨U, r, c, e⟩ := sl.full tp hN
      have eU := lotOf_eq hM r
      refine ⟨lotOf ds.length U, List.mem_append.mpr (.inl (List.mem_append.mpr (.inl (List.mem_filter.mpr ⟨lot_all (lotOf_lot _ _), ?_⟩)))), ?_⟩
      · rw [eU]
        refine Ct.full_iff.mpr ⟨fun i hi g => ?_, by omega⟩
        rw [c] at g
        rw [e i hi, g, Bool.or_true]
      · show Th.Reach _ _ _ _
        rw [eU]
        exact r
    · obtain ⟨U, r, c, e⟩ := sl.full tp.dual hN
      have r2 : Th.Reach ds.length (Gof h t ds) (mem M) (Th.co U) := by
        refine Th.Reach.codual ?_
        rw [Th.co_co]
        exact r
      have eU := lotOf_eq hM r2
      refine ⟨lotOf ds.length (Th.co U), List.mem_append.mpr (.inr (List.mem_filter.mpr ⟨lot_all (lotOf_lot _ _), ?_⟩)), ?_⟩
      · rw [eU, Th.co_co]
        refine Ct.full_iff.mpr ⟨fun i hi g => ?_, by omega⟩
        rw [c] at g
        rw [e i hi, g, Bool.or_true]
      · show Th.Reach _ _ _ _
        rw [eU]
        exact r2
    · have op : Th.Open ds.length (Gof h t ds) T (mem M) := q
      have lX : Lot ds.length (lotOf ds.length fun i => mem M i && !Gof h t ds T i) := lotOf_lot _ _
      have mX : ∀ i, i < ds.length → mem (lotOf ds.length fun i => mem M i && !Gof h t ds T i) i = (mem M i && !Gof h t ds T i) := fun i hi => lotOf_mem hi
      have cX : Th.cnt ds.length (mem (lotOf ds.length fun i => mem M i && !Gof h t ds T i)) = Th.cnt ds.length (fun i => mem M i && !Gof h t ds T i) := Th.cnt_congr mX
      have f0 : Th.cnt ds.length (fun i => mem M i && !Gof h t ds T i) ≤ T := by
        rcases q.1 with r | r
        · have : Th.cnt ds.length (fun i => mem M i && !Gof h t ds T i) ≤ Th.cnt ds.length (mem M) := Th.cnt_mono fun i _ z => by
            cases e : mem M i with
            | true => rfl
            | false => rw [e] at z; cases z
          have := r.1
          omega
        · exact r.2 T (Nat.le_refl _) r.1
      have fb : Ct.fastB ds.length T (Gof h t ds) (mem (lotOf ds.length fun i => mem M i && !Gof h t ds T i)) = true := by
        unfold Ct.fastB
        rw [Bool.and_eq_true, Bool.and_eq_true, decide_eq_true_eq, decide_eq_true_eq, Ct.subB_iff, cX]
        refine ⟨fun i hi z => ?_, f0, ?_⟩
        · rw [mX i hi] at z
          cases g : Gof h t ds T i with
          | false => rfl
          | true => rw [g] at z; simp at z
        · have := Th.cnt_and_or (k := ds.length) (mem M) (Gof h t ds T)
          have := q.2
          omega
      obtain ⟨o2, fx⟩ := (hrep _).2 lX fb
      refine ⟨rep _, List.mem_append.mpr (.inl (List.mem_append.mpr (.inr (List.mem_map.mpr ⟨_, List.mem_filter.mpr ⟨lot_all lX, fb⟩, rfl⟩)))), ?_⟩
      refine Th.open_reach tp op.1 o2.1 (fun i hi g => ?_) fun i hi => ?_
      · rw [fx i hi g, mX i hi, g, Bool.not_false, Bool.and_true]
      · rw [ow i hi]
        exact decide_eq_false fun z => hi ((hrep _).1.lt i z)
  · have nd := allLots_nd ds.length
    refine List.pairwise_append.mpr ⟨List.pairwise_append.mpr ⟨?_, ?_, ?_⟩, ?_, ?_⟩
    · refine List.Pairwise.imp_of_mem (fun {M N} hM hN ne r => ne ?_) (nd.filter _)
      obtain ⟨a, a1, a2, sa⟩ := lowS hM
      obtain ⟨c, c1, c2, sc⟩ := lowS hN
      have e := Th.low_uniq (sa.same tp a1 r) sc
      subst e
      have fM := (Ct.full_iff.mp (List.mem_filter.mp hM).2).1
      have fN := (Ct.full_iff.mp (List.mem_filter.mp hN).2).1
      rw [← a2] at fM
      rw [← c2] at fN
      have q := ((sa.iff tp a1 (Th.Reach.out r)).mp r).2
      refine lot_ext (allLots_lot (List.mem_filter.mp hM).1) (allLots_lot (List.mem_filter.mp hN).1) fun i hi => ?_
      have := q i hi
      cases g : Gof h t ds a i with
      | false =>
        rw [g, Bool.or_false, Bool.or_false] at this
        exact this.symm
      | true => rw [fM i hi g, fN i hi g]
    · refine List.pairwise_map.mpr (List.Pairwise.imp_of_mem (fun {X Y} hX hY ne r => ne ?_) (nd.filter _))
      obtain ⟨x1, x2⟩ := List.mem_filter.mp hX
      obtain ⟨y1, y2⟩ := List.mem_filter.mp hY
      have lx := allLots_lot x1
      have ly := allLots_lot y1
      have fx := ((hrep X).2 lx x2).2
      have fy := ((hrep Y).2 ly y2).2
      have iv := Th.fast_inv tp r
      have sx : ∀ i, i < ds.length → mem X i = true → Gof h t ds T i = false := fun i hi z => by
        have b := x2
        unfold Ct.fastB at b
        rw [Bool.and_eq_true, Ct.subB_iff] at b
        have := b.1 i hi z
        simpa using this
      have sy : ∀ i, i < ds.length → mem Y i = true → Gof h t ds T i = false := fun i hi z => by
        have b := y2
        unfold Ct.fastB at b
        rw [Bool.and_eq_true, Ct.subB_iff] at b
        have := b.1 i hi z
        simpa using this
      refine lot_ext lx ly fun i hi => ?_
      cases g : Gof h t ds T i with
      | false => rw [← fx i hi g, ← fy i hi g, iv i hi g]
      | true =>
        cases a : mem X i with
        | true => rw [sx i hi a] at g; cases g
        | false =>
          cases b : mem Y i with
          | true => rw [sy i hi b] at g; cases g
          | false => rfl
    · intro M hM N hN r
      obtain ⟨a, a1, a2, sa⟩ := lowS hM
      exact Th.low_open tp a1 (sa.same tp a1 r) (topS hN)
    · refine List.Pairwise.imp_of_mem (fun {M N} hM hN ne r => ne ?_) (nd.filter _)
      obtain ⟨a, a1, a2, sa⟩ := highS hM
      obtain ⟨c, c1, c2, sc⟩ := highS hN
      have rd := Th.Reach.dual r
      have e := Th.low_uniq (sa.same tp.dual a1 rd) sc
      subst e
      have fM := (Ct.full_iff.mp (List.mem_filter.mp hM).2).1
      have fN := (Ct.full_iff.mp (List.mem_filter.mp hN).2).1
      rw [← a2] at fM
      rw [← c2] at fN
      have q := ((sa.iff tp.dual a1 (Th.Reach.out rd)).mp rd).2
      refine lot_ext (allLots_lot (List.mem_filter.mp hM).1) (allLots_lot (List.mem_filter.mp hN).1) fun i hi => ?_
      have this := q i hi
      have cc : Th.co (mem M) i = Th.co (mem N) i := by
        cases g : Th.dual ds.length (Gof h t ds) a i with
        | false =>
          rw [g, Bool.or_false, Bool.or_false] at this
          exact this.symm
        | true => rw [fM i hi g, fN i hi g]
      revert cc
      show (!mem M i) = (!mem N i) → _
      cases mem M i <;> cases mem N i <;> simp
    · intro M hM N hN r
      obtain ⟨c, c1, c2, sc⟩ := highS hN
      rcases List.mem_append.mp hM with z | z
      · obtain ⟨a, a1, a2, sa⟩ := lowS z
        exact Th.low_high tp a1 (sa.same tp a1 r) c1 sc
      · exact Th.high_open tp c1 sc ((topS z).same tp r)
  · rw [List.length_append, List.length_append, List.length_map, cf_lots (P := Ct.fullB ds.length T (Gof h t ds)), cf_lots (P := Ct.fastB ds.length T (Gof h t ds)), cf_lots (P := fun M => Ct.fullB ds.length (ds.length - 1 - T) (Th.dual ds.length (Gof h t ds)) (Th.co M)), Ct.cf_co (P := Ct.fullB ds.length (ds.length - 1 - T) (Th.dual ds.length (Gof h t ds))) fun U V e => ?_, Ct.low_many, Ct.top_many, Ct.low_many]
    · rfl
    · have ce : Th.cnt ds.length U = Th.cnt ds.length V := Th.cnt_congr e
      rw [Bool.eq_iff_iff, Ct.full_iff, Ct.full_iff, ce]
      exact and_congr ⟨fun a i hi g => by rw [← e i hi]; exact a i hi g, fun a i hi g => by rw [e i hi]; exact a i hi g⟩ Iff.rfl
end Sh

namespace Sh
open PySem PySem.Spec PyProof.Rows L2
def lowP (k : Nat) (g : Nat → Nat) (i : Nat) : Nat := ((List.range i).map fun N => if N < g N then 0 else Ct.bin (k - g N) (N - g N)).sum
theorem lowP_succ (k : Nat) (g : Nat → Nat) (i : Nat) : lowP k g (i + 1) = lowP k g i + if i < g i then 0 else Ct.bin (k - g i) (i - g i) := by
  unfold lowP
  rw [List.range_succ, List.map_append, List.sum_append]
  rfl
theorem lowN_congr {k T : Nat} {g g' : Nat → Nat} (h : ∀ e, e ≤ T → g e = g' e) : Ct.lowN k T g = Ct.lowN k T g' := by
  unfold Ct.lowN
  congr 1
  refine List.map_congr_left fun N hN => ?_
  rw [h N (by have := List.mem_range.mp hN; omega)]
def spLowLots (K : PySem.W.Frag) : Sp := fun vs H Q _ => ∃ (v : V) (h t : Int) (ss : List Srt) (T : Nat), vs = [v, .int (T : Int)] ∧ FltA K H v h t ss ∧ ss.length ≤ 1000 ∧ mny ss ≤ 60 ∧ T ≤ 1000 ∧ ∀ H', Same H H' → Q (.int ((Ct.lowN (mny ss) T (fun e => gmF ss (mk h t (mny ss) (e : Int))) : Nat) : Int)) H'
def spTopLots (K : PySem.W.Frag) : Sp := fun vs H Q _ => ∃ (v : V) (h t : Int) (ss : List Srt) (T : Nat), vs = [v, .int (T : Int)] ∧ FltA K H v h t ss ∧ ss.length ≤ 1000 ∧ mny ss ≤ 60 ∧ ∀ H', Same H H' → Q (.int ((Ct.topN (mny ss) T (gmF ss (mk h t (mny ss) (T : Int))) : Nat) : Int)) H'
def spFamilies (K : PySem.W.Frag) : Sp := fun vs H Q _ => ∃ (v : V) (h t : Int) (ds : List Int), vs = [v] ∧ SeaA K H v h t ds ∧ ds.length ≤ 60 ∧ 0 < ds.length ∧ ∀ H', Same H H' → Q (.int ((famsN ds.length (topI h t ds.length).toNat (Gof h t ds) : Nat) : Int)) H'
abbrev s_low_lots : Stmt := topS 25
theorem sc_low_lots : FnScope (["fleet", "top", "many", "lots", "step", "goers"] : List Str) (["fleet", "top"] : List Str) (defScope s_low_lots) := ⟨rfl, rfl, rfl, by decide +kernel, rfl, by decide +kernel, by decide +kernel⟩
theorem b_low_lots (kV doc pm : Value) (an : Option Addr) (cdv ct : Value) (us : List Value) (hl : us.length = (["fleet", "top"] : List Str).length) : bindArgs (PySem.W.fnOf "low_lots" "low_lots" (defArgs s_low_lots) (defBody s_low_lots) (defScope s_low_lots) .none kV doc pm an cdv ct) ⟨us, []⟩ = pure ((["fleet", "top"] : List Str).zip us) :=
  match us, hl with | [_, _], _ => rfl
abbrev s_top_lots : Stmt := topS 26
theorem sc_top_lots : FnScope (["fleet", "top", "many", "goers", "fixed_here", "fixed"] : List Str) (["fleet", "top"] : List Str) (defScope s_top_lots) := ⟨rfl, rfl, rfl, by decide +kernel, rfl, by decide +kernel, by decide +kernel⟩
theorem b_top_lots (kV doc pm : Value) (an : Option Addr) (cdv ct : Value) (us : List Value) (hl : us.length = (["fleet", "top"] : List Str).length) : bindArgs (PySem.W.fnOf "top_lots" "top_lots" (defArgs s_top_lots) (defBody s_top_lots) (defScope s_top_lots) .none kV doc pm an cdv ct) ⟨us, []⟩ = pure ((["fleet", "top"] : List Str).zip us) :=
  match us, hl with | [_, _], _ => rfl
abbrev s_families_many : Stmt := topS 27
theorem sc_families_many : FnScope (["sea", "fleet", "top", "last"] : List Str) (["sea"] : List Str) (defScope s_families_many) := ⟨rfl, rfl, rfl, by decide +kernel, rfl, by decide +kernel, by decide +kernel⟩
theorem b_families_many (kV doc pm : Value) (an : Option Addr) (cdv ct : Value) (us : List Value) (hl : us.length = (["sea"] : List Str).length) : bindArgs (PySem.W.fnOf "families_many" "families_many" (defArgs s_families_many) (defBody s_families_many) (defScope s_families_many) .none kV doc pm an cdv ct) ⟨us, []⟩ = pure ((["sea"] : List Str).zip us) :=
  match us, hl with | [_], _ => rfl
def topP (k T g i : Nat) : List Nat := (List.range i).filter fun f => decide (f ≤ T) && decide (T < f + g)
theorem topP_sum (k T g : Nat) : ∀ i, ((topP k T g i).map fun f => Ct.bin (k - g) f).sum = ((List.range i).map fun f => if f ≤ T ∧ T < f + g then Ct.bin (k - g) f else 0).sum
  | 0 => rfl
  | i + 1 => by
    have ih := topP_sum k T g i
    unfold topP at ih ⊢
    rw [List.range_succ, List.filter_append, List.map_append, List.sum_append, ih, List.map_append, List.sum_append]
    congr 1
    by_cases c : i ≤ T ∧ T < i + g
    · rw [List.filter_cons_of_pos (by simpa using c)]
      show _ = (if i ≤ T ∧ T < i + g then _ else 0) + 0
      rw [if_pos c]
      rfl
    · rw [List.filter_cons_of_neg (by simpa using c)]
      show _ = (if i ≤ T ∧ T < i + g then _ else 0) + 0
      rw [if_neg c]
      rfl
section
variable {P : Program} {w : World} {K : PySem.W.Frag} {mg : Str → Option Value} {base : Heap}
theorem ok_low_lots {k : Nat} (D : Df K mg "low_lots" s_low_lots) (T : Bt mg) (O_ships_many : Ok P w K mg base k "ships_many" s_ships_many ["fleet"] (spShips K)) (O_goers_many : Ok P w K mg base k "goers_many" s_goers_many ["fleet", "step"] (spGoersMany K)) (O_ways_to_take : Ok P w K mg base k "ways_to_take" s_ways_to_take ["many", "taken"] spWaysTake) :
    Ok P w K mg base (k + 1) "low_lots" s_low_lots ["fleet", "top"] (spLowLots K) := by
  refine D.ok sc_low_lots b_low_lots (fun vs H Q E h => ?_) (fun f cdv A outer s H vs Q E hr h => ?_)
  · obtain ⟨v, h, t, ss, T', rfl, _⟩ := h
    rfl
  · obtain ⟨v, h, t, ss, T', rfl, hv, l1, m1, T1, q⟩ := h
    refine ⟨_, (pss_cons (ps_set (i := 2) sc_low_lots.nd rfl (.inl rfl) (pe_fn O_ships_many (hr.mono (by omega)) (pa_cons (pv 0) pa_nil)))
      (pss_cons (ps_set (i := 3) sc_low_lots.nd rfl (.inl rfl) pe_int)
      (pss_cons (ps_for PassesOwn.never rfl (pi_range1 (by rfl) T.range_ (pa_cons (pe_op op_add (pv 1) pe_int) pa_nil)) (pg_name (i := 4) sc_low_lots.nd rfl (.inl rfl))
        (pss_cons (ps_set (i := 5) sc_low_lots.nd rfl (.inl rfl) (pe_fn O_goers_many (hr.mono (by omega)) (pa_cons (pv 0) (pa_cons (pv 4) pa_nil))))
          (pss_one (ps_aug (i := 3) sc_low_lots.nd rfl (.inl rfl) (pe_fn O_ways_to_take (hr.mono (by omega)) (pa_cons (pe_op op_sub (pv 2) (pv 5)) (pa_cons (pe_op op_sub (pv 4) (pv 5)) pa_nil))) ip_add))))
      (pss_one (ps_ret (pv 3)))))), ?_⟩
    have gb : ∀ e : Nat, gmF ss (mk h t (mny ss) (e : Int)) ≤ mny ss := fun e => gm_le ss _
    refine ⟨_, rfl, v, h, t, ss, rfl, hv, l1, fun H1 s1 => ?_⟩
    refine ⟨_, rfl, _, 1, rfl, rfl, _, rfl, by omega, by omega, ?_⟩
    rw [show ((T' : Int) + 1).toNat = T' + 1 by omega]
    refine for_range (lo := 0) (n := T' + 1) (fun i σ H' => ∃ y4 y5 : Option V, σ = [some v, some (.int (T' : Int)), some (.int (mny ss : Int)), some (.int ((lowP (mny ss) (fun e => gmF ss (mk h t (mny ss) (e : Int))) i : Nat) : Int)), y4, y5] ∧ Same H H') ⟨none, none, rfl, s1⟩ ?_ ?_
    · rintro i σ Ha hi ⟨y4, y5, rfl, sa⟩
      refine ⟨_, rfl, _, rfl, v, h, t, 0 + (i : Int), ss, rfl, hv.same sa, l1, fun Hb sb => ?_⟩
      rw [Int.zero_add (i : Int)]
      have g1 := gb i
      refine ⟨_, rfl, _, rfl, _, rfl, _, _, rfl, rfl, _, rfl, _, rfl, _, _, rfl, rfl, mny ss - gmF ss (mk h t (mny ss) (i : Int)), (i : Int) - (gmF ss (mk h t (mny ss) (i : Int)) : Int), ?_, by omega, fun Hc sc => ⟨_, _, rfl, rfl, ?_⟩⟩
      · rw [show ((mny ss - gmF ss (mk h t (mny ss) (i : Int)) : Nat) : Int) = (mny ss : Int) - (gmF ss (mk h t (mny ss) (i : Int)) : Int) by omega]
        rfl
      refine ⟨some (.int (i : Int)), some (.int (gmF ss (mk h t (mny ss) (i : Int)) : Int)), ?_, sa.trans (sb.trans sc)⟩
      rw [lowP_succ, Int.natCast_add]
      have e : ((if (i : Int) - (gmF ss (mk h t (mny ss) (i : Int)) : Int) < 0 then 0 else Ct.bin (mny ss - gmF ss (mk h t (mny ss) (i : Int))) ((i : Int) - (gmF ss (mk h t (mny ss) (i : Int)) : Int)).toNat : Nat) : Int) = ((if i < gmF ss (mk h t (mny ss) (i : Int)) then 0 else Ct.bin (mny ss - gmF ss (mk h t (mny ss) (i : Int))) (i - gmF ss (mk h t (mny ss) (i : Int))) : Nat) : Int) := by
        by_cases c : i < gmF ss (mk h t (mny ss) (i : Int))
        · rw [if_pos (by omega), if_pos c]
        · rw [if_neg (by omega), if_neg c, show ((i : Int) - (gmF ss (mk h t (mny ss) (i : Int)) : Int)).toNat = i - gmF ss (mk h t (mny ss) (i : Int)) by omega]
      rw [← e]
      rfl
    · rintro σ Hz ⟨y4, y5, rfl, sz⟩
      exact ⟨_, rfl, q _ sz⟩
set_option maxHeartbeats 4000000 in
theorem ok_top_lots {k : Nat} (D : Df K mg "top_lots" s_top_lots) (T : Bt mg) (O_ships_many : Ok P w K mg base k "ships_many" s_ships_many ["fleet"] (spShips K)) (O_goers_many : Ok P w K mg base k "goers_many" s_goers_many ["fleet", "step"] (spGoersMany K)) (O_ways_to_take : Ok P w K mg base k "ways_to_take" s_ways_to_take ["many", "taken"] spWaysTake) :
    Ok P w K mg base (k + 1) "top_lots" s_top_lots ["fleet", "top"] (spTopLots K) := by
  refine D.ok sc_top_lots b_top_lots (fun vs H Q E h => ?_) (fun f cdv A outer s H vs Q E hr h => ?_)
  · obtain ⟨v, h, t, ss, T', rfl, _⟩ := h
    rfl
  · obtain ⟨v, h, t, ss, T', rfl, hv, l1, m1, q⟩ := h
    refine ⟨_, (pss_cons (ps_set (i := 2) sc_top_lots.nd rfl (.inr rfl) (pe_fn O_ships_many (hr.mono (by omega)) (pa_cons (pv 0) pa_nil)))
      (pss_cons (ps_set (i := 3) sc_top_lots.nd rfl (.inr rfl) (pe_fn O_goers_many (hr.mono (by omega)) (pa_cons (pv 0) (pa_cons (pv 1) pa_nil))))
      (pss_cons (ps_setLc (i := 4) (own := [("fixed", 5)]) (g := (gName 5)) (by rfl) sc_top_lots.nd rfl rfl (sw_true rfl rfl rfl (by decide +kernel)) (pi_range1 (by rfl) T.range_ (pa_cons (pe_op op_add (pe_op op_sub (pv 2) (pv 3)) pe_int) pa_nil)) (blkOk_by (own := [("fixed", 5)]) (N := (["fleet", "top", "many", "goers", "fixed_here", "fixed"] : List Str)) (sc := defScope s_top_lots) (by decide +kernel)) (fun _ _ _ _ _ => (pg_name (i := 5) sc_top_lots.nd rfl (.inl rfl))) (fun _ _ _ _ _ => (pts_one (pt_chain op_le op_lt (pv 5) (pv 1) (pe_op op_add (pv 5) (pv 3))))) (fun _ _ _ _ _ => (pv 5)))
      (pss_one (ps_ret (pe_callB (cr_sum rfl) (by rfl) T.sum_ (by decide +kernel) (pa_cons (pe_lc (own := [("fixed", 5)]) (g := (gName 5)) (tt := tYes) (by rfl) sc_top_lots.nd (pi_seq (pv 4)) (blkOk_by (own := [("fixed", 5)]) (N := (["fleet", "top", "many", "goers", "fixed_here", "fixed"] : List Str)) (sc := defScope s_top_lots) (by decide +kernel)) (fun _ _ _ _ _ => (pg_name (i := 5) sc_top_lots.nd rfl (.inl rfl))) (fun _ _ _ _ _ => pts_nil) (fun _ _ _ _ _ => (pe_fn O_ways_to_take (hr.mono (by omega)) (pa_cons (pe_op op_sub (pv 2) (pv 3)) (pa_cons (pv 5) pa_nil))))) pa_nil))))))), ?_⟩
    refine ⟨_, rfl, v, h, t, ss, rfl, hv, l1, fun H1 s1 => ?_⟩
    refine ⟨_, rfl, _, rfl, v, h, t, (T' : Int), ss, rfl, hv.same s1, l1, fun H2 s2 => ?_⟩
    have g1 := gm_le ss (mk h t (mny ss) (T' : Int))
    generalize gmF ss (mk h t (mny ss) (T' : Int)) = g at q g1
    generalize mny ss = k' at m1 q g1
    have s02 := s1.trans s2
    refine ⟨_, rfl, _, rfl, _, _, rfl, rfl, _, 1, rfl, rfl, _, rfl, by omega, by omega, fun C nC => ?_⟩
    rw [show ((k' : Int) - (g : Int) + 1).toNat = k' - g + 1 by omega]
    refine lc_range (fun i H' => Same H2 H' ∧ H' C = some (.lst (nl (topP k' T' g i)))) ⟨same_new nC, upd_same⟩ ?_ ?_
    · rintro i Ha hi ⟨sm, hC⟩
      have ts : topP k' T' g (i + 1) = topP k' T' g i ++ if i ≤ T' ∧ T' < i + g then [i] else [] := by
        unfold topP
        rw [List.range_succ, List.filter_append]
        congr 1
        by_cases c : i ≤ T' ∧ T' < i + g
        · rw [List.filter_cons_of_pos (by simpa using c), if_pos c]
          rfl
        · rw [List.filter_cons_of_neg (by simpa using c), if_neg c]
          rfl
      have no : ¬ (i ≤ T' ∧ T' < i + g) → Same H2 Ha ∧ Ha C = some (.lst (nl (topP k' T' g (i + 1)))) := fun c => ⟨sm, by rw [hC, ts, if_neg c, List.append_nil]⟩
      refine ⟨rfl, ?_⟩
      refine ⟨_, rfl, _, rfl, _, _, rfl, rfl, _, rfl, ?_⟩
      by_cases c1 : i ≤ T'
      · rw [decide_eq_true (by omega)]
        refine iteT ⟨_, rfl, _, rfl, _, _, rfl, rfl, _, _, rfl, rfl, _, rfl, ite2 (fun c => ?_) (fun c => ?_)⟩
        · have c0 := of_decide_eq_true c
          have c2 : i ≤ T' ∧ T' < i + g := by omega
          refine ⟨_, rfl, _, hC, ?_, same_over sm nC, ?_⟩
          · rw [nl_len]
            unfold topP
            exact Nat.lt_of_le_of_lt (List.length_filter_le _ _) (by rw [List.length_range]; exact Nat.lt_of_lt_of_le hi (Nat.le_trans (show _ ≤ 61 by omega) (by decide)))
          · rw [upd_same, ts, if_pos c2, Int.zero_add (i : Int)]
            unfold nl
            rw [List.map_append, List.map_append]
            rfl
        · have c0 : ¬ _ := fun z => c (decide_eq_true z)
          exact no (by omega)
      · rw [decide_eq_false (by omega)]
        exact iteF ⟨false, rfl, iteF (no (by omega))⟩
    · rintro H3 ⟨s3, hC⟩
      rw [show k' - g + 1 = k' - g + 1 from rfl] at hC
      have ll : (topP k' T' g (k' - g + 1)).length ≤ 61 := by
        unfold topP
        exact Nat.le_trans (List.length_filter_le _ _) (by rw [List.length_range]; omega)
      have s03 := s02.trans s3
      unfold Ct.topN at q
      rw [← topP_sum] at q
      have mm : ∀ f ∈ topP k' T' g (k' - g + 1), f ≤ k' - g := fun f hf => by
        have := List.mem_range.mp (List.mem_filter.mp hf).1
        omega
      generalize topP k' T' g (k' - g + 1) = fs at hC ll q mm
      refine ⟨_, rfl, C, _, H3, rfl, SqA.l hC, Kp.refl _ _, fun J hJ C2 nC2 => ?_⟩
      obtain ⟨G, gg, W⟩ := hJ.walk
      refine lc_it W (fun i H' => Same H3 H' ∧ H' C2 = some (.lst (nl ((fs.take i).map fun f => Ct.bin (k' - g) f)))) ⟨same_new nC2, upd_same⟩ (fun i H' _ z => gg H' (.ofS z.1)) ?_ ?_
      · rintro i x Ha Hb hi ⟨sm, hC2⟩ ⟨rfl, gx⟩
        rw [nl_len] at hi
        obtain rfl : .int ((fs[i] : Nat) : Int) = x := Option.some.inj ((nl_get hi).symm.trans gx)
        refine ⟨rfl, tyes (iteT ?_)⟩
        refine ⟨_, rfl, _, rfl, _, _, rfl, rfl, _, rfl, k' - g, ((fs[i] : Nat) : Int), ?_, by omega, fun Hc sc => ?_⟩
        · rw [show ((k' - g : Nat) : Int) = (k' : Int) - (g : Int) by omega]
          rfl
        rw [if_neg (by omega), Int.toNat_natCast]
        refine ⟨_, sc _ _ hC2, ?_, same_over (sm.trans sc) nC2, ?_⟩
        · rw [nl_len, List.length_map, List.length_take]
          exact Nat.lt_of_le_of_lt (show _ ≤ 61 by omega) (by decide)
        · rw [upd_same, take_succ_get hi, List.map_append]
          unfold nl
          rw [List.map_append, List.map_append]
          rfl
      · rintro H4 ⟨s4, hC2⟩
        rw [nl_len, List.take_length] at hC2
        refine ⟨C2, _, rfl, SqL.of hC2, ?_⟩
        rw [nsumI]
        exact q _ (s03.trans s4)
theorem ok_families {k : Nat} (D : Df K mg "families_many" s_families_many) (T : Bt mg) (O_fleet_of : Ok P w K mg base k "fleet_of" s_fleet_of ["sea", "standing"] (spFleetOfA K)) (O_top_in : Ok P w K mg base k "top_in" s_top_in ["fleet"] (spTopIn K)) (O_ships_many : Ok P w K mg base k "ships_many" s_ships_many ["fleet"] (spShips K))
    (O_low_lots : Ok P w K mg base k "low_lots" s_low_lots ["fleet", "top"] (spLowLots K)) (O_top_lots : Ok P w K mg base k "top_lots" s_top_lots ["fleet", "top"] (spTopLots K)) (O_turned_fleet : Ok P w K mg base k "turned_fleet" s_turned_fleet ["fleet"] (spTurnedF K)) :
    Ok P w K mg base (k + 1) "families_many" s_families_many ["sea"] (spFamilies K) := by
  refine D.ok sc_families_many b_families_many (fun vs H Q E h => ?_) (fun f cdv A outer s H vs Q E hr h => ?_)
  · obtain ⟨v, h, t, ds, rfl, _⟩ := h
    rfl
  · obtain ⟨v, h, t, ds, rfl, hv, d1, d0, q⟩ := h
    refine ⟨_, (pss_cons (ps_set (i := 1) sc_families_many.nd rfl (.inl rfl) (pe_fn O_fleet_of (hr.mono (by omega)) (pa_cons (pv 0) (pa_cons (pe_tup pa_nil) pa_nil))))
      (pss_cons (ps_set (i := 2) sc_families_many.nd rfl (.inl rfl) (pe_fn O_top_in (hr.mono (by omega)) (pa_cons (pv 1) pa_nil)))
      (pss_cons (ps_set (i := 3) sc_families_many.nd rfl (.inl rfl) (pe_op op_sub (pe_fn O_ships_many (hr.mono (by omega)) (pa_cons (pv 1) pa_nil)) pe_int))
      (pss_one (ps_ret (pe_op op_add (pe_op op_add (pe_fn O_low_lots (hr.mono (by omega)) (pa_cons (pv 1) (pa_cons (pv 2) pa_nil))) (pe_fn O_top_lots (hr.mono (by omega)) (pa_cons (pv 1) (pa_cons (pv 2) pa_nil)))) (pe_fn O_low_lots (hr.mono (by omega)) (pa_cons (pe_fn O_turned_fleet (hr.mono (by omega)) (pa_cons (pv 1) pa_nil)) (pa_cons (pe_op op_sub (pv 3) (pv 2)) pa_nil))))))))), ?_⟩
    refine ⟨_, rfl, Nat.zero_le _, fun em nem => ?_⟩
    have s0 : Same H (upd H em (.tup [])) := same_new nem
    have e0 : upd H em (.tup []) em = some (.tup (ni [])) := upd_same
    generalize upd H em (.tup []) = H0 at s0 e0
    refine ⟨v, .ref em, h, t, ds, [], rfl, hv.same s0, ⟨em, rfl, SqA.t e0⟩, d1, Lot.nil _, fun H1 z ss s1 hz l1 r => ?_⟩
    have km := r.mny
    have tp := top_D h t (fun i => ds.getD i 0) d0
    have t0 := top_lo' h t ds.length
    have lt := tp.lt
    refine ⟨_, rfl, z, h, t, ss, rfl, hz, l1, fun H2 s2 => ?_⟩
    refine ⟨_, rfl, z, h, t, ss, rfl, hz.same s2, l1, fun H3 s3 => ⟨_, 1, rfl, rfl, ?_⟩⟩
    rw [km]
    obtain ⟨T', eT⟩ : ∃ T' : Nat, topI h t ds.length = (T' : Int) := ⟨_, (Int.toNat_of_nonneg t0).symm⟩
    have e2 : (topI h t ds.length).toNat = T' := by omega
    rw [e2] at q lt tp
    rw [eT]
    have hz3 := hz.same (s2.trans s3)
    refine ⟨_, rfl, _, rfl, z, h, t, ss, T', rfl, hz3, l1, by omega, by omega, fun H4 s4 => ?_⟩
    refine ⟨_, rfl, _, rfl, z, h, t, ss, T', rfl, hz3.same s4, l1, by omega, fun H5 s5 => ⟨_, _, rfl, rfl, ?_⟩⟩
    have hz5 := hz3.same (s4.trans s5)
    refine ⟨_, rfl, z, h, t, ss, rfl, hz5, l1, fun H6 z6 s6 hz6 => ?_⟩
    have lt2 : (turnF ss).length ≤ 1000 := by unfold turnF; rw [List.length_map]; exact l1
    have kt : mny (turnF ss) = ds.length := by rw [mny_turn, km]
    refine ⟨_, rfl, _, rfl, _, _, rfl, rfl, z6, t, h, turnF ss, ds.length - 1 - T', ?_, hz6, lt2, by omega, by omega, fun H7 s7 => ⟨_, _, rfl, rfl, ?_⟩⟩
    · rw [show ((ds.length - 1 - T' : Nat) : Int) = (ds.length : Int) - 1 - (T' : Int) by omega]
      rfl
    have c1 : ∀ e : Nat, gmF ss (mk h t (mny ss) (e : Int)) = Th.cnt ds.length (Gof h t ds e) := fun e => by rw [r.gm, km]; rfl
    have c2 : ∀ e : Nat, e ≤ ds.length - 1 - T' → gmF (turnF ss) (mk t h (mny (turnF ss)) (e : Int)) = Th.cnt ds.length (Th.dual ds.length (Gof h t ds) e) := fun e he => by
      rw [r.turn.gm, kt]
      exact Th.cnt_congr fun i hi => Gd_turn (h := h) (t := t) (D := fun i => ds.getD i 0) (by omega)
    have w := q _ (s0.trans (s1.trans (s2.trans (s3.trans (s4.trans (s5.trans (s6.trans s7)))))))
    unfold famsN at w
    rw [← lowN_congr (T := T') fun e _ => c1 e, ← c1 T', ← lowN_congr c2, Int.natCast_add, Int.natCast_add] at w
    rw [km, kt] at *
    exact w
end
end Sh

namespace Th
section
variable {k : Nat} {G G' : Nat → Nat → Bool} {S U : Nat → Bool}
theorem moves_along (r : Reach k G S U) {i : Nat} : Moves k G U i ↔ Moves k G S i := ⟨fun ⟨W, x, m⟩ => ⟨W, r.trans x, m⟩, fun ⟨W, x, m⟩ => ⟨W, r.symm.trans x, m⟩⟩
theorem Reach.mono (hg : ∀ s i, G s i = true → G' s i = true) (r : Reach k G S U) : Reach k G' S U := by
  induction r with
  | refl => exact .refl _
  | step _ st ih =>
    cases st with
    | up hi hs hG => exact .step ih (.up hi hs (hg _ _ hG))
    | dn hi hs hG => exact .step ih (.dn hi hs (hg _ _ hG))
theorem may_lt {i : Nat} (hi : i < k) : (if U i = true then cnt k U - 1 else cnt k U) < k := by
  have := cnt_le k U
  cases e : U i with
  | true => rw [if_pos rfl]; omega
  | false =>
    rw [if_neg Bool.false_ne_true]
    have a := cnt_flip_up hi e
    have := cnt_le k (flip U i)
    omega
/-- what is told of a standing's ships: most, least, the draughts of those who ever go -/
structure ToldS (k : Nat) (G : Nat → Nat → Bool) (D : Nat → Int) (S : Nat → Bool) (m l : Int) (ms : List Int) : Prop where
  mx : ∃ n : Nat, m = (n : Int) ∧ IsMax k G S n
  mn : ∃ n : Nat, l = (n : Int) ∧ IsMin k G S n
  up : ms.Pairwise (· < ·)
  mv : ∀ d, d ∈ ms ↔ ∃ i, i < k ∧ D i = d ∧ Moves k G S i
theorem riseI : ∀ {L M : List Int}, L.Pairwise (· < ·) → M.Pairwise (· < ·) → (∀ i, i ∈ L ↔ i ∈ M) → L = M
  | [], [], _, _, _ => rfl
  | [], b :: M, _, _, h => absurd ((h b).mpr (.head _)) (by simp)
  | a :: L, [], _, _, h => absurd ((h a).mp (.head _)) (by simp)
  | a :: L, b :: M, p, q, h => by
    obtain ⟨p1, p2⟩ := List.pairwise_cons.mp p
    obtain ⟨q1, q2⟩ := List.pairwise_cons.mp q
    have ab : a = b := by
      rcases List.mem_cons.mp ((h a).mp (.head _)) with z | z
      · exact z
      · rcases List.mem_cons.mp ((h b).mpr (.head _)) with y | y
        · exact y.symm
        · have := q1 a z
          have := p1 b y
          omega
    subst ab
    rw [riseI p2 q2 fun i => ?_]
    constructor
    · intro z
      rcases List.mem_cons.mp ((h i).mp (.tail _ z)) with y | y
      · have := p1 i z
        omega
      · exact y
    · intro z
      rcases List.mem_cons.mp ((h i).mpr (.tail _ z)) with y | y
      · have := q1 i z
        omega
      · exact y
variable {D : Nat → Int} {m l m' l' : Int} {ms ms' : List Int}
theorem ToldS.uniq (a : ToldS k G D S m l ms) (b : ToldS k G D S m' l' ms') : m' = m ∧ l' = l ∧ ms' = ms := by
  obtain ⟨n, rfl, ⟨A, ra, ca⟩, ua⟩ := a.mx
  obtain ⟨n', rfl, ⟨B, rb, cb⟩, ub⟩ := b.mx
  obtain ⟨o, rfl, ⟨A2, ra2, ca2⟩, ua2⟩ := a.mn
  obtain ⟨o', rfl, ⟨B2, rb2, cb2⟩, ub2⟩ := b.mn
  have := ua B rb
  have := ub A ra
  have := ua2 B2 rb2
  have := ub2 A2 ra2
  exact ⟨by omega, by omega, riseI b.up a.up fun d => (b.mv d).trans (a.mv d).symm⟩
theorem ToldS.along (r : Reach k G S U) (a : ToldS k G D U m l ms) : ToldS k G D S m l ms := by
  obtain ⟨n, rfl, ⟨A, ra, ca⟩, ua⟩ := a.mx
  obtain ⟨o, rfl, ⟨A2, ra2, ca2⟩, ua2⟩ := a.mn
  refine ⟨⟨n, rfl, ⟨A, r.trans ra, ca⟩, fun W x => ua W (r.symm.trans x)⟩, ⟨o, rfl, ⟨A2, r.trans ra2, ca2⟩, fun W x => ua2 W (r.symm.trans x)⟩, a.up, fun d => (a.mv d).trans ?_⟩
  exact ⟨fun ⟨i, hi, e, z⟩ => ⟨i, hi, e, (moves_along r).mp z⟩, fun ⟨i, hi, e, z⟩ => ⟨i, hi, e, (moves_along r).mpr z⟩⟩
theorem ToldS.deeper (hg : ∀ s i, G s i = true → G' s i = true) (a : ToldS k G D S m l ms) (b : ToldS k G' D S m' l' ms') : m ≤ m' ∧ l' ≤ l ∧ ∀ d ∈ ms, d ∈ ms' := by
  obtain ⟨n, rfl, ⟨A, ra, ca⟩, ua⟩ := a.mx
  obtain ⟨n', rfl, ⟨B, rb, cb⟩, ub⟩ := b.mx
  obtain ⟨o, rfl, ⟨A2, ra2, ca2⟩, ua2⟩ := a.mn
  obtain ⟨o', rfl, ⟨B2, rb2, cb2⟩, ub2⟩ := b.mn
  have := ub A (ra.mono hg)
  have := ub2 A2 (ra2.mono hg)
  refine ⟨by omega, by omega, fun d hd => ?_⟩
  obtain ⟨i, hi, e, W, x, z⟩ := (a.mv d).mp hd
  exact (b.mv d).mpr ⟨i, hi, e, W, x.mono hg, hg _ _ z⟩
/-- told of it turned about -/
theorem ToldS.turn {H : Nat → Nat → Bool} (gt : ∀ s i, s < k → H s i = dual k G s i) (a : ToldS k H D (co S) m l ms) : ToldS k G D S ((k : Int) - l) ((k : Int) - m) ms := by
  have back : ∀ {U : Nat → Bool}, Reach k H (co S) U → Reach k G S (co U) := fun {U} r => by
    refine Reach.codual ?_
    rw [co_co]
    exact r.congr gt
  have fwd : ∀ {U : Nat → Bool}, Reach k G S U → Reach k H (co S) (co U) := fun {U} r => r.dual.congr fun s i hs => (gt s i hs).symm
  obtain ⟨n, rfl, ⟨A, ra, ca⟩, ua⟩ := a.mx
  obtain ⟨o, rfl, ⟨A2, ra2, ca2⟩, ua2⟩ := a.mn
  have cA := cnt_co k A
  have cA2 := cnt_co k A2
  refine ⟨⟨k - o, by omega, ⟨co A2, back ra2, by omega⟩, fun W x => ?_⟩, ⟨k - n, by omega, ⟨co A, back ra, by omega⟩, fun W x => ?_⟩, a.up, fun d => (a.mv d).trans ?_⟩
  · have := ua2 _ (fwd x)
    have := cnt_co k W
    omega
  · have := ua _ (fwd x)
    have := cnt_co k W
    omega
  · have mv : ∀ {i : Nat}, i < k → (Moves k H (co S) i ↔ Moves k G S i) := fun {i} hi => by
      rw [← moves_co (G := G) (S := S) hi]
      constructor
      · rintro ⟨W, x, z⟩
        exact ⟨W, x.congr gt, by unfold May at z ⊢; rw [← gt _ _ (may_lt hi)]; exact z⟩
      · rintro ⟨W, x, z⟩
        exact ⟨W, x.congr fun s i hs => (gt s i hs).symm, by unfold May at z ⊢; rw [gt _ _ (may_lt hi)]; exact z⟩
    exact ⟨fun ⟨i, hi, e, z⟩ => ⟨i, hi, e, (mv hi).mp z⟩, fun ⟨i, hi, e, z⟩ => ⟨i, hi, e, (mv hi).mpr z⟩⟩
end
end Th
namespace Th
/-! ### ships that lie fast for ever, more depth for fewer -/
section
variable {k a c : Nat} {G G' : Nat → Nat → Bool} {D D' : Nat → Int} {S : Nat → Bool}
/-- the same ships, behind them a that lie here, the others there -/
def ext (k a : Nat) (U : Nat → Bool) : Nat → Bool := fun i => if i < k then U i else decide (i < k + a)
theorem ext_lt {U : Nat → Bool} {i : Nat} (hi : i < k) : ext k a U i = U i := by unfold ext; rw [if_pos hi]
theorem ext_ge {U : Nat → Bool} {i : Nat} (hi : ¬ i < k) : ext k a U i = decide (i < k + a) := by unfold ext; rw [if_neg hi]
theorem cnt_ext (U : Nat → Bool) : cnt (k + (a + c)) (ext k a U) = cnt k U + a := by
  rw [cnt_add, cnt_add]
  have e0 : cnt k (ext k a U) = cnt k U := cnt_congr fun i hi => ext_lt hi
  have e1 : cnt a (fun i => ext k a U (k + i)) = cnt a (fun _ => true) := cnt_congr fun i hi => by
    rw [ext_ge (by omega)]
    exact decide_eq_true (by omega)
  have e2 : cnt c (fun i => ext k a U (k + (a + i))) = cnt c (fun _ => false) := cnt_congr fun i hi => by
    rw [ext_ge (by omega)]
    exact decide_eq_false (by omega)
  rw [e0, e1, e2, cnt_const, cnt_const]
  simp
theorem ext_flip {U : Nat → Bool} {i : Nat} (hi : i < k) : ext k a (flip U i) = flip (ext k a U) i := by
  funext j
  by_cases e : j = i
  · subst e
    rw [ext_lt hi, flip_self, flip_self, ext_lt hi]
  · rw [flip_ne _ e]
    by_cases hj : j < k
    · rw [ext_lt hj, ext_lt hj, flip_ne _ e]
    · rw [ext_ge hj, ext_ge hj]
variable (gs : ∀ s i, i < k → G' (s + a) i = G s i) (g0 : ∀ s i, s < k + (a + c) → ¬ i < k → G' s i = false)
include gs
theorem ext_reach {U : Nat → Bool} (r : Reach k G S U) : Reach (k + (a + c)) G' (ext k a S) (ext k a U) := by
  induction r with
  | refl => exact .refl _
  | @step U W _ st ih =>
    cases st with
    | @up i hi hs hG =>
      rw [ext_flip hi]
      exact .step ih (.up (by omega) (by rw [ext_lt hi]; exact hs) (by rw [cnt_ext, gs _ _ hi]; exact hG))
    | @dn i hi hs hG =>
      rw [ext_flip hi]
      have := cnt_pos hi hs
      exact .step ih (.dn (by omega) (by rw [ext_lt hi]; exact hs) (by rw [cnt_ext, show cnt k U + a - 1 = cnt k U - 1 + a by omega, gs _ _ hi]; exact hG))
include g0
theorem ext_back {W : Nat → Bool} (r : Reach (k + (a + c)) G' (ext k a S) W) : ∃ U, W = ext k a U ∧ Reach k G S U := by
  induction r with
  | refl => exact ⟨S, rfl, .refl _⟩
  | @step W W' _ st ih =>
    obtain ⟨U, rfl, r⟩ := ih
    cases st with
    | @up i hi hs hG =>
      by_cases h : i < k
      · rw [ext_lt h] at hs
        rw [cnt_ext, gs _ _ h] at hG
        exact ⟨flip U i, (ext_flip h).symm, .step r (.up h hs hG)⟩
      · have := may_lt (U := ext k a U) hi
        rw [hs, if_neg Bool.false_ne_true] at this
        rw [g0 _ _ this h] at hG
        cases hG
    | @dn i hi hs hG =>
      by_cases h : i < k
      · rw [ext_lt h] at hs
        have := cnt_pos h hs
        rw [cnt_ext, show cnt k U + a - 1 = cnt k U - 1 + a by omega, gs _ _ h] at hG
        exact ⟨flip U i, (ext_flip h).symm, .step r (.dn h hs hG)⟩
      · have := may_lt (U := ext k a U) hi
        rw [hs, if_pos rfl] at this
        rw [g0 _ _ this h] at hG
        cases hG
theorem ToldS.lost {m l : Int} {ms : List Int} (hD : ∀ i, i < k → D' i = D i) (t : ToldS (k + (a + c)) G' D' (ext k a S) m l ms) : ToldS k G D S (m - a) (l - a) ms := by
  obtain ⟨n, rfl, ⟨A, ra, ca⟩, ua⟩ := t.mx
  obtain ⟨o, rfl, ⟨A2, ra2, ca2⟩, ua2⟩ := t.mn
  obtain ⟨B, rfl, rb⟩ := ext_back gs g0 ra
  obtain ⟨B2, rfl, rb2⟩ := ext_back gs g0 ra2
  rw [cnt_ext] at ca ca2
  refine ⟨⟨n - a, by omega, ⟨B, rb, by omega⟩, fun W x => ?_⟩, ⟨o - a, by omega, ⟨B2, rb2, by omega⟩, fun W x => ?_⟩, t.up, fun d => (t.mv d).trans ?_⟩
  · have := ua _ (ext_reach gs x)
    rw [cnt_ext] at this
    omega
  · have := ua2 _ (ext_reach gs x)
    rw [cnt_ext] at this
    omega
  · have may : ∀ {U : Nat → Bool} {i : Nat}, i < k → (May (k + (a + c)) G' (ext k a U) i ↔ May k G U i) := fun {U i} hi => by
      unfold May
      rw [ext_lt hi, cnt_ext]
      cases e : U i with
      | false => rw [if_neg Bool.false_ne_true, if_neg Bool.false_ne_true, gs _ _ hi]
      | true =>
        have := cnt_pos hi e
        rw [if_pos rfl, if_pos rfl, show cnt k U + a - 1 = cnt k U - 1 + a by omega, gs _ _ hi]
    constructor
    · rintro ⟨i, hi, e, W, x, z⟩
      obtain ⟨U, rfl, r⟩ := ext_back gs g0 x
      by_cases h : i < k
      · exact ⟨i, h, by rw [← hD i h]; exact e, U, r, (may h).mp z⟩
      · have := g0 _ _ (may_lt (U := ext k a U) hi) h
        unfold May at z
        rw [this] at z
        cases z
    · rintro ⟨i, hi, e, U, r, z⟩
      exact ⟨i, by omega, by rw [hD i hi]; exact e, _, ext_reach gs r, (may hi).mpr z⟩
end
end Th

namespace Ct
open Th (cnt cnt_succ cnt_congr cnt_zero)
section
variable {k : Nat} {G G' : Nat → Nat → Bool} {S : Nat → Bool}
theorem ext_one {U : Nat → Bool} (h : ∀ i, ¬ i < k → U i = false) : Th.ext k 1 U = put U k := by
  funext i
  unfold Th.ext put
  by_cases e : i = k
  · rw [if_pos e, if_neg (by omega)]
    exact decide_eq_true (by omega)
  · rw [if_neg e]
    by_cases c : i < k
    · rw [if_pos c]
    · rw [if_neg c, h i c]
      exact decide_eq_false (by omega)
theorem ext_zero {U : Nat → Bool} (h : ∀ i, ¬ i < k → U i = false) : Th.ext k 0 U = U := by
  funext i
  unfold Th.ext
  by_cases c : i < k
  · rw [if_pos c]
  · rw [if_neg c, h i c]
    exact decide_eq_false (by omega)
/-- a ship more that lies here for ever -/
theorem reach_here (gs : ∀ s i, i < k → G' (s + 1) i = G s i) (g0 : ∀ s i, s < k + 1 → ¬ i < k → G' s i = false) (S0 : ∀ i, ¬ i < k → S i = false) {M : Nat → Bool} : Th.Reach (k + 1) G' (put S k) M ↔ ∃ U, M = put U k ∧ (∀ i, ¬ i < k → U i = false) ∧ Th.Reach k G S U := by
  constructor
  · intro r
    rw [← ext_one S0] at r
    obtain ⟨U, e, r2⟩ := Th.ext_back (k := k) (a := 1) (c := 0) (G := G) (G' := G') gs g0 r
    have U0 : ∀ i, ¬ i < k → U i = false := fun i hi => (Th.reach_out r2 i hi).trans (S0 i hi)
    exact ⟨U, by rw [e, ext_one U0], U0, r2⟩
  · rintro ⟨U, rfl, U0, r⟩
    have := Th.ext_reach (k := k) (a := 1) (c := 0) (G := G) (G' := G') gs r
    rw [ext_one S0, ext_one U0] at this
    exact this
/-- a ship more that lies there for ever -/
theorem reach_there (gs : ∀ s i, i < k → G' s i = G s i) (g0 : ∀ s i, s < k + 1 → ¬ i < k → G' s i = false) (S0 : ∀ i, ¬ i < k → S i = false) {M : Nat → Bool} : Th.Reach (k + 1) G' S M ↔ (∀ i, ¬ i < k → M i = false) ∧ Th.Reach k G S M := by
  constructor
  · intro r
    rw [← ext_zero S0] at r
    obtain ⟨U, e, r2⟩ := Th.ext_back (k := k) (a := 0) (c := 1) (G := G) (G' := G') gs (fun s i hs hi => g0 s i (by omega) hi) (S := S) (by rw [show k + (0 + 1) = k + 1 by omega]; exact r)
    have U0 : ∀ i, ¬ i < k → U i = false := fun i hi => (Th.reach_out r2 i hi).trans (S0 i hi)
    rw [e, ext_zero U0]
    exact ⟨U0, r2⟩
  · rintro ⟨M0, r⟩
    have := Th.ext_reach (k := k) (a := 0) (c := 1) (G := G) (G' := G') gs r
    rw [ext_zero S0, ext_zero M0, show k + (0 + 1) = k + 1 by omega] at this
    exact this
theorem fam_here (gs : ∀ s i, i < k → G' (s + 1) i = G s i) (g0 : ∀ s i, s < k + 1 → ¬ i < k → G' s i = false) (S0 : ∀ i, ¬ i < k → S i = false) : fam (k + 1) G' (put S k) = fam k G S := by
  show cf k (fun M => @decide (Th.Reach (k + 1) G' (put S k) M) (Classical.propDecidable _)) + cf k (fun M => @decide (Th.Reach (k + 1) G' (put S k) (put M k)) (Classical.propDecidable _)) = _
  have t1 : cf k (fun M => @decide (Th.Reach (k + 1) G' (put S k) M) (Classical.propDecidable _)) = 0 := by
    refine Eq.trans (cf_congr fun M hM => ?_) (cf_false k)
    refine @decide_eq_false _ (Classical.propDecidable _) fun r => ?_
    obtain ⟨U, rfl, _⟩ := (reach_here gs g0 S0).mp r
    have := hM k (Nat.le_refl _)
    rw [put_self] at this
    cases this
  rw [t1, Nat.zero_add]
  refine cf_congr fun M hM => ?_
  have M0 : ∀ i, ¬ i < k → M i = false := fun i hi => hM i (by omega)
  rw [Bool.eq_iff_iff]
  refine Iff.trans (@decide_eq_true_iff _ (Classical.propDecidable _)) (Iff.trans ?_ (@decide_eq_true_iff _ (Classical.propDecidable _)).symm)
  rw [reach_here gs g0 S0]
  constructor
  · rintro ⟨U, e, U0, r⟩
    have : M = U := by
      funext i
      by_cases z : i < k
      · have := congrFun e i
        rw [put_ne _ (by omega), put_ne _ (by omega)] at this
        exact this
      · rw [M0 i z, U0 i z]
    rw [this]
    exact r
  · exact fun r => ⟨M, rfl, M0, r⟩
theorem fam_there (gs : ∀ s i, i < k → G' s i = G s i) (g0 : ∀ s i, s < k + 1 → ¬ i < k → G' s i = false) (S0 : ∀ i, ¬ i < k → S i = false) : fam (k + 1) G' S = fam k G S := by
  show cf k (fun M => @decide (Th.Reach (k + 1) G' S M) (Classical.propDecidable _)) + cf k (fun M => @decide (Th.Reach (k + 1) G' S (put M k)) (Classical.propDecidable _)) = _
  have t1 : cf k (fun M => @decide (Th.Reach (k + 1) G' S (put M k)) (Classical.propDecidable _)) = 0 := by
    refine Eq.trans (cf_congr fun M hM => ?_) (cf_false k)
    refine @decide_eq_false _ (Classical.propDecidable _) fun r => ?_
    have := ((reach_there gs g0 S0).mp r).1 k (by omega)
    rw [put_self] at this
    cases this
  rw [t1, Nat.add_zero]
  refine cf_congr fun M hM => ?_
  have M0 : ∀ i, ¬ i < k → M i = false := fun i hi => hM i (by omega)
  rw [Bool.eq_iff_iff]
  refine Iff.trans (@decide_eq_true_iff _ (Classical.propDecidable _)) (Iff.trans ?_ (@decide_eq_true_iff _ (Classical.propDecidable _)).symm)
  rw [reach_there gs g0 S0]
  exact ⟨fun z => z.2, fun r => ⟨M0, r⟩⟩
theorem cf_mono : ∀ {k : Nat} {P Q : (Nat → Bool) → Bool}, (∀ U, P U = true → Q U = true) → cf k P ≤ cf k Q
  | 0, P, Q, h => by
    show (if P (fun _ => false) = true then 1 else 0) ≤ (if Q (fun _ => false) = true then 1 else 0)
    by_cases c : P (fun _ => false) = true
    · rw [if_pos c, if_pos (h _ c)]
      exact Nat.le_refl _
    · rw [if_neg c]
      exact Nat.zero_le _
  | k + 1, P, Q, h => Nat.add_le_add (cf_mono h) (cf_mono fun U => h _)
theorem cf_all : ∀ k : Nat, cf k (fun _ => true) = 2 ^ k
  | 0 => rfl
  | k + 1 => by
    show cf k (fun _ => true) + cf k (fun _ => true) = 2 ^ (k + 1)
    rw [cf_all k, Nat.pow_succ]
    omega
/-- where more may go, more are come to -/
theorem fam_mono (hg : ∀ s i, G s i = true → G' s i = true) : fam k G S ≤ fam k G' S := cf_mono fun M h => (@decide_eq_true_iff _ (Classical.propDecidable _)).mpr (Th.Reach.mono hg ((@decide_eq_true_iff _ (Classical.propDecidable _)).mp h))
/-- turned about -/
theorem fam_turn (gt : ∀ s i, s < k → G' s i = Th.dual k G s i) {S' : Nat → Bool} (S0 : ∀ i, ¬ i < k → S i = false) (S1 : ∀ i, ¬ i < k → S' i = false) (e : ∀ i, i < k → S' i = !S i) : fam k G' S' = fam k G S := by
  have key : ∀ M : Nat → Bool, (∀ i, k ≤ i → M i = false) → (Th.Reach k G S M ↔ Th.Reach k G' S' (fun i => if i < k then !M i else false)) := fun M hM => by
    have ext : ∀ {K : Nat → Nat → Bool} {A B A' B' : Nat → Bool}, Th.Reach k K A B → (∀ i, i < k → A' i = A i) → (∀ i, i < k → B' i = B i) → (∀ i, ¬ i < k → B' i = A' i) → Th.Reach k K A' B' := fun {K A B A' B'} r h1 h2 h3 => by
      have gen : ∀ {B : Nat → Bool}, Th.Reach k K A B → ∀ B' : Nat → Bool, (∀ i, i < k → B' i = B i) → (∀ i, ¬ i < k → B' i = A' i) → Th.Reach k K A' B' := fun {B} r => by
        induction r with
        | refl =>
          intro B' b1 b2
          have : B' = A' := by
            funext i
            by_cases z : i < k
            · rw [b1 i z, h1 i z]
            · exact b2 i z
          rw [this]
          exact .refl _
        | @step U W r st ih =>
          intro B' b1 b2
          have ru := ih (fun i => if i < k then U i else A' i) (fun i hi => if_pos hi) (fun i hi => if_neg hi)
          have cU : cnt k (fun i => if i < k then U i else A' i) = cnt k U := cnt_congr fun i hi => if_pos hi
          cases st with
          | @up i hi hs hG =>
            have e : B' = Th.flip (fun i => if i < k then U i else A' i) i := by
              funext j
              by_cases z : j = i
              · rw [z, Th.flip_self, if_pos hi, b1 i hi, Th.flip_self]
              · rw [Th.flip_ne _ z]
                by_cases y : j < k
                · rw [if_pos y, b1 j y, Th.flip_ne _ z]
                · rw [if_neg y, b2 j y]
            rw [e]
            exact .step ru (.up hi (by rw [if_pos hi]; exact hs) (by rw [cU]; exact hG))
          | @dn i hi hs hG =>
            have e : B' = Th.flip (fun i => if i < k then U i else A' i) i := by
              funext j
              by_cases z : j = i
              · rw [z, Th.flip_self, if_pos hi, b1 i hi, Th.flip_self]
              · rw [Th.flip_ne _ z]
                by_cases y : j < k
                · rw [if_pos y, b1 j y, Th.flip_ne _ z]
                · rw [if_neg y, b2 j y]
            rw [e]
            exact .step ru (.dn hi (by rw [if_pos hi]; exact hs) (by rw [cU]; exact hG))
      exact gen r B' h2 h3
    constructor
    · intro r
      have r2 : Th.Reach k G' (Th.co S) (Th.co M) := r.dual.congr fun s i hs => (gt s i hs).symm
      exact ext r2 (fun i hi => e i hi) (fun i hi => by rw [if_pos hi]; rfl) (fun i hi => by rw [if_neg hi, S1 i hi])
    · intro r
      have r2 : Th.Reach k G' (Th.co S) (Th.co M) := ext r (fun i hi => by rw [e i hi]; rfl) (fun i hi => by rw [if_pos hi]; rfl) (fun i hi => by show (!M i) = (!S i); rw [S0 i hi, hM i (by omega)])
      exact (r2.congr fun s i hs => gt s i hs).codual
  have c := cf_co (k := k) (P := fun M => @decide (Th.Reach k G' S' (fun i => if i < k then M i else false)) (Classical.propDecidable _)) fun U V h => by
    have : (fun i => if i < k then U i else false) = fun i => if i < k then V i else false := by
      funext i
      by_cases z : i < k
      · rw [if_pos z, if_pos z, h i z]
      · rw [if_neg z, if_neg z]
    rw [this]
  have l : fam k G S = cf k (fun M => @decide (Th.Reach k G' S' (fun i => if i < k then Th.co M i else false)) (Classical.propDecidable _)) := cf_congr fun M hM => by
    rw [Bool.eq_iff_iff]
    exact Iff.trans (@decide_eq_true_iff _ (Classical.propDecidable _)) (Iff.trans (key M hM) (@decide_eq_true_iff _ (Classical.propDecidable _)).symm)
  rw [l, c]
  refine cf_congr fun M hM => ?_
  have : (fun i => if i < k then M i else false) = M := by
    funext i
    by_cases z : i < k
    · rw [if_pos z]
    · rw [if_neg z, hM i (by omega)]
  rw [this]
end
end Ct

namespace Th
/-- where all may go always, all is come to -/
theorem reach_any {k : Nat} {G : Nat → Nat → Bool} (g : ∀ s i, s < k → i < k → G s i = true) {S U : Nat → Bool} (ho : ∀ i, ¬ i < k → U i = S i) : Reach k G S U := by
  have key : ∀ n, n ≤ k → Reach k G S (fun i => if i < n then U i else S i) := fun n => by
    induction n with
    | zero =>
      intro _
      have : (fun i => if i < 0 then U i else S i) = S := by
        funext i
        rw [if_neg (by omega)]
      rw [this]
      exact .refl _
    | succ n ih =>
      intro hn
      have r := ih (by omega)
      by_cases e : U n = S n
      · have : (fun i => if i < n + 1 then U i else S i) = fun i => if i < n then U i else S i := by
          funext i
          by_cases z : i = n
          · rw [z, if_pos (by omega), if_neg (by omega), e]
          · by_cases y : i < n
            · rw [if_pos (by omega), if_pos y]
            · rw [if_neg (by omega), if_neg y]
        rw [this]
        exact r
      · have : (fun i => if i < n + 1 then U i else S i) = flip (fun i => if i < n then U i else S i) n := by
          funext i
          by_cases z : i = n
          · rw [z, flip_self, if_pos (by omega), if_neg (by omega)]
            revert e
            cases U n <;> cases S n <;> simp
          · rw [flip_ne _ z]
            by_cases y : i < n
            · rw [if_pos (by omega), if_pos y]
            · rw [if_neg (by omega), if_neg y]
        rw [this]
        generalize (fun i => if i < n then U i else S i) = V at r
        have ml := may_lt (k := k) (U := V) (i := n) (by omega)
        cases q : V n with
        | false =>
          rw [q, if_neg Bool.false_ne_true] at ml
          exact .step r (.up (by omega) q (g _ _ ml (by omega)))
        | true =>
          rw [q, if_pos rfl] at ml
          exact .step r (.dn (by omega) q (g _ _ ml (by omega)))
  have := key k (Nat.le_refl _)
  have e : (fun i => if i < k then U i else S i) = U := by
    funext i
    by_cases z : i < k
    · rw [if_pos z]
    · rw [if_neg z, ho i z]
  rw [e] at this
  exact this
end Th
namespace Sh
open PySem PySem.Spec PyProof.Rows L2
section
variable {h t h' t' : Int} {ds : List Int} {R R' : List (List Nat)} {L : List Nat}
theorem gof_deeper (hh : h ≤ h') (tt : t ≤ t') (s i : Nat) (g : Gof h t ds s i = true) : Gof h' t' ds s i = true := by
  unfold Gof at g ⊢
  rw [decide_eq_true_eq] at g ⊢
  unfold mk at g ⊢
  split at g <;> split <;> omega
/-- dredged there are no more lots -/
theorem trans_deeper (hh : h ≤ h') (tt : t ≤ t') (a : Trans h t ds R) (b : Trans h' t' ds R') : R'.length ≤ R.length := pigeon (rel := Rl h t ds) (fun M hM => a.all M (b.lot M hM)) (b.apart.imp fun n ⟨N, r1, r2⟩ => n (Th.Reach.mono (gof_deeper hh tt) (Th.Reach.trans r1 (Th.Reach.symm r2))))
theorem memO (hL : Lot ds.length L) (i : Nat) (hi : ¬ i < ds.length) : mem L i = false := decide_eq_false fun z => hi (hL.lt i z)
theorem fam_deeper (hh : h ≤ h') (tt : t ≤ t') : Ct.fam ds.length (Gof h t ds) (mem L) ≤ Ct.fam ds.length (Gof h' t' ds) (mem L) := Ct.fam_mono (gof_deeper hh tt)
/-- the others -/
def coL (k : Nat) (L : List Nat) : List Nat := lotOf k fun i => !mem L i
theorem coL_lot (k : Nat) (L : List Nat) : Lot k (coL k L) := lotOf_lot _ _
theorem coL_mem {k i : Nat} {L : List Nat} (hi : i < k) : mem (coL k L) i = !mem L i := lotOf_mem hi
theorem gof_tn (s i : Nat) (hs : s < ds.length) : Gof t h ds s i = Th.dual ds.length (Gof h t ds) s i := Gd_turn (h := h) (t := t) (D := fun i => ds.getD i 0) hs
theorem fam_coL (hL : Lot ds.length L) : Ct.fam ds.length (Gof t h ds) (mem (coL ds.length L)) = Ct.fam ds.length (Gof h t ds) (mem L) :=
  Ct.fam_turn (fun s i hs => gof_tn s i hs) (memO hL) (memO (coL_lot _ _)) fun i hi => coL_mem hi
theorem coL_coL (hL : Lot ds.length L) : coL ds.length (coL ds.length L) = L := lot_ext (lotOf_lot _ _) hL fun i hi => by rw [coL_mem hi, coL_mem hi, Bool.not_not]
theorem rl_co {M N : List Nat} (hM : Lot ds.length M) (hN : Lot ds.length N) (r : Rl h t ds M N) : Rl t h ds (coL ds.length M) (coL ds.length N) := by
  have r2 : Th.Reach ds.length (Gof t h ds) (Th.co (mem M)) (Th.co (mem N)) := (Th.Reach.dual r).congr fun s i hs => (gof_tn s i hs).symm
  obtain ⟨U, e⟩ : ∃ U, U = lotOf ds.length (Th.co (mem N)) := ⟨_, rfl⟩
  show Th.Reach _ _ (mem (coL ds.length M)) (mem (coL ds.length N))
  have gen : ∀ {B : Nat → Bool}, Th.Reach ds.length (Gof t h ds) (Th.co (mem M)) B → Th.Reach ds.length (Gof t h ds) (mem (coL ds.length M)) (mem (lotOf ds.length B)) := fun {B} r => by
    induction r with
    | refl => exact .refl _
    | @step U W r st ih =>
      have cU : Th.cnt ds.length (mem (lotOf ds.length U)) = Th.cnt ds.length U := Th.cnt_congr fun i hi => lotOf_mem hi
      have fl : ∀ {i : Nat}, i < ds.length → mem (lotOf ds.length (Th.flip U i)) = Th.flip (mem (lotOf ds.length U)) i := fun {i} hi => by
        funext j
        by_cases y : j < ds.length
        · rw [lotOf_mem y]
          by_cases z : j = i
          · rw [z, Th.flip_self, Th.flip_self, lotOf_mem hi]
          · rw [Th.flip_ne _ z, Th.flip_ne _ z, lotOf_mem y]
        · have z : j ≠ i := by omega
          rw [Th.flip_ne _ z, memO (lotOf_lot _ _) j y, memO (lotOf_lot _ _) j y]
      cases st with
      | @up i hi hs hG =>
        rw [fl hi]
        exact .step ih (.up hi (by rw [lotOf_mem hi]; exact hs) (by rw [cU]; exact hG))
      | @dn i hi hs hG =>
        rw [fl hi]
        exact .step ih (.dn hi (by rw [lotOf_mem hi]; exact hs) (by rw [cU]; exact hG))
  exact gen r2
theorem Trans.turn (a : Trans h t ds R) : Trans t h ds (R.map (coL ds.length)) := by
  refine ⟨fun M hM => ?_, fun M hM => ?_, ?_⟩
  · obtain ⟨N, _, rfl⟩ := List.mem_map.mp hM
    exact lotOf_lot _ _
  · obtain ⟨N, hN, r⟩ := a.all (coL ds.length M) (lotOf_lot _ _)
    have := rl_co (coL_lot _ _) (a.lot N hN) r
    rw [coL_coL hM] at this
    exact ⟨_, List.mem_map.mpr ⟨N, hN, rfl⟩, this⟩
  · refine List.pairwise_map.mpr (List.Pairwise.imp_of_mem (fun {M N} hM hN n r => n ?_) a.apart)
    have := rl_co (coL_lot _ _) (coL_lot _ _) r
    rw [coL_coL (a.lot M hM), coL_coL (a.lot N hN)] at this
    exact this
theorem Trans.nd (a : Trans h t ds R) : R.Nodup := a.apart.imp fun n e => n (by rw [e]; exact Th.Reach.refl _)
/-- no more lots than standings, one at least; with one of them whole no more than one beyond -/
theorem Trans.bounds (a : Trans h t ds R) (hL : Lot ds.length L) : 1 ≤ R.length ∧ R.length ≤ 2 ^ ds.length ∧ R.length + Ct.fam ds.length (Gof h t ds) (mem L) ≤ 2 ^ ds.length + 1 := by
  have one : 1 ≤ R.length := by
    obtain ⟨N, hN, _⟩ := a.all [] (Lot.nil _)
    exact List.length_pos_of_mem hN
  have F : ((allLots ds.length).filter fun M => @decide (Th.Reach ds.length (Gof h t ds) (mem L) (mem M)) (Classical.propDecidable _)).length = Ct.fam ds.length (Gof h t ds) (mem L) := cf_lots (P := fun U => @decide (Th.Reach ds.length (Gof h t ds) (mem L) U) (Classical.propDecidable _))
  generalize hF : ((allLots ds.length).filter fun M => @decide (Th.Reach ds.length (Gof h t ds) (mem L) (mem M)) (Classical.propDecidable _)) = Fl at F
  have mF : ∀ M, M ∈ Fl ↔ Lot ds.length M ∧ Rl h t ds L M := fun M => by
    rw [← hF, List.mem_filter]
    exact and_congr ⟨allLots_lot, lot_all⟩ (@decide_eq_true_iff _ (Classical.propDecidable _))
  have nF : Fl.Nodup := by rw [← hF]; exact (allLots_nd _).filter _
  have le : R.length ≤ 2 ^ ds.length := by
    rw [← allLots_len]
    exact nodup_len a.nd fun M hM => lot_all (a.lot M hM)
  refine ⟨one, le, ?_⟩
  obtain ⟨N0, hN0, r0⟩ := a.all L hL
  have nE : (R.erase N0 ++ Fl).Nodup := by
    refine List.nodup_append.mpr ⟨a.nd.erase N0, nF, fun x hx y hy e => ?_⟩
    subst e
    have xr := List.mem_of_mem_erase hx
    have ne : x ≠ N0 := fun z => by
      rw [z] at hx
      exact (List.Nodup.mem_erase_iff a.nd).mp hx |>.1 rfl
    have rx := ((mF x).mp hy).2
    have r1 : Rl h t ds x N0 := Th.Reach.trans (Th.Reach.symm rx) r0
    have sym : ∀ {M N : List Nat}, M ∈ R → N ∈ R → M ≠ N → ¬ Rl h t ds M N := fun {M N} hM hN hne r => by
      obtain ⟨i, hi, rfl⟩ := List.getElem_of_mem hM
      obtain ⟨j, hj, rfl⟩ := List.getElem_of_mem hN
      rcases Nat.lt_trichotomy i j with l | l | l
      · exact List.pairwise_iff_getElem.mp a.apart i j hi hj l r
      · subst l
        exact hne rfl
      · exact List.pairwise_iff_getElem.mp a.apart j i hj hi l (Th.Reach.symm r)
    exact sym xr hN0 ne r1
  have := nodup_len nE (m := allLots ds.length) fun M hM => by
    rcases List.mem_append.mp hM with z | z
    · exact lot_all (a.lot M (List.mem_of_mem_erase z))
    · exact lot_all ((mF M).mp z).1
  rw [List.length_append, List.length_erase_of_mem hN0, allLots_len, F] at this
  omega
/-- as deep as all draughts: all come to one another -/
theorem deep_all (g : ∀ s i, s < ds.length → i < ds.length → Gof h t ds s i = true) (hL : Lot ds.length L) (a : Trans h t ds R) : R.length = 1 ∧ Ct.fam ds.length (Gof h t ds) (mem L) = 2 ^ ds.length := by
  constructor
  · have one := (a.bounds hL).1
    match R, a, one with
    | [M], _, _ => rfl
    | M :: N :: R, a, _ =>
      have := (List.pairwise_cons.mp a.apart).1 N (.head _)
      exact absurd (Th.reach_any g fun i hi => by rw [memO (a.lot N (.tail _ (.head _))) i hi, memO (a.lot M (.head _)) i hi]) this
  · rw [← Ct.cf_all]
    refine Ct.cf_congr fun M hM => ?_
    exact @decide_eq_true _ (Classical.propDecidable _) (Th.reach_any g fun i hi => by rw [memO hL i hi, hM i (by omega)])
end
/-! ### a ship more that never goes -/
section
variable {h t d : Int} {ds : List Int} {L : List Nat}
theorem getD_app {i : Nat} (hi : i < ds.length) : (ds ++ [d]).getD i 0 = ds.getD i 0 := by
  rw [List.getD_eq_getElem?_getD, List.getElem?_append_left hi, ← List.getD_eq_getElem?_getD]
theorem getD_last : (ds ++ [d]).getD ds.length 0 = d := by simp
/-- the step to Gof of the great sea, its number of ships told otherwise -/
def Gg (h t d : Int) (ds : List Int) : Nat → Nat → Bool := fun s i => decide ((ds ++ [d]).getD i 0 ≤ mk h t (ds.length + 1) (s : Int))
theorem gg_here (s i : Nat) (hi : i < ds.length) : Gg h t d ds (s + 1) i = Gof (h + 1) t ds s i := by
  unfold Gg Gof
  refine decide_eq_decide.mpr ?_
  rw [getD_app hi]
  have e : mk h t (ds.length + 1) ((s + 1 : Nat) : Int) = mk (h + 1) t ds.length (s : Int) := by
    unfold mk
    split <;> split <;> omega
  rw [e]
theorem gg_there (s i : Nat) (hi : i < ds.length) : Gg h t d ds s i = Gof h (t + 1) ds s i := by
  unfold Gg Gof
  refine decide_eq_decide.mpr ?_
  rw [getD_app hi]
  have e : mk h t (ds.length + 1) (s : Int) = mk h (t + 1) ds.length (s : Int) := by
    unfold mk
    split <;> split <;> omega
  rw [e]
theorem gg_no (big : h + (ds.length : Int) < d) (d0 : 0 ≤ h ∧ 0 ≤ t) (s i : Nat) (hs : s < ds.length + 1) (hi : ¬ i < ds.length) (pos : i = ds.length) : Gg h t d ds s i = false := by
  unfold Gg
  refine decide_eq_false ?_
  rw [pos, getD_last]
  unfold mk
  split <;> omega
end
end Sh

namespace Th
theorem Reach.congrI {k : Nat} {G G' : Nat → Nat → Bool} {S U : Nat → Bool} (e : ∀ s i, i < k → G s i = G' s i) (r : Reach k G S U) : Reach k G' S U := by
  induction r with
  | refl => exact .refl _
  | step _ st ih =>
    cases st with
    | up hi hs hg => exact .step ih (.up hi hs (by rw [← e _ _ hi]; exact hg))
    | dn hi hs hg => exact .step ih (.dn hi hs (by rw [← e _ _ hi]; exact hg))
end Th
namespace Ct
theorem fam_congrI {k : Nat} {G G' : Nat → Nat → Bool} {S : Nat → Bool} (e : ∀ s i, i < k → G s i = G' s i) : fam k G S = fam k G' S := cf_congr fun M _ => by
  rw [Bool.eq_iff_iff]
  exact Iff.trans (@decide_eq_true_iff _ (Classical.propDecidable _)) (Iff.trans ⟨Th.Reach.congrI e, Th.Reach.congrI fun s i hi => (e s i hi).symm⟩ (@decide_eq_true_iff _ (Classical.propDecidable _)).symm)
end Ct
namespace Sh
open PySem PySem.Spec PyProof.Rows L2
section
variable {h t d : Int} {ds : List Int} {L M : List Nat} {R1 R2 : List (List Nat)}
def Gz (h t d : Int) (ds : List Int) : Nat → Nat → Bool := fun s i => Gg h t d ds s i && decide (i < ds.length + 1)
theorem gof_great : Gof h t (ds ++ [d]) = Gg h t d ds := by
  funext s i
  unfold Gof Gg
  rw [show (ds ++ [d]).length = ds.length + 1 by simp]
theorem gz_in (s i : Nat) (hi : i < ds.length + 1) : Gg h t d ds s i = Gz h t d ds s i := by
  unfold Gz
  rw [decide_eq_true hi, Bool.and_true]
theorem gz_here (s i : Nat) (hi : i < ds.length) : Gz h t d ds (s + 1) i = Gof (h + 1) t ds s i := by
  rw [← gz_in _ _ (by omega), gg_here s i hi]
theorem gz_there (s i : Nat) (hi : i < ds.length) : Gz h t d ds s i = Gof h (t + 1) ds s i := by
  rw [← gz_in _ _ (by omega), gg_there s i hi]
theorem gz_no (big : h + (ds.length : Int) < d) (d0 : 0 ≤ h ∧ 0 ≤ t) (s i : Nat) (hs : s < ds.length + 1) (hi : ¬ i < ds.length) : Gz h t d ds s i = false := by
  by_cases z : i = ds.length
  · rw [← gz_in _ _ (by omega)]
    exact gg_no big d0 s i hs hi z
  · unfold Gz
    rw [decide_eq_false (show ¬ i < ds.length + 1 by omega), Bool.and_false]
theorem mem_snoc (k : Nat) : mem (L ++ [k]) = Ct.put (mem L) k := by
  funext i
  unfold mem Ct.put
  by_cases z : i = k
  · rw [if_pos z, z]
    exact decide_eq_true (by simp)
  · rw [if_neg z]
    exact decide_eq_decide.mpr (by simp [z])
theorem lot_snoc {k : Nat} (hL : Lot k L) : Lot (k + 1) (L ++ [k]) := by
  refine ⟨List.pairwise_append.mpr ⟨hL.up, List.pairwise_singleton _ _, fun a ha b hb => ?_⟩, fun i hi => ?_⟩
  · rw [List.mem_singleton.mp hb]
    exact hL.lt a ha
  · rcases List.mem_append.mp hi with z | z
    · have := hL.lt i z
      omega
    · rw [List.mem_singleton.mp z]
      omega
theorem lot_wide {k : Nat} (hL : Lot k L) : Lot (k + 1) L := ⟨hL.up, fun i hi => Nat.lt_succ_of_lt (hL.lt i hi)⟩
theorem lot_last {k : Nat} (hM : Lot (k + 1) M) : Lot k M ∨ ∃ L, M = L ++ [k] ∧ Lot k L := by
  by_cases z : k ∈ M
  · right
    have hL : Lot k (lotOf k (mem M)) := lotOf_lot _ _
    refine ⟨_, lot_ext hM (lot_snoc hL) fun i hi => ?_, hL⟩
    rw [mem_snoc]
    by_cases y : i = k
    · rw [y, Ct.put_self]
      exact decide_eq_true z
    · rw [Ct.put_ne _ y, lotOf_mem (by omega)]
  · left
    refine ⟨hM.up, fun i hi => ?_⟩
    have := hM.lt i hi
    have : i ≠ k := fun e => z (e ▸ hi)
    omega
theorem great_here (big : h + (ds.length : Int) < d) (d0 : 0 ≤ h ∧ 0 ≤ t) (hL : Lot ds.length L) : Ct.fam (ds ++ [d]).length (Gof h t (ds ++ [d])) (mem (L ++ [ds.length])) = Ct.fam ds.length (Gof (h + 1) t ds) (mem L) := by
  rw [gof_great, mem_snoc, show (ds ++ [d]).length = ds.length + 1 by simp, Ct.fam_congrI gz_in]
  exact Ct.fam_here (fun s i hi => gz_here s i hi) (gz_no big d0) (memO hL)
theorem great_there (big : h + (ds.length : Int) < d) (d0 : 0 ≤ h ∧ 0 ≤ t) (hL : Lot ds.length L) : Ct.fam (ds ++ [d]).length (Gof h t (ds ++ [d])) (mem L) = Ct.fam ds.length (Gof h (t + 1) ds) (mem L) := by
  rw [gof_great, show (ds ++ [d]).length = ds.length + 1 by simp, Ct.fam_congrI gz_in]
  exact Ct.fam_there (fun s i hi => gz_there s i hi) (gz_no big d0) (memO hL)
theorem rl_great : Rl h t (ds ++ [d]) L M ↔ Th.Reach (ds.length + 1) (Gz h t d ds) (mem L) (mem M) := by
  unfold Rl
  rw [gof_great, show (ds ++ [d]).length = ds.length + 1 by simp]
  exact ⟨Th.Reach.congrI gz_in, Th.Reach.congrI fun s i hi => (gz_in s i hi).symm⟩
theorem rl_here (big : h + (ds.length : Int) < d) (d0 : 0 ≤ h ∧ 0 ≤ t) (hL : Lot ds.length L) (hM : Lot ds.length M) : Rl h t (ds ++ [d]) (L ++ [ds.length]) (M ++ [ds.length]) ↔ Rl (h + 1) t ds L M := by
  rw [rl_great, mem_snoc, mem_snoc, Ct.reach_here (fun s i hi => gz_here s i hi) (gz_no big d0) (memO hL)]
  constructor
  · rintro ⟨U, e, U0, r⟩
    have : mem M = U := by
      funext i
      by_cases z : i < ds.length
      · have := congrFun e i
        rw [Ct.put_ne _ (by omega), Ct.put_ne _ (by omega)] at this
        exact this
      · rw [memO hM i z, U0 i z]
    show Th.Reach _ _ _ (mem M)
    rw [this]
    exact r
  · exact fun r => ⟨_, rfl, memO hM, r⟩
theorem rl_there (big : h + (ds.length : Int) < d) (d0 : 0 ≤ h ∧ 0 ≤ t) (hL : Lot ds.length L) (hM : Lot ds.length M) : Rl h t (ds ++ [d]) L M ↔ Rl h (t + 1) ds L M := by
  rw [rl_great, Ct.reach_there (fun s i hi => gz_there s i hi) (gz_no big d0) (memO hL)]
  exact ⟨fun z => z.2, fun r => ⟨memO hM, r⟩⟩
theorem rl_cross (big : h + (ds.length : Int) < d) (d0 : 0 ≤ h ∧ 0 ≤ t) (hL : Lot ds.length L) : ¬ Rl h t (ds ++ [d]) L (M ++ [ds.length]) := by
  rw [rl_great, Ct.reach_there (fun s i hi => gz_there s i hi) (gz_no big d0) (memO hL)]
  intro z
  have := z.1 ds.length (by omega)
  rw [mem_snoc, Ct.put_self] at this
  cases this
/-- a ship more that never goes: the lots of both sides -/
theorem trans_great (big : h + (ds.length : Int) < d) (d0 : 0 ≤ h ∧ 0 ≤ t) (a : Trans (h + 1) t ds R1) (b : Trans h (t + 1) ds R2) : Trans h t (ds ++ [d]) (R2 ++ R1.map fun L => L ++ [ds.length]) := by
  have len : (ds ++ [d]).length = ds.length + 1 := by simp
  refine ⟨fun M hM => ?_, fun M hM => ?_, List.pairwise_append.mpr ⟨?_, ?_, ?_⟩⟩
  · rw [len]
    rcases List.mem_append.mp hM with z | z
    · exact lot_wide (b.lot M z)
    · obtain ⟨N, hN, rfl⟩ := List.mem_map.mp z
      exact lot_snoc (a.lot N hN)
  · rw [len] at hM
    rcases lot_last hM with z | ⟨L, rfl, z⟩
    · obtain ⟨N, hN, r⟩ := b.all M z
      exact ⟨N, List.mem_append_left _ hN, (rl_there big d0 z (b.lot N hN)).mpr r⟩
    · obtain ⟨N, hN, r⟩ := a.all L z
      exact ⟨_, List.mem_append_right _ (List.mem_map.mpr ⟨N, hN, rfl⟩), (rl_here big d0 z (a.lot N hN)).mpr r⟩
  · exact List.Pairwise.imp_of_mem (fun {M N} hM hN n r => n ((rl_there big d0 (b.lot M hM) (b.lot N hN)).mp r)) b.apart
  · exact List.pairwise_map.mpr (List.Pairwise.imp_of_mem (fun {M N} hM hN n r => n ((rl_here big d0 (a.lot M hM) (a.lot N hN)).mp r)) a.apart)
  · intro M hM N hN
    obtain ⟨N, hN', rfl⟩ := List.mem_map.mp hN
    exact rl_cross big d0 (b.lot M hM)
end
end Sh

namespace Sh
open PySem PySem.Spec PyProof.Rows L2
/-- how many lots of standings -/
def Fn (h t : Int) (ds : List Int) : Nat := famsN ds.length (topI h t ds.length).toNat (Gof h t ds)
/-- how many standings it comes to -/
noncomputable def Sz (h t : Int) (ds : List Int) (L : List Nat) : Nat := Ct.fam ds.length (Gof h t ds) (mem L)
section
variable {h t d m : Int} {ds : List Int} {L : List Nat}
theorem fn_of {R : List (List Nat)} (d0 : 0 < ds.length) (a : Trans h t ds R) : R.length = Fn h t ds := by
  obtain ⟨R', b, e⟩ := trans_ex (h := h) (t := t) d0
  rw [Trans.len a b, e]
  rfl
theorem fn_great (d0 : 0 < ds.length) (p : 0 ≤ h ∧ 0 ≤ t) (big : h + (ds.length : Int) < d) : Fn h t (ds ++ [d]) = Fn h (t + 1) ds + Fn (h + 1) t ds := by
  obtain ⟨R1, a, _⟩ := trans_ex (h := h + 1) (t := t) d0
  obtain ⟨R2, b, _⟩ := trans_ex (h := h) (t := t + 1) d0
  rw [← fn_of d0 a, ← fn_of d0 b, ← fn_of (by simp) (trans_great big p a b), List.length_append, List.length_map]
theorem fn_deeper {h' t' : Int} (d0 : 0 < ds.length) (hh : h ≤ h') (tt : t ≤ t') : Fn h' t' ds ≤ Fn h t ds := by
  obtain ⟨R1, a, _⟩ := trans_ex (h := h) (t := t) d0
  obtain ⟨R2, b, _⟩ := trans_ex (h := h') (t := t') d0
  rw [← fn_of d0 a, ← fn_of d0 b]
  exact trans_deeper hh tt a b
theorem fn_turn (d0 : 0 < ds.length) : Fn t h ds = Fn h t ds := by
  obtain ⟨R, a, _⟩ := trans_ex (h := h) (t := t) d0
  rw [← fn_of d0 a, ← fn_of d0 a.turn, List.length_map]
theorem sz_turn (hL : Lot ds.length L) : Sz t h ds (away ds.length L) = Sz h t ds L := fam_coL hL
theorem fn_bounds (d0 : 0 < ds.length) (hL : Lot ds.length L) : 1 ≤ Fn h t ds ∧ Fn h t ds ≤ 2 ^ ds.length ∧ Fn h t ds + Sz h t ds L ≤ 2 ^ ds.length + 1 := by
  obtain ⟨R, a, _⟩ := trans_ex (h := h) (t := t) d0
  rw [← fn_of d0 a]
  exact a.bounds hL
theorem fn_deep (d0 : 0 < ds.length) (p : 0 ≤ h ∧ 0 ≤ t) (hm : ∀ x ∈ ds, x ≤ m) (hL : Lot ds.length L) : Fn (h + m) (t + m) ds = 1 ∧ Sz (h + m) (t + m) ds L = 2 ^ ds.length := by
  obtain ⟨R, a, _⟩ := trans_ex (h := h + m) (t := t + m) d0
  rw [← fn_of d0 a]
  refine deep_all (fun s i hs hi => ?_) hL a
  unfold Gof
  refine decide_eq_true ?_
  have e : ds.getD i 0 ≤ m := by
    rw [List.getD_eq_getElem?_getD, List.getElem?_eq_getElem hi]
    exact hm _ (List.getElem_mem hi)
  unfold mk
  split <;> omega
end
end Sh

namespace Sh
open PySem PySem.Spec PyProof.Rows L2
/-! ### the program: a basin deeper (a text that has HERE alone) -/
def ChH (mg : Str → Option Value) : Prop := ∃ t, mg "HERE" = some (.str "here" t)
theorem with_chH {K : PySem.W.Frag} {mg : Str → Option Value} {R : Prop} {h : Heap} {t1 : Tok} (X : K.In h) (G : h.Ns mainGlobals mg) (a : PySem.W.nsIn K mainGlobals "HERE" = some (some (.str "here" t1))) (r : ChH mg → R) : R :=
  r ⟨_, PySem.W.mg_of X G a⟩
def sideS (s : Bool) : Str := if s then "here" else "there"
theorem side_ne : decide (V.str "there" = V.str "here") = false := by decide +kernel
def spDeep (K : PySem.W.Frag) : Sp := fun vs H Q _ => ∃ (v : V) (h t m : Int) (ds : List Int) (s : Bool), vs = [v, .str (sideS s), .int m] ∧ SeaA K H v h t ds ∧ ds.length ≤ 100 ∧ ∀ (H' : Hp) (r : V), Same H H' → SeaT K H' r (if s then h + m else h) (if s then t else t + m) ds → Q r H'
abbrev s_deepened : Stmt := topS 37
theorem sc_deepened : FnScope (["sea", "side", "more", "here", "there", "draughts"] : List Str) (["sea", "side", "more"] : List Str) (defScope s_deepened) := ⟨rfl, rfl, rfl, by decide +kernel, rfl, by decide +kernel, by decide +kernel⟩
theorem b_deepened (kV doc pm : Value) (an : Option Addr) (cdv ct : Value) (us : List Value) (hl : us.length = (["sea", "side", "more"] : List Str).length) : bindArgs (PySem.W.fnOf "deepened" "deepened" (defArgs s_deepened) (defBody s_deepened) (defScope s_deepened) .none kV doc pm an cdv ct) ⟨us, []⟩ = pure ((["sea", "side", "more"] : List Str).zip us) :=
  match us, hl with | [_, _, _], _ => rfl
section
variable {P : Program} {w : World} {K : PySem.W.Frag} {mg : Str → Option Value} {base : Heap}
theorem ok_deep {k : Nat} (D : Df K mg "deepened" s_deepened) (T : Bt mg) (Ch : ChH mg) : Ok P w K mg base (k + 1) "deepened" s_deepened ["sea", "side", "more"] (spDeep K) := by
  obtain ⟨t1, g_HERE⟩ := Ch
  refine D.ok sc_deepened b_deepened (fun vs H Q E h => ?_) (fun f cdv A outer s H vs Q E hr h => ?_)
  · obtain ⟨v, h, t, m, ds, s, rfl, _⟩ := h
    rfl
  · obtain ⟨v, h, t, m, ds, sd, rfl, ⟨p, q, rfl, hp, hq⟩, d1, k⟩ := h
    refine ⟨_, (pss_cons (ps_asg (pv 0) (pg_seq rfl (pgs_cons (pg_name (i := 3) sc_deepened.nd rfl (.inl rfl)) (pgs_cons (pg_name (i := 4) sc_deepened.nd rfl (.inl rfl)) (pgs_cons (pg_name (i := 5) sc_deepened.nd rfl (.inl rfl)) pgs_nil)))))
      (pss_cons (ps_if (pt_cmpR op_eq (pv 1) (pe_glob (v := .str "here") (by rfl) g_HERE ⟨_, rfl⟩) (nomark _))
        (pss_one (ps_ret (pe_tup (pa_cons (pe_op op_add (pv 3) (pv 2)) (pa_cons (pv 4) (pa_cons (pe_callTy call_tuple_of (by rfl) T.tuple_ (by decide +kernel) (pa_cons (pv 5) pa_nil)) pa_nil))))))
        pss_nil)
      (pss_one (ps_ret (pe_tup (pa_cons (pv 3) (pa_cons (pe_op op_add (pv 4) (pv 2)) (pa_cons (pe_callTy call_tuple_of (by rfl) T.tuple_ (by decide +kernel) (pa_cons (pv 5) pa_nil)) pa_nil)))))))), ?_⟩
    refine ⟨_, rfl, p, _, rfl, hp, rfl, _, _, rfl, _, _, rfl, _, _, rfl, rfl, ?_⟩
    cases sd with
    | true =>
      refine ⟨_, rfl, rfl, _, rfl, ?_⟩
      rw [show sideS true = "here" from rfl, decide_eq_true rfl]
      refine iteT ?_
      refine ⟨_, rfl, _, rfl, h, m, rfl, rfl, _, rfl, _, rfl, q, ds.map V.int, rfl, ?_⟩
      rcases hq with hq | hq
      · refine .inl ⟨hq, fun a na => ⟨(by show 3 ≤ sizeLine; decide), fun b nb => ?_⟩⟩
        have s1 : Same H (upd H a (.tup (ds.map V.int))) := same_new na
        exact k _ _ (s1.trans (same_new nb)) ⟨b, a, rfl, SqT.of upd_same, SqT.of (same_new nb _ _ upd_same)⟩
      · refine .inr ⟨hq, (by show 3 ≤ sizeLine; decide), fun b nb => ?_⟩
        exact k _ _ (same_new nb) ⟨b, q, rfl, SqT.of upd_same, Same.tup (same_new nb) hq⟩
    | false =>
      refine ⟨_, rfl, rfl, _, rfl, ?_⟩
      rw [show sideS false = "there" from rfl, side_ne]
      refine iteF ?_
      refine ⟨_, rfl, _, rfl, _, rfl, t, m, rfl, rfl, _, rfl, q, ds.map V.int, rfl, ?_⟩
      rcases hq with hq | hq
      · refine .inl ⟨hq, fun a na => ⟨(by show 3 ≤ sizeLine; decide), fun b nb => ?_⟩⟩
        have s1 : Same H (upd H a (.tup (ds.map V.int))) := same_new na
        exact k _ _ (s1.trans (same_new nb)) ⟨b, a, rfl, SqT.of upd_same, SqT.of (same_new nb _ _ upd_same)⟩
      · refine .inr ⟨hq, (by show 3 ≤ sizeLine; decide), fun b nb => ?_⟩
        exact k _ _ (same_new nb) ⟨b, q, rfl, SqT.of upd_same, Same.tup (same_new nb) hq⟩
end
end Sh

namespace Sh
open PySem PySem.Spec PyProof.Rows L2
/-! ### the least number that does -/
def IsLeastP (B : Nat → Prop) (most : Nat) (r : V) : Prop := (¬ B most ∧ r = .non) ∨ ∃ n : Nat, n ≤ most ∧ B n ∧ (∀ m, m < n → ¬ B m) ∧ r = .int (n : Int)
theorem IsLeastP.uniq {B : Nat → Prop} {most : Nat} {r r' : V} (up : ∀ m m', m ≤ m' → m' ≤ most → B m → B m') (a : IsLeastP B most r) (b : IsLeastP B most r') : r = r' := by
  rcases a with ⟨a1, a2⟩ | ⟨n, n1, n2, n3, n4⟩
  · rcases b with ⟨b1, b2⟩ | ⟨m, m1, m2, m3, m4⟩
    · rw [a2, b2]
    · exact absurd (up m most m1 (Nat.le_refl _) m2) a1
  · rcases b with ⟨b1, b2⟩ | ⟨m, m1, m2, m3, m4⟩
    · exact absurd (up n most n1 (Nat.le_refl _) n2) b1
    · have : n = m := by
        rcases Nat.lt_trichotomy n m with h | h | h
        · exact absurd n2 (m3 n h)
        · exact h
        · exact absurd m2 (n3 m h)
      rw [n4, m4, this]
/-- a side so much deeper -/
def hS (s : Bool) (h m : Int) : Int := if s then h + m else h
def tS (s : Bool) (t m : Int) : Int := if s then t else t + m
theorem gof_more {h t h' t' : Int} {ds : List Int} (hh : h ≤ h') (tt : t ≤ t') (s i : Nat) (g : Gof h t ds s i = true) : Gof h' t' ds s i = true := by
  unfold Gof at g ⊢
  rw [decide_eq_true_eq] at g ⊢
  unfold mk at g ⊢
  split at g <;> split <;> omega
theorem reach_more {h t h' t' : Int} {ds : List Int} {S U : Nat → Bool} (hh : h ≤ h') (tt : t ≤ t') (r : Th.Reach ds.length (Gof h t ds) S U) : Th.Reach ds.length (Gof h' t' ds) S U := by
  induction r with
  | refl => exact .refl _
  | step a s ih =>
    refine .step ih ?_
    cases s with
    | up hi z g => exact .up hi z (gof_more hh tt _ _ g)
    | dn hi z g => exact .dn hi z (gof_more hh tt _ _ g)
theorem rl_more {h t h' t' : Int} {ds : List Int} {L M : List Nat} (hh : h ≤ h') (tt : t ≤ t') (r : Rl h t ds L M) : Rl h' t' ds L M := reach_more hh tt r
theorem rl_side {h t : Int} {ds : List Int} {L M : List Nat} {s : Bool} {m m' : Int} (l : m ≤ m') (r : Rl (hS s h m) (tS s t m) ds L M) : Rl (hS s h m') (tS s t m') ds L M := by
  refine rl_more ?_ ?_ r
  · unfold hS
    split <;> omega
  · unfold tS
    split <;> omega
/-- how much is asked of a side at the most -/
def NeedI (h t : Int) (ds : List Int) (s : Bool) (m : Nat) : Prop := ((m : Int) = 0 ∨ ∃ d ∈ ds, (m : Int) = d - (if s then h else t)) ∧ ∀ d ∈ ds, d - (if s then h else t) ≤ (m : Int)
theorem NeedI.uniq {h t : Int} {ds : List Int} {s : Bool} {m m' : Nat} (a : NeedI h t ds s m) (b : NeedI h t ds s m') : m = m' := by
  obtain ⟨a1, a2⟩ := a
  obtain ⟨b1, b2⟩ := b
  have key : ∀ {m m' : Nat}, ((m : Int) = 0 ∨ ∃ d ∈ ds, (m : Int) = d - (if s then h else t)) → (∀ d ∈ ds, d - (if s then h else t) ≤ (m' : Int)) → m ≤ m' := fun {m m'} x y => by
    rcases x with x | ⟨d, hd, x⟩
    · omega
    · have := y d hd
      omega
  exact Nat.le_antisymm (key a1 b2) (key b1 a2)
end Sh

namespace Sh
open PySem PySem.Spec PyProof.Rows L2 LamX
/-! ### the program: how much must be dredged -/
def TTleast : (V → Hp → VK → Prop) → V → Hp → VK → Prop := fun sp v2 H Q => ∃ (B : Nat → Prop) (most : Nat), v2 = .int (most : Int) ∧ most ≤ 1000000000000000 ∧
  (∀ (m : Nat) (H1 : Hp) (Q1 : VK), m ≤ most → Same H H1 → (∀ (H2 : Hp) (b : Bool), Same H1 H2 → (b = true ↔ B m) → Q1 (.bl b) H2) → sp (.int (m : Int)) H1 Q1) ∧
  (∀ m m', m ≤ m' → m' ≤ most → B m → B m') ∧ ∀ (H' : Hp) (r : V), Same H H' → IsLeastP B most r → Q r H'
abbrev s_least_of : Stmt := topS 39
theorem sc_least_of : FnScope (["does", "most", "least", "enough", "middle"] : List Str) (["does", "most"] : List Str) (defScope s_least_of) := ⟨rfl, rfl, rfl, by decide +kernel, rfl, by decide +kernel, by decide +kernel⟩
theorem b_least_of (kV doc pm : Value) (an : Option Addr) (cdv ct : Value) (us : List Value) (hl : us.length = (["does", "most"] : List Str).length) : bindArgs (PySem.W.fnOf "least_of" "least_of" (defArgs s_least_of) (defBody s_least_of) (defScope s_least_of) .none kV doc pm an cdv ct) ⟨us, []⟩ = pure ((["does", "most"] : List Str).zip us) :=
  match us, hl with | [_, _], _ => rfl
abbrev s_most_needed : Stmt := topS 38
theorem sc_most_needed : FnScope (["sea", "side", "here", "there", "draughts"] : List Str) (["sea", "side"] : List Str) (defScope s_most_needed) := ⟨rfl, rfl, rfl, by decide +kernel, rfl, by decide +kernel, by decide +kernel⟩
theorem b_most_needed (kV doc pm : Value) (an : Option Addr) (cdv ct : Value) (us : List Value) (hl : us.length = (["sea", "side"] : List Str).length) : bindArgs (PySem.W.fnOf "most_needed" "most_needed" (defArgs s_most_needed) (defBody s_most_needed) (defScope s_most_needed) .none kV doc pm an cdv ct) ⟨us, []⟩ = pure ((["sea", "side"] : List Str).zip us) :=
  match us, hl with | [_, _], _ => rfl
def spNeeded (K : PySem.W.Frag) : Sp := fun vs H Q _ => ∃ (v : V) (h t : Int) (ds : List Int) (s : Bool), vs = [v, .str (sideS s)] ∧ SeaA K H v h t ds ∧ 0 < ds.length ∧ ∀ m : Nat, NeedI h t ds s m → Q (.int (m : Int)) H
section
variable {P : Program} {w : World} {K : PySem.W.Frag} {mg : Str → Option Value} {base : Heap}
theorem ok_least_of {k j : Nat} (D : Df K mg "least_of" s_least_of) (T : Bt mg) (hj : j ≤ k) : OkLam P w K mg base (k + 1) j "least_of" s_least_of ["does", "most"] TTleast := by
  refine D.okLam sc_least_of b_least_of fun g cdv A outer s H f v Q sp hr LA h => ?_
  obtain ⟨B, most, rfl, m1, does, up, q⟩ := h
  refine ⟨_, (pss_cons (ps_if (pt_not (pt_val (pe_callLam (i := 0) LA rfl rfl rfl rfl (hr.mono hj) rfl (.inl rfl) (pv 1))))
        (pss_one (ps_ret pe_non))
        pss_nil)
      (pss_cons (ps_set (i := 2) sc_least_of.nd rfl (.inl rfl) pe_int)
      (pss_cons (ps_set (i := 3) sc_least_of.nd rfl (.inl rfl) (pv 1))
      (pss_cons (ps_while PassesOwn.never (pt_cmpR op_lt (pv 2) (pv 3) (nomark _))
        (pss_cons (ps_set (i := 4) sc_least_of.nd rfl (.inl rfl) (pe_op op_fdiv (pe_op op_add (pv 2) (pv 3)) pe_int))
          (pss_one (ps_if (pt_val (pe_callLam (i := 0) LA rfl rfl rfl rfl (hr.mono hj) rfl (.inl rfl) (pv 4)))
            (pss_one (ps_set (i := 3) sc_least_of.nd rfl (.inl rfl) (pv 4)))
            (pss_one (ps_set (i := 2) sc_least_of.nd rfl (.inl rfl) (pe_op op_add (pv 4) pe_int)))))))
      (pss_one (ps_ret (pv 2))))))), ?_⟩
  refine ⟨rfl, _, rfl, does most H _ (Nat.le_refl _) (Same.refl _) fun H1 b s1 hb => ?_⟩
  refine ⟨b, rfl, ?_⟩
  cases b with
  | false =>
    refine iteT ?_
    exact q _ _ s1 (.inl ⟨fun z => (by have := hb.mpr z; cases this), rfl⟩)
  | true =>
    refine iteF ?_
    have bm : B most := hb.mp rfl
    refine ⟨_, rfl, ?_⟩
    refine ⟨fun m σ H' => ∃ (lo hi : Nat) (y : Option V), σ = [some (.ref f), some (.int (most : Int)), some (.int (lo : Int)), some (.int (hi : Int)), y] ∧ Same H H' ∧ lo ≤ hi ∧ hi ≤ most ∧ B hi ∧ (∀ m, m < lo → ¬ B m) ∧ hi - lo = m, ⟨_, 0, most, none, rfl, s1, Nat.zero_le _, Nat.le_refl _, bm, fun m hm => absurd hm (Nat.not_lt_zero _), rfl⟩, ?_⟩
    rintro m σ H2 ⟨lo, hi, y, rfl, s2, l1, l2, bh, lw, rfl⟩
    refine ⟨_, rfl, _, rfl, _, _, rfl, rfl, _, rfl, ite2 (fun c => ?_) (fun c => ?_)⟩
    · have c0 : lo < hi := by
        have := of_decide_eq_true c
        omega
      refine ⟨fun σ' H' => ∃ (lo' hi' : Nat) (y : Option V), σ' = [some (.ref f), some (.int (most : Int)), some (.int (lo' : Int)), some (.int (hi' : Int)), y] ∧ Same H H' ∧ lo' ≤ hi' ∧ hi' ≤ most ∧ B hi' ∧ (∀ m, m < lo' → ¬ B m) ∧ hi' - lo' < hi - lo,
        fun σ' H' ⟨lo', hi', y, z1, z2, z3, z4, z5, z6, z7⟩ => ⟨_, z7, lo', hi', y, z1, z2, z3, z4, z5, z6, rfl⟩, ?_⟩
      refine ⟨_, rfl, _, rfl, (lo : Int), (hi : Int), rfl, rfl, _, 2, rfl, rfl, ⟨by decide, by decide⟩, ?_⟩
      obtain ⟨md, emd, md1, md2⟩ : ∃ md : Nat, ((lo : Int) + (hi : Int)) / 2 = (md : Int) ∧ lo ≤ md ∧ md < hi := ⟨(lo + hi) / 2, by omega, by omega, by omega⟩
      dsimp only
      rw [emd]
      refine ⟨rfl, _, rfl, does md H2 _ (by omega) s2 fun H3 b s3 hb => ?_⟩
      refine ⟨b, rfl, ?_⟩
      cases b with
      | true =>
        refine iteT ⟨_, rfl, ?_⟩
        exact ⟨lo, md, some (.int (md : Int)), rfl, s2.trans s3, md1, by omega, hb.mp rfl, lw, by omega⟩
      | false =>
        refine iteF ⟨_, rfl, (md : Int), 1, rfl, rfl, ?_⟩
        refine ⟨md + 1, hi, some (.int (md : Int)), ?_, s2.trans s3, by omega, l2, bh, fun m hm z => ?_, by omega⟩
        · show [_, _, some (V.int ((md : Int) + 1)), _, _] = _
          rw [Int.natCast_add]
          rfl
        · have := hb.mpr (up m md (by omega) (by omega) z)
          cases this
    · have c0 : ¬ lo < hi := fun z => c (decide_eq_true (by omega))
      have e : lo = hi := by omega
      subst e
      exact ⟨_, rfl, q _ _ s2 (.inr ⟨lo, l2, bh, lw, rfl⟩)⟩
theorem ok_needed {k : Nat} (D : Df K mg "most_needed" s_most_needed) (T : Bt mg) (Ch : ChH mg) : Ok P w K mg base (k + 1) "most_needed" s_most_needed ["sea", "side"] (spNeeded K) := by
  obtain ⟨t1, g_HERE⟩ := Ch
  refine D.ok sc_most_needed b_most_needed (fun vs H Q E h => ?_) (fun f cdv A outer s H vs Q E hr h => ?_)
  · obtain ⟨v, h, t, ds, sd, rfl, _⟩ := h
    rfl
  · obtain ⟨v, h, t, ds, sd, rfl, ⟨p, q, rfl, hp, hq⟩, d0, k⟩ := h
    refine ⟨_, (pss_cons (ps_asg (pv 0) (pg_seq rfl (pgs_cons (pg_name (i := 2) sc_most_needed.nd rfl (.inl rfl)) (pgs_cons (pg_name (i := 3) sc_most_needed.nd rfl (.inl rfl)) (pgs_cons (pg_name (i := 4) sc_most_needed.nd rfl (.inl rfl)) pgs_nil)))))
      (pss_one (ps_ret (pe_callB (call_max2 rfl) (by rfl) T.max_ (by decide +kernel) (pa_cons pe_int (pa_cons (pe_op op_sub (pe_callB (cr_maxA rfl) (by rfl) T.max_ (by decide +kernel) (pa_cons (pv 4) pa_nil)) (pe_ifExp (pt_cmpR op_eq (pv 1) (pe_glob (v := .str "here") (by rfl) g_HERE ⟨_, rfl⟩) (nomark _)) (pv 2) (pv 3))) pa_nil)))))), ?_⟩
    refine ⟨_, rfl, p, _, rfl, hp, rfl, _, _, rfl, _, _, rfl, _, _, rfl, rfl, ?_⟩
    refine ⟨_, rfl, q, ds, rfl, hq, d0, fun mx mx1 mx2 => ?_⟩
    have fin : ∀ x : Int, Q (.int (if mx - (if sd then h else t) > 0 then mx - (if sd then h else t) else 0)) H := fun _ => by
      by_cases z : mx - (if sd then h else t) > 0
      · rw [if_pos z]
        obtain ⟨m, em⟩ : ∃ m : Nat, mx - (if sd then h else t) = (m : Int) := ⟨(mx - (if sd then h else t)).toNat, by omega⟩
        rw [em]
        exact k m ⟨.inr ⟨mx, mx1, em.symm⟩, fun d hd => by have := mx2 d hd; omega⟩
      · rw [if_neg z]
        exact k 0 ⟨.inl rfl, fun d hd => by have := mx2 d hd; omega⟩
    cases sd with
    | true =>
      refine ⟨_, rfl, rfl, _, rfl, ?_⟩
      rw [show sideS true = "here" from rfl, decide_eq_true rfl]
      exact iteT ⟨_, rfl, mx, h, rfl, rfl, 0, _, rfl, fin 0⟩
    | false =>
      refine ⟨_, rfl, rfl, _, rfl, ?_⟩
      rw [show sideS false = "there" from rfl, side_ne]
      exact iteF ⟨_, rfl, mx, t, rfl, rfl, 0, _, rfl, fin 0⟩
end
theorem need_le {h t : Int} {ds : List Int} {s : Bool} {most : Nat} (b : 0 ≤ h ∧ 0 ≤ t ∧ ∀ d ∈ ds, d ≤ 100000000000000) (n : NeedI h t ds s most) : most ≤ 100000000000000 := by
  rcases n.1 with z | ⟨d, hd, z⟩
  · omega
  · have := b.2.2 d hd
    have := b.1
    have := b.2.1
    cases s with
    | true =>
      have z' : (most : Int) = d - h := z
      omega
    | false =>
      have z' : (most : Int) = d - t := z
      omega
/-- a sea, its draughts a list or a tuple: how much of that side must be dredged -/
def spLeastD (Tl : List (Addr × Str)) (K : PySem.W.Frag) : Sp := fun vs H Q _ => ∃ (v l m : V) (h t : Int) (ds : List Int) (L M : List Nat) (s : Bool), vs = [v, l, m, .str (sideS s)] ∧ SeaA K H v h t ds ∧ LotA K H l L ∧ LotA K H m M ∧ ds.length ≤ 60 ∧ 0 < ds.length ∧ Lot ds.length L ∧ Lot ds.length M ∧
  (0 ≤ h ∧ 0 ≤ t ∧ ∀ d ∈ ds, d ≤ 100000000000000) ∧ Tabs Tl H ∧
  ∀ (H' : Hp) (r : V) (most : Nat), ExtN H H' → Tabs Tl H' → NeedI h t ds s most → IsLeastP (fun m => Rl (hS s h m) (tS s t m) ds L M) most r → Q r H'
abbrev s_least_dredged : Stmt := topS 40
theorem sc_least_dredged : FnScope (["sea", "one", "other", "side"] : List Str) (["sea", "one", "other", "side"] : List Str) (defScope s_least_dredged) := ⟨rfl, rfl, rfl, by decide +kernel, rfl, by decide +kernel, by decide +kernel⟩
theorem b_least_dredged (kV doc pm : Value) (an : Option Addr) (cdv ct : Value) (us : List Value) (hl : us.length = (["sea", "one", "other", "side"] : List Str).length) : bindArgs (PySem.W.fnOf "least_dredged" "least_dredged" (defArgs s_least_dredged) (defBody s_least_dredged) (defScope s_least_dredged) .none kV doc pm an cdv ct) ⟨us, []⟩ = pure ((["sea", "one", "other", "side"] : List Str).zip us) :=
  match us, hl with | [_, _, _, _], _ => rfl
section
variable {P : Program} {w : World} {K : PySem.W.Frag} {mg : Str → Option Value} {base : Heap}
theorem ok_least_dredged {k j : Nat} {c Pt : Addr} {Tl : List (Addr × Str)} (D : DfC K mg "least_dredged" s_least_dredged c) (TB : TabB base mg c Pt) (hm : (Pt, ("least_dredged.<locals>.<lambda>" : Str)) ∈ Tl) (hu : ∀ q ∈ Tl, q.1 = Pt → q.2 = ("least_dredged.<locals>.<lambda>" : Str))
    (O_least_of : OkLam P w K mg base k (j + 1) "least_of" s_least_of ["does", "most"] TTleast) (O_comes_to : Ok P w K mg base j "comes_to" s_comes_to ["sea", "one", "other"] (spComes K)) (O_deepened : Ok P w K mg base j "deepened" s_deepened ["sea", "side", "more"] (spDeep K)) (O_most_needed : Ok P w K mg base k "most_needed" s_most_needed ["sea", "side"] (spNeeded K)) :
    Ok P w K mg base (k + 1) "least_dredged" s_least_dredged ["sea", "one", "other", "side"] (spLeastD Tl K) := by
  refine D.ok sc_least_dredged b_least_dredged (fun vs H Q E h => ?_) (fun f A outer s H vs Q E hr h => ?_)
  · obtain ⟨v, l, m, h, t, ds, L, M, s, rfl, _⟩ := h
    rfl
  · obtain ⟨v, l, m, h, t, ds, L, M, sd, rfl, hv, hl, hm', d1, d0, hL, hM, hb, hT, k1⟩ := h
    refine ⟨_, pss_one (ps_ret (pe_lamcall2 (T := Tl) O_least_of (hr.mono (by omega)) (p := "more") TB rfl hm hu (lamS1_by (sc := defScope s_least_dredged) (q := "more") (by decide +kernel)) (show ("more" : Str) ∉ (["sea", "one", "other", "side"] : List Str) by decide) rfl (fun _ _ _ _ _ => rfl)
      (fun A outer s' H' f c' hr2 => pe_fn O_comes_to (hr2.mono (by omega)) (pa_cons (pe_fn O_deepened (hr2.mono (by omega)) (pa_cons (pv 0) (pa_cons (pv 3) (pa_cons (pv 4) pa_nil)))) (pa_cons (pv 1) (pa_cons (pv 2) pa_nil))))
      (pe_fn O_most_needed (hr.mono (by omega)) (pa_cons (pv 0) (pa_cons (pv 3) pa_nil))))), ?_⟩
    refine ⟨hT, fun c' H1 e1 t1 hc => ?_⟩
    refine ⟨_, rfl, _, rfl, v, h, t, ds, sd, rfl, hv.ext e1, d0, fun most nd => ?_⟩
    refine ⟨fun m => Rl (hS sd h m) (tS sd t m) ds L M, most, rfl, Nat.le_trans (need_le hb nd) (by decide), fun m H2 Q1 _ s2 q1 => ?_, fun m m' l _ r => rl_side (by omega) r, fun H' r s' lp => ?_⟩
    · refine ⟨s2 _ _ hc, ?_⟩
      refine ⟨_, rfl, _, rfl, _, rfl, v, h, t, (m : Int), ds, sd, rfl, (hv.ext e1).same s2, by omega, fun H3 r s3 hr3 => ?_⟩
      have s23 := s2.trans s3
      refine ⟨_, rfl, _, rfl, r, l, _, _, _, ds, L, M, rfl, hr3.d, (hl.ext e1).same s23, (hm'.ext e1).same s23, d1, d0, hL, hM, fun H4 b s4 hb4 => ?_⟩
      exact q1 H4 b (s3.trans s4) hb4
    · exact k1 H' r most (e1.trans (ext_same s')) (t1.ext s') nd lp
end
end Sh

namespace Sh
open PySem PySem.Spec PyProof.Rows L2 LamX
/-! ### the program: how deep sets each ship free -/
/-- it goes over in some row -/
def Mv (h t : Int) (ds : List Int) (L : List Nat) (i : Nat) : Prop := ∃ M, Lot ds.length M ∧ Rl h t ds L M ∧ mayB h t ds M i = true
theorem mv_more {h t h' t' : Int} {ds : List Int} {L : List Nat} {i : Nat} (hh : h ≤ h') (tt : t ≤ t') (m : Mv h t ds L i) : Mv h' t' ds L i := by
  obtain ⟨M, hM, r, g⟩ := m
  refine ⟨M, hM, rl_more hh tt r, ?_⟩
  rw [may_G] at g ⊢
  exact gof_more hh tt _ _ g
theorem mv_side {h t : Int} {ds : List Int} {L : List Nat} {i : Nat} {s : Bool} {m m' : Int} (l : m ≤ m') (r : Mv (hS s h m) (tS s t m) ds L i) : Mv (hS s h m') (tS s t m') ds L i := by
  refine mv_more ?_ ?_ r
  · unfold hS
    split <;> omega
  · unfold tS
    split <;> omega
theorem mv_iff {h t : Int} {ds : List Int} {L ms : List Nat} {i : Nat} (im : IsMovers h t ds L ms) (hi : i < ds.length) : i ∈ ms ↔ Mv h t ds L i := im.2 i hi
def spFreeing (Tl : List (Addr × Str)) (K : PySem.W.Frag) : Sp := fun vs H Q _ => ∃ (v l : V) (h t : Int) (ds : List Int) (L : List Nat) (s : Bool) (g : Nat), vs = [v, l, .str (sideS s), .int (g : Int)] ∧ SeaA K H v h t ds ∧ LotA K H l L ∧ ds.length ≤ 60 ∧ 0 < ds.length ∧ Lot ds.length L ∧ g < ds.length ∧
  (0 ≤ h ∧ 0 ≤ t ∧ ∀ d ∈ ds, d ≤ 100000000000000) ∧ Tabs Tl H ∧
  ∀ (H' : Hp) (r : V) (most : Nat), ExtN H H' → Tabs Tl H' → NeedI h t ds s most → IsLeastP (fun m => Mv (hS s h m) (tS s t m) ds L g) most r → Q r H'
/-- of each ship -/
def Freed (h t : Int) (ds : List Int) (L : List Nat) (s : Bool) (most : Nat) (rs : List V) : Prop := rs.length = ds.length ∧ ∀ (g : Nat) (r : V), rs[g]? = some r → IsLeastP (fun m => Mv (hS s h m) (tS s t m) ds L g) most r
def spFreed (Tl : List (Addr × Str)) (K : PySem.W.Frag) : Sp := fun vs H Q _ => ∃ (v l : V) (h t : Int) (ds : List Int) (L : List Nat) (s : Bool), vs = [v, l, .str (sideS s)] ∧ SeaA K H v h t ds ∧ LotA K H l L ∧ ds.length ≤ 60 ∧ 0 < ds.length ∧ Lot ds.length L ∧
  (0 ≤ h ∧ 0 ≤ t ∧ ∀ d ∈ ds, d ≤ 100000000000000) ∧ Tabs Tl H ∧
  ∀ (H' : Hp) (p : Addr) (rs : List V) (most : Nat), ExtN H H' → Tabs Tl H' → H p = none → H' p = some (.lst rs) → NeedI h t ds s most → Freed h t ds L s most rs → Q (.ref p) H'
abbrev s_least_freeing : Stmt := topS 41
theorem sc_least_freeing : FnScope (["sea", "standing", "side", "ship"] : List Str) (["sea", "standing", "side", "ship"] : List Str) (defScope s_least_freeing) := ⟨rfl, rfl, rfl, by decide +kernel, rfl, by decide +kernel, by decide +kernel⟩
theorem b_least_freeing (kV doc pm : Value) (an : Option Addr) (cdv ct : Value) (us : List Value) (hl : us.length = (["sea", "standing", "side", "ship"] : List Str).length) : bindArgs (PySem.W.fnOf "least_freeing" "least_freeing" (defArgs s_least_freeing) (defBody s_least_freeing) (defScope s_least_freeing) .none kV doc pm an cdv ct) ⟨us, []⟩ = pure ((["sea", "standing", "side", "ship"] : List Str).zip us) :=
  match us, hl with | [_, _, _, _], _ => rfl
abbrev s_freed_by : Stmt := topS 42
theorem sc_freed_by : FnScope (["sea", "standing", "side", "draughts", "ship"] : List Str) (["sea", "standing", "side"] : List Str) (defScope s_freed_by) := ⟨rfl, rfl, rfl, by decide +kernel, rfl, by decide +kernel, by decide +kernel⟩
theorem b_freed_by (kV doc pm : Value) (an : Option Addr) (cdv ct : Value) (us : List Value) (hl : us.length = (["sea", "standing", "side"] : List Str).length) : bindArgs (PySem.W.fnOf "freed_by" "freed_by" (defArgs s_freed_by) (defBody s_freed_by) (defScope s_freed_by) .none kV doc pm an cdv ct) ⟨us, []⟩ = pure ((["sea", "standing", "side"] : List Str).zip us) :=
  match us, hl with | [_, _, _], _ => rfl
section
variable {P : Program} {w : World} {K : PySem.W.Frag} {mg : Str → Option Value} {base : Heap}
theorem need_ex {h t : Int} {ds : List Int} (s : Bool) : ∃ m, NeedI h t ds s m := by
  have key : ∀ l : List Int, ∃ m : Nat, ((m : Int) = 0 ∨ ∃ d ∈ l, (m : Int) = d - (if s then h else t)) ∧ ∀ d ∈ l, d - (if s then h else t) ≤ (m : Int) := fun l => by
    induction l with
    | nil => exact ⟨0, .inl rfl, fun d hd => by cases hd⟩
    | cons x l ih =>
      obtain ⟨m, m1, m2⟩ := ih
      by_cases c : x - (if s then h else t) ≤ (m : Int)
      · refine ⟨m, m1.imp id fun ⟨d, hd, e⟩ => ⟨d, List.mem_cons_of_mem _ hd, e⟩, fun d hd => ?_⟩
        rcases List.mem_cons.mp hd with rfl | hd
        · exact c
        · exact m2 d hd
      · refine ⟨(x - (if s then h else t)).toNat, .inr ⟨x, List.mem_cons_self, by omega⟩, fun d hd => ?_⟩
        rcases List.mem_cons.mp hd with rfl | hd
        · omega
        · have := m2 d hd
          omega
  exact key ds
theorem ok_least_freeing {k j : Nat} {c Pt : Addr} {Tl : List (Addr × Str)} (D : DfC K mg "least_freeing" s_least_freeing c) (TB : TabB base mg c Pt) (hm : (Pt, ("least_freeing.<locals>.<lambda>" : Str)) ∈ Tl) (hu : ∀ q ∈ Tl, q.1 = Pt → q.2 = ("least_freeing.<locals>.<lambda>" : Str))
    (O_least_of : OkLam P w K mg base k (j + 1) "least_of" s_least_of ["does", "most"] TTleast) (O_movers_of : Ok P w K mg base j "movers_of" s_movers_of ["sea", "standing"] (spMovers K)) (O_deepened : Ok P w K mg base j "deepened" s_deepened ["sea", "side", "more"] (spDeep K)) (O_most_needed : Ok P w K mg base k "most_needed" s_most_needed ["sea", "side"] (spNeeded K)) :
    Ok P w K mg base (k + 1) "least_freeing" s_least_freeing ["sea", "standing", "side", "ship"] (spFreeing Tl K) := by
  refine D.ok sc_least_freeing b_least_freeing (fun vs H Q E h => ?_) (fun f A outer s H vs Q E hr h => ?_)
  · obtain ⟨v, l, h, t, ds, L, s, g, rfl, _⟩ := h
    rfl
  · obtain ⟨v, l, h, t, ds, L, sd, g, rfl, hv, hl, d1, d0, hL, hg, hb, hT, k1⟩ := h
    refine ⟨_, pss_one (ps_ret (pe_lamcall2 (T := Tl) O_least_of (hr.mono (by omega)) (p := "more") TB rfl hm hu (lamS1_by (sc := defScope s_least_freeing) (q := "more") (by decide +kernel)) (show ("more" : Str) ∉ (["sea", "standing", "side", "ship"] : List Str) by decide) rfl (fun _ _ _ _ _ => rfl)
      (fun A outer s' H' f c' hr2 => pe_cmpR (op_inK K) (pv 3) (pe_fn O_movers_of (hr2.mono (by omega)) (pa_cons (pe_fn O_deepened (hr2.mono (by omega)) (pa_cons (pv 0) (pa_cons (pv 2) (pa_cons (pv 4) pa_nil)))) (pa_cons (pv 1) pa_nil))) (by rfl))
      (pe_fn O_most_needed (hr.mono (by omega)) (pa_cons (pv 0) (pa_cons (pv 2) pa_nil))))), ?_⟩
    refine ⟨hT, fun c' H1 e1 t1 hc => ?_⟩
    refine ⟨_, rfl, _, rfl, v, h, t, ds, sd, rfl, hv.ext e1, d0, fun most nd => ?_⟩
    refine ⟨fun m => Mv (hS sd h m) (tS sd t m) ds L g, most, rfl, Nat.le_trans (need_le hb nd) (by decide), fun m H2 Q1 _ s2 q1 => ?_, fun m m' l _ r => mv_side (by omega) r, fun H' r s' lp => ?_⟩
    · refine ⟨s2 _ _ hc, ?_⟩
      refine ⟨_, rfl, _, rfl, _, rfl, _, rfl, v, h, t, (m : Int), ds, sd, rfl, (hv.ext e1).same s2, by omega, fun H3 r s3 hr3 => ?_⟩
      have s23 := s2.trans s3
      refine ⟨_, rfl, r, l, _, _, ds, L, rfl, hr3.d, (hl.ext e1).same s23, d1, d0, hL, fun H4 p ms s4 np hp im => ?_⟩
      refine ⟨p, _, rfl, .inl (SqL.of hp), rfl, ni_flat ms, ?_⟩
      rw [in_ni]
      exact q1 H4 _ (s3.trans s4) (decide_eq_true_iff.trans (mv_iff im hg))
    · exact k1 H' r most (e1.trans (ext_same s')) (t1.ext s') nd lp
theorem ok_freed_by {k : Nat} {Tl : List (Addr × Str)} (D : Df K mg "freed_by" s_freed_by) (T : Bt mg) (O_least_freeing : Ok P w K mg base k "least_freeing" s_least_freeing ["sea", "standing", "side", "ship"] (spFreeing Tl K)) :
    Ok P w K mg base (k + 1) "freed_by" s_freed_by ["sea", "standing", "side"] (spFreed Tl K) := by
  refine D.ok sc_freed_by b_freed_by (fun vs H Q E h => ?_) (fun f cdv A outer s H vs Q E hr h => ?_)
  · obtain ⟨v, l, h, t, ds, L, s, rfl, _⟩ := h
    rfl
  · obtain ⟨v, l, h, t, ds, L, sd, rfl, hv, hl, d1, d0, hL, hb, hT, k1⟩ := h
    refine ⟨_, (pss_cons (ps_set (i := 3) sc_freed_by.nd rfl (.inl rfl) (pe_ix ix_lt (pv 0) pe_int (fun _ _ => rfl)))
      (pss_one (ps_ret (pe_lc (own := [("ship", 4)]) (g := (gName 4)) (tt := tYes) (by rfl) sc_freed_by.nd (pi_range1 (by rfl) T.range_ (pa_cons (pe_callB call_len_seq (by rfl) T.len_ PySem.boot_len (pa_cons (pv 3) pa_nil)) pa_nil)) (blkOk_by (own := [("ship", 4)]) (N := (["sea", "standing", "side", "draughts", "ship"] : List Str)) (sc := defScope s_freed_by) (by decide +kernel)) (fun _ _ _ _ _ => (pg_name (i := 4) sc_freed_by.nd rfl (.inl rfl))) (fun _ _ _ _ _ => pts_nil) (fun _ _ _ _ _ => (pe_fn O_least_freeing (hr.mono (by omega)) (pa_cons (pv 0) (pa_cons (pv 1) (pa_cons (pv 2) (pa_cons (pv 4) pa_nil)))))))))), ?_⟩
    obtain ⟨p, q, rfl, hp, hq⟩ := id hv
    obtain ⟨most, nd⟩ := need_ex (h := h) (t := t) (ds := ds) sd
    refine ⟨_, rfl, p, _, 2, .ref q, rfl, rfl, hp, rfl, ?_⟩
    refine ⟨_, rfl, q, _, rfl, hq, ((ds.length : Nat) : Int), (by rw [List.length_map]), by omega, by omega, fun C nC => ?_⟩
    refine lc_range (fun i H' => ExtN H H' ∧ Tabs Tl H' ∧ ∃ rs : List V, H' C = some (.lst rs) ∧ rs.length = i ∧ ∀ (g : Nat) (r : V), rs[g]? = some r → IsLeastP (fun m => Mv (hS sd h m) (tS sd t m) ds L g) most r)
      ⟨ext_same (same_new nC), hT.ext (same_new nC), [], upd_same, rfl, fun g r z => by cases z⟩ ?_ ?_
    · rintro i Ha hi ⟨xa, ta, rs, hC, lr, ok⟩
      have hi2 : i < ds.length := by rw [Int.toNat_natCast] at hi; exact hi
      refine ⟨rfl, tyes (iteT ?_)⟩
      refine ⟨_, rfl, _, rfl, _, rfl, _, rfl, .ref p, l, h, t, ds, L, sd, i, ?_, hv.ext xa, hl.ext xa, d1, d0, hL, hi2, hb, ta, fun Hb r most' xb tb nd' lp => ?_⟩
      · show [V.ref p, l, V.str (sideS sd), V.int (0 + (i : Int))] = _
        rw [Int.zero_add]
      obtain rfl := nd'.uniq nd
      have hCb := ext_lst xb hC
      refine ⟨rs, hCb, by rw [lr]; exact small1000 (by omega), fun a o e z => ?_, tabs_put tb ⟨_, hCb⟩, rs ++ [r], upd_same, by rw [List.length_append, lr]; rfl, fun g r' e => ?_⟩
      · rw [upd_ne (ne_of_none e nC)]
        exact xb _ _ (xa _ _ e z) z
      · by_cases c : g < rs.length
        · rw [List.getElem?_append_left c] at e
          exact ok g r' e
        · have c2 := (List.getElem?_eq_some_iff.mp e).1
          rw [List.length_append, List.length_singleton] at c2
          obtain rfl : g = rs.length := by omega
          rw [List.getElem?_concat_length] at e
          obtain rfl : r = r' := Option.some.inj e
          rw [lr]
          exact lp
    · rintro Ha ⟨xa, ta, rs, hC, lr, ok⟩
      rw [Int.toNat_natCast] at lr
      exact k1 Ha C rs most xa ta nC hC nd ⟨lr, ok⟩
end
end Sh

namespace Th
/-! ### k47: ships all alike: the levels that come to one another -/
section
variable {k a e : Nat} {G : Nat → Nat → Bool} {S U : Nat → Bool}
theorem cnt_flip_xor {U : Nat → Bool} {j : Nat} (hj : j < k) (ne : (S j != U j) = true) : cnt k (fun i => flip S j i != U i) + 1 = cnt k (fun i => S i != U i) := by
  have e1 : (fun i => flip S j i != U i) = flip (fun i => S i != U i) j := by
    funext i
    by_cases z : i = j
    · subst z
      rw [flip_self, flip_self]
      cases S i <;> cases U i <;> rfl
    · rw [flip_ne _ z, flip_ne _ z]
  rw [e1]
  exact cnt_flip_dn (S := fun i => S i != U i) hj ne
theorem band_go (hg : ∀ s i, s < k → i < k → (G s i = true ↔ a ≤ s ∧ s < e)) (he : e ≤ k) (ae : a < e) (hU : a ≤ cnt k U ∧ cnt k U ≤ e) : ∀ (d : Nat) (S : Nat → Bool), (∀ i, ¬ i < k → U i = S i) → cnt k (fun i => S i != U i) = d → a ≤ cnt k S → cnt k S ≤ e → Reach k G S U := by
  intro d
  induction d with
  | zero =>
    intro S ho c _ _
    have : S = U := by
      funext i
      by_cases hi : i < k
      · cases q : (S i != U i) with
        | false => simpa using q
        | true =>
          have := cnt_pos (S := fun i => S i != U i) hi q
          omega
      · exact (ho i hi).symm
    rw [this]
    exact .refl _
  | succ d ih =>
    intro S ho c s1 s2
    have out : ∀ {j : Nat}, j < k → ∀ i, ¬ i < k → U i = flip S j i := fun {j} hj i hi => by rw [flip_ne _ (by omega)]; exact ho i hi
    by_cases c1 : cnt k S < e ∧ ∃ j, j < k ∧ S j = false ∧ U j = true
    · obtain ⟨lt, j, hj, sj, uj⟩ := c1
      have st : Step k G S (flip S j) := .up hj sj ((hg _ _ (by omega) hj).mpr ⟨s1, lt⟩)
      have cn := cnt_flip_up hj sj
      have x := cnt_flip_xor (S := S) (U := U) hj (by rw [sj, uj]; rfl)
      exact (Reach.one st).trans (ih _ (out hj) (by omega) (by omega) (by omega))
    by_cases c2 : a < cnt k S ∧ ∃ j, j < k ∧ S j = true ∧ U j = false
    · obtain ⟨lt, j, hj, sj, uj⟩ := c2
      have st : Step k G S (flip S j) := .dn hj sj ((hg _ _ (by omega) hj).mpr ⟨by omega, by omega⟩)
      have cn := cnt_flip_dn hj sj
      have x := cnt_flip_xor (S := S) (U := U) hj (by rw [sj, uj]; rfl)
      exact (Reach.one st).trans (ih _ (out hj) (by omega) (by omega) (by omega))
    exfalso
    have same : (∀ i, i < k → S i = U i) → False := fun z => by
      have : cnt k (fun i => S i != U i) = cnt k (fun _ => false) := cnt_congr fun i hi => by rw [z i hi]; simp
      have y : cnt k (fun _ => false) = 0 := by
        unfold cnt
        simp
      omega
    have sub1 : ¬ (cnt k S < e) → False := fun z => by
      have n2 : ∀ i, i < k → S i = true → U i = true := fun i hi si => by
        cases u : U i with
        | true => rfl
        | false => exact absurd ⟨by omega, i, hi, si, u⟩ c2
      have eq := cnt_eq n2 (by omega)
      exact same fun i hi => by
        cases s : S i with
        | true => exact (n2 i hi s).symm
        | false =>
          cases u : U i with
          | false => rfl
          | true => rw [eq i hi u] at s; cases s
    by_cases z : cnt k S < e
    · have n1 : ∀ i, i < k → U i = true → S i = true := fun i hi ui => by
        cases s : S i with
        | true => rfl
        | false => exact absurd ⟨z, i, hi, s, ui⟩ c1
      have le := cnt_mono n1
      by_cases y : a < cnt k S
      · have n2 : ∀ i, i < k → S i = true → U i = true := fun i hi si => by
          cases u : U i with
          | true => rfl
          | false => exact absurd ⟨y, i, hi, si, u⟩ c2
        exact same fun i hi => by
          cases s : S i with
          | true => exact (n2 i hi s).symm
          | false =>
            cases u : U i with
            | false => rfl
            | true => rw [n1 i hi u] at s; cases s
      · have eq := cnt_eq n1 (by omega)
        exact same fun i hi => by
          cases s : S i with
          | true => exact (eq i hi s).symm
          | false =>
            cases u : U i with
            | false => rfl
            | true => rw [n1 i hi u] at s; cases s
    · exact sub1 z
theorem band_iff (hg : ∀ s i, s < k → i < k → (G s i = true ↔ a ≤ s ∧ s < e)) (he : e ≤ k) (ho : ∀ i, ¬ i < k → U i = S i) : Reach k G S U ↔ U = S ∨ (a < e ∧ (a ≤ cnt k S ∧ cnt k S ≤ e) ∧ a ≤ cnt k U ∧ cnt k U ≤ e) := by
  constructor
  · intro r
    clear ho
    induction r with
    | refl => exact .inl rfl
    | @step U W r s ih =>
      have key : a < e ∧ (a ≤ cnt k U ∧ cnt k U ≤ e) ∧ a ≤ cnt k W ∧ cnt k W ≤ e := by
        cases s with
        | @up i hi hs g =>
          have c := cnt_flip_up hi hs
          have l := cnt_le k (flip U i)
          have := (hg _ _ (by omega) hi).mp g
          omega
        | @dn i hi hs g =>
          have c := cnt_flip_dn hi hs
          have l := cnt_le k U
          have := (hg _ _ (by omega) hi).mp g
          omega
      rcases ih with z | z
      · rw [z] at key
        exact .inr key
      · exact .inr ⟨z.1, z.2.1, key.2.2⟩
  · rintro (z | ⟨z1, z2, z3⟩)
    · rw [z]
      exact .refl _
    · exact band_go hg he z1 z3 _ S ho rfl z2.1 z2.2
end
end Th
namespace Ct
open Th (cnt cnt_succ cnt_congr cnt_zero)
theorem cnt_true (k : Nat) : cnt k (fun _ => true) = k := by
  unfold cnt
  simp
/-- by levels -/
theorem cf_level (k : Nat) (p : Nat → Bool) : cf k (fun U => p (cnt k U)) = ((List.range (k + 1)).map fun x => if p x = true then bin k x else 0).sum := by
  have q := cf_parts (k := k) (P := fun U => p (cnt k U)) (f := fun U => cnt k U) k
  have e0 : cf k (fun U => p (cnt k U) && decide (cnt k U ≤ k)) = cf k (fun U => p (cnt k U)) := cf_congr fun U _ => by
    rw [decide_eq_true (Th.cnt_le k U), Bool.and_true]
  rw [← e0, ← q]
  congr 1
  refine List.map_congr_left fun x _ => ?_
  have sb : ∀ U : Nat → Bool, subB (fun _ => true) k U = true := fun U => subB_iff.mpr fun _ _ _ => rfl
  by_cases c : p x = true
  · rw [if_pos c]
    have s := cf_sub (k := k) (fun _ => true) x
    rw [cnt_true] at s
    rw [← s]
    refine cf_congr fun U _ => ?_
    rw [sb U, Bool.true_and]
    by_cases z : cnt k U = x
    · rw [z, c, Bool.true_and]
    · rw [show (cnt k U == x) = false from beq_eq_false_iff_ne.mpr z, Bool.and_false]
  · rw [if_neg c]
    refine Eq.trans (cf_congr fun U _ => ?_) (cf_false k)
    show (p (cnt k U) && (cnt k U == x)) = false
    by_cases z : cnt k U = x
    · rw [z, show p x = false by simpa using c]
      rfl
    · rw [show (cnt k U == x) = false from beq_eq_false_iff_ne.mpr z, Bool.and_false]
theorem cf_single {k : Nat} (S : Nat → Bool) : cf k (fun M => (List.range k).all (fun i => M i == S i)) = 1 := by
  have f := fixed (A := fun _ => false) (X := S) (k := k) (P := fun _ => true)
  have e1 : cf k (fun U => subB (fun _ => false) k U && (fun _ => true) U) = 1 := Eq.trans (cf_congr fun U _ => by simp) (cf_none k)
  rw [e1] at f
  rw [← f]
  refine cf_congr fun U _ => ?_
  simp
def bandB (a e x : Nat) : Bool := decide (a < e ∧ a ≤ x ∧ x ≤ e)
theorem fam_band {k a e : Nat} {G : Nat → Nat → Bool} {S : Nat → Bool} (hg : ∀ s i, s < k → i < k → (G s i = true ↔ a ≤ s ∧ s < e)) (he : e ≤ k) (S0 : ∀ i, ¬ i < k → S i = false) :
    fam k G S = if bandB a e (cnt k S) = true then ((List.range (k + 1)).map fun x => if bandB a e x = true then bin k x else 0).sum else 1 := by
  by_cases c : bandB a e (cnt k S) = true
  · rw [if_pos c, ← cf_level]
    have c' := of_decide_eq_true c
    refine fam_of S0 fun M ho => ?_
    rw [Th.band_iff hg he ho]
    unfold bandB
    rw [decide_eq_true_eq]
    constructor
    · rintro (z | z)
      · rw [z]
        exact c'
      · exact ⟨z.1, z.2.2⟩
    · intro z
      exact .inr ⟨z.1, c'.2, z.2⟩
  · rw [if_neg c, ← cf_single (k := k) S]
    refine fam_of S0 fun M ho => ?_
    rw [Th.band_iff hg he ho, List.all_eq_true]
    constructor
    · rintro (z | z)
      · rw [z]
        intro i _
        simp
      · exact absurd (decide_eq_true ⟨z.1, z.2.1⟩) c
    · intro z
      refine .inl (funext fun i => ?_)
      by_cases hi : i < k
      · simpa using z i (List.mem_range.mpr hi)
      · exact ho i hi
end Ct
namespace Sh
open PySem PySem.Spec PyProof.Rows L2
section
variable {h t : Int} {ds : List Int} {L M : List Nat} {a e : Nat}
/-- a sea of ships alike: all may go at the steps from a to e -/
structure Alk (h t : Int) (ds : List Int) (a e : Nat) : Prop where
  he : e ≤ ds.length
  g : ∀ s i, s < ds.length → i < ds.length → (Gof h t ds s i = true ↔ a ≤ s ∧ s < e)
theorem Alk.rl (A : Alk h t ds a e) (hL : Lot ds.length L) (hM : Lot ds.length M) : Rl h t ds L M ↔ M = L ∨ (Ct.bandB a e L.length = true ∧ Ct.bandB a e M.length = true) := by
  unfold Rl
  rw [Th.band_iff A.g A.he fun i hi => by rw [memO hL i hi, memO hM i hi], cnt_mem hL, cnt_mem hM]
  unfold Ct.bandB
  rw [decide_eq_true_eq, decide_eq_true_eq]
  constructor
  · rintro (z | z)
    · exact .inl (lot_ext hM hL fun i _ => by rw [z])
    · exact .inr ⟨⟨z.1, z.2.1⟩, z.1, z.2.2⟩
  · rintro (z | z)
    · rw [z]
      exact .inl rfl
    · exact .inr ⟨z.1.1, z.1.2, z.2.2⟩
theorem Alk.sz (A : Alk h t ds a e) (hL : Lot ds.length L) : Sz h t ds L = if Ct.bandB a e L.length = true then ((List.range (ds.length + 1)).map fun x => if Ct.bandB a e x = true then Ct.bin ds.length x else 0).sum else 1 := by
  unfold Sz
  rw [Ct.fam_band A.g A.he (memO hL), cnt_mem hL]
theorem Alk.fn (A : Alk h t ds a e) (d0 : 0 < ds.length) : Fn h t ds = ((List.range (ds.length + 1)).map fun x => if Ct.bandB a e x = true then 0 else Ct.bin ds.length x).sum + (if a < e then 1 else 0) := by
  have e1 : ((List.range (ds.length + 1)).map fun x => if Ct.bandB a e x = true then 0 else Ct.bin ds.length x).sum = ((allLots ds.length).filter fun M => !Ct.bandB a e (Th.cnt ds.length (mem M))).length := by
    rw [cf_lots (P := fun U => !Ct.bandB a e (Th.cnt ds.length U)), Ct.cf_level ds.length (fun x => !Ct.bandB a e x)]
    congr 1
    refine List.map_congr_left fun x _ => ?_
    cases Ct.bandB a e x <;> rfl
  have fl : ∀ {M : List Nat}, M ∈ (allLots ds.length).filter (fun M => !Ct.bandB a e (Th.cnt ds.length (mem M))) → Lot ds.length M ∧ Ct.bandB a e M.length = false := fun {M} hM => by
    obtain ⟨m1, m2⟩ := List.mem_filter.mp hM
    have l := allLots_lot m1
    rw [cnt_mem l] at m2
    exact ⟨l, by simpa using m2⟩
  have rg : a < e → Lot ds.length (List.range a) ∧ Ct.bandB a e (List.range a).length = true := fun ae => ⟨(⟨List.pairwise_lt_range, fun i hi => by have := List.mem_range.mp hi; have := A.he; omega⟩ : Lot ds.length (List.range a)), decide_eq_true (by rw [List.length_range]; omega)⟩
  have T : Trans h t ds ((allLots ds.length).filter (fun M => !Ct.bandB a e (Th.cnt ds.length (mem M))) ++ if a < e then [List.range a] else []) := by
    refine ⟨fun M hM => ?_, fun M hM => ?_, ?_⟩
    · rcases List.mem_append.mp hM with z | z
      · exact (fl z).1
      · by_cases ae : a < e
        · rw [if_pos ae] at z
          rw [List.mem_singleton.mp z]
          exact (rg ae).1
        · rw [if_neg ae] at z
          cases z
    · cases b : Ct.bandB a e M.length with
      | false => exact ⟨M, List.mem_append.mpr (.inl (List.mem_filter.mpr ⟨lot_all hM, by rw [cnt_mem hM, b]; rfl⟩)), .refl _⟩
      | true =>
        have ae : a < e := (of_decide_eq_true b).1
        exact ⟨List.range a, List.mem_append.mpr (.inr (by rw [if_pos ae]; exact List.mem_singleton.mpr rfl)), (A.rl hM (rg ae).1).mpr (.inr ⟨b, (rg ae).2⟩)⟩
    · refine List.pairwise_append.mpr ⟨?_, ?_, fun M hM N hN r => ?_⟩
      · refine List.Pairwise.imp_of_mem (fun {M N} hM hN ne r => ?_) ((allLots_nd ds.length).filter _)
        rcases (A.rl (fl hM).1 (fl hN).1).mp r with z | z
        · exact ne z.symm
        · rw [(fl hM).2] at z
          cases z.1
      · by_cases ae : a < e
        · rw [if_pos ae]
          exact List.pairwise_singleton _ _
        · rw [if_neg ae]
          exact .nil
      · by_cases ae : a < e
        · rw [if_pos ae] at hN
          rw [List.mem_singleton.mp hN] at r
          rcases (A.rl (fl hM).1 (rg ae).1).mp r with z | z
          · have := (fl hM).2
            rw [← z, (rg ae).2] at this
            cases this
          · rw [(fl hM).2] at z
            cases z.1
        · rw [if_neg ae] at hN
          cases hN
  rw [← fn_of d0 T, e1, List.length_append]
  congr 1
  split <;> rfl
theorem Alk.may (A : Alk h t ds a e) (hL : Lot ds.length L) {i : Nat} (hi : i < ds.length) : mayB h t ds L i = true ↔ a ≤ near L i ∧ near L i < e := by
  rw [may_G]
  have nl : near L i < ds.length := by
    rw [near_cnt hL hi]
    have l := hL.len
    split
    · omega
    · rename_i n
      have := cnt_mem hL
      have c := Th.cnt_flip_up (k := ds.length) (S := mem L) hi (decide_eq_false n)
      have := Th.cnt_le ds.length (Th.flip (mem L) i)
      omega
  exact A.g _ _ nl hi
theorem alk_rep {n : Nat} {d l1 l2 h t : Int} (eh : h = d - l1) (et : t = d - l2) : Alk h t (List.replicate n d) l1.toNat (n - l2.toNat) := by
  subst eh et
  refine ⟨by rw [List.length_replicate]; omega, fun s i hs hi => ?_⟩
  rw [List.length_replicate] at hs hi
  unfold Gof
  have g : (List.replicate n d).getD i 0 = d := by
    rw [List.getD_eq_getElem?_getD, List.getElem?_replicate, if_pos hi]
    rfl
  rw [g, decide_eq_true_eq, List.length_replicate]
  unfold mk
  split <;> omega
end
end Sh

namespace Sh
open PySem PySem.Spec PyProof.Rows L2
/-! ### k47: so many afloat anyhow, the others deeper than any mark -/
section
variable {h t x d : Int} {L : List Nat} {c : Nat}
theorem light_sz (x0 : 0 ≤ x) : ∀ (j : Nat) (h t : Int) (L : List Nat), x ≤ h → x ≤ t → h + ((c + 2 * j : Nat) : Int) < d → Lot (c + j) L → Sz h t (List.replicate c x ++ List.replicate j d) L = 2 ^ c
  | 0, h, t, L, hh, ht, _, hL => by
    rw [List.replicate_zero, List.append_nil]
    unfold Sz
    have lc : (List.replicate c x).length = c := List.length_replicate
    rw [lc, ← Ct.cf_all c]
    refine Ct.fam_of (fun i hi => decide_eq_false fun z => hi (hL.lt i z)) fun M ho => ⟨fun _ => rfl, fun _ => Th.reach_any (fun s i hs hi => ?_) ho⟩
    unfold Gof
    have g : (List.replicate c x).getD i 0 = x := by
      rw [List.getD_eq_getElem?_getD, List.getElem?_replicate, if_pos hi]
      rfl
    rw [g, decide_eq_true_eq, lc]
    unfold mk
    split <;> omega
  | j + 1, h, t, L, hh, ht, big, hL => by
    have e : List.replicate c x ++ List.replicate (j + 1) d = (List.replicate c x ++ List.replicate j d) ++ [d] := by rw [List.replicate_succ', List.append_assoc]
    have len : (List.replicate c x ++ List.replicate j d).length = c + j := by rw [List.length_append, List.length_replicate, List.length_replicate]
    have big1 : h + ((List.replicate c x ++ List.replicate j d).length : Int) < d := by rw [len]; omega
    rw [e]
    rcases lot_last (k := c + j) hL with z | ⟨M, rfl, z⟩
    · have g := great_there (L := L) big1 ⟨by omega, (by omega : 0 ≤ t)⟩ (by rw [len]; exact z)
      unfold Sz
      rw [g]
      exact light_sz x0 j h (t + 1) L hh (by omega) (by omega) z
    · have g := great_here (L := M) big1 ⟨by omega, (by omega : 0 ≤ t)⟩ (by rw [len]; exact z)
      unfold Sz
      rw [len] at g
      rw [g]
      have r := light_sz x0 j (h + 1) t M (by omega) ht (by omega) z
      unfold Sz at r
      rw [len] at r
      exact r
theorem light_fn (x0 : 0 ≤ x) : ∀ (j : Nat) (h t : Int), 0 < c + j → x ≤ h → x ≤ t → h + ((c + 2 * j : Nat) : Int) < d → Fn h t (List.replicate c x ++ List.replicate j d) = 2 ^ j
  | 0, h, t, c0, hh, ht, _ => by
    rw [List.replicate_zero, List.append_nil]
    have f := fn_deep (h := h - x) (t := t - x) (m := x) (ds := List.replicate c x) (L := []) (by rw [List.length_replicate]; omega) ⟨by omega, by omega⟩ (fun y hy => by rw [List.eq_of_mem_replicate hy]; exact Int.le_refl _) (Lot.nil _)
    rw [show h - x + x = h by omega, show t - x + x = t by omega] at f
    exact f.1
  | j + 1, h, t, c0, hh, ht, big => by
    have e : List.replicate c x ++ List.replicate (j + 1) d = (List.replicate c x ++ List.replicate j d) ++ [d] := by rw [List.replicate_succ', List.append_assoc]
    have len : (List.replicate c x ++ List.replicate j d).length = c + j := by rw [List.length_append, List.length_replicate, List.length_replicate]
    have big1 : h + ((List.replicate c x ++ List.replicate j d).length : Int) < d := by rw [len]; omega
    by_cases z : c + j = 0
    · obtain rfl : c = 0 := by omega
      obtain rfl : j = 0 := by omega
      have A : Alk h t (List.replicate 1 d) (d - h).toNat (1 - (d - t).toNat) := alk_rep (by omega) (by omega)
      have f := A.fn (by simp)
      have nb : ∀ y, Ct.bandB (d - h).toNat (1 - (d - t).toNat) y = false := fun y => decide_eq_false fun q => by omega
      rw [if_neg (by omega)] at f
      simp only [nb] at f
      exact f
    · rw [e, fn_great (by rw [len]; omega) ⟨by omega, by omega⟩ big1, light_fn x0 j h (t + 1) (by omega) hh (by omega) (by omega), light_fn x0 j (h + 1) t (by omega) (by omega) ht (by omega), Nat.pow_succ]
      omega
end
/-! ### three ships: a shallow one, two deep ones -/
theorem least_at {B : Nat → Prop} {most n : Nat} {r : V} (a : IsLeastP B most r) (h : ∀ m, B m ↔ n ≤ m) (le : n ≤ most) : r = .int (n : Int) := by
  rcases a with ⟨nb, _⟩ | ⟨m, _, b, lt, e⟩
  · exact absurd ((h most).mpr le) nb
  · have := (h m).mp b
    by_cases z : n < m
    · exact absurd ((h n).mpr (Nat.le_refl _)) (lt n z)
    · rw [e, show m = n by omega]
theorem least_no {B : Nat → Prop} {most : Nat} {r : V} (a : IsLeastP B most r) (h : ∀ m, ¬ B m) : r = .non := by
  rcases a with ⟨_, e⟩ | ⟨m, _, b, _⟩
  · exact e
  · exact absurd b (h m)
/-- rows of so many crossings from a lot on -/
def layN (h t : Int) (ds : List Int) : Nat → List Nat → List (List Nat)
  | 0, L => [L]
  | n + 1, L => (lets h t ds L ds.length).flatMap fun i => layN h t ds n (gone L i)
theorem step_lets {h t : Int} {ds : List Int} {L : List Nat} {W : Nat → Bool} (hL : Lot ds.length L) (s : Th.Step ds.length (Gof h t ds) (mem L) W) : ∃ i, i ∈ lets h t ds L ds.length ∧ W = mem (gone L i) := by
  generalize e : mem L = S at s
  cases s with
  | @up i hi hs g =>
    have ni : i ∉ L := fun z => by
      rw [← e] at hs
      exact absurd z (of_decide_eq_false hs)
    refine ⟨i, List.mem_filter.mpr ⟨List.mem_range.mpr hi, ?_⟩, by rw [gone_mem, e]⟩
    rw [may_G, near_cnt hL hi, if_neg ni, ← cnt_mem hL, e]
    exact g
  | @dn i hi hs g =>
    have ni : i ∈ L := by
      rw [← e] at hs
      exact of_decide_eq_true hs
    refine ⟨i, List.mem_filter.mpr ⟨List.mem_range.mpr hi, ?_⟩, by rw [gone_mem, e]⟩
    rw [may_G, near_cnt hL hi, if_pos ni, ← cnt_mem hL, e]
    exact g
theorem reachN_lay {h t : Int} {ds : List Int} {n : Nat} {S U : Nat → Bool} (r : Th.ReachN ds.length (Gof h t ds) n S U) : ∀ {L : List Nat}, Lot ds.length L → mem L = S → ∃ M, M ∈ layN h t ds n L ∧ Lot ds.length M ∧ mem M = U := by
  induction r with
  | zero => exact fun {L} hL e => ⟨L, List.mem_singleton.mpr rfl, hL, e⟩
  | step s r ih =>
    intro L hL e
    rw [← e] at s
    obtain ⟨i, hi, ew⟩ := step_lets hL s
    have il := List.mem_range.mp (List.mem_filter.mp hi).1
    obtain ⟨M, hM, lM, eM⟩ := ih (gone_lot hL il) ew.symm
    exact ⟨M, List.mem_flatMap.mpr ⟨i, hi, hM⟩, lM, eM⟩
theorem lay_reachN {h t : Int} {ds : List Int} : ∀ {n : Nat} {L M : List Nat}, Lot ds.length L → M ∈ layN h t ds n L → Th.ReachN ds.length (Gof h t ds) n (mem L) (mem M)
  | 0, L, M, _, e => by
    rw [List.mem_singleton.mp e]
    exact .zero _
  | n + 1, L, M, hL, e => by
    obtain ⟨i, hi, hM⟩ := List.mem_flatMap.mp e
    obtain ⟨i1, i2⟩ := List.mem_filter.mp hi
    have il := List.mem_range.mp i1
    refine .step (W := mem (gone L i)) ?_ (lay_reachN (gone_lot hL il) hM)
    rw [may_G, near_cnt hL il] at i2
    rw [gone_mem]
    by_cases z : i ∈ L
    · rw [if_pos z, ← cnt_mem hL] at i2
      exact .dn il (decide_eq_true z) i2
    · rw [if_neg z, ← cnt_mem hL] at i2
      exact .up il (decide_eq_false z) i2
theorem far_lay {h t : Int} {ds : List Int} {L M : List Nat} {f : Nat} (hL : Lot ds.length L) (hM : Lot ds.length M) (a : M ∈ layN h t ds f L) (b : ∀ n, n < f → M ∉ layN h t ds n L) : IsFar h t ds L M f := by
  refine ⟨lay_reachN hL a, fun n r => ?_⟩
  by_cases z : f ≤ n
  · exact z
  · obtain ⟨N, hN, lN, e⟩ := reachN_lay r hL rfl
    rw [lot_ext lN hM fun i _ => by rw [e]] at hN
    exact absurd hN (b n (by omega))
/-! whatever the height -/
theorem gof_shift {x : Int} (h t : Int) (ds : List Int) (s i : Nat) (hi : i < ds.length) : Gof (h + x) (t + x) (ds.map (· + x)) s i = Gof h t ds s i := by
  unfold Gof
  have g : (ds.map (· + x)).getD i 0 = ds.getD i 0 + x := by
    rw [List.getD_eq_getElem?_getD, List.getD_eq_getElem?_getD, List.getElem?_map, List.getElem?_eq_getElem hi]
    rfl
  rw [g, List.length_map, decide_eq_decide]
  unfold mk
  split <;> split <;> omega
theorem reachN_congr {k : Nat} {G G' : Nat → Nat → Bool} (e : ∀ s i, i < k → G s i = G' s i) {n : Nat} {S U : Nat → Bool} (r : Th.ReachN k G n S U) : Th.ReachN k G' n S U := by
  induction r with
  | zero => exact .zero _
  | step s _ ih =>
    refine .step ?_ ih
    cases s with
    | up hi z g => exact .up hi z (by rw [← e _ _ hi]; exact g)
    | dn hi z g => exact .dn hi z (by rw [← e _ _ hi]; exact g)
theorem far_shift {x h t : Int} {ds : List Int} {L M : List Nat} {f : Nat} (a : IsFar h t ds L M f) : IsFar (h + x) (t + x) (ds.map (· + x)) L M f := by
  unfold IsFar
  rw [List.length_map]
  have e := gof_shift (x := x) h t ds
  exact ⟨reachN_congr (fun s i hi => (e s i hi).symm) a.1, fun n r => a.2 n (reachN_congr e r)⟩
theorem rl_shift {x h t : Int} {ds : List Int} {L M : List Nat} (a : Rl h t ds L M) : Rl (h + x) (t + x) (ds.map (· + x)) L M := by
  unfold Rl
  rw [List.length_map]
  have e := gof_shift (x := x) h t ds
  exact Th.Reach.congrI (fun s i hi => (e s i hi).symm) a
def row3 : List Nat → List Nat
  | [] => [0, 1, 0]
  | [0] => [0, 1]
  | [1] => []
  | [0, 1] => [0]
  | [2] => [2, 1]
  | [0, 2] => [2, 1, 0]
  | [1, 2] => [2]
  | _ => [2, 0]
theorem all3 : ∀ M ∈ allLots 3, goes 0 0 [0, 1, 1] [1] (row3 M) = some M := by decide +kernel
theorem sea3 (x : Int) : x + 0 = x ∧ [0, 1, 1].map (· + x) = [x, x + 1, x + 1] := by
  constructor
  · omega
  · show [0 + x, 1 + x, 1 + x] = _
    rw [Int.zero_add, Int.add_comm 1 x]
theorem rl3 {x : Int} {M : List Nat} (hM : Lot 3 M) : Rl x x [x, x + 1, x + 1] [1] M := by
  have g := all3 M (lot_all hM)
  have r := (goes_rl (ds := [0, 1, 1]) (L := [1]) ⟨by simp, by simp⟩ g).2
  have s := rl_shift (x := x) r
  rw [Int.zero_add, (sea3 x).2] at s
  exact s
theorem far3 {x : Int} : IsFar x x [x, x + 1, x + 1] [] [0, 1, 2] 5 ∧ IsFar x x [x, x + 1, x + 1] [1] [2] 2 := by
  have a : IsFar 0 0 [0, 1, 1] [] [0, 1, 2] 5 := far_lay (Lot.nil _) (Lot.all 3) (by decide +kernel) (by decide +kernel)
  have b : IsFar 0 0 [0, 1, 1] [1] [2] 2 := far_lay ⟨by simp, by simp⟩ ⟨by simp, by simp⟩ (by decide +kernel) (by decide +kernel)
  have a' := far_shift (x := x) a
  have b' := far_shift (x := x) b
  rw [Int.zero_add, (sea3 x).2] at a' b'
  exact ⟨a', b'⟩
theorem sz3 {x : Int} : Sz x x [x, x + 1, x + 1] [1] = 8 ∧ Fn x x [x, x + 1, x + 1] = 1 := by
  have l1 : Lot [x, x + 1, x + 1].length [1] := ⟨by simp, by simp⟩
  have s : Sz x x [x, x + 1, x + 1] [1] = 8 := by
    unfold Sz
    refine Eq.trans (Ct.fam_of (P := fun _ => true) (memO l1) fun M ho => ⟨fun _ => rfl, fun _ => ?_⟩) (Ct.cf_all 3)
    have e : M = mem (lotOf 3 M) := by
      funext i
      by_cases hi : i < 3
      · rw [lotOf_mem hi]
      · rw [ho i hi, memO l1 i hi, mem_out (lotOf_lot 3 M) hi]
    rw [e]
    exact rl3 (lotOf_lot _ _)
  have b := fn_bounds (h := x) (t := x) (ds := [x, x + 1, x + 1]) (by simp) l1
  rw [s] at b
  refine ⟨s, ?_⟩
  have : 2 ^ [x, x + 1, x + 1].length = 8 := rfl
  omega
/-! ### two ships -/
section
variable {x : Int} {m : Nat}
theorem two_rep (x : Int) : [x + 1, x + 1] = List.replicate 2 (x + 1) := rfl
theorem alk_pair : Alk x x [x + 1, x + 1] 1 1 := alk_rep (n := 2) (d := x + 1) (l1 := 1) (l2 := 1) (by omega) (by omega)
theorem alk_here : Alk (hS true x m) (tS true x m) [x + 1, x + 1] (1 - m) 1 := by
  have A := alk_rep (n := 2) (d := x + 1) (l1 := 1 - m) (l2 := 1) (h := x + m) (t := x) (by omega) (by omega)
  rw [show ((1 : Int) - m).toNat = 1 - m by omega] at A
  exact A
theorem alk_there : Alk (hS false x m) (tS false x m) [x + 1, x + 1] 1 (2 - (1 - m)) := by
  have A := alk_rep (n := 2) (d := x + 1) (l1 := 1) (l2 := 1 - m) (h := x) (t := x + m) (by omega) (by omega)
  rw [show ((1 : Int) - m).toNat = 1 - m by omega] at A
  exact A
theorem alk_deeper : Alk (x + 1) x [x + 1, x + 1] 0 1 := alk_rep (n := 2) (d := x + 1) (l1 := 0) (l2 := 1) (by omega) (by omega)
theorem lot2 : Lot [x + 1, x + 1].length [0] ∧ Lot [x + 1, x + 1].length [0, 1] := ⟨⟨by simp, by simp⟩, ⟨by simp, by simp⟩⟩
theorem pair_counts : Sz x x [x + 1, x + 1] [] = 1 ∧ Fn x x [x + 1, x + 1] = 4 := by
  have e : [x + 1, x + 1].length = 2 := rfl
  constructor
  · rw [alk_pair.sz (Lot.nil _), e]
    decide +kernel
  · rw [alk_pair.fn (by simp), e]
    decide +kernel
theorem deeper_counts : Fn (x + 1) x [x + 1, x + 1] = 2 ∧ Sz (x + 1) x [x + 1, x + 1] [] = 3 ∧ Sz (x + 1) x [x + 1, x + 1] [0, 1] = 1 := by
  have e : [x + 1, x + 1].length = 2 := rfl
  refine ⟨?_, ?_, ?_⟩
  · rw [alk_deeper.fn (by simp), e]
    decide +kernel
  · rw [alk_deeper.sz (Lot.nil _), e]
    decide +kernel
  · rw [alk_deeper.sz lot2.2, e]
    decide +kernel
theorem need2 {s : Bool} {most : Nat} (nd : NeedI x x [x + 1, x + 1] s most) : 1 ≤ most := by
  have := nd.2 (x + 1) (by simp)
  cases s <;> simp at this <;> omega
theorem pair_least {r : V} {most : Nat} :
    (NeedI x x [x + 1, x + 1] true most → IsLeastP (fun m => Rl (hS true x m) (tS true x m) [x + 1, x + 1] [] [0]) most r → r = .int 1) ∧
    (IsLeastP (fun m => Rl (hS true x m) (tS true x m) [x + 1, x + 1] [] [0, 1]) most r → r = .non) ∧
    (IsLeastP (fun m => Rl (hS false x m) (tS false x m) [x + 1, x + 1] [] [0]) most r → r = .non) ∧
    (NeedI x x [x + 1, x + 1] false most → IsLeastP (fun m => Rl (hS false x m) (tS false x m) [x + 1, x + 1] [0] [0, 1]) most r → r = .int 1) := by
  refine ⟨fun nd a => ?_, fun a => ?_, fun a => ?_, fun nd a => ?_⟩
  · refine least_at a (fun m => ?_) (need2 nd)
    rw [alk_here.rl (Lot.nil _) lot2.1]
    unfold Ct.bandB
    simp
    omega
  · refine least_no a fun m => ?_
    rw [alk_here.rl (Lot.nil _) lot2.2]
    unfold Ct.bandB
    simp
  · refine least_no a fun m => ?_
    rw [alk_there.rl (Lot.nil _) lot2.1]
    unfold Ct.bandB
    simp
  · refine least_at a (fun m => ?_) (need2 nd)
    rw [alk_there.rl lot2.1 lot2.2]
    unfold Ct.bandB
    simp
    omega
theorem near_nil (i : Nat) : near [] i = 0 := rfl
theorem near_two {i : Nat} (hi : i < 2) : near [0, 1] i = 1 := by
  rcases (by omega : i = 0 ∨ i = 1) with rfl | rfl <;> decide
theorem mv_here {g : Nat} (hg : g < 2) : Mv (hS true x m) (tS true x m) [x + 1, x + 1] [] g ↔ 1 ≤ m := by
  constructor
  · rintro ⟨M, hM, r, mb⟩
    rcases (alk_here.rl (Lot.nil _) hM).mp r with z | z
    · rw [z] at mb
      have := (alk_here.may (Lot.nil _) hg).mp mb
      rw [near_nil] at this
      omega
    · have := of_decide_eq_true z.1
      omega
  · intro m1
    refine ⟨[], Lot.nil _, .refl _, (alk_here.may (Lot.nil _) hg).mpr ?_⟩
    rw [near_nil]
    omega
theorem mv_there {g : Nat} (hg : g < 2) : ¬ Mv (hS false x m) (tS false x m) [x + 1, x + 1] [] g := by
  rintro ⟨M, hM, r, mb⟩
  rcases (alk_there.rl (Lot.nil _) hM).mp r with z | z
  · rw [z] at mb
    have := (alk_there.may (Lot.nil _) hg).mp mb
    rw [near_nil] at this
    omega
  · have := of_decide_eq_true z.1
    have := this.2.1
    simp at this
theorem mv_both {g : Nat} (hg : g < 2) : Mv (hS false x m) (tS false x m) [x + 1, x + 1] [0, 1] g ↔ 1 ≤ m := by
  constructor
  · rintro ⟨M, hM, r, mb⟩
    rcases (alk_there.rl lot2.2 hM).mp r with z | z
    · rw [z] at mb
      have := (alk_there.may lot2.2 hg).mp mb
      rw [near_two hg] at this
      omega
    · have := of_decide_eq_true z.1
      omega
  · intro m1
    refine ⟨[0, 1], lot2.2, .refl _, (alk_there.may lot2.2 hg).mpr ?_⟩
    rw [near_two hg]
    omega
theorem two_of47 {rs : List V} {r : V} (l : rs.length = 2) (e : ∀ g y, g < 2 → rs[g]? = some y → y = r) : rs = [r, r] := by
  match rs, l with
  | [a, b], _ => rw [e 0 a (by decide) rfl, e 1 b (by decide) rfl]
theorem pair_freed {rs : List V} {most : Nat} :
    (NeedI x x [x + 1, x + 1] true most → Freed x x [x + 1, x + 1] [] true most rs → rs = [.int 1, .int 1]) ∧
    (Freed x x [x + 1, x + 1] [] false most rs → rs = [.non, .non]) ∧
    (NeedI x x [x + 1, x + 1] false most → Freed x x [x + 1, x + 1] [0, 1] false most rs → rs = [.int 1, .int 1]) :=
  ⟨fun nd f => two_of47 f.1 fun g y hg e => least_at (f.2 g y e) (fun m => mv_here hg) (need2 nd), fun f => two_of47 f.1 fun g y hg e => least_no (f.2 g y e) fun m => mv_there hg, fun nd f => two_of47 f.1 fun g y hg e => least_at (f.2 g y e) (fun m => mv_both hg) (need2 nd)⟩
end
end Sh

namespace Sh
open PySem PySem.Spec PyProof.Rows L2
/-! ### the law's own choices -/
def spChoose : Sp := fun vs H Q _ => ∃ (n : Nat) (m : Int), vs = [.int (n : Int), .int m] ∧ n ≤ 1000 ∧ m ≤ 1000 ∧ Q (.int ((if m < 0 then 0 else Ct.bin n m.toNat : Nat) : Int)) H
abbrev s__law_choose : Stmt := topS 64
theorem sc__law_choose : FnScope (["_law_some", "_law_few", "_law_found", "_law_k"] : List Str) (["_law_some", "_law_few"] : List Str) (defScope s__law_choose) := ⟨rfl, rfl, rfl, by decide +kernel, rfl, by decide +kernel, by decide +kernel⟩
theorem b__law_choose (kV doc pm : Value) (an : Option Addr) (cdv ct : Value) (us : List Value) (hl : us.length = (["_law_some", "_law_few"] : List Str).length) : bindArgs (PySem.W.fnOf "_law_choose" "_law_choose" (defArgs s__law_choose) (defBody s__law_choose) (defScope s__law_choose) .none kV doc pm an cdv ct) ⟨us, []⟩ = pure ((["_law_some", "_law_few"] : List Str).zip us) :=
  match us, hl with | [_, _], _ => rfl
section
variable {P : Program} {w : World} {K : PySem.W.Frag} {mg : Str → Option Value} {base : Heap}
theorem ok_choose {k : Nat} (D : Df K mg "_law_choose" s__law_choose) (T : Bt mg) : Ok P w K mg base (k + 1) "_law_choose" s__law_choose ["_law_some", "_law_few"] spChoose := by
  refine D.ok sc__law_choose b__law_choose (fun vs H Q E h => ?_) (fun f cdv A outer s H vs Q E hr h => ?_)
  · obtain ⟨n, m, rfl, _⟩ := h
    rfl
  · obtain ⟨n, m, rfl, n1, m1, q⟩ := h
    refine ⟨_, (pss_cons (ps_set (i := 2) sc__law_choose.nd rfl (.inl rfl) (pe_callTy call_int1 (by rfl) T.int_ (by decide +kernel) (pa_cons (pe_chain op_le op_le pe_int (pv 1) (pv 0)) pa_nil)))
      (pss_cons (ps_for PassesOwn.never rfl (pi_range1 (by rfl) T.range_ (pa_cons (pe_ifExp (pt_cmpR op_eq (pv 2) pe_int (nomark _)) (pv 1) pe_int) pa_nil)) (pg_name (i := 3) sc__law_choose.nd rfl (.inl rfl))
        (pss_one (ps_set (i := 2) sc__law_choose.nd rfl (.inl rfl) (pe_op op_fdiv (pe_op op_mul (pv 2) (pe_op op_sub (pv 0) (pv 3))) (pe_op op_add (pv 3) pe_int)))))
      (pss_one (ps_ret (pv 2))))), ?_⟩
    have no : ¬ (0 ≤ m ∧ m ≤ (n : Int)) → (if m < 0 then 0 else Ct.bin n m.toNat : Nat) = 0 := fun z => by
      split
      · rfl
      · exact Ct.bin_gt (by omega)
    have none_ : ¬ (0 ≤ m ∧ m ≤ (n : Int)) → Q (.int 0) H := fun z => by
      rw [no z] at q
      exact q
    refine ⟨_, rfl, _, _, rfl, rfl, _, rfl, ite2 (fun c1 => ?_) (fun c1 => ?_)⟩
    · refine ⟨_, rfl, _, _, rfl, rfl, ?_⟩
      refine .inr ⟨_, rfl, ?_⟩
      by_cases c2 : m ≤ (n : Int)
      · rw [if_pos (decide_eq_true c2)]
        refine ⟨_, rfl, rfl, _, rfl, iteT ?_⟩
        obtain ⟨tn, rfl⟩ := Int.eq_ofNat_of_zero_le (of_decide_eq_true c1)
        rw [if_neg (by omega), Int.toNat_natCast] at q
        refine ⟨_, rfl, (tn : Int), rfl, by omega, by omega, ?_⟩
        refine for_range (lo := 0) (n := tn) (fun i σ H' => ∃ y3 : Option V, σ = [some (.int (n : Int)), some (.int (tn : Int)), some (.int ((Ct.bin n i : Nat) : Int)), y3] ∧ H' = H) ⟨none, by rw [Ct.bin_zero]; rfl, rfl⟩ ?_ ?_
        · rintro i σ H1 hi ⟨y3, rfl, rfl⟩
          refine ⟨_, rfl, _, rfl, _, rfl, _, _, rfl, rfl, _, _, rfl, rfl, .inr ⟨by omega, by omega⟩, _, rfl, _, 1, rfl, rfl, _, _, rfl, rfl, ⟨by omega, by omega⟩, ?_⟩
          refine ⟨some (.int (0 + (i : Int))), ?_, rfl⟩
          have e : ((Ct.bin n i : Nat) : Int) * ((n : Int) - (0 + (i : Int))) / (0 + (i : Int) + 1) = ((Ct.bin n (i + 1) : Nat) : Int) := by
            have b := Ct.bin_step (n := n) (p := i) (by omega)
            have c : ((Ct.bin n i : Nat) : Int) * ((n : Int) - (0 + (i : Int))) = ((Ct.bin n (i + 1) : Nat) : Int) * (0 + (i : Int) + 1) := by
              have d := congrArg (fun n : Nat => (n : Int)) b
              simp only [Int.natCast_mul] at d
              rw [show ((n - i : Nat) : Int) = (n : Int) - (0 + (i : Int)) by omega, show ((i + 1 : Nat) : Int) = 0 + (i : Int) + 1 by omega] at d
              exact d
            rw [c]
            exact Int.mul_ediv_cancel _ (by omega)
          rw [← e]
          rfl
        · rintro σ H1 ⟨y3, rfl, rfl⟩
          exact ⟨_, rfl, q⟩
      · rw [if_neg (by simpa using c2)]
        refine ⟨_, rfl, rfl, _, rfl, iteF ?_⟩
        refine ⟨(0 : Int), rfl, by omega, by omega, ?_⟩
        refine for_range (lo := 0) (n := 0) (fun i σ H' => ∃ y3 : Option V, σ = [some (.int (n : Int)), some (.int m), some (.int 0), y3] ∧ H' = H) ⟨none, rfl, rfl⟩ ?_ ?_
        · intro i σ H1 hi
          exact absurd hi (by simp)
        · rintro σ H1 ⟨y3, rfl, rfl⟩
          exact ⟨_, rfl, none_ (fun z => by omega)⟩
    · refine .inr ⟨false, rfl, ?_⟩
      rw [if_neg Bool.false_ne_true]
      refine ⟨_, rfl, rfl, _, rfl, iteF ?_⟩
      refine ⟨(0 : Int), rfl, by omega, by omega, ?_⟩
      refine for_range (lo := 0) (n := 0) (fun i σ H' => ∃ y3 : Option V, σ = [some (.int (n : Int)), some (.int m), some (.int 0), y3] ∧ H' = H) ⟨none, rfl, rfl⟩ ?_ ?_
      · intro i σ H1 hi
        exact absurd hi (by simp)
      · rintro σ H1 ⟨y3, rfl, rfl⟩
        exact ⟨_, rfl, none_ (fun z => by exact c1 (decide_eq_true z.1))⟩
end
end Sh

namespace Sh
open PySem PySem.Spec PyProof.Rows L2
/-! ### k47: two by two; ships all alike -/
def spTwo : Sp := fun vs H Q _ => ∃ (n : Nat), vs = [.int (n : Int)] ∧ n ≤ 1000 ∧ Q (.int ((2 ^ n : Nat) : Int)) H
def spAlike : Sp := fun vs H Q _ => ∃ (b : Addr) (n : Nat), vs = [.ref b] ∧ BoxAt H b (n + 100) ∧ ∀ H', But b H H' → BoxAt H' b n → Q (.bl true) H'
theorem rep_flat47 (n : Nat) (x : Int) : (List.replicate ((n : Nat) : Int).toNat [V.int x]).flatten = (List.replicate n x).map V.int := by
  rw [Int.toNat_natCast]
  induction n with
  | zero => rfl
  | succ n ih => rw [List.replicate_succ, List.replicate_succ, List.flatten_cons, ih]; rfl
def lotsUp (c a e i : Nat) : Nat := ((List.range i).map fun x => if Ct.bandB a e x = true then 0 else Ct.bin c x).sum
theorem lotsUp_succ (c a e i : Nat) : lotsUp c a e (i + 1) = lotsUp c a e i + if Ct.bandB a e i = true then 0 else Ct.bin c i := by
  unfold lotsUp
  rw [List.range_succ, List.map_append, List.sum_append]
  simp
theorem sum_seg (f : Nat → Nat) (a e : Nat) : ∀ n, ((List.range n).map fun x => if a ≤ x ∧ x ≤ e then f x else 0).sum = ((List.range ((if n ≤ e then n else e + 1) - a)).map fun j => f (a + j)).sum
  | 0 => by
    rw [if_pos (Nat.zero_le _), Nat.zero_sub]
    rfl
  | n + 1 => by
    rw [List.range_succ, List.map_append, List.sum_append, sum_seg f a e n]
    show _ + ((if a ≤ n ∧ n ≤ e then f n else 0) + 0) = _
    by_cases c : a ≤ n ∧ n ≤ e
    · rw [if_pos c, if_pos c.2, show (if n + 1 ≤ e then n + 1 else e + 1) = n + 1 by split <;> omega, show n + 1 - a = (n - a) + 1 by omega, List.range_succ, List.map_append, List.sum_append]
      show _ = _ + (f (a + (n - a)) + 0)
      rw [show a + (n - a) = n by omega]
    · rw [if_neg c]
      have : (if n + 1 ≤ e then n + 1 else e + 1) - a = (if n ≤ e then n else e + 1) - a := by split <;> split <;> omega
      rw [this]
      omega
theorem sum_cast (f : Nat → Nat) : ∀ n, (((List.range n).map f).sum : Int) = ((List.range n).map fun j => ((f j : Nat) : Int)).sum
  | 0 => rfl
  | n + 1 => by
    rw [List.range_succ, List.map_append, List.map_append, List.sum_append, List.sum_append, Int.natCast_add, sum_cast f n]
    simp
theorem eqvAll47 : ∀ ns : List Int, PyData.eqvAll (ns.map .int) (ns.map .int) = true
  | [] => by simp [PyData.eqvAll]
  | n :: r => by
    have ih := eqvAll47 r
    simp [PyData.eqvAll, PyData.eqv] at ih ⊢
    exact ih
theorem eqvL47 (ns : List Int) : PyData.eqv (.list (ns.map .int)) (.list (ns.map .int)) = true := by
  have := eqvAll47 ns
  simp [PyData.eqv, this]
theorem band_sum {c a e : Nat} (ae : a < e) (ec : e ≤ c) : ((List.range (c + 1)).map fun x => if Ct.bandB a e x = true then Ct.bin c x else 0).sum = ((List.range (e + 1 - a)).map fun j => Ct.bin c (a + j)).sum := by
  have h := sum_seg (Ct.bin c) a e (c + 1)
  have e1 : (if c + 1 ≤ e then c + 1 else e + 1) = e + 1 := by split <;> omega
  rw [e1] at h
  rw [← h]
  congr 1
  refine List.map_congr_left fun x _ => ?_
  by_cases z : a ≤ x ∧ x ≤ e
  · rw [if_pos z, if_pos (show Ct.bandB a e x = true from decide_eq_true ⟨ae, z⟩)]
  · rw [if_neg z, if_neg (show ¬ Ct.bandB a e x = true from fun y => z (of_decide_eq_true y).2)]
abbrev s__law_two : Stmt := topS 65
theorem sc__law_two : FnScope (["_law_few", "_law_found", "_law_turn"] : List Str) (["_law_few"] : List Str) (defScope s__law_two) := ⟨rfl, rfl, rfl, by decide +kernel, rfl, by decide +kernel, by decide +kernel⟩
theorem b__law_two (kV doc pm : Value) (an : Option Addr) (cdv ct : Value) (us : List Value) (hl : us.length = (["_law_few"] : List Str).length) : bindArgs (PySem.W.fnOf "_law_two" "_law_two" (defArgs s__law_two) (defBody s__law_two) (defScope s__law_two) .none kV doc pm an cdv ct) ⟨us, []⟩ = pure ((["_law_few"] : List Str).zip us) :=
  match us, hl with | [_], _ => rfl
abbrev s__law_alike_right : Stmt := topS 66
theorem sc__law_alike_right : FnScope (["_law_box_here", "_law_count", "_law_height", "_law_lacks", "_law_its_lacks", "_law_deep", "_law_pond", "_law_first", "_law_last", "_law_lot_size", "_law_size", "_law_lots", "_law_level", "_law_told"] : List Str) (["_law_box_here"] : List Str) (defScope s__law_alike_right) := ⟨rfl, rfl, rfl, by decide +kernel, rfl, by decide +kernel, by decide +kernel⟩
theorem b__law_alike_right (kV doc pm : Value) (an : Option Addr) (cdv ct : Value) (us : List Value) (hl : us.length = (["_law_box_here"] : List Str).length) : bindArgs (PySem.W.fnOf "_law_alike_right" "_law_alike_right" (defArgs s__law_alike_right) (defBody s__law_alike_right) (defScope s__law_alike_right) .none kV doc pm an cdv ct) ⟨us, []⟩ = pure ((["_law_box_here"] : List Str).zip us) :=
  match us, hl with | [_], _ => rfl
section
variable {P : Program} {w : World} {K : PySem.W.Frag} {mg : Str → Option Value} {base : Heap}
theorem ok_two47 {k : Nat} (D : Df K mg "_law_two" s__law_two) (T : Bt mg) : Ok P w K mg base (k + 1) "_law_two" s__law_two ["_law_few"] spTwo := by
  refine D.ok sc__law_two b__law_two (fun vs H Q E h => ?_) (fun f cdv A outer s H vs Q E hr h => ?_)
  · obtain ⟨n, rfl, _⟩ := h
    rfl
  · obtain ⟨n, rfl, n1, q⟩ := h
    refine ⟨_, (pss_cons (ps_set (i := 1) sc__law_two.nd rfl (.inl rfl) pe_int)
      (pss_cons (ps_for PassesOwn.never rfl (pi_range1 (by rfl) T.range_ (pa_cons (pv 0) pa_nil)) (pg_name (i := 2) sc__law_two.nd rfl (.inl rfl))
        (pss_one (ps_set (i := 1) sc__law_two.nd rfl (.inl rfl) (pe_op op_mul pe_int (pv 1)))))
      (pss_one (ps_ret (pv 1))))), ?_⟩
    refine ⟨_, rfl, (n : Int), rfl, by omega, by omega, ?_⟩
    refine for_range (lo := 0) (n := n) (fun i σ H' => ∃ y2 : Option V, σ = [some (.int (n : Int)), some (.int ((2 ^ i : Nat) : Int)), y2] ∧ H' = H) ⟨none, rfl, rfl⟩ ?_ ?_
    · rintro i σ H1 hi ⟨y2, rfl, rfl⟩
      refine ⟨_, rfl, 2, _, rfl, rfl, .inl ⟨by omega, by omega⟩, ?_⟩
      refine ⟨some (.int (0 + (i : Int))), ?_, rfl⟩
      rw [show ((2 ^ (i + 1) : Nat) : Int) = 2 * ((2 ^ i : Nat) : Int) by rw [Nat.pow_succ]; omega]
      rfl
    · rintro σ H1 ⟨y2, rfl, rfl⟩
      exact ⟨_, rfl, q⟩
theorem ok_alike {k : Nat} (D : Df K mg "_law_alike_right" s__law_alike_right) (T : Bt mg) (O__law_take : Ok P w K mg base k "_law_take" s__law_take ["_law_box_here", "_law_span"] spTake) (O__law_of : Ok P w K mg base k "_law_of" s__law_of ["_law_box_here", "_law_some"] (spOf K)) (O__law_choose : Ok P w K mg base k "_law_choose" s__law_choose ["_law_some", "_law_few"] spChoose)
    (O_family_size : Ok P w K mg base k "family_size" s_family_size ["sea", "standing"] (spFamily K)) (O_families_many : Ok P w K mg base k "families_many" s_families_many ["sea"] (spFamilies K)) : Ok P w K mg base (k + 1) "_law_alike_right" s__law_alike_right ["_law_box_here"] spAlike := by
  refine D.ok sc__law_alike_right b__law_alike_right (fun vs H Q E h => ?_) (fun f cdv A outer s H vs Q E hr h => ?_)
  · obtain ⟨b, n, rfl, _⟩ := h
    rfl
  · obtain ⟨b, n, rfl, hb, q⟩ := h
    refine ⟨_, (pss_cons (ps_asg (pe_tup (pa_cons (pe_op op_add pe_int (pe_fn O__law_take (hr.mono (by omega)) (pa_cons (pv 0) (pa_cons pe_int pa_nil)))) (pa_cons (pe_fn O__law_of (hr.mono (by omega)) (pa_cons (pv 0) (pa_cons (pe_lst (pa_cons pe_int (pa_cons pe_int (pa_cons (pe_op (op_powC 100000000000) pe_int pe_int) pa_nil)))) pa_nil))) pa_nil))) (pg_seq rfl (pgs_cons (pg_name (i := 1) sc__law_alike_right.nd rfl (.inr rfl)) (pgs_cons (pg_name (i := 2) sc__law_alike_right.nd rfl (.inl rfl)) pgs_nil))))
      (pss_cons (ps_par (i := 3) (j := 4) (by rfl) sc__law_alike_right.nd rfl rfl (by decide) rfl rfl (pa_cons (pe_fn O__law_take (hr.mono (by omega)) (pa_cons (pv 0) (pa_cons (pe_op op_add (pv 1) pe_int) pa_nil))) (pa_cons (pe_fn O__law_take (hr.mono (by omega)) (pa_cons (pv 0) (pa_cons (pe_op op_add (pv 1) pe_int) pa_nil))) pa_nil)) (by rfl))
      (pss_cons (ps_set (i := 5) sc__law_alike_right.nd rfl (.inl rfl) (pe_op op_add (pv 2) (pv 1)))
      (pss_cons (ps_set (i := 6) sc__law_alike_right.nd rfl (.inl rfl) (pe_tup (pa_cons (pe_op op_sub (pv 5) (pv 3)) (pa_cons (pe_op op_sub (pv 5) (pv 4)) (pa_cons (pe_callTy call_tuple_of (by rfl) T.tuple_ (by decide +kernel) (pa_cons (pe_op op_rep (pe_lst (pa_cons (pv 5) pa_nil)) (pv 1)) pa_nil)) pa_nil)))))
      (pss_cons (ps_par (i := 7) (j := 8) (by rfl) sc__law_alike_right.nd rfl rfl (by decide) rfl rfl (pa_cons (pv 3) (pa_cons (pe_op op_sub (pe_op op_sub (pv 1) pe_int) (pv 4)) pa_nil)) (by rfl))
      (pss_cons (ps_set (i := 9) sc__law_alike_right.nd rfl (.inl rfl) (pe_fn O__law_take (hr.mono (by omega)) (pa_cons (pv 0) (pa_cons (pe_op op_add (pv 1) pe_int) pa_nil))))
      (pss_cons (ps_asg (pe_tup (pa_cons pe_int (pa_cons pe_int pa_nil))) (pg_seq rfl (pgs_cons (pg_name (i := 10) sc__law_alike_right.nd rfl (.inl rfl)) (pgs_cons (pg_name (i := 11) sc__law_alike_right.nd rfl (.inl rfl)) pgs_nil))))
      (pss_cons (ps_for PassesOwn.never rfl (pi_range1 (by rfl) T.range_ (pa_cons (pe_op op_add (pv 1) pe_int) pa_nil)) (pg_name (i := 12) sc__law_alike_right.nd rfl (.inl rfl))
        (pss_one (ps_set (i := 11) sc__law_alike_right.nd rfl (.inl rfl) (pe_op op_add (pv 11) (pe_op op_mul (pe_fn O__law_choose (hr.mono (by omega)) (pa_cons (pv 1) (pa_cons (pv 12) pa_nil))) (pe_callTy call_int1 (by rfl) T.int_ (by decide +kernel) (pa_cons (pe_or (pe_cmpR op_gt (pv 7) (pv 8) (nomark _)) (pe_one (pe_not (pe_chain op_le op_le (pv 7) (pv 12) (pe_op op_add (pv 8) pe_int))))) pa_nil)))))))
      (Evl.pss_cut (ps_if (pt_cmpR op_le (pv 7) (pv 8) (nomark _))
        (pss_cons (ps_set (i := 11) sc__law_alike_right.nd rfl (.inl rfl) (pe_op op_add (pv 11) pe_int))
          (pss_one (ps_if (pt_chain op_le op_le (pv 7) (pv 9) (pe_op op_add (pv 8) pe_int))
            (pss_one (ps_set (i := 10) sc__law_alike_right.nd rfl (.inl rfl) (pe_callB (cr_sum rfl) (by rfl) T.sum_ (by decide +kernel) (pa_cons (pe_lc (own := [("_law_level", 12)]) (g := (gName 12)) (tt := tYes) (by rfl) sc__law_alike_right.nd (pi_range2 (by rfl) T.range_ (pa_cons (pv 7) (pa_cons (pe_op op_add (pv 8) pe_int) pa_nil))) (blkOk_by (own := [("_law_level", 12)]) (N := (["_law_box_here", "_law_count", "_law_height", "_law_lacks", "_law_its_lacks", "_law_deep", "_law_pond", "_law_first", "_law_last", "_law_lot_size", "_law_size", "_law_lots", "_law_level", "_law_told"] : List Str)) (sc := defScope s__law_alike_right) (by decide +kernel)) (fun _ _ _ _ _ => (pg_name (i := 12) sc__law_alike_right.nd rfl (.inl rfl))) (fun _ _ _ _ _ => pts_nil) (fun _ _ _ _ _ => (pe_fn O__law_choose (hr.mono (by omega)) (pa_cons (pv 1) (pa_cons (pv 12) pa_nil))))) pa_nil))))
            pss_nil)))
        pss_nil)
      (pss_cons (ps_set (i := 13) sc__law_alike_right.nd rfl (.inl rfl) (pe_lst (pa_cons (pe_fn O_family_size (hr.mono (by omega)) (pa_cons (pv 6) (pa_cons (pe_tupRg (by rfl) (by rfl) T.tuple_ (prg_1 (by rfl) T.range_ (pv 9))) pa_nil))) (pa_cons (pe_fn O_families_many (hr.mono (by omega)) (pa_cons (pv 6) pa_nil)) pa_nil))))
      (pss_one (ps_ret (pe_cmpR (op_eqD hr.units) (pv 13) (pe_lst (pa_cons (pv 10) (pa_cons (pv 11) pa_nil))) (nomark _)))))))))))))), ?_⟩
    refine ⟨_, rfl, b, n + 99, 60, rfl, by decide, by decide, hb.mono (by omega), fun vc xc vc0 vc1 bxc => ?_⟩
    have u1 : But b H (upd H b (.lst xc)) := But.ups
    have x1 : BoxAt (upd H b (.lst xc)) b (n + 99) := .put bxc
    generalize upd H b (.lst xc) = H1 at u1 x1
    obtain ⟨c, ec, c0, c60⟩ : ∃ c : Nat, 1 + vc = (c : Int) ∧ 1 ≤ c ∧ c ≤ 60 := ⟨(1 + vc).toNat, by omega, by omega, by omega⟩
    refine ⟨1, vc, rfl, rfl, ?_⟩
    refine ⟨_, rfl, 10, 11, rfl, rfl, ⟨⟨by decide, by decide, by decide⟩, by decide⟩, (by show 3 ≤ sizeLine; decide), fun ql nql => ?_⟩
    have s2 : Same H1 (upd H1 ql (.lst [.int 0, .int 7, .int 100000000000])) := same_new nql
    have e2 : upd H1 ql (.lst [.int 0, .int 7, .int 100000000000]) ql = some (.lst [.int 0, .int 7, .int 100000000000]) := upd_same
    have qb : ql ≠ b := (x1.ne nql).symm
    generalize upd H1 ql (.lst [.int 0, .int 7, .int 100000000000]) = H2 at s2 e2
    have x2 := x1.same s2
    have u2 := u1.trans (Same.but (b := b) s2)
    refine ⟨b, ql, n + 98, _, rfl, SqA.l e2, qb, (by show 0 < 3; decide), (by show 3 < 1000000; decide), x2.mono (by omega), fun vx xe hx hy => ?_⟩
    obtain ⟨ht, rfl, ht0, ht1⟩ : ∃ bs : Int, vx = .int bs ∧ 0 ≤ bs ∧ bs ≤ 100000000000 := by
      have z : vx = .int 0 ∨ vx = .int 7 ∨ vx = .int 100000000000 := by simpa using hx
      rcases z with rfl | rfl | rfl
      · exact ⟨0, rfl, by decide, by decide⟩
      · exact ⟨7, rfl, by decide, by decide⟩
      · exact ⟨100000000000, rfl, by decide, by decide⟩
    have u3 : But b H (upd H2 b (.lst xe)) := u2.trans But.ups
    have x3 : BoxAt (upd H2 b (.lst xe)) b (n + 98) := .put hy
    generalize upd H2 b (.lst xe) = H3 at u3 x3
    refine ⟨(by show 2 ≤ sizeLine; decide), fun t0 nt0 => ?_⟩
    have s4 : Same H3 (upd H3 t0 (.tup [.int (1 + vc), .int ht])) := same_new nt0
    have e4 : upd H3 t0 (.tup [.int (1 + vc), .int ht]) t0 = some (.tup [.int (1 + vc), .int ht]) := upd_same
    dsimp only
    generalize upd H3 t0 (.tup [.int (1 + vc), .int ht]) = H4 at s4 e4
    rw [ec] at e4
    have x4 := x3.same s4
    have u4 := u3.trans (Same.but (b := b) s4)
    refine ⟨t0, _, rfl, SqA.t e4, rfl, _, _, rfl, _, _, rfl, rfl, ?_⟩
    -- lacks
    refine ⟨_, rfl, _, rfl, (c : Int), 1, rfl, rfl, b, n + 97, (c : Int) + 1, rfl, by omega, by omega, x4.mono (by omega), fun v1 xs1 v10 v11 b1 => ?_⟩
    have u5 : But b H (upd H4 b (.lst xs1)) := u4.trans But.ups
    have x5 : BoxAt (upd H4 b (.lst xs1)) b (n + 97) := .put b1
    generalize upd H4 b (.lst xs1) = H5 at u5 x5
    refine ⟨_, rfl, _, rfl, (c : Int), 1, rfl, rfl, b, n + 96, (c : Int) + 1, rfl, by omega, by omega, x5.mono (by omega), fun v2 xs2 v20 v21 b2 => ?_⟩
    have u6 : But b H (upd H5 b (.lst xs2)) := u5.trans But.ups
    have x6 : BoxAt (upd H5 b (.lst xs2)) b (n + 96) := .put b2
    generalize upd H5 b (.lst xs2) = H6 at u6 x6
    obtain ⟨a, rfl⟩ := Int.eq_ofNat_of_zero_le v10
    obtain ⟨a', rfl⟩ := Int.eq_ofNat_of_zero_le v20
    refine ⟨_, _, rfl, ?_⟩
    refine ⟨_, rfl, _, rfl, ht, (c : Int), rfl, rfl, ?_⟩
    obtain ⟨dp, edp⟩ : ∃ dp : Int, dp = ht + (c : Int) := ⟨_, rfl⟩
    refine ⟨_, rfl, _, rfl, dp, (a : Int), by rw [edp], rfl, _, rfl, _, rfl, dp, (a' : Int), by rw [edp], rfl, _, rfl, (by show 1 ≤ sizeLine; decide), fun q1 nq1 => ?_⟩
    have s7 : Same H6 (upd H6 q1 (.lst [.int dp])) := same_new nq1
    have g7 : upd H6 q1 (.lst [.int dp]) q1 = some (.lst [.int dp]) := upd_same
    subst edp
    refine ⟨_, rfl, q1, (c : Int), _, rfl, rfl, g7, by omega, by omega, ?_, fun q2 nq2 => ?_⟩
    · show 1 * ((c : Nat) : Int).toNat ≤ sizeLine
      exact Nat.le_of_lt (small1000 (by omega))
    rw [rep_flat47 c (ht + (c : Int))]
    generalize upd H6 q1 (.lst [.int (ht + (c : Int))]) = H7 at s7 g7 nq2
    have s8 : Same H7 (upd H7 q2 (.lst ((List.replicate c (ht + (c : Int))).map V.int))) := same_new nq2
    have g8 : upd H7 q2 (.lst ((List.replicate c (ht + (c : Int))).map V.int)) q2 = some (.lst ((List.replicate c (ht + (c : Int))).map V.int)) := upd_same
    generalize upd H7 q2 (.lst ((List.replicate c (ht + (c : Int))).map V.int)) = H8 at s8 g8
    refine ⟨q2, _, rfl, .inl ⟨SqL.of g8, fun q3 nq3 => ?_⟩⟩
    have s9 : Same H8 (upd H8 q3 (.tup ((List.replicate c (ht + (c : Int))).map V.int))) := same_new nq3
    have g9 : upd H8 q3 (.tup ((List.replicate c (ht + (c : Int))).map V.int)) q3 = some (.tup ((List.replicate c (ht + (c : Int))).map V.int)) := upd_same
    generalize upd H8 q3 (.tup ((List.replicate c (ht + (c : Int))).map V.int)) = H9 at s9 g9
    refine ⟨(by show 3 ≤ sizeLine; decide), fun pp npp => ?_⟩
    have s10 : Same H9 (upd H9 pp (.tup [.int (ht + (c : Int) - (a : Int)), .int (ht + (c : Int) - (a' : Int)), .ref q3])) := same_new npp
    have g10 : upd H9 pp (.tup [.int (ht + (c : Int) - (a : Int)), .int (ht + (c : Int) - (a' : Int)), .ref q3]) pp = some (.tup [.int (ht + (c : Int) - (a : Int)), .int (ht + (c : Int) - (a' : Int)), .ref q3]) := upd_same
    generalize upd H9 pp (.tup [.int (ht + (c : Int) - (a : Int)), .int (ht + (c : Int) - (a' : Int)), .ref q3]) = H10 at s10 g10
    have hv10 : SeaT K H10 (.ref pp) (ht + (c : Int) - (a : Int)) (ht + (c : Int) - (a' : Int)) (List.replicate c (ht + (c : Int))) := ⟨pp, q3, rfl, SqT.of g10, SqT.of (s10 _ _ g9)⟩
    have u10 : But b H H10 := u6.trans (Same.but (s7.trans (s8.trans (s9.trans s10))))
    have x10 := x6.same (s7.trans (s8.trans (s9.trans s10)))
    have A : Alk (ht + (c : Int) - (a : Int)) (ht + (c : Int) - (a' : Int)) (List.replicate c (ht + (c : Int))) a (c - a') := alk_rep (l1 := (a : Int)) (l2 := (a' : Int)) rfl rfl
    clear u1 u2 u3 u4 u5 u6 s2 s4 s7 s8 s9 s10 x1 x2 x3 x4 x5 x6 e2 e4 g7 g8 g9 g10 nql nt0 nq1 nq2 nq3 npp hx hy
    obtain ⟨dp, edp⟩ : ∃ dp : Int, dp = ht + (c : Int) := ⟨_, rfl⟩
    rw [← edp] at hv10 A
    refine ⟨_, rfl, _, rfl, (c : Int), 1, rfl, rfl, _, rfl, (c : Int) - 1, (a' : Int), rfl, rfl, _, _, rfl, ?_⟩
    refine ⟨_, rfl, _, rfl, (c : Int), 1, rfl, rfl, b, n + 95, (c : Int) + 1, rfl, by omega, by omega, x10.mono (by omega), fun v3 xs3 v30 v31 b3 => ?_⟩
    have u11 : But b H (upd H10 b (.lst xs3)) := u10.trans But.ups
    have x11 : BoxAt (upd H10 b (.lst xs3)) b (n + 95) := .put b3
    have hv11 : SeaT K (upd H10 b (.lst xs3)) (.ref pp) (dp - (a : Int)) (dp - (a' : Int)) (List.replicate c dp) := hv10.but x10 But.ups
    generalize upd H10 b (.lst xs3) = H11 at u11 x11 hv11
    obtain ⟨sz, rfl⟩ := Int.eq_ofNat_of_zero_le v30
    refine ⟨(by show 2 ≤ sizeLine; decide), fun t1 nt1 => ?_⟩
    have s12 : Same H11 (upd H11 t1 (.tup [.int 1, .int 0])) := same_new nt1
    have e12 : upd H11 t1 (.tup [.int 1, .int 0]) t1 = some (.tup [.int 1, .int 0]) := upd_same
    generalize upd H11 t1 (.tup [.int 1, .int 0]) = H12 at s12 e12
    refine ⟨t1, _, rfl, SqA.t e12, rfl, _, _, rfl, _, _, rfl, rfl, ?_⟩
    have hv12 := hv11.same s12
    have x12 := x11.same s12
    have u12 := u11.trans (Same.but (b := b) s12)
    -- level by level
    refine ⟨_, rfl, (c : Int), 1, rfl, rfl, ((c + 1 : Nat) : Int), by rw [Int.natCast_add]; rfl, by omega, by omega, ?_⟩
    refine for_range (lo := 0) (n := ((c + 1 : Nat) : Int).toNat) (fun i σ H' => ∃ (y12 y13 : Option V), σ = [some (.ref b), some (.int (c : Int)), some (.int ht), some (.int (a : Int)), some (.int (a' : Int)), some (.int dp), some (.ref pp), some (.int (a : Int)), some (.int ((c : Int) - 1 - (a' : Int))), some (.int (sz : Int)), some (.int 1), some (.int ((lotsUp c a (c - a') i : Nat) : Int)), y12, y13] ∧ H' = H12) ⟨none, none, by rw [edp]; rfl, rfl⟩ ?_ ?_
    · rintro i σ Hi hi ⟨y12, y13, rfl, rfl⟩
      have ic : i ≤ c := by omega
      refine ⟨_, rfl, _, rfl, _, rfl, c, 0 + (i : Int), rfl, by omega, by omega, ?_⟩
      have fin : ∀ kk : Bool, kk = !Ct.bandB a (c - a') i → [some (V.ref b), some (V.int (c : Int)), some (V.int ht), some (V.int (a : Int)), some (V.int (a' : Int)), some (V.int dp), some (V.ref pp), some (V.int (a : Int)), some (V.int ((c : Int) - 1 - (a' : Int))), some (V.int (sz : Int)), some (V.int 1), some (V.int (((lotsUp c a (c - a') i : Nat) : Int) + (((if 0 + (i : Int) < 0 then 0 else Ct.bin c (0 + (i : Int)).toNat : Nat) : Int)) * (if kk = true then 1 else 0))), some (V.int (0 + (i : Int))), y13] = [some (V.ref b), some (V.int (c : Int)), some (V.int ht), some (V.int (a : Int)), some (V.int (a' : Int)), some (V.int dp), some (V.ref pp), some (V.int (a : Int)), some (V.int ((c : Int) - 1 - (a' : Int))), some (V.int (sz : Int)), some (V.int 1), some (V.int ((lotsUp c a (c - a') (i + 1) : Nat) : Int)), some (V.int (0 + (i : Int))), y13] := fun kk e => by
        rw [lotsUp_succ, if_neg (by omega), show (0 + (i : Int)).toNat = i by omega, e]
        cases Ct.bandB a (c - a') i with
        | true => simp
        | false => simp
      refine ⟨_, rfl, _, rfl, _, _, rfl, rfl, _, rfl, ite2 (fun c1 => ?_) (fun c1 => ?_)⟩
      · have c1' := of_decide_eq_true c1
        exact .inr ⟨true, rfl, _, _, rfl, rfl, .inr ⟨by decide, by decide⟩, _, _, rfl, rfl, _, _, fin true (Eq.symm (Bool.not_eq_true' _ ▸ decide_eq_false fun z => by omega)), rfl⟩
      · have c1' := of_decide_eq_false (show decide ((c : Int) - 1 - (a' : Int) < (a : Int)) = false by simpa using c1)
        refine ⟨_, rfl, _, rfl, _, _, rfl, rfl, _, rfl, ite2 (fun c2 => ?_) (fun c2 => ?_)⟩
        · have c2' := of_decide_eq_true c2
          refine ⟨_, rfl, _, 1, rfl, rfl, _, _, rfl, rfl, _, rfl, ?_⟩
          refine .inr ⟨_, rfl, _, _, rfl, rfl, .inr ⟨by split <;> decide, by split <;> decide⟩, _, _, rfl, rfl, _, _, fin _ ?_, rfl⟩
          congr 1
          unfold Ct.bandB
          rw [decide_eq_decide]
          omega
        · have c2' := of_decide_eq_false (show decide ((a : Int) ≤ 0 + (i : Int)) = false by simpa using c2)
          exact ⟨false, rfl, .inr ⟨true, rfl, _, _, rfl, rfl, .inr ⟨by decide, by decide⟩, _, _, rfl, rfl, _, _, fin true (Eq.symm (Bool.not_eq_true' _ ▸ decide_eq_false fun z => by omega)), rfl⟩⟩
    · rintro σ Hi ⟨y12, y13, rfl, rfl⟩
      have len : (List.replicate c dp).length = c := List.length_replicate
      have szE := A.sz (L := List.range sz) (by rw [len]; exact ⟨List.pairwise_lt_range, fun i hi => by have := List.mem_range.mp hi; omega⟩)
      have fnE := A.fn (by rw [len]; omega)
      rw [len] at szE fnE
      rw [List.length_range] at szE
      refine ⟨fun σ' H' => ∃ (y12 y13 : Option V), σ' = [some (.ref b), some (.int (c : Int)), some (.int ht), some (.int (a : Int)), some (.int (a' : Int)), some (.int dp), some (.ref pp), some (.int (a : Int)), some (.int ((c : Int) - 1 - (a' : Int))), some (.int (sz : Int)), some (.int ((Sz (dp - (a : Int)) (dp - (a' : Int)) (List.replicate c dp) (List.range sz) : Nat) : Int)), some (.int ((Fn (dp - (a : Int)) (dp - (a' : Int)) (List.replicate c dp) : Nat) : Int)), y12, y13] ∧ Same Hi H', ?_, ?_⟩
      · refine ⟨_, rfl, _, rfl, _, _, rfl, rfl, _, rfl, ite2 (fun c1 => ?_) (fun c1 => ?_)⟩
        · have c1' := of_decide_eq_true c1
          have ae : a < c - a' := by omega
          have lots : lotsUp c a (c - a') (c + 1) + 1 = Fn (dp - (a : Int)) (dp - (a' : Int)) (List.replicate c dp) := by
            rw [fnE, if_pos ae]
            rfl
          have en : ((c + 1 : Nat) : Int).toNat = c + 1 := by omega
          have lotsV : (((lotsUp c a (c - a') (((c + 1 : Nat) : Int).toNat) : Nat) : Int) + 1) = ((Fn (dp - (a : Int)) (dp - (a' : Int)) (List.replicate c dp) : Nat) : Int) := by
            rw [en, ← lots]
            omega
          have one : Ct.bandB a (c - a') sz = false → Sz (dp - (a : Int)) (dp - (a' : Int)) (List.replicate c dp) (List.range sz) = 1 := fun z => by
            rw [szE, if_neg (by rw [z]; exact Bool.false_ne_true)]
          have fin1 : ∀ {y12 y13 : Option V} {Hj : Hp} (sv : Nat), sv = Sz (dp - (a : Int)) (dp - (a' : Int)) (List.replicate c dp) (List.range sz) → Same Hi Hj → ∃ (z12 z13 : Option V), [some (V.ref b), some (V.int (c : Int)), some (V.int ht), some (V.int (a : Int)), some (V.int (a' : Int)), some (V.int dp), some (V.ref pp), some (V.int (a : Int)), some (V.int ((c : Int) - 1 - (a' : Int))), some (V.int (sz : Int)), some (V.int (sv : Int)), some (V.int (((lotsUp c a (c - a') (((c + 1 : Nat) : Int).toNat) : Nat) : Int) + 1)), y12, y13] = [some (.ref b), some (.int (c : Int)), some (.int ht), some (.int (a : Int)), some (.int (a' : Int)), some (.int dp), some (.ref pp), some (.int (a : Int)), some (.int ((c : Int) - 1 - (a' : Int))), some (.int (sz : Int)), some (.int ((Sz (dp - (a : Int)) (dp - (a' : Int)) (List.replicate c dp) (List.range sz) : Nat) : Int)), some (.int ((Fn (dp - (a : Int)) (dp - (a' : Int)) (List.replicate c dp) : Nat) : Int)), z12, z13] ∧ Same Hi Hj := fun {y12 y13 Hj} sv e sm => ⟨y12, y13, by rw [lotsV, e], sm⟩
          refine ⟨_, rfl, _, 1, rfl, rfl, ?_⟩
          refine ⟨_, rfl, _, rfl, _, _, rfl, rfl, _, rfl, ite2 (fun c2 => ?_) (fun c2 => ?_)⟩
          · have c2' := of_decide_eq_true c2
            refine ⟨_, rfl, _, 1, rfl, rfl, _, _, rfl, rfl, _, rfl, ite2 (fun c3 => ?_) (fun c3 => ?_)⟩
            · have c3' := of_decide_eq_true c3
              refine ⟨_, rfl, _, rfl, (c : Int) - 1 - (a' : Int), 2, rfl, rfl, _, _, rfl, ⟨by omega, by omega, by omega, by omega⟩, fun C nC => ?_⟩
              generalize en2 : ((c : Int) - 1 - (a' : Int) + 2 - (a : Int)).toNat = nn
              have hn : nn = c - a' + 1 - a := by omega
              refine lc_range (fun m H' => Same Hi H' ∧ H' C = some (.lst ((((List.range m).map fun j => ((Ct.bin c (a + j) : Nat) : Int))).map V.int))) ⟨same_new nC, upd_same⟩ ?_ ?_
              · rintro m Hc hm ⟨sc, hC⟩
                refine ⟨rfl, tyes (iteT ?_)⟩
                refine ⟨_, rfl, _, rfl, c, (a : Int) + (m : Int), rfl, by omega, by omega, ?_⟩
                rw [if_neg (by omega), show ((a : Int) + (m : Int)).toNat = a + m by omega]
                refine ⟨_, hC, ?_, same_over sc nC, ?_⟩
                · rw [List.length_map, List.length_map, List.length_range]
                  exact small1000 (by omega)
                · rw [upd_same, List.range_succ, List.map_append, List.map_append]
                  rfl
              · rintro Hc ⟨sc, hC⟩
                refine ⟨C, _, rfl, SqL.of hC, ?_⟩
                have sums : ((List.range nn).map fun j => ((Ct.bin c (a + j) : Nat) : Int)).sum = ((Sz (dp - (a : Int)) (dp - (a' : Int)) (List.replicate c dp) (List.range sz) : Nat) : Int) := by
                  rw [szE, if_pos (show Ct.bandB a (c - a') sz = true from decide_eq_true ⟨ae, by omega, by omega⟩), band_sum ae (by omega), ← hn]
                  exact (sum_cast _ _).symm
                rw [sums]
                exact fin1 _ rfl sc
            · have c3' := of_decide_eq_false (show decide ((sz : Int) ≤ (c : Int) - 1 - (a' : Int) + 1) = false by simpa using c3)
              exact fin1 1 (one (decide_eq_false fun z => by omega)).symm (Same.refl _)
          · have c2' := of_decide_eq_false (show decide ((a : Int) ≤ (sz : Int)) = false by simpa using c2)
            refine ⟨_, rfl, iteF ?_⟩
            exact fin1 1 (one (decide_eq_false fun z => by omega)).symm (Same.refl _)
        · have c1' := of_decide_eq_false (show decide ((a : Int) ≤ (c : Int) - 1 - (a' : Int)) = false by simpa using c1)
          have ae : ¬ a < c - a' := by omega
          refine ⟨y12, y13, ?_, Same.refl _⟩
          have s1 : Sz (dp - (a : Int)) (dp - (a' : Int)) (List.replicate c dp) (List.range sz) = 1 := by rw [szE, if_neg (by rw [show Ct.bandB a (c - a') sz = false from decide_eq_false fun z => ae z.1]; exact Bool.false_ne_true)]
          have f1 : Fn (dp - (a : Int)) (dp - (a' : Int)) (List.replicate c dp) = lotsUp c a (c - a') (((c + 1 : Nat) : Int).toNat) := by
            rw [fnE, if_neg ae, show ((c + 1 : Nat) : Int).toNat = c + 1 by omega]
            rfl
          rw [s1, f1]
          rfl
      rintro σ Hj ⟨y12, y13, rfl, sj⟩
      have hvj := hv12.same sj
      have xj := x12.same sj
      have uj := u12.trans (Same.but (b := b) sj)
      refine ⟨_, rfl, _, rfl, _, rfl, .of_le (by omega) (by omega) (by omega) (by omega), fun p np => ?_⟩
      rw [rgV_ni]
      have sk := same_new (o := .tup (ni (List.range sz))) np
      have ek : upd Hj p (.tup (ni (List.range sz))) p = some (.tup (ni (List.range sz))) := upd_same
      generalize upd Hj p (.tup (ni (List.range sz))) = Hk at sk ek
      have hvk := hvj.same sk
      refine ⟨.ref pp, .ref p, _, _, _, List.range sz, rfl, hvk.a, ⟨p, rfl, SqA.t ek⟩, by rw [len]; omega, by rw [len]; omega, by rw [len]; exact ⟨List.pairwise_lt_range, fun i hi => by have := List.mem_range.mp hi; omega⟩, fun Hl sl => ?_⟩
      refine ⟨_, rfl, .ref pp, _, _, _, rfl, (hvk.same sl).a, by rw [len]; omega, by rw [len]; omega, fun Hm sm => ?_⟩
      refine ⟨(by show 2 ≤ sizeLine; decide), fun tl ntl => ?_⟩
      have st : Same Hm (upd Hm tl (.lst ([((Sz (dp - (a : Int)) (dp - (a' : Int)) (List.replicate c dp) (List.range sz) : Nat) : Int), ((Fn (dp - (a : Int)) (dp - (a' : Int)) (List.replicate c dp) : Nat) : Int)].map V.int))) := same_new ntl
      have et : upd Hm tl (.lst ([((Sz (dp - (a : Int)) (dp - (a' : Int)) (List.replicate c dp) (List.range sz) : Nat) : Int), ((Fn (dp - (a : Int)) (dp - (a' : Int)) (List.replicate c dp) : Nat) : Int)].map V.int)) tl = some (.lst ([((Sz (dp - (a : Int)) (dp - (a' : Int)) (List.replicate c dp) (List.range sz) : Nat) : Int), ((Fn (dp - (a : Int)) (dp - (a' : Int)) (List.replicate c dp) : Nat) : Int)].map V.int)) := upd_same
      have eh : upd Hm tl (.lst ([((Sz (dp - (a : Int)) (dp - (a' : Int)) (List.replicate c dp) (List.range sz) : Nat) : Int), ((Fn (dp - (a : Int)) (dp - (a' : Int)) (List.replicate c dp) : Nat) : Int)].map V.int)) = upd Hm tl (HO.lst [V.int ↑(Ct.fam (List.replicate c dp).length (Gof (dp - ↑a) (dp - ↑a') (List.replicate c dp)) (mem (List.range sz))), V.int ↑(famsN (List.replicate c dp).length (topI (dp - ↑a) (dp - ↑a') (List.replicate c dp).length).toNat (Gof (dp - ↑a) (dp - ↑a') (List.replicate c dp)))]) := rfl
      rw [eh] at st et
      generalize upd Hm tl (HO.lst [V.int ↑(Ct.fam (List.replicate c dp).length (Gof (dp - ↑a) (dp - ↑a') (List.replicate c dp)) (mem (List.range sz))), V.int ↑(famsN (List.replicate c dp).length (topI (dp - ↑a) (dp - ↑a') (List.replicate c dp).length).toNat (Gof (dp - ↑a) (dp - ↑a') (List.replicate c dp)))]) = Hn at st et
      refine ⟨_, rfl, _, rfl, _, rfl, (by show 2 ≤ sizeLine; decide), fun tm ntm => ?_⟩
      have sm2 := same_new (o := .lst ([((Sz (dp - (a : Int)) (dp - (a' : Int)) (List.replicate c dp) (List.range sz) : Nat) : Int), ((Fn (dp - (a : Int)) (dp - (a' : Int)) (List.replicate c dp) : Nat) : Int)].map V.int)) ntm
      refine ⟨_, _, .lst (SqL.of (sm2 _ _ et)) (DpAll.ints _), .lst (SqL.of (xs := [((Sz (dp - (a : Int)) (dp - (a' : Int)) (List.replicate c dp) (List.range sz) : Nat) : Int), ((Fn (dp - (a : Int)) (dp - (a' : Int)) (List.replicate c dp) : Nat) : Int)].map V.int) upd_same) (DpAll.ints _), shaped_ints _, shaped_ints _, ?_⟩
      rw [eqvL47]
      exact q _ (uj.trans (Same.but (b := b) (((sk.trans sl).trans (sm.trans st)).trans sm2))) ((xj.same (((sk.trans sl).trans (sm.trans st)).trans sm2)).mono (by omega))
end
end Sh

namespace Sh
open PySem PySem.Spec PyProof.Rows L2 LamX
/-! ### k47: small seas known outright -/
def spSmall (Tl : List (Addr × Str)) : Sp := fun vs H Q _ => ∃ x : Int, vs = [.int x] ∧ 0 ≤ x ∧ x ≤ 100000000000 ∧ Tabs Tl H ∧ ∀ H', ExtN H H' → Tabs Tl H' → Q (.bl true) H'
abbrev s__law_small_right : Stmt := topS 67
theorem sc__law_small_right : FnScope (["_law_height", "_law_pond", "_law_pair", "_law_told", "_law_deeper"] : List Str) (["_law_height"] : List Str) (defScope s__law_small_right) := ⟨rfl, rfl, rfl, by decide +kernel, rfl, by decide +kernel, by decide +kernel⟩
theorem b__law_small_right (kV doc pm : Value) (an : Option Addr) (cdv ct : Value) (us : List Value) (hl : us.length = (["_law_height"] : List Str).length) : bindArgs (PySem.W.fnOf "_law_small_right" "_law_small_right" (defArgs s__law_small_right) (defBody s__law_small_right) (defScope s__law_small_right) .none kV doc pm an cdv ct) ⟨us, []⟩ = pure ((["_law_height"] : List Str).zip us) :=
  match us, hl with | [_], _ => rfl
section
variable {P : Program} {w : World} {K : PySem.W.Frag} {mg : Str → Option Value} {base : Heap}
theorem ok_small {k : Nat} {Tl : List (Addr × Str)} (D : Df K mg "_law_small_right" s__law_small_right) (T : Bt mg) (O_family_size : Ok P w K mg base k "family_size" s_family_size ["sea", "standing"] (spFamily K)) (O_families_many : Ok P w K mg base k "families_many" s_families_many ["sea"] (spFamilies K))
    (O_comes_to : Ok P w K mg base k "comes_to" s_comes_to ["sea", "one", "other"] (spComes K)) (O_how_far : Ok P w K mg base k "how_far" s_how_far ["sea", "one", "other"] (spFar Tl K)) (O_least_dredged : Ok P w K mg base k "least_dredged" s_least_dredged ["sea", "one", "other", "side"] (spLeastD Tl K)) (O_freed_by : Ok P w K mg base k "freed_by" s_freed_by ["sea", "standing", "side"] (spFreed Tl K)) :
    Ok P w K mg base (k + 1) "_law_small_right" s__law_small_right ["_law_height"] (spSmall Tl) := by
  refine D.ok sc__law_small_right b__law_small_right (fun vs H Q E h => ?_) (fun f cdv A outer s H vs Q E hr h => ?_)
  · obtain ⟨x, rfl, _⟩ := h
    rfl
  · obtain ⟨x, rfl, x0, x1, hT, q⟩ := h
    refine ⟨_, (pss_cons (ps_set (i := 1) sc__law_small_right.nd rfl (.inl rfl) (pe_tup (pa_cons (pv 0) (pa_cons (pv 0) (pa_cons (pe_tup (pa_cons (pv 0) (pa_cons (pe_op op_add (pv 0) pe_int) (pa_cons (pe_op op_add (pv 0) pe_int) pa_nil)))) pa_nil)))))
      (pss_cons (ps_if (pt_cmpR (op_neD hr.units) (pe_lst (pa_cons (pe_fn O_family_size (hr.mono (by omega)) (pa_cons (pv 1) (pa_cons (pe_tup (pa_cons pe_int pa_nil)) pa_nil))) (pa_cons (pe_fn O_families_many (hr.mono (by omega)) (pa_cons (pv 1) pa_nil)) (pa_cons (pe_fn O_comes_to (hr.mono (by omega)) (pa_cons (pv 1) (pa_cons (pe_tup pa_nil) (pa_cons (pe_tup (pa_cons pe_int (pa_cons pe_int (pa_cons pe_int pa_nil)))) pa_nil)))) pa_nil)))) (pe_lst (pa_cons pe_int (pa_cons pe_int (pa_cons pe_bl pa_nil)))) (nomark _))
        (pss_one (ps_ret pe_bl))
        pss_nil)
      (pss_cons (ps_if (PW.pt (pw_or (pt_cmpR op_ne (pe_fn O_how_far (hr.mono (by omega)) (pa_cons (pv 1) (pa_cons (pe_tup pa_nil) (pa_cons (pe_tup (pa_cons pe_int (pa_cons pe_int (pa_cons pe_int pa_nil)))) pa_nil)))) pe_int (nomark _)) (pw_or1 (pt_cmpR op_ne (pe_fn O_how_far (hr.mono (by omega)) (pa_cons (pv 1) (pa_cons (pe_tup (pa_cons pe_int pa_nil)) (pa_cons (pe_tup (pa_cons pe_int pa_nil)) pa_nil)))) pe_int (nomark _)))))
        (pss_one (ps_ret pe_bl))
        pss_nil)
      (pss_cons (ps_set (i := 2) sc__law_small_right.nd rfl (.inl rfl) (pe_tup (pa_cons (pv 0) (pa_cons (pv 0) (pa_cons (pe_tup (pa_cons (pe_op op_add (pv 0) pe_int) (pa_cons (pe_op op_add (pv 0) pe_int) pa_nil))) pa_nil)))))
      (pss_cons (ps_if (pt_cmpR (op_neD hr.units) (pe_lst (pa_cons (pe_fn O_family_size (hr.mono (by omega)) (pa_cons (pv 2) (pa_cons (pe_tup pa_nil) pa_nil))) (pa_cons (pe_fn O_families_many (hr.mono (by omega)) (pa_cons (pv 2) pa_nil)) pa_nil))) (pe_lst (pa_cons pe_int (pa_cons pe_int pa_nil))) (nomark _))
        (pss_one (ps_ret pe_bl))
        pss_nil)
      (pss_cons (ps_set (i := 3) sc__law_small_right.nd rfl (.inl rfl) (pe_lst (pa_cons (pe_fn O_least_dredged (hr.mono (by omega)) (pa_cons (pv 2) (pa_cons (pe_tup pa_nil) (pa_cons (pe_tup (pa_cons pe_int pa_nil)) (pa_cons pe_str pa_nil))))) (pa_cons (pe_fn O_least_dredged (hr.mono (by omega)) (pa_cons (pv 2) (pa_cons (pe_tup pa_nil) (pa_cons (pe_tup (pa_cons pe_int (pa_cons pe_int pa_nil))) (pa_cons pe_str pa_nil))))) pa_nil))))
      (pss_cons (ps_set (i := 3) sc__law_small_right.nd rfl (.inl rfl) (pe_op op_cat (pv 3) (pe_lst (pa_cons (pe_fn O_least_dredged (hr.mono (by omega)) (pa_cons (pv 2) (pa_cons (pe_tup pa_nil) (pa_cons (pe_tup (pa_cons pe_int pa_nil)) (pa_cons pe_str pa_nil))))) (pa_cons (pe_fn O_least_dredged (hr.mono (by omega)) (pa_cons (pv 2) (pa_cons (pe_tup (pa_cons pe_int pa_nil)) (pa_cons (pe_tup (pa_cons pe_int (pa_cons pe_int pa_nil))) (pa_cons pe_str pa_nil))))) pa_nil)))))
      (pss_cons (ps_if (pt_cmpR (op_neD hr.units) (pv 3) (pe_lst (pa_cons pe_int (pa_cons pe_non (pa_cons pe_non (pa_cons pe_int pa_nil))))) (nomark _))
        (pss_one (ps_ret pe_bl))
        pss_nil)
      (pss_cons (ps_set (i := 3) sc__law_small_right.nd rfl (.inl rfl) (pe_lst (pa_cons (pe_fn O_freed_by (hr.mono (by omega)) (pa_cons (pv 2) (pa_cons (pe_tup pa_nil) (pa_cons pe_str pa_nil)))) (pa_cons (pe_fn O_freed_by (hr.mono (by omega)) (pa_cons (pv 2) (pa_cons (pe_tup pa_nil) (pa_cons pe_str pa_nil)))) (pa_cons (pe_fn O_freed_by (hr.mono (by omega)) (pa_cons (pv 2) (pa_cons (pe_tup (pa_cons pe_int (pa_cons pe_int pa_nil))) (pa_cons pe_str pa_nil)))) pa_nil)))))
      (pss_cons (ps_if (pt_cmpR (op_neD hr.units) (pv 3) (pe_lst (pa_cons (pe_lst (pa_cons pe_int (pa_cons pe_int pa_nil))) (pa_cons (pe_lst (pa_cons pe_non (pa_cons pe_non pa_nil))) (pa_cons (pe_lst (pa_cons pe_int (pa_cons pe_int pa_nil))) pa_nil)))) (nomark _))
        (pss_one (ps_ret pe_bl))
        pss_nil)
      (pss_cons (ps_set (i := 4) sc__law_small_right.nd rfl (.inl rfl) (pe_tup (pa_cons (pe_op op_add (pv 0) pe_int) (pa_cons (pv 0) (pa_cons (pe_ix ix_lt (pv 2) pe_int (fun _ _ => rfl)) pa_nil)))))
      (pss_one (ps_ret (pe_cmpR (op_eqD hr.units) (pe_lst (pa_cons (pe_fn O_families_many (hr.mono (by omega)) (pa_cons (pv 4) pa_nil)) (pa_cons (pe_fn O_family_size (hr.mono (by omega)) (pa_cons (pv 4) (pa_cons (pe_tup pa_nil) pa_nil))) (pa_cons (pe_fn O_family_size (hr.mono (by omega)) (pa_cons (pv 4) (pa_cons (pe_tup (pa_cons pe_int (pa_cons pe_int pa_nil))) pa_nil))) pa_nil)))) (pe_lst (pa_cons pe_int (pa_cons pe_int (pa_cons pe_int pa_nil)))) (nomark _))))))))))))))), ?_⟩
    have l1 : Lot 3 [1] := ⟨by simp, by simp⟩
    have l2 : Lot 3 [2] := ⟨by simp, by simp⟩
    have bnd : 0 ≤ x ∧ 0 ≤ x ∧ ∀ d ∈ [x + 1, x + 1], d ≤ 100000000000000 := ⟨x0, x0, fun d hd => by
      simp only [List.mem_cons, List.not_mem_nil, or_false, or_self] at hd
      omega⟩
    -- BODY
    refine ⟨_, rfl, _, rfl, _, rfl, _, rfl, _, _, rfl, rfl, _, rfl, _, _, rfl, rfl, (by show 3 ≤ sizeLine; decide), fun ta nta => ?_⟩
    have sta : Same H (upd H ta (.tup [.int x, .int (x + 1), .int (x + 1)])) := same_new nta
    have eta : upd H ta (.tup [.int x, .int (x + 1), .int (x + 1)]) ta = some (.tup (([x, x + 1, x + 1] : List Int).map V.int)) := upd_same
    generalize upd H ta (.tup [.int x, .int (x + 1), .int (x + 1)]) = G1 at sta eta
    refine ⟨(by show 3 ≤ sizeLine; decide), fun pp npp => ?_⟩
    have spp : Same G1 (upd G1 pp (.tup [.int x, .int x, .ref ta])) := same_new npp
    have epp : upd G1 pp (.tup [.int x, .int x, .ref ta]) pp = some (.tup [.int x, .int x, .ref ta]) := upd_same
    generalize upd G1 pp (.tup [.int x, .int x, .ref ta]) = G2 at spp epp
    have vP : SeaT K G2 (.ref pp) x x [x, x + 1, x + 1] := ⟨pp, ta, rfl, SqT.of epp, SqT.of (spp _ _ eta)⟩
    refine ⟨_, rfl, (by show 1 ≤ sizeLine; decide), fun ua nua => ?_⟩
    have sua : Same G2 (upd G2 ua (.tup [.int 1])) := same_new nua
    have eua : upd G2 ua (.tup [.int 1]) ua = some (.tup (ni [1])) := by rw [upd_same]; rfl
    generalize upd G2 ua (.tup [.int 1]) = G3 at sua eua
    refine ⟨.ref pp, .ref ua, x, x, [x, x + 1, x + 1], [1], rfl, (vP.same sua).a, LotT.a (show LotT K G3 (.ref ua) _ from ⟨ua, rfl, SqT.of eua⟩), by show 3 ≤ 60; decide, Nat.succ_pos _, l1, fun Ga sa => ?_⟩
    rw [show Ct.fam [x, x + 1, x + 1].length (Gof x x [x, x + 1, x + 1]) (mem [1]) = 8 from sz3.1]
    refine ⟨_, rfl, .ref pp, x, x, [x, x + 1, x + 1], rfl, (vP.same (sua.trans sa)).a, by show 3 ≤ 60; decide, Nat.succ_pos _, fun Gb sb => ?_⟩
    rw [show famsN [x, x + 1, x + 1].length (topI x x [x, x + 1, x + 1].length).toNat (Gof x x [x, x + 1, x + 1]) = 1 from sz3.2]
    refine ⟨_, rfl, Nat.zero_le _, fun ub nub => ?_⟩
    have sub : Same Gb (upd Gb ub (.tup [])) := same_new nub
    have eub : upd Gb ub (.tup []) ub = some (.tup (ni [])) := by rw [upd_same]; rfl
    generalize upd Gb ub (.tup []) = G4 at sub eub
    refine ⟨(by show 3 ≤ sizeLine; decide), fun uc nuc => ?_⟩
    have suc : Same G4 (upd G4 uc (.tup [.int 0, .int 1, .int 2])) := same_new nuc
    have euc : upd G4 uc (.tup [.int 0, .int 1, .int 2]) uc = some (.tup (ni [0, 1, 2])) := by rw [upd_same]; rfl
    generalize upd G4 uc (.tup [.int 0, .int 1, .int 2]) = G5 at suc euc
    refine ⟨.ref pp, .ref ub, .ref uc, x, x, [x, x + 1, x + 1], [], [0, 1, 2], rfl, (vP.same (sua.trans (sa.trans (sb.trans (sub.trans suc))))).d, LotT.a (show LotT K G5 (.ref ub) _ from ⟨ub, rfl, SqT.of (suc _ _ eub)⟩), LotT.a (show LotT K G5 (.ref uc) _ from ⟨uc, rfl, SqT.of euc⟩), by show 3 ≤ 60; decide, Nat.succ_pos _, Lot.nil _, Lot.all 3, fun Gc bc sc hbc => ?_⟩
    obtain rfl : bc = true := hbc.mpr ((rl3 (Lot.nil _)).symm.trans (rl3 (Lot.all 3)))
    refine ⟨(by show 3 ≤ sizeLine; decide), fun la nla => ?_⟩
    have sla : Same Gc (upd Gc la (.lst [.int ((8 : Nat) : Int), .int ((1 : Nat) : Int), .bl true])) := same_new nla
    have ela : upd Gc la (.lst [.int ((8 : Nat) : Int), .int ((1 : Nat) : Int), .bl true]) la = some (.lst [.int 8, .int 1, .bl true]) := upd_same
    generalize upd Gc la (.lst [.int ((8 : Nat) : Int), .int ((1 : Nat) : Int), .bl true]) = G6 at sla ela
    refine ⟨(by show 3 ≤ sizeLine; decide), fun lb nlb => ?_⟩
    have slb : Same G6 (upd G6 lb (.lst [.int 8, .int 1, .bl true])) := same_new nlb
    have elb : upd G6 lb (.lst [.int 8, .int 1, .bl true]) lb = some (.lst [.int 8, .int 1, .bl true]) := upd_same
    generalize upd G6 lb (.lst [.int 8, .int 1, .bl true]) = G7 at slb elb
    refine ⟨.list [.int 8, .int 1, .bool true], .list [.int 8, .int 1, .bool true], .lst (SqL.of (slb _ _ ela)) (.cons (.int _) (.cons (.int _) (.cons (.bl _) .nil))), .lst (SqL.of elb) (.cons (.int _) (.cons (.int _) (.cons (.bl _) .nil))), by decide +kernel, by decide +kernel, ?_⟩
    refine ⟨false, congrArg V.bl (by decide +kernel), iteF ?_⟩
    refine ⟨_, rfl, Nat.zero_le _, fun ud nud => ?_⟩
    have sud : Same G7 (upd G7 ud (.tup [])) := same_new nud
    have eud : upd G7 ud (.tup []) ud = some (.tup (ni [])) := by rw [upd_same]; rfl
    generalize upd G7 ud (.tup []) = G8 at sud eud
    refine ⟨(by show 3 ≤ sizeLine; decide), fun ue nue => ?_⟩
    have sue : Same G8 (upd G8 ue (.tup [.int 0, .int 1, .int 2])) := same_new nue
    have eue : upd G8 ue (.tup [.int 0, .int 1, .int 2]) ue = some (.tup (ni [0, 1, 2])) := by rw [upd_same]; rfl
    generalize upd G8 ue (.tup [.int 0, .int 1, .int 2]) = G9 at sue eue
    refine ⟨.ref pp, .ref ud, .ref ue, x, x, [x, x + 1, x + 1], [], [0, 1, 2], rfl, (vP.same (sua.trans (sa.trans (sb.trans (sub.trans (suc.trans (sc.trans (sla.trans (slb.trans (sud.trans sue)))))))))).d, (show LotT K G9 (.ref ud) _ from ⟨ud, rfl, SqT.of (sue _ _ eud)⟩), (show LotT K G9 (.ref ue) _ from ⟨ue, rfl, SqT.of eue⟩), by show 3 ≤ 24; decide, Nat.succ_pos _, Lot.nil _, Lot.all 3, (rl3 (Lot.nil _)).symm.trans (rl3 (Lot.all 3)), hT.ext (sta.trans (spp.trans (sua.trans (sa.trans (sb.trans (sub.trans (suc.trans (sc.trans (sla.trans (slb.trans (sud.trans sue))))))))))), fun Gd fa yd td zd => ?_⟩
    obtain rfl := far_one far3.1 zd
    refine ⟨rfl, false, congrArg V.bl (by decide), iteF ?_⟩
    refine ⟨_, rfl, (by show 1 ≤ sizeLine; decide), fun uf nuf => ?_⟩
    have suf : Same Gd (upd Gd uf (.tup [.int 1])) := same_new nuf
    have euf : upd Gd uf (.tup [.int 1]) uf = some (.tup (ni [1])) := by rw [upd_same]; rfl
    generalize upd Gd uf (.tup [.int 1]) = G10 at suf euf
    refine ⟨(by show 1 ≤ sizeLine; decide), fun ug nug => ?_⟩
    have sug : Same G10 (upd G10 ug (.tup [.int 2])) := same_new nug
    have eug : upd G10 ug (.tup [.int 2]) ug = some (.tup (ni [2])) := by rw [upd_same]; rfl
    generalize upd G10 ug (.tup [.int 2]) = G11 at sug eug
    refine ⟨.ref pp, .ref uf, .ref ug, x, x, [x, x + 1, x + 1], [1], [2], rfl, (vP.ext ((ExtN.of sua).trans ((ExtN.of sa).trans ((ExtN.of sb).trans ((ExtN.of sub).trans ((ExtN.of suc).trans ((ExtN.of sc).trans ((ExtN.of sla).trans ((ExtN.of slb).trans ((ExtN.of sud).trans ((ExtN.of sue).trans (yd.trans ((ExtN.of suf).trans (ExtN.of sug)))))))))))))).d, (show LotT K G11 (.ref uf) _ from ⟨uf, rfl, SqT.of (sug _ _ euf)⟩), (show LotT K G11 (.ref ug) _ from ⟨ug, rfl, SqT.of eug⟩), by show 3 ≤ 24; decide, Nat.succ_pos _, l1, l2, rl3 l2, (td.ext (suf.trans sug)), fun Ge fb ye te ze => ?_⟩
    obtain rfl := far_one far3.2 ze
    refine ⟨rfl, false, congrArg V.bl (by decide), iteF ?_⟩
    refine ⟨_, rfl, _, rfl, _, rfl, _, _, rfl, rfl, _, rfl, _, _, rfl, rfl, (by show 2 ≤ sizeLine; decide), fun tb ntb => ?_⟩
    have stb : Same Ge (upd Ge tb (.tup [.int (x + 1), .int (x + 1)])) := same_new ntb
    have etb : upd Ge tb (.tup [.int (x + 1), .int (x + 1)]) tb = some (.tup (([x + 1, x + 1] : List Int).map V.int)) := upd_same
    generalize upd Ge tb (.tup [.int (x + 1), .int (x + 1)]) = G12 at stb etb
    refine ⟨(by show 3 ≤ sizeLine; decide), fun pq npq => ?_⟩
    have spq : Same G12 (upd G12 pq (.tup [.int x, .int x, .ref tb])) := same_new npq
    have epq : upd G12 pq (.tup [.int x, .int x, .ref tb]) pq = some (.tup [.int x, .int x, .ref tb]) := upd_same
    generalize upd G12 pq (.tup [.int x, .int x, .ref tb]) = G13 at spq epq
    have vQ : SeaT K G13 (.ref pq) x x [x + 1, x + 1] := ⟨pq, tb, rfl, SqT.of epq, SqT.of (spq _ _ etb)⟩
    refine ⟨_, rfl, Nat.zero_le _, fun va nva => ?_⟩
    have sva : Same G13 (upd G13 va (.tup [])) := same_new nva
    have eva : upd G13 va (.tup []) va = some (.tup (ni [])) := by rw [upd_same]; rfl
    generalize upd G13 va (.tup []) = G14 at sva eva
    refine ⟨.ref pq, .ref va, x, x, [x + 1, x + 1], [], rfl, (vQ.same sva).a, LotT.a (show LotT K G14 (.ref va) _ from ⟨va, rfl, SqT.of eva⟩), by show 2 ≤ 60; decide, Nat.succ_pos _, Lot.nil _, fun Gf sf => ?_⟩
    rw [show Ct.fam [x + 1, x + 1].length (Gof x x [x + 1, x + 1]) (mem []) = 1 from pair_counts.1]
    refine ⟨_, rfl, .ref pq, x, x, [x + 1, x + 1], rfl, (vQ.same (sva.trans sf)).a, by show 2 ≤ 60; decide, Nat.succ_pos _, fun Gg sg => ?_⟩
    rw [show famsN [x + 1, x + 1].length (topI x x [x + 1, x + 1].length).toNat (Gof x x [x + 1, x + 1]) = 4 from pair_counts.2]
    refine ⟨(by show 2 ≤ sizeLine; decide), fun lc nlc => ?_⟩
    have slc : Same Gg (upd Gg lc (.lst [.int ((1 : Nat) : Int), .int ((4 : Nat) : Int)])) := same_new nlc
    have elc : upd Gg lc (.lst [.int ((1 : Nat) : Int), .int ((4 : Nat) : Int)]) lc = some (.lst [.int 1, .int 4]) := upd_same
    generalize upd Gg lc (.lst [.int ((1 : Nat) : Int), .int ((4 : Nat) : Int)]) = G15 at slc elc
    refine ⟨(by show 2 ≤ sizeLine; decide), fun ld nld => ?_⟩
    have sld : Same G15 (upd G15 ld (.lst [.int 1, .int 4])) := same_new nld
    have eld : upd G15 ld (.lst [.int 1, .int 4]) ld = some (.lst [.int 1, .int 4]) := upd_same
    generalize upd G15 ld (.lst [.int 1, .int 4]) = G16 at sld eld
    refine ⟨.list [.int 1, .int 4], .list [.int 1, .int 4], .lst (SqL.of (sld _ _ elc)) (.cons (.int _) (.cons (.int _) .nil)), .lst (SqL.of eld) (.cons (.int _) (.cons (.int _) .nil)), by decide +kernel, by decide +kernel, ?_⟩
    refine ⟨false, congrArg V.bl (by decide +kernel), iteF ?_⟩
    refine ⟨_, rfl, Nat.zero_le _, fun wa nwa => ?_⟩
    have swa : Same G16 (upd G16 wa (.tup [])) := same_new nwa
    have ewa : upd G16 wa (.tup []) wa = some (.tup (ni [])) := by rw [upd_same]; rfl
    generalize upd G16 wa (.tup []) = G17 at swa ewa
    refine ⟨(by show 1 ≤ sizeLine; decide), fun wb nwb => ?_⟩
    have swb : Same G17 (upd G17 wb (.tup [.int 0])) := same_new nwb
    have ewb : upd G17 wb (.tup [.int 0]) wb = some (.tup (ni [0])) := by rw [upd_same]; rfl
    generalize upd G17 wb (.tup [.int 0]) = G18 at swb ewb
    refine ⟨.ref pq, .ref wa, .ref wb, x, x, [x + 1, x + 1], [], [0], true, rfl, (vQ.same (sva.trans (sf.trans (sg.trans (slc.trans (sld.trans (swa.trans swb))))))).a, LotT.a (show LotT K G18 (.ref wa) _ from ⟨wa, rfl, SqT.of (swb _ _ ewa)⟩), LotT.a (show LotT K G18 (.ref wb) _ from ⟨wb, rfl, SqT.of ewb⟩), by show 2 ≤ 60; decide, Nat.succ_pos _, Lot.nil _, lot2.1, bnd, (te.ext (stb.trans (spq.trans (sva.trans (sf.trans (sg.trans (slc.trans (sld.trans (swa.trans swb))))))))), fun Gh1 rh1 mh1 yh1 th1 nh1 ih1 => ?_⟩
    obtain rfl : rh1 = .int 1 := pair_least.1 nh1 ih1
    refine ⟨_, rfl, Nat.zero_le _, fun wc nwc => ?_⟩
    have swc : Same Gh1 (upd Gh1 wc (.tup [])) := same_new nwc
    have ewc : upd Gh1 wc (.tup []) wc = some (.tup (ni [])) := by rw [upd_same]; rfl
    generalize upd Gh1 wc (.tup []) = G19 at swc ewc
    refine ⟨(by show 2 ≤ sizeLine; decide), fun wd nwd => ?_⟩
    have swd : Same G19 (upd G19 wd (.tup [.int 0, .int 1])) := same_new nwd
    have ewd : upd G19 wd (.tup [.int 0, .int 1]) wd = some (.tup (ni [0, 1])) := by rw [upd_same]; rfl
    generalize upd G19 wd (.tup [.int 0, .int 1]) = G20 at swd ewd
    refine ⟨.ref pq, .ref wc, .ref wd, x, x, [x + 1, x + 1], [], [0, 1], true, rfl, (vQ.ext ((ExtN.of sva).trans ((ExtN.of sf).trans ((ExtN.of sg).trans ((ExtN.of slc).trans ((ExtN.of sld).trans ((ExtN.of swa).trans ((ExtN.of swb).trans (yh1.trans ((ExtN.of swc).trans (ExtN.of swd))))))))))).a, LotT.a (show LotT K G20 (.ref wc) _ from ⟨wc, rfl, SqT.of (swd _ _ ewc)⟩), LotT.a (show LotT K G20 (.ref wd) _ from ⟨wd, rfl, SqT.of ewd⟩), by show 2 ≤ 60; decide, Nat.succ_pos _, Lot.nil _, lot2.2, bnd, (th1.ext (swc.trans swd)), fun Gh2 rh2 mh2 yh2 th2 nh2 ih2 => ?_⟩
    obtain rfl : rh2 = .non := (pair_least (r := rh2) (most := mh2)).2.1 ih2
    refine ⟨(by show 2 ≤ sizeLine; decide), fun le nle => ?_⟩
    have sle : Same Gh2 (upd Gh2 le (.lst [.int 1, .non])) := same_new nle
    have ele : upd Gh2 le (.lst [.int 1, .non]) le = some (.lst [.int 1, .non]) := upd_same
    generalize upd Gh2 le (.lst [.int 1, .non]) = G21 at sle ele
    refine ⟨_, rfl, ?_⟩
    refine ⟨_, rfl, Nat.zero_le _, fun we nwe => ?_⟩
    have swe : Same G21 (upd G21 we (.tup [])) := same_new nwe
    have ewe : upd G21 we (.tup []) we = some (.tup (ni [])) := by rw [upd_same]; rfl
    generalize upd G21 we (.tup []) = G22 at swe ewe
    refine ⟨(by show 1 ≤ sizeLine; decide), fun wf nwf => ?_⟩
    have swf : Same G22 (upd G22 wf (.tup [.int 0])) := same_new nwf
    have ewf : upd G22 wf (.tup [.int 0]) wf = some (.tup (ni [0])) := by rw [upd_same]; rfl
    generalize upd G22 wf (.tup [.int 0]) = G23 at swf ewf
    refine ⟨.ref pq, .ref we, .ref wf, x, x, [x + 1, x + 1], [], [0], false, rfl, (vQ.ext ((ExtN.of sva).trans ((ExtN.of sf).trans ((ExtN.of sg).trans ((ExtN.of slc).trans ((ExtN.of sld).trans ((ExtN.of swa).trans ((ExtN.of swb).trans (yh1.trans ((ExtN.of swc).trans ((ExtN.of swd).trans (yh2.trans ((ExtN.of sle).trans ((ExtN.of swe).trans (ExtN.of swf))))))))))))))).a, LotT.a (show LotT K G23 (.ref we) _ from ⟨we, rfl, SqT.of (swf _ _ ewe)⟩), LotT.a (show LotT K G23 (.ref wf) _ from ⟨wf, rfl, SqT.of ewf⟩), by show 2 ≤ 60; decide, Nat.succ_pos _, Lot.nil _, lot2.1, bnd, (th2.ext (sle.trans (swe.trans swf))), fun Gh3 rh3 mh3 yh3 th3 nh3 ih3 => ?_⟩
    obtain rfl : rh3 = .non := (pair_least (r := rh3) (most := mh3)).2.2.1 ih3
    refine ⟨_, rfl, (by show 1 ≤ sizeLine; decide), fun wg nwg => ?_⟩
    have swg : Same Gh3 (upd Gh3 wg (.tup [.int 0])) := same_new nwg
    have ewg : upd Gh3 wg (.tup [.int 0]) wg = some (.tup (ni [0])) := by rw [upd_same]; rfl
    generalize upd Gh3 wg (.tup [.int 0]) = G24 at swg ewg
    refine ⟨(by show 2 ≤ sizeLine; decide), fun wh nwh => ?_⟩
    have swh : Same G24 (upd G24 wh (.tup [.int 0, .int 1])) := same_new nwh
    have ewh : upd G24 wh (.tup [.int 0, .int 1]) wh = some (.tup (ni [0, 1])) := by rw [upd_same]; rfl
    generalize upd G24 wh (.tup [.int 0, .int 1]) = G25 at swh ewh
    refine ⟨.ref pq, .ref wg, .ref wh, x, x, [x + 1, x + 1], [0], [0, 1], false, rfl, (vQ.ext ((ExtN.of sva).trans ((ExtN.of sf).trans ((ExtN.of sg).trans ((ExtN.of slc).trans ((ExtN.of sld).trans ((ExtN.of swa).trans ((ExtN.of swb).trans (yh1.trans ((ExtN.of swc).trans ((ExtN.of swd).trans (yh2.trans ((ExtN.of sle).trans ((ExtN.of swe).trans ((ExtN.of swf).trans (yh3.trans ((ExtN.of swg).trans (ExtN.of swh)))))))))))))))))).a, LotT.a (show LotT K G25 (.ref wg) _ from ⟨wg, rfl, SqT.of (swh _ _ ewg)⟩), LotT.a (show LotT K G25 (.ref wh) _ from ⟨wh, rfl, SqT.of ewh⟩), by show 2 ≤ 60; decide, Nat.succ_pos _, lot2.1, lot2.2, bnd, (th3.ext (swg.trans swh)), fun Gh4 rh4 mh4 yh4 th4 nh4 ih4 => ?_⟩
    obtain rfl : rh4 = .int 1 := (pair_least (r := rh4) (most := mh4)).2.2.2 nh4 ih4
    refine ⟨(by show 2 ≤ sizeLine; decide), fun lf nlf => ?_⟩
    have slf : Same Gh4 (upd Gh4 lf (.lst [.non, .int 1])) := same_new nlf
    have elf : upd Gh4 lf (.lst [.non, .int 1]) lf = some (.lst [.non, .int 1]) := upd_same
    generalize upd Gh4 lf (.lst [.non, .int 1]) = G26 at slf elf
    refine ⟨le, lf, _, _, rfl, rfl, (((ExtN.of swe).trans ((ExtN.of swf).trans (yh3.trans ((ExtN.of swg).trans ((ExtN.of swh).trans (yh4.trans (ExtN.of slf))))))) _ _ ele fun _ z => by cases z), elf, (by show 2 + 2 ≤ sizeLine; decide), fun lg nlg => ?_⟩
    have slg : Same G26 (upd G26 lg (.lst ([.int 1, .non] ++ [.non, .int 1]))) := same_new nlg
    have elg : upd G26 lg (.lst ([.int 1, .non] ++ [.non, .int 1])) lg = some (.lst [.int 1, .non, .non, .int 1]) := upd_same
    generalize upd G26 lg (.lst ([.int 1, .non] ++ [.non, .int 1])) = G27 at slg elg
    refine ⟨_, rfl, ?_⟩
    refine ⟨(by show 4 ≤ sizeLine; decide), fun lh nlh => ?_⟩
    have slh : Same G27 (upd G27 lh (.lst [.int 1, .non, .non, .int 1])) := same_new nlh
    have elh : upd G27 lh (.lst [.int 1, .non, .non, .int 1]) lh = some (.lst [.int 1, .non, .non, .int 1]) := upd_same
    generalize upd G27 lh (.lst [.int 1, .non, .non, .int 1]) = G28 at slh elh
    refine ⟨.list [.int 1, .none, .none, .int 1], .list [.int 1, .none, .none, .int 1], .lst (SqL.of (slh _ _ elg)) (.cons (.int _) (.cons .non (.cons .non (.cons (.int _) .nil)))), .lst (SqL.of elh) (.cons (.int _) (.cons .non (.cons .non (.cons (.int _) .nil)))), by decide +kernel, by decide +kernel, ?_⟩
    refine ⟨false, congrArg V.bl (by decide +kernel), iteF ?_⟩
    refine ⟨_, rfl, Nat.zero_le _, fun xa nxa => ?_⟩
    have sxa : Same G28 (upd G28 xa (.tup [])) := same_new nxa
    have exa : upd G28 xa (.tup []) xa = some (.tup (ni [])) := by rw [upd_same]; rfl
    generalize upd G28 xa (.tup []) = G29 at sxa exa
    refine ⟨.ref pq, .ref xa, x, x, [x + 1, x + 1], [], true, rfl, (vQ.ext ((ExtN.of sva).trans ((ExtN.of sf).trans ((ExtN.of sg).trans ((ExtN.of slc).trans ((ExtN.of sld).trans ((ExtN.of swa).trans ((ExtN.of swb).trans (yh1.trans ((ExtN.of swc).trans ((ExtN.of swd).trans (yh2.trans ((ExtN.of sle).trans ((ExtN.of swe).trans ((ExtN.of swf).trans (yh3.trans ((ExtN.of swg).trans ((ExtN.of swh).trans (yh4.trans ((ExtN.of slf).trans ((ExtN.of slg).trans ((ExtN.of slh).trans (ExtN.of sxa))))))))))))))))))))))).a, LotT.a (show LotT K G29 (.ref xa) _ from ⟨xa, rfl, SqT.of exa⟩), by show 2 ≤ 60; decide, Nat.succ_pos _, Lot.nil _, bnd, (th4.ext (slf.trans (slg.trans (slh.trans sxa)))), fun Gf1 pf1 rf1 mf1 yf1 tf1 zf1 hf1 nf1 if1 => ?_⟩
    obtain rfl : rf1 = [.int 1, .int 1] := (pair_freed (rs := rf1) (most := mf1)).1 nf1 if1
    refine ⟨_, rfl, Nat.zero_le _, fun xb nxb => ?_⟩
    have sxb : Same Gf1 (upd Gf1 xb (.tup [])) := same_new nxb
    have exb : upd Gf1 xb (.tup []) xb = some (.tup (ni [])) := by rw [upd_same]; rfl
    generalize upd Gf1 xb (.tup []) = G30 at sxb exb
    refine ⟨.ref pq, .ref xb, x, x, [x + 1, x + 1], [], false, rfl, (vQ.ext ((ExtN.of sva).trans ((ExtN.of sf).trans ((ExtN.of sg).trans ((ExtN.of slc).trans ((ExtN.of sld).trans ((ExtN.of swa).trans ((ExtN.of swb).trans (yh1.trans ((ExtN.of swc).trans ((ExtN.of swd).trans (yh2.trans ((ExtN.of sle).trans ((ExtN.of swe).trans ((ExtN.of swf).trans (yh3.trans ((ExtN.of swg).trans ((ExtN.of swh).trans (yh4.trans ((ExtN.of slf).trans ((ExtN.of slg).trans ((ExtN.of slh).trans ((ExtN.of sxa).trans (yf1.trans (ExtN.of sxb))))))))))))))))))))))))).a, LotT.a (show LotT K G30 (.ref xb) _ from ⟨xb, rfl, SqT.of exb⟩), by show 2 ≤ 60; decide, Nat.succ_pos _, Lot.nil _, bnd, (tf1.ext sxb), fun Gf2 pf2 rf2 mf2 yf2 tf2 zf2 hf2 nf2 if2 => ?_⟩
    obtain rfl : rf2 = [.non, .non] := (pair_freed (rs := rf2) (most := mf2)).2.1 if2
    refine ⟨_, rfl, (by show 2 ≤ sizeLine; decide), fun xc nxc => ?_⟩
    have sxc : Same Gf2 (upd Gf2 xc (.tup [.int 0, .int 1])) := same_new nxc
    have exc : upd Gf2 xc (.tup [.int 0, .int 1]) xc = some (.tup (ni [0, 1])) := by rw [upd_same]; rfl
    generalize upd Gf2 xc (.tup [.int 0, .int 1]) = G31 at sxc exc
    refine ⟨.ref pq, .ref xc, x, x, [x + 1, x + 1], [0, 1], false, rfl, (vQ.ext ((ExtN.of sva).trans ((ExtN.of sf).trans ((ExtN.of sg).trans ((ExtN.of slc).trans ((ExtN.of sld).trans ((ExtN.of swa).trans ((ExtN.of swb).trans (yh1.trans ((ExtN.of swc).trans ((ExtN.of swd).trans (yh2.trans ((ExtN.of sle).trans ((ExtN.of swe).trans ((ExtN.of swf).trans (yh3.trans ((ExtN.of swg).trans ((ExtN.of swh).trans (yh4.trans ((ExtN.of slf).trans ((ExtN.of slg).trans ((ExtN.of slh).trans ((ExtN.of sxa).trans (yf1.trans ((ExtN.of sxb).trans (yf2.trans (ExtN.of sxc))))))))))))))))))))))))))).a, LotT.a (show LotT K G31 (.ref xc) _ from ⟨xc, rfl, SqT.of exc⟩), by show 2 ≤ 60; decide, Nat.succ_pos _, lot2.2, bnd, (tf2.ext sxc), fun Gf3 pf3 rf3 mf3 yf3 tf3 zf3 hf3 nf3 if3 => ?_⟩
    obtain rfl : rf3 = [.int 1, .int 1] := (pair_freed (rs := rf3) (most := mf3)).2.2 nf3 if3
    refine ⟨(by show 3 ≤ sizeLine; decide), fun li nli => ?_⟩
    have sli : Same Gf3 (upd Gf3 li (.lst [.ref pf1, .ref pf2, .ref pf3])) := same_new nli
    have eli : upd Gf3 li (.lst [.ref pf1, .ref pf2, .ref pf3]) li = some (.lst [.ref pf1, .ref pf2, .ref pf3]) := upd_same
    generalize upd Gf3 li (.lst [.ref pf1, .ref pf2, .ref pf3]) = G32 at sli eli
    refine ⟨_, rfl, ?_⟩
    refine ⟨(by show 2 ≤ sizeLine; decide), fun lj nlj => ?_⟩
    have slj : Same G32 (upd G32 lj (.lst [.int 1, .int 1])) := same_new nlj
    have elj : upd G32 lj (.lst [.int 1, .int 1]) lj = some (.lst [.int 1, .int 1]) := upd_same
    generalize upd G32 lj (.lst [.int 1, .int 1]) = G33 at slj elj
    refine ⟨(by show 2 ≤ sizeLine; decide), fun lk nlk => ?_⟩
    have slk : Same G33 (upd G33 lk (.lst [.non, .non])) := same_new nlk
    have elk : upd G33 lk (.lst [.non, .non]) lk = some (.lst [.non, .non]) := upd_same
    generalize upd G33 lk (.lst [.non, .non]) = G34 at slk elk
    refine ⟨(by show 2 ≤ sizeLine; decide), fun ll nll => ?_⟩
    have sll : Same G34 (upd G34 ll (.lst [.int 1, .int 1])) := same_new nll
    have ell : upd G34 ll (.lst [.int 1, .int 1]) ll = some (.lst [.int 1, .int 1]) := upd_same
    generalize upd G34 ll (.lst [.int 1, .int 1]) = G35 at sll ell
    refine ⟨(by show 3 ≤ sizeLine; decide), fun lm nlm => ?_⟩
    have slm : Same G35 (upd G35 lm (.lst [.ref lj, .ref lk, .ref ll])) := same_new nlm
    have elm : upd G35 lm (.lst [.ref lj, .ref lk, .ref ll]) lm = some (.lst [.ref lj, .ref lk, .ref ll]) := upd_same
    generalize upd G35 lm (.lst [.ref lj, .ref lk, .ref ll]) = G36 at slm elm
    refine ⟨.list [.list [.int 1, .int 1], .list [.none, .none], .list [.int 1, .int 1]], .list [.list [.int 1, .int 1], .list [.none, .none], .list [.int 1, .int 1]], .lst (SqL.of ((slj.trans (slk.trans (sll.trans slm))) _ _ eli)) (.cons (.lst (SqL.of (((ExtN.of sxb).trans (yf2.trans ((ExtN.of sxc).trans (yf3.trans ((ExtN.of sli).trans ((ExtN.of slj).trans ((ExtN.of slk).trans ((ExtN.of sll).trans (ExtN.of slm))))))))) _ _ hf1 fun _ z => by cases z)) (.cons (.int _) (.cons (.int _) .nil))) (.cons (.lst (SqL.of (((ExtN.of sxc).trans (yf3.trans ((ExtN.of sli).trans ((ExtN.of slj).trans ((ExtN.of slk).trans ((ExtN.of sll).trans (ExtN.of slm))))))) _ _ hf2 fun _ z => by cases z)) (.cons .non (.cons .non .nil))) (.cons (.lst (SqL.of ((sli.trans (slj.trans (slk.trans (sll.trans slm)))) _ _ hf3)) (.cons (.int _) (.cons (.int _) .nil))) .nil))), .lst (SqL.of elm) (.cons (.lst (SqL.of ((slk.trans (sll.trans slm)) _ _ elj)) (.cons (.int _) (.cons (.int _) .nil))) (.cons (.lst (SqL.of ((sll.trans slm) _ _ elk)) (.cons .non (.cons .non .nil))) (.cons (.lst (SqL.of (slm _ _ ell)) (.cons (.int _) (.cons (.int _) .nil))) .nil))), by decide +kernel, by decide +kernel, ?_⟩
    refine ⟨false, congrArg V.bl (by decide +kernel), iteF ?_⟩
    refine ⟨_, rfl, _, _, rfl, rfl, _, rfl, _, rfl, pq, _, 2, _, rfl, rfl, SqA.t (((ExtN.of sva).trans ((ExtN.of sf).trans ((ExtN.of sg).trans ((ExtN.of slc).trans ((ExtN.of sld).trans ((ExtN.of swa).trans ((ExtN.of swb).trans (yh1.trans ((ExtN.of swc).trans ((ExtN.of swd).trans (yh2.trans ((ExtN.of sle).trans ((ExtN.of swe).trans ((ExtN.of swf).trans (yh3.trans ((ExtN.of swg).trans ((ExtN.of swh).trans (yh4.trans ((ExtN.of slf).trans ((ExtN.of slg).trans ((ExtN.of slh).trans ((ExtN.of sxa).trans (yf1.trans ((ExtN.of sxb).trans (yf2.trans ((ExtN.of sxc).trans (yf3.trans ((ExtN.of sli).trans ((ExtN.of slj).trans ((ExtN.of slk).trans ((ExtN.of sll).trans (ExtN.of slm)))))))))))))))))))))))))))))))) _ _ epq fun _ z => by cases z), rfl, (by show 3 ≤ sizeLine; decide), fun pr npr => ?_⟩
    have spr : Same G36 (upd G36 pr (.tup [.int (x + 1), .int x, .ref tb])) := same_new npr
    have epr : upd G36 pr (.tup [.int (x + 1), .int x, .ref tb]) pr = some (.tup [.int (x + 1), .int x, .ref tb]) := upd_same
    generalize upd G36 pr (.tup [.int (x + 1), .int x, .ref tb]) = G37 at spr epr
    have vR : SeaT K G37 (.ref pr) (x + 1) x [x + 1, x + 1] := ⟨pr, tb, rfl, SqT.of epr, SqT.of (((ExtN.of spq).trans ((ExtN.of sva).trans ((ExtN.of sf).trans ((ExtN.of sg).trans ((ExtN.of slc).trans ((ExtN.of sld).trans ((ExtN.of swa).trans ((ExtN.of swb).trans (yh1.trans ((ExtN.of swc).trans ((ExtN.of swd).trans (yh2.trans ((ExtN.of sle).trans ((ExtN.of swe).trans ((ExtN.of swf).trans (yh3.trans ((ExtN.of swg).trans ((ExtN.of swh).trans (yh4.trans ((ExtN.of slf).trans ((ExtN.of slg).trans ((ExtN.of slh).trans ((ExtN.of sxa).trans (yf1.trans ((ExtN.of sxb).trans (yf2.trans ((ExtN.of sxc).trans (yf3.trans ((ExtN.of sli).trans ((ExtN.of slj).trans ((ExtN.of slk).trans ((ExtN.of sll).trans ((ExtN.of slm).trans (ExtN.of spr)))))))))))))))))))))))))))))))))) _ _ etb fun _ z => by cases z)⟩
    refine ⟨_, rfl, .ref pr, x + 1, x, [x + 1, x + 1], rfl, vR.a, by show 2 ≤ 60; decide, Nat.succ_pos _, fun Gm sm => ?_⟩
    rw [show famsN [x + 1, x + 1].length (topI (x + 1) x [x + 1, x + 1].length).toNat (Gof (x + 1) x [x + 1, x + 1]) = 2 from deeper_counts.1]
    refine ⟨_, rfl, Nat.zero_le _, fun ya nya => ?_⟩
    have sya : Same Gm (upd Gm ya (.tup [])) := same_new nya
    have eya : upd Gm ya (.tup []) ya = some (.tup (ni [])) := by rw [upd_same]; rfl
    generalize upd Gm ya (.tup []) = G38 at sya eya
    refine ⟨.ref pr, .ref ya, x + 1, x, [x + 1, x + 1], [], rfl, (vR.same (sm.trans sya)).a, LotT.a (show LotT K G38 (.ref ya) _ from ⟨ya, rfl, SqT.of eya⟩), by show 2 ≤ 60; decide, Nat.succ_pos _, Lot.nil _, fun Gn sn => ?_⟩
    rw [show Ct.fam [x + 1, x + 1].length (Gof (x + 1) x [x + 1, x + 1]) (mem []) = 3 from deeper_counts.2.1]
    refine ⟨_, rfl, (by show 2 ≤ sizeLine; decide), fun yb nyb => ?_⟩
    have syb : Same Gn (upd Gn yb (.tup [.int 0, .int 1])) := same_new nyb
    have eyb : upd Gn yb (.tup [.int 0, .int 1]) yb = some (.tup (ni [0, 1])) := by rw [upd_same]; rfl
    generalize upd Gn yb (.tup [.int 0, .int 1]) = G39 at syb eyb
    refine ⟨.ref pr, .ref yb, x + 1, x, [x + 1, x + 1], [0, 1], rfl, (vR.same (sm.trans (sya.trans (sn.trans syb)))).a, LotT.a (show LotT K G39 (.ref yb) _ from ⟨yb, rfl, SqT.of eyb⟩), by show 2 ≤ 60; decide, Nat.succ_pos _, lot2.2, fun Go so => ?_⟩
    rw [show Ct.fam [x + 1, x + 1].length (Gof (x + 1) x [x + 1, x + 1]) (mem [0, 1]) = 1 from deeper_counts.2.2]
    refine ⟨(by show 3 ≤ sizeLine; decide), fun ln nln => ?_⟩
    have sln : Same Go (upd Go ln (.lst [.int ((2 : Nat) : Int), .int ((3 : Nat) : Int), .int ((1 : Nat) : Int)])) := same_new nln
    have eln : upd Go ln (.lst [.int ((2 : Nat) : Int), .int ((3 : Nat) : Int), .int ((1 : Nat) : Int)]) ln = some (.lst [.int 2, .int 3, .int 1]) := upd_same
    generalize upd Go ln (.lst [.int ((2 : Nat) : Int), .int ((3 : Nat) : Int), .int ((1 : Nat) : Int)]) = G40 at sln eln
    refine ⟨(by show 3 ≤ sizeLine; decide), fun lo nlo => ?_⟩
    have slo : Same G40 (upd G40 lo (.lst [.int 2, .int 3, .int 1])) := same_new nlo
    have elo : upd G40 lo (.lst [.int 2, .int 3, .int 1]) lo = some (.lst [.int 2, .int 3, .int 1]) := upd_same
    generalize upd G40 lo (.lst [.int 2, .int 3, .int 1]) = G41 at slo elo
    refine ⟨.list [.int 2, .int 3, .int 1], .list [.int 2, .int 3, .int 1], .lst (SqL.of (slo _ _ eln)) (.cons (.int _) (.cons (.int _) (.cons (.int _) .nil))), .lst (SqL.of elo) (.cons (.int _) (.cons (.int _) (.cons (.int _) .nil))), by decide +kernel, by decide +kernel, ?_⟩
    rw [show PyData.eqv (.list [.int 2, .int 3, .int 1]) (.list [.int 2, .int 3, .int 1]) = true by decide +kernel]
    exact q _ ((ExtN.of sta).trans ((ExtN.of spp).trans ((ExtN.of sua).trans ((ExtN.of sa).trans ((ExtN.of sb).trans ((ExtN.of sub).trans ((ExtN.of suc).trans ((ExtN.of sc).trans ((ExtN.of sla).trans ((ExtN.of slb).trans ((ExtN.of sud).trans ((ExtN.of sue).trans (yd.trans ((ExtN.of suf).trans ((ExtN.of sug).trans (ye.trans ((ExtN.of stb).trans ((ExtN.of spq).trans ((ExtN.of sva).trans ((ExtN.of sf).trans ((ExtN.of sg).trans ((ExtN.of slc).trans ((ExtN.of sld).trans ((ExtN.of swa).trans ((ExtN.of swb).trans (yh1.trans ((ExtN.of swc).trans ((ExtN.of swd).trans (yh2.trans ((ExtN.of sle).trans ((ExtN.of swe).trans ((ExtN.of swf).trans (yh3.trans ((ExtN.of swg).trans ((ExtN.of swh).trans (yh4.trans ((ExtN.of slf).trans ((ExtN.of slg).trans ((ExtN.of slh).trans ((ExtN.of sxa).trans (yf1.trans ((ExtN.of sxb).trans (yf2.trans ((ExtN.of sxc).trans (yf3.trans ((ExtN.of sli).trans ((ExtN.of slj).trans ((ExtN.of slk).trans ((ExtN.of sll).trans ((ExtN.of slm).trans ((ExtN.of spr).trans ((ExtN.of sm).trans ((ExtN.of sya).trans ((ExtN.of sn).trans ((ExtN.of syb).trans ((ExtN.of so).trans ((ExtN.of sln).trans (ExtN.of slo)))))))))))))))))))))))))))))))))))))))))))))))))))))))))) (tf3.ext (sli.trans (slj.trans (slk.trans (sll.trans (slm.trans (spr.trans (sm.trans (sya.trans (sn.trans (syb.trans (so.trans (sln.trans slo)))))))))))))
end
end Sh

namespace Sh
open PySem PySem.Spec PyProof.Rows L2 LamX
/-! ### k47: the right -/
abbrev s__law_right : Stmt := topS 68
theorem sc__law_right : FnScope (["_law_box_here", "_law_count", "_law_light", "_law_height", "_law_draughts", "_law_pond", "_law_some"] : List Str) (["_law_box_here"] : List Str) (defScope s__law_right) := ⟨rfl, rfl, rfl, by decide +kernel, rfl, by decide +kernel, by decide +kernel⟩
theorem b__law_right (kV doc pm : Value) (an : Option Addr) (cdv ct : Value) (us : List Value) (hl : us.length = (["_law_box_here"] : List Str).length) : bindArgs (PySem.W.fnOf "_law_right" "_law_right" (defArgs s__law_right) (defBody s__law_right) (defScope s__law_right) .none kV doc pm an cdv ct) ⟨us, []⟩ = pure ((["_law_box_here"] : List Str).zip us) :=
  match us, hl with | [_], _ => rfl
section
variable {P : Program} {w : World} {K : PySem.W.Frag} {mg : Str → Option Value} {base : Heap}
theorem ok_right {k : Nat} {Tl : List (Addr × Str)} (D : Df K mg "_law_right" s__law_right) (T : Bt mg) (O__law_take : Ok P w K mg base k "_law_take" s__law_take ["_law_box_here", "_law_span"] spTake) (O__law_of : Ok P w K mg base k "_law_of" s__law_of ["_law_box_here", "_law_some"] (spOf K)) (O__law_two : Ok P w K mg base k "_law_two" s__law_two ["_law_few"] spTwo)
    (O_family_size : Ok P w K mg base k "family_size" s_family_size ["sea", "standing"] (spFamily K)) (O_families_many : Ok P w K mg base k "families_many" s_families_many ["sea"] (spFamilies K))
    (O__law_alike_right : Ok P w K mg base k "_law_alike_right" s__law_alike_right ["_law_box_here"] spAlike) (O__law_small_right : Ok P w K mg base k "_law_small_right" s__law_small_right ["_law_height"] (spSmall Tl)) :
    Ok P w K mg base (k + 1) "_law_right" s__law_right ["_law_box_here"] (spRightT Tl) := by
  refine D.ok sc__law_right b__law_right (fun vs H Q E h => ?_) (fun f cdv A outer s H vs Q E hr h => ?_)
  · obtain ⟨b, rfl, _⟩ := h
    rfl
  · obtain ⟨b, rfl, hb, hT, q⟩ := h
    refine ⟨_, (pss_cons (ps_set (i := 1) sc__law_right.nd rfl (.inl rfl) (pe_op op_add pe_int (pe_fn O__law_take (hr.mono (by omega)) (pa_cons (pv 0) (pa_cons pe_int pa_nil)))))
      (pss_cons (ps_par (i := 2) (j := 3) (by rfl) sc__law_right.nd rfl rfl (by decide) rfl rfl (pa_cons (pe_fn O__law_take (hr.mono (by omega)) (pa_cons (pv 0) (pa_cons (pe_op op_add (pv 1) pe_int) pa_nil))) (pa_cons (pe_fn O__law_of (hr.mono (by omega)) (pa_cons (pv 0) (pa_cons (pe_lst (pa_cons pe_int (pa_cons pe_int (pa_cons (pe_op (op_powC 100000000000) pe_int pe_int) pa_nil)))) pa_nil))) pa_nil)) (by rfl))
      (pss_cons (ps_set (i := 4) sc__law_right.nd rfl (.inl rfl) (pe_op op_cat (pe_op op_rep (pe_lst (pa_cons (pv 3) pa_nil)) (pv 2)) (pe_op op_rep (pe_lst (pa_cons (pe_op op_add (pv 3) (pe_op op_mul pe_int (pv 1))) pa_nil)) (pe_op op_sub (pv 1) (pv 2)))))
      (pss_cons (ps_par (i := 5) (j := 6) (by rfl) sc__law_right.nd rfl rfl (by decide) rfl rfl (pa_cons (pe_tup (pa_cons (pv 3) (pa_cons (pv 3) (pa_cons (pe_callTy call_tuple_of (by rfl) T.tuple_ (by decide +kernel) (pa_cons (pv 4) pa_nil)) pa_nil)))) (pa_cons (pe_tupRg (by rfl) (by rfl) T.tuple_ (prg_1 (by rfl) T.range_ (pe_fn O__law_take (hr.mono (by omega)) (pa_cons (pv 0) (pa_cons (pe_op op_add (pv 1) pe_int) pa_nil))))) pa_nil)) (by rfl))
      (pss_cons (ps_if (pt_cmpR (op_neD hr.units) (pe_lst (pa_cons (pe_fn O_family_size (hr.mono (by omega)) (pa_cons (pv 5) (pa_cons (pv 6) pa_nil))) (pa_cons (pe_fn O_families_many (hr.mono (by omega)) (pa_cons (pv 5) pa_nil)) pa_nil))) (pe_lst (pa_cons (pe_fn O__law_two (hr.mono (by omega)) (pa_cons (pv 2) pa_nil)) (pa_cons (pe_fn O__law_two (hr.mono (by omega)) (pa_cons (pe_op op_sub (pv 1) (pv 2)) pa_nil)) pa_nil))) (nomark _))
        (pss_one (ps_ret pe_bl))
        pss_nil)
      (pss_one (ps_ret (pe_and (pe_fn O__law_alike_right (hr.mono (by omega)) (pa_cons (pv 0) pa_nil)) (pe_one (pe_fn O__law_small_right (hr.mono (by omega)) (pa_cons (pv 3) pa_nil))))))))))), ?_⟩
    refine ⟨_, rfl, b, 99999, 40, rfl, by decide, by decide, hb.mono (by omega), fun vc xc vc0 vc1 bxc => ?_⟩
    have u1 : But b H (upd H b (.lst xc)) := But.ups
    have x1 : BoxAt (upd H b (.lst xc)) b 99999 := .put bxc
    generalize upd H b (.lst xc) = H1 at u1 x1
    obtain ⟨c, ec, c0, c60⟩ : ∃ c : Nat, 1 + vc = (c : Int) ∧ 1 ≤ c ∧ c ≤ 40 := ⟨(1 + vc).toNat, by omega, by omega, by omega⟩
    refine ⟨1, vc, rfl, rfl, ?_⟩
    dsimp only
    rw [ec]
    refine ⟨_, rfl, _, rfl, (c : Int), 1, rfl, rfl, b, 99998, (c : Int) + 1, rfl, by omega, by omega, x1.mono (by omega), fun v1 xs1 v10 v11 b1 => ?_⟩
    have u2 : But b H (upd H1 b (.lst xs1)) := u1.trans But.ups
    have x2 : BoxAt (upd H1 b (.lst xs1)) b 99998 := .put b1
    generalize upd H1 b (.lst xs1) = H2 at u2 x2
    obtain ⟨l, rfl⟩ := Int.eq_ofNat_of_zero_le v10
    refine ⟨_, rfl, 10, 11, rfl, rfl, ⟨⟨by decide, by decide, by decide⟩, by decide⟩, (by show 3 ≤ sizeLine; decide), fun ql nql => ?_⟩
    have s3 : Same H2 (upd H2 ql (.lst [.int 0, .int 3, .int 100000000000])) := same_new nql
    have e3 : upd H2 ql (.lst [.int 0, .int 3, .int 100000000000]) ql = some (.lst [.int 0, .int 3, .int 100000000000]) := upd_same
    have qb : ql ≠ b := (x2.ne nql).symm
    generalize upd H2 ql (.lst [.int 0, .int 3, .int 100000000000]) = H3 at s3 e3
    have x3 := x2.same s3
    have u3 := u2.trans (Same.but (b := b) s3)
    refine ⟨b, ql, 99997, _, rfl, SqA.l e3, qb, (by show 0 < 3; decide), (by show 3 < 1000000; decide), x3.mono (by omega), fun vx xe hx hy => ?_⟩
    obtain ⟨ht, rfl, ht0, ht1⟩ : ∃ bs : Int, vx = .int bs ∧ 0 ≤ bs ∧ bs ≤ 100000000000 := by
      have z : vx = .int 0 ∨ vx = .int 3 ∨ vx = .int 100000000000 := by simpa using hx
      rcases z with rfl | rfl | rfl
      · exact ⟨0, rfl, by decide, by decide⟩
      · exact ⟨3, rfl, by decide, by decide⟩
      · exact ⟨100000000000, rfl, by decide, by decide⟩
    have u4 : But b H (upd H3 b (.lst xe)) := u3.trans But.ups
    have x4 : BoxAt (upd H3 b (.lst xe)) b 99997 := .put hy
    generalize upd H3 b (.lst xe) = H4 at u4 x4
    refine ⟨_, _, rfl, ?_⟩
    obtain ⟨j, ej⟩ : ∃ j : Nat, c = l + j := ⟨c - l, by omega⟩
    -- draughts
    refine ⟨_, rfl, (by show 1 ≤ sizeLine; decide), fun q1 nq1 => ?_⟩
    have s5 : Same H4 (upd H4 q1 (.lst [.int ht])) := same_new nq1
    have g5 : upd H4 q1 (.lst [.int ht]) q1 = some (.lst [.int ht]) := upd_same
    generalize upd H4 q1 (.lst [.int ht]) = H5 at s5 g5
    refine ⟨_, rfl, q1, (l : Int), _, rfl, rfl, g5, by omega, by omega, ?_, fun q2 nq2 => ?_⟩
    · show 1 * ((l : Nat) : Int).toNat ≤ sizeLine
      exact Nat.le_of_lt (small1000 (by omega))
    rw [rep_flat47 l ht]
    have s6 : Same H5 (upd H5 q2 (.lst ((List.replicate l ht).map V.int))) := same_new nq2
    have g6 : upd H5 q2 (.lst ((List.replicate l ht).map V.int)) q2 = some (.lst ((List.replicate l ht).map V.int)) := upd_same
    generalize upd H5 q2 (.lst ((List.replicate l ht).map V.int)) = H6 at s6 g6
    refine ⟨_, rfl, _, rfl, 3, (c : Int), rfl, rfl, .inl ⟨by decide, by decide⟩, _, _, rfl, rfl, (by show 1 ≤ sizeLine; decide), fun q3 nq3 => ?_⟩
    obtain ⟨dp, edp⟩ : ∃ dp : Int, dp = ht + 3 * (c : Int) := ⟨_, rfl⟩
    have s7 : Same H6 (upd H6 q3 (.lst [.int dp])) := same_new nq3
    have g7 : upd H6 q3 (.lst [.int dp]) q3 = some (.lst [.int dp]) := upd_same
    have h7 : upd H6 q3 (.lst [.int (ht + 3 * (c : Int))]) = upd H6 q3 (.lst [.int dp]) := by rw [edp]
    refine ⟨_, rfl, _, rfl, (c : Int), (l : Int), rfl, rfl, q3, (c : Int) - (l : Int), [.int dp], rfl, rfl, by rw [h7]; exact g7, by omega, by omega, ?_, fun q4 nq4 => ?_⟩
    · show 1 * ((c : Int) - (l : Int)).toNat ≤ sizeLine
      exact Nat.le_of_lt (small1000 (by omega))
    rw [show ((c : Int) - (l : Int)).toNat = ((j : Nat) : Int).toNat by omega, rep_flat47 j dp] 
    rw [h7] at nq4 ⊢
    generalize upd H6 q3 (.lst [.int dp]) = H7 at s7 g7 nq4
    have s8 : Same H7 (upd H7 q4 (.lst ((List.replicate j dp).map V.int))) := same_new nq4
    have g8 : upd H7 q4 (.lst ((List.replicate j dp).map V.int)) q4 = some (.lst ((List.replicate j dp).map V.int)) := upd_same
    generalize upd H7 q4 (.lst ((List.replicate j dp).map V.int)) = H8 at s8 g8
    refine ⟨q2, q4, _, _, rfl, rfl, (s7.trans s8) _ _ g6, g8, ?_, fun q5 nq5 => ?_⟩
    · rw [List.length_map, List.length_map, List.length_replicate, List.length_replicate]
      exact Nat.le_of_lt (small1000 (by omega))
    rw [← List.map_append]
    have s9 : Same H8 (upd H8 q5 (.lst ((List.replicate l ht ++ List.replicate j dp).map V.int))) := same_new nq5
    have g9 : upd H8 q5 (.lst ((List.replicate l ht ++ List.replicate j dp).map V.int)) q5 = some (.lst ((List.replicate l ht ++ List.replicate j dp).map V.int)) := upd_same
    generalize upd H8 q5 (.lst ((List.replicate l ht ++ List.replicate j dp).map V.int)) = H9 at s9 g9
    obtain ⟨ds, eds⟩ : ∃ ds : List Int, ds = List.replicate l ht ++ List.replicate j dp := ⟨_, rfl⟩
    have len : ds.length = c := by rw [eds, List.length_append, List.length_replicate, List.length_replicate, ej]
    rw [← eds] at g9
    -- the sea
    refine ⟨_, rfl, _, rfl, _, rfl, q5, _, rfl, .inl ⟨SqL.of g9, fun q6 nq6 => ?_⟩⟩
    have s10 : Same H9 (upd H9 q6 (.tup (ds.map V.int))) := same_new nq6
    have g10 : upd H9 q6 (.tup (ds.map V.int)) q6 = some (.tup (ds.map V.int)) := upd_same
    generalize upd H9 q6 (.tup (ds.map V.int)) = H10 at s10 g10
    refine ⟨(by show 3 ≤ sizeLine; decide), fun pp npp => ?_⟩
    have s11 : Same H10 (upd H10 pp (.tup [.int ht, .int ht, .ref q6])) := same_new npp
    have g11 : upd H10 pp (.tup [.int ht, .int ht, .ref q6]) pp = some (.tup [.int ht, .int ht, .ref q6]) := upd_same
    generalize upd H10 pp (.tup [.int ht, .int ht, .ref q6]) = H11 at s11 g11
    have hv : SeaT K H11 (.ref pp) ht ht ds := ⟨pp, q6, rfl, SqT.of g11, SqT.of (s11 _ _ g10)⟩
    have sm := s5.trans (s6.trans (s7.trans (s8.trans (s9.trans (s10.trans s11)))))
    have u11 : But b H H11 := u4.trans (Same.but sm)
    have x11 := x4.same sm
    clear u1 u2 u3 u4 s3 s5 s6 s7 s8 s9 s10 s11 x1 x2 x3 x4 e3 g5 g6 g7 g8 g9 g10 g11 nql nq1 nq2 nq3 nq4 nq5 nq6 npp hx hy h7 sm
    refine ⟨_, rfl, _, rfl, (c : Int), 1, rfl, rfl, b, 99996, (c : Int) + 1, rfl, by omega, by omega, x11.mono (by omega), fun v3 xs3 v30 v31 b3 => ?_⟩
    have u12 : But b H (upd H11 b (.lst xs3)) := u11.trans But.ups
    have x12 : BoxAt (upd H11 b (.lst xs3)) b 99996 := .put b3
    have hv12 : SeaT K (upd H11 b (.lst xs3)) (.ref pp) ht ht ds := hv.but x11 But.ups
    generalize upd H11 b (.lst xs3) = H12 at u12 x12 hv12
    obtain ⟨sz, rfl⟩ := Int.eq_ofNat_of_zero_le v30
    refine ⟨_, rfl, .of_le (by omega) (by omega) (by omega) (by omega), fun p np => ?_⟩
    rw [rgV_ni]
    have s1 : Same H12 (upd H12 p (.tup (ni (List.range sz)))) := same_new np
    have e1 : upd H12 p (.tup (ni (List.range sz))) p = some (.tup (ni (List.range sz))) := upd_same
    generalize upd H12 p (.tup (ni (List.range sz))) = H13 at s1 e1
    refine ⟨_, _, rfl, ?_⟩
    have lot : Lot ds.length (List.range sz) := by rw [len]; exact ⟨List.pairwise_lt_range, fun i hi => by have := List.mem_range.mp hi; omega⟩
    have hv14 := hv12.same s1
    have e14 := e1
    have x14 := x12.same s1
    have u14 := u12.trans (Same.but (b := b) s1)
    clear s1 e1 u11 u12 x11 x12 hv hv12 np
    have sz2 : Sz ht ht ds (List.range sz) = 2 ^ l := by
      rw [eds]
      exact light_sz ht0 j ht ht _ (Int.le_refl _) (Int.le_refl _) (by omega) (by rw [← ej, ← len]; exact lot)
    have fn2 : Fn ht ht ds = 2 ^ j := by
      rw [eds]
      exact light_fn ht0 j ht ht (by omega) (Int.le_refl _) (Int.le_refl _) (by omega)
    refine ⟨_, rfl, _, rfl, .ref pp, .ref p, ht, ht, ds, List.range sz, rfl, hv14.a, ⟨p, rfl, SqA.t e14⟩, by omega, by omega, lot, fun G1 y1 => ?_⟩
    rw [show Ct.fam ds.length (Gof ht ht ds) (mem (List.range sz)) = 2 ^ l from sz2]
    refine ⟨_, rfl, .ref pp, ht, ht, ds, rfl, (hv14.same y1).a, by omega, by omega, fun G2 y2 => ?_⟩
    rw [show famsN ds.length (topI ht ht ds.length).toNat (Gof ht ht ds) = 2 ^ j from fn2]
    refine ⟨(by show 2 ≤ sizeLine; decide), fun la nla => ?_⟩
    have y3 : Same G2 (upd G2 la (.lst [.int ((2 ^ l : Nat) : Int), .int ((2 ^ j : Nat) : Int)])) := same_new nla
    have a3 : upd G2 la (.lst [.int ((2 ^ l : Nat) : Int), .int ((2 ^ j : Nat) : Int)]) la = some (.lst ([((2 ^ l : Nat) : Int), ((2 ^ j : Nat) : Int)].map V.int)) := upd_same
    generalize upd G2 la (.lst [.int ((2 ^ l : Nat) : Int), .int ((2 ^ j : Nat) : Int)]) = G3 at y3 a3
    refine ⟨_, rfl, l, rfl, by omega, ?_⟩
    refine ⟨_, rfl, _, rfl, (c : Int), (l : Int), rfl, rfl, j, ?_, by omega, ?_⟩
    · rw [ej]
      simp
      omega
    refine ⟨(by show 2 ≤ sizeLine; decide), fun lb nlb => ?_⟩
    have y4 : Same G3 (upd G3 lb (.lst [.int ((2 ^ l : Nat) : Int), .int ((2 ^ j : Nat) : Int)])) := same_new nlb
    have a4 : upd G3 lb (.lst [.int ((2 ^ l : Nat) : Int), .int ((2 ^ j : Nat) : Int)]) lb = some (.lst ([((2 ^ l : Nat) : Int), ((2 ^ j : Nat) : Int)].map V.int)) := upd_same
    generalize upd G3 lb (.lst [.int ((2 ^ l : Nat) : Int), .int ((2 ^ j : Nat) : Int)]) = G4 at y4 a4
    refine ⟨_, _, .lst (SqL.of (y4 _ _ a3)) (DpAll.ints _), .lst (SqL.of a4) (DpAll.ints _), shaped_ints _, shaped_ints _, ?_⟩
    refine ⟨false, congrArg V.bl (by rw [eqvL47]; rfl), iteF ?_⟩
    have ys := y1.trans (y2.trans (y3.trans y4))
    have u18 := u14.trans (Same.but (b := b) ys)
    have x18 := x14.same ys
    refine ⟨_, rfl, b, 99800, rfl, x18.mono (by omega), fun G5 u5 x5 => ?_⟩
    refine ⟨true, rfl, iteT ?_⟩
    have t5 := tabs_but hT hb (u18.trans u5)
    refine ⟨_, rfl, ht, rfl, ht0, ht1, t5, fun G6 y6 t6 => ?_⟩
    exact q _ ((ButT.of (u18.trans u5)).trans (ButT.ext y6)) t6
end
end Sh

namespace Sh
open PySem PySem.Spec PyProof.Rows L2 LamX
/-! ### the law itself -/
def spLawT (Tl : List (Addr × Str)) (K : PySem.W.Frag) : Sp := fun vs H Q _ => ∃ (a : Addr) (ns : List Int), vs = [.ref a] ∧ SqL K H a (ns.map V.int) ∧ ns.length ≤ 63 ∧ Tabs Tl H ∧ ∀ H', Q (.bl true) H'
abbrev s_law : Stmt := topS 69
theorem sc_law : FnScope (["_law_script", "_law_k"] : List Str) (["_law_script"] : List Str) (defScope s_law) := ⟨rfl, rfl, rfl, by decide +kernel, rfl, by decide +kernel, by decide +kernel⟩
theorem b_law (kV doc pm : Value) (an : Option Addr) (cdv ct : Value) (us : List Value) (hl : us.length = (["_law_script"] : List Str).length) : bindArgs (PySem.W.fnOf "law" "law" (defArgs s_law) (defBody s_law) (defScope s_law) .none kV doc pm an cdv ct) ⟨us, []⟩ = pure ((["_law_script"] : List Str).zip us) :=
  match us, hl with | [_], _ => rfl
section
variable {P : Program} {w : World} {K : PySem.W.Frag} {mg : Str → Option Value} {base : Heap}
theorem ok_lawT {k : Nat} {Tl : List (Addr × Str)} (D : Df K mg "law" s_law) (T : Bt mg) (O__law_box : Ok P w K mg base k "_law_box" s__law_box ["_law_script", "_law_k"] (spBox K)) (O__law_right : OkG P w K mg base k "_law_right" s__law_right ["_law_box_here"] (spRightT Tl)) :
    OkG P w K mg base (k + 1) "law" s_law ["_law_script"] (spLawT Tl K) := by
  refine D.okG sc_law b_law (fun vs H Q E h => ?_) (fun f cdv A outer s H vs Q E hr hG h => ?_)
  · obtain ⟨a, ns, rfl, _⟩ := h
    rfl
  · obtain ⟨a, ns, rfl, hS, hl, hT, q⟩ := h
    refine ⟨_, (pss_one (ps_ret (pe_callB (cr_all rfl) (by rfl) T.all_ (by decide +kernel) (pa_cons (pe_lc (own := [("_law_k", 1)]) (g := (gName 1)) (tt := tYes) (by rfl) sc_law.nd (pi_range1 (by rfl) T.range_ (pa_cons (pe_op op_add pe_int (pe_callB (call_min2 rfl) (by rfl) T.min_ (by decide +kernel) (pa_cons pe_int (pa_cons (pe_callB call_len_seq (by rfl) T.len_ PySem.boot_len (pa_cons (pv 0) pa_nil)) pa_nil)))) pa_nil)) (blkOk_by (own := [("_law_k", 1)]) (N := (["_law_script", "_law_k"] : List Str)) (sc := defScope s_law) (by decide +kernel)) (fun _ _ _ _ _ => (pg_name (i := 1) sc_law.nd rfl (.inl rfl))) (fun _ _ _ _ _ => pts_nil) (fun _ _ _ _ _ => (pe_fnG O__law_right (hr.mono (by omega)) hG (pa_cons (pe_fn O__law_box (hr.mono (by omega)) (pa_cons (pv 0) (pa_cons (pv 1) pa_nil))) pa_nil)))) pa_nil)))), ?_⟩
    refine ⟨_, rfl, a, _, rfl, .inl hS, _, _, rfl, 1, _, rfl, rfl, _, rfl, ?_, ?_, fun C nC => ?_⟩
    · split <;> omega
    · rw [List.length_map]
      split <;> omega
    rw [List.length_map]
    generalize en : (1 + if (ns.length : Int) < 3 then (ns.length : Int) else 3).toNat = n
    have hn : n ≤ 4 := by
      rw [← en]
      split <;> omega
    refine lc_range (fun i H' => ExtN H H' ∧ Tabs Tl H' ∧ H' C = some (.lst ((List.replicate i true).map V.bl))) ⟨ext_same (same_new nC), hT.ext (same_new nC), upd_same⟩ ?_ ?_
    · rintro i H1 hi ⟨sm, tm, hC⟩
      refine ⟨rfl, tyes (iteT ?_)⟩
      refine ⟨_, rfl, _, rfl, a, ns, i, ?_, by omega, ext_seq sm hS, fun b xs nb bx => ?_⟩
      · show [V.ref a, V.int (0 + (i : Int))] = _
        rw [Int.zero_add]
      refine ⟨b, rfl, (BoxAt.put bx).mono (by decide), tm.ext (same_new nb), fun H2 u2 t2 => ?_⟩
      have nCb : C ≠ b := ne_of_none hC nb
      have hC2 := u2 _ _ nCb (by rw [upd_ne nCb]; exact hC) fun _ z => by cases z
      refine ⟨_, hC2, ?_, fun p o ho no => ?_, tabs_put t2 ⟨_, hC2⟩, ?_⟩
      · rw [List.length_map, List.length_replicate]
        exact small1000 (by omega)
      · have h1 := sm _ _ ho no
        have npb : p ≠ b := ne_of_none h1 nb
        rw [upd_ne (ne_of_none ho nC)]
        exact u2 _ _ npb (by rw [upd_ne npb]; exact h1) no
      · rw [upd_same, List.replicate_succ', List.map_append]
        rfl
    · rintro H1 ⟨sm, tm, hC⟩
      refine ⟨C, _, rfl, SqL.of hC, ?_⟩
      have e : (List.replicate n true).all id = true := by simp
      rw [e]
      exact q _
theorem law_endT {k : Nat} {fa : Addr} {sp : Sp} {cs : List (Addr × Addr)} (D : Df K mg "law" s_law) (hfa : mg "law" = some (.ref fa)) (O : ∀ bs, (∀ p ∈ cs, TabB bs mg p.1 p.2) → OkG P w K mg bs k "law" s_law ["_law_script"] sp) :
    ∃ fd : FuncData, (∀ (s : Shared) (v : Value), BindsTo s fd ⟨[v], []⟩ [("_law_script", v)]) ∧ ∀ bs : Heap, K.In bs → bs.Ns mainGlobals mg → (∀ p ∈ cs, TabB bs mg p.1 p.2) → FnG P w K mg bs k fa fd ["_law_script"] sp := by
  obtain ⟨f, fd, F, g⟩ := D.ex
  obtain rfl : fa = f := by
    have e := hfa.symm.trans g
    cases e
    rfl
  refine ⟨fd, fun s v => ?_, fun bs _ _ tb => ?_⟩
  · obtain ⟨oc, od, kV, doc, pm, an, cdv, ct, osl, rfl, lk, hcd⟩ := F.ex
    exact .of_eq (b_law kV doc pm an cdv ct [v] rfl)
  · obtain ⟨f', fd', F', g', _, G⟩ := (O bs tb).ex
    obtain rfl : fa = f' := by
      have e := g.symm.trans g'
      cases e
      rfl
    obtain ⟨_, _, _, _, _, _, _, _, _, _, lk, _⟩ := F.ex
    obtain ⟨_, _, _, _, _, _, _, _, _, _, lk', _⟩ := F'.ex
    have e := lk.symm.trans lk'
    cases e
    exact G
end
end Sh
namespace Sh
open PySem PySem.Spec PyProof.Rows L2 LamX
section
variable {l : PySem.W.OpenLaw} {w : World} {K : PySem.W.Frag} {mg : Str → Option Value} {h : Heap} {fa : Addr} {k : Nat}
theorem tabs_nil {H : Hp} {T : List (Addr × Str)} (z : ∀ q ∈ T, H q.1 = some (.tbl #[])) : Tabs T H := fun q hq => TabS.nil (z q hq)
/-- the law's end, one def that makes a lambda -/
theorem one_tab {n : Nat} {as ts : List Addr} (hn : n ≤ 63) {x q : Str} {st : Stmt} {c Pt : Addr} (L : DfL K mg h x st c Pt) (in_ : Pt ∈ ts ∧ Pt ∉ as) (D : Df K mg "law" s_law) (hfa : mg "law" = some (.ref fa))
    (build : ∀ bs, TabB bs mg c Pt → OkG l.prog w K mg bs k "law" s_law ["_law_script"] (spLawT [(Pt, q)] K)) :
    ∃ (fd : FuncData) (cs : List (Addr × Addr)) (sp : Sp), (∀ p ∈ cs, (p.2 ∈ ts ∧ p.2 ∉ as) ∧ PySem.W.CodeHd h p.1 p.2) ∧ (∀ (s : Shared) (u : Value), BindsTo s fd ⟨[u], []⟩ [("_law_script", u)]) ∧
      (∀ (H : Hp) (a : Addr) (ns : List Int), ns.length ≤ n → (∀ p ∈ cs, H p.2 = some (.tbl #[])) → SqL K H a (ns.map V.int) → sp [.ref a] H (fun v _ => v = .bl true) fun _ _ _ => False) ∧
      ∀ bs : Heap, K.In bs → bs.Ns mainGlobals mg → (∀ p ∈ cs, TabB bs mg p.1 p.2) → FnG l.prog w K mg bs k fa fd ["_law_script"] sp := by
  obtain ⟨fd, bnd, go⟩ := law_endT (cs := [(c, Pt)]) D hfa fun bs tb => build bs (tb _ (List.mem_singleton.mpr rfl))
  refine ⟨fd, [(c, Pt)], _, fun p hp => by rw [List.mem_singleton.mp hp]; exact ⟨in_, L.code⟩, bnd, fun H a ns hl hT hS => ⟨a, ns, rfl, hS, by omega, tabs_nil fun z hz => ?_, fun _ => rfl⟩, go⟩
  rw [List.mem_singleton.mp hz]
  exact hT (c, Pt) (List.mem_singleton.mpr rfl)
theorem two_tab {n : Nat} {as ts : List Addr} (hn : n ≤ 63) {x1 x2 q1 q2 : Str} {st1 st2 : Stmt} {c1 c2 P1 P2 : Addr} (L1 : DfL K mg h x1 st1 c1 P1) (L2 : DfL K mg h x2 st2 c2 P2) (in1 : P1 ∈ ts ∧ P1 ∉ as) (in2 : P2 ∈ ts ∧ P2 ∉ as) (D : Df K mg "law" s_law) (hfa : mg "law" = some (.ref fa))
    (build : ∀ bs, TabB bs mg c1 P1 → TabB bs mg c2 P2 → OkG l.prog w K mg bs k "law" s_law ["_law_script"] (spLawT [(P1, q1), (P2, q2)] K)) :
    ∃ (fd : FuncData) (cs : List (Addr × Addr)) (sp : Sp), (∀ p ∈ cs, (p.2 ∈ ts ∧ p.2 ∉ as) ∧ PySem.W.CodeHd h p.1 p.2) ∧ (∀ (s : Shared) (u : Value), BindsTo s fd ⟨[u], []⟩ [("_law_script", u)]) ∧
      (∀ (H : Hp) (a : Addr) (ns : List Int), ns.length ≤ n → (∀ p ∈ cs, H p.2 = some (.tbl #[])) → SqL K H a (ns.map V.int) → sp [.ref a] H (fun v _ => v = .bl true) fun _ _ _ => False) ∧
      ∀ bs : Heap, K.In bs → bs.Ns mainGlobals mg → (∀ p ∈ cs, TabB bs mg p.1 p.2) → FnG l.prog w K mg bs k fa fd ["_law_script"] sp := by
  obtain ⟨fd, bnd, go⟩ := law_endT (cs := [(c1, P1), (c2, P2)]) D hfa fun bs tb => build bs (tb (c1, P1) (by simp)) (tb (c2, P2) (by simp))
  refine ⟨fd, [(c1, P1), (c2, P2)], _, fun p hp => ?_, bnd, fun H a ns hl hT hS => ⟨a, ns, rfl, hS, by omega, tabs_nil fun z hz => ?_, fun _ => rfl⟩, go⟩
  · rcases List.mem_cons.mp hp with e | e
    · rw [e]
      exact ⟨in1, L1.code⟩
    · rw [List.mem_singleton.mp e]
      exact ⟨in2, L2.code⟩
  · rcases List.mem_cons.mp hz with e | e
    · rw [e]
      exact hT (c1, P1) (by simp)
    · rw [List.mem_singleton.mp e]
      exact hT (c2, P2) (by simp)
theorem three_names {q1 q2 q3 : Str} (P1 P2 P3 : Addr) (n12 : P1 ≠ P2) (n13 : P1 ≠ P3) (n23 : P2 ≠ P3) : (∀ q ∈ [(P1, q1), (P2, q2), (P3, q3)], q.1 = P1 → q.2 = q1) ∧ (∀ q ∈ [(P1, q1), (P2, q2), (P3, q3)], q.1 = P2 → q.2 = q2) ∧ ∀ q ∈ [(P1, q1), (P2, q2), (P3, q3)], q.1 = P3 → q.2 = q3 := by
  refine ⟨fun q hq e => ?_, fun q hq e => ?_, fun q hq e => ?_⟩
  · rcases List.mem_cons.mp hq with rfl | hq
    · rfl
    rcases List.mem_cons.mp hq with rfl | hq
    · exact absurd e.symm n12
    · rw [List.mem_singleton.mp hq] at e
      exact absurd e.symm n13
  · rcases List.mem_cons.mp hq with rfl | hq
    · exact absurd e n12
    rcases List.mem_cons.mp hq with rfl | hq
    · rfl
    · rw [List.mem_singleton.mp hq] at e
      exact absurd e.symm n23
  · rcases List.mem_cons.mp hq with rfl | hq
    · exact absurd e n13
    rcases List.mem_cons.mp hq with rfl | hq
    · exact absurd e n23
    · rw [List.mem_singleton.mp hq]
theorem three_tab {n : Nat} {as ts : List Addr} (hn : n ≤ 63) {x1 x2 x3 q1 q2 q3 : Str} {st1 st2 st3 : Stmt} {c1 c2 c3 P1 P2 P3 : Addr} (L1 : DfL K mg h x1 st1 c1 P1) (L2 : DfL K mg h x2 st2 c2 P2) (L3 : DfL K mg h x3 st3 c3 P3) (in1 : P1 ∈ ts ∧ P1 ∉ as) (in2 : P2 ∈ ts ∧ P2 ∉ as) (in3 : P3 ∈ ts ∧ P3 ∉ as) (D : Df K mg "law" s_law) (hfa : mg "law" = some (.ref fa))
    (build : ∀ bs, TabB bs mg c1 P1 → TabB bs mg c2 P2 → TabB bs mg c3 P3 → OkG l.prog w K mg bs k "law" s_law ["_law_script"] (spLawT [(P1, q1), (P2, q2), (P3, q3)] K)) :
    ∃ (fd : FuncData) (cs : List (Addr × Addr)) (sp : Sp), (∀ p ∈ cs, (p.2 ∈ ts ∧ p.2 ∉ as) ∧ PySem.W.CodeHd h p.1 p.2) ∧ (∀ (s : Shared) (u : Value), BindsTo s fd ⟨[u], []⟩ [("_law_script", u)]) ∧
      (∀ (H : Hp) (a : Addr) (ns : List Int), ns.length ≤ n → (∀ p ∈ cs, H p.2 = some (.tbl #[])) → SqL K H a (ns.map V.int) → sp [.ref a] H (fun v _ => v = .bl true) fun _ _ _ => False) ∧
      ∀ bs : Heap, K.In bs → bs.Ns mainGlobals mg → (∀ p ∈ cs, TabB bs mg p.1 p.2) → FnG l.prog w K mg bs k fa fd ["_law_script"] sp := by
  obtain ⟨fd, bnd, go⟩ := law_endT (cs := [(c1, P1), (c2, P2), (c3, P3)]) D hfa fun bs tb => build bs (tb (c1, P1) (by simp)) (tb (c2, P2) (by simp)) (tb (c3, P3) (by simp))
  refine ⟨fd, [(c1, P1), (c2, P2), (c3, P3)], _, fun p hp => ?_, bnd, fun H a ns hl hT hS => ⟨a, ns, rfl, hS, by omega, tabs_nil fun z hz => ?_, fun _ => rfl⟩, go⟩
  · rcases List.mem_cons.mp hp with e | e
    · rw [e]
      exact ⟨in1, L1.code⟩
    rcases List.mem_cons.mp e with e | e
    · rw [e]
      exact ⟨in2, L2.code⟩
    · rw [List.mem_singleton.mp e]
      exact ⟨in3, L3.code⟩
  · rcases List.mem_cons.mp hz with e | e
    · rw [e]
      exact hT (c1, P1) (by simp)
    rcases List.mem_cons.mp e with e | e
    · rw [e]
      exact hT (c2, P2) (by simp)
    · rw [List.mem_singleton.mp e]
      exact hT (c3, P3) (by simp)
end
end Sh

open PySem PySem.W PyProof.Rows
set_option maxHeartbeats 0 in
theorem PySem.Challenge.cw_shoalmates_k47_known_counts_holds : PySem.Challenge.rw_shoalmates_k47_known_counts.Holds := by
  w_on; o_law; k_head; (case hw => w_witness2)
  k_fill
  refine Sh.walk_ofGT (l := PySem.Challenge.rw_shoalmates_k47_known_counts) (n := 63) (k := 17) (x := "_law_script") rfl (by decide) rfl ⟨rfl, by decide, by decide⟩ ?F
  case F =>
    intro w mg fa h KX G hmg
    have T : Sh.Bt mg := by
      constructor <;> (refine PySem.W.mg_none_of KX G ?_; k_is)
    refine' Sh.with_cn KX G ?a ?b ?c fun C => ?_
    (case a => k_is); (case b => k_is); (case c => k_is)
    refine' Sh.with_ck (w := w) KX G ?a ?l ?k ?d1 ?d2 ?d3 fun Ck => ?_
    (case a => k_is); (case l => k_is); (case d1 => k_is); (case d2 => k_is); (case d3 => k_is); (case k => exact ⟨⟨_, _, rfl, rfl⟩, ⟨_, _, rfl, rfl⟩, ⟨_, _, rfl, rfl⟩, trivial⟩)
    refine' Sh.with_chH KX G ?a fun Ch => ?_
    (case a => k_is)
    refine' Sh.with_df (x := "mark_of") (st := Sh.s_mark_of) KX G ?a ?l ?c ?k fun D_mark_of => ?_
    (case a => k_is); (case l => k_is); (case c => k_is); (case k => k_is)
    refine' Sh.with_df (x := "top_of") (st := Sh.s_top_of) KX G ?a ?l ?c ?k fun D_top_of => ?_
    (case a => k_is); (case l => k_is); (case c => k_is); (case k => k_is)
    refine' Sh.with_df (x := "fleet_of") (st := Sh.s_fleet_of) KX G ?a ?l ?c ?k fun D_fleet_of => ?_
    (case a => k_is); (case l => k_is); (case c => k_is); (case k => k_is)
    refine' Sh.with_df (x := "turned_fleet") (st := Sh.s_turned_fleet) KX G ?a ?l ?c ?k fun D_turned_fleet => ?_
    (case a => k_is); (case l => k_is); (case c => k_is); (case k => k_is)
    refine' Sh.with_df (x := "ships_many") (st := Sh.s_ships_many) KX G ?a ?l ?c ?k fun D_ships_many => ?_
    (case a => k_is); (case l => k_is); (case c => k_is); (case k => k_is)
    refine' Sh.with_df (x := "mark_in") (st := Sh.s_mark_in) KX G ?a ?l ?c ?k fun D_mark_in => ?_
    (case a => k_is); (case l => k_is); (case c => k_is); (case k => k_is)
    refine' Sh.with_df (x := "goers_many") (st := Sh.s_goers_many) KX G ?a ?l ?c ?k fun D_goers_many => ?_
    (case a => k_is); (case l => k_is); (case c => k_is); (case k => k_is)
    refine' Sh.with_df (x := "top_in") (st := Sh.s_top_in) KX G ?a ?l ?c ?k fun D_top_in => ?_
    (case a => k_is); (case l => k_is); (case c => k_is); (case k => k_is)
    refine' Sh.with_df (x := "filled_at") (st := Sh.s_filled_at) KX G ?a ?l ?c ?k fun D_filled_at => ?_
    (case a => k_is); (case l => k_is); (case c => k_is); (case k => k_is)
    refine' Sh.with_df (x := "low_stop") (st := Sh.s_low_stop) KX G ?a ?l ?c ?k fun D_low_stop => ?_
    (case a => k_is); (case l => k_is); (case c => k_is); (case k => k_is)
    refine' Sh.with_df (x := "lot_of") (st := Sh.s_lot_of) KX G ?a ?l ?c ?k fun D_lot_of => ?_
    (case a => k_is); (case l => k_is); (case c => k_is); (case k => k_is)
    refine' Sh.with_df (x := "turned_lot") (st := Sh.s_turned_lot) KX G ?a ?l ?c ?k fun D_turned_lot => ?_
    (case a => k_is); (case l => k_is); (case c => k_is); (case k => k_is)
    refine' Sh.with_df (x := "fixed_ones") (st := Sh.s_fixed_ones) KX G ?a ?l ?c ?k fun D_fixed_ones => ?_
    (case a => k_is); (case l => k_is); (case c => k_is); (case k => k_is)
    refine' Sh.with_df (x := "moving_mark") (st := Sh.s_moving_mark) KX G ?a ?l ?c ?k fun D_moving_mark => ?_
    (case a => k_is); (case l => k_is); (case c => k_is); (case k => k_is)
    refine' Sh.with_df (x := "ways_to_take") (st := Sh.s_ways_to_take) KX G ?a ?l ?c ?k fun D_ways_to_take => ?_
    (case a => k_is); (case l => k_is); (case c => k_is); (case k => k_is)
    refine' Sh.with_df (x := "with_more") (st := Sh.s_with_more) KX G ?a ?l ?c ?k fun D_with_more => ?_
    (case a => k_is); (case l => k_is); (case c => k_is); (case k => k_is)
    refine' Sh.with_df (x := "ways_below") (st := Sh.s_ways_below) KX G ?a ?l ?c ?k fun D_ways_below => ?_
    (case a => k_is); (case l => k_is); (case c => k_is); (case k => k_is)
    refine' Sh.with_df (x := "family_size") (st := Sh.s_family_size) KX G ?a ?l ?c ?k fun D_family_size => ?_
    (case a => k_is); (case l => k_is); (case c => k_is); (case k => k_is)
    refine' Sh.with_df (x := "low_lots") (st := Sh.s_low_lots) KX G ?a ?l ?c ?k fun D_low_lots => ?_
    (case a => k_is); (case l => k_is); (case c => k_is); (case k => k_is)
    refine' Sh.with_df (x := "top_lots") (st := Sh.s_top_lots) KX G ?a ?l ?c ?k fun D_top_lots => ?_
    (case a => k_is); (case l => k_is); (case c => k_is); (case k => k_is)
    refine' Sh.with_df (x := "families_many") (st := Sh.s_families_many) KX G ?a ?l ?c ?k fun D_families_many => ?_
    (case a => k_is); (case l => k_is); (case c => k_is); (case k => k_is)
    refine' Sh.with_df (x := "mark_at") (st := Sh.s_mark_at) KX G ?a ?l ?c ?k fun D_mark_at => ?_
    (case a => k_is); (case l => k_is); (case c => k_is); (case k => k_is)
    refine' Sh.with_df (x := "window_of") (st := Sh.s_window_of) KX G ?a ?l ?c ?k fun D_window_of => ?_
    (case a => k_is); (case l => k_is); (case c => k_is); (case k => k_is)
    refine' Sh.with_df (x := "movers_of") (st := Sh.s_movers_of) KX G ?a ?l ?c ?k fun D_movers_of => ?_
    (case a => k_is); (case l => k_is); (case c => k_is); (case k => k_is)
    refine' Sh.with_df (x := "comes_to") (st := Sh.s_comes_to) KX G ?a ?l ?c ?k fun D_comes_to => ?_
    (case a => k_is); (case l => k_is); (case c => k_is); (case k => k_is)
    refine' Sh.with_df (x := "fast_ones") (st := Sh.s_fast_ones) KX G ?a ?l ?c ?k fun D_fast_ones => ?_
    (case a => k_is); (case l => k_is); (case c => k_is); (case k => k_is)
    refine' Sh.with_df (x := "deepened") (st := Sh.s_deepened) KX G ?a ?l ?c ?k fun D_deepened => ?_
    (case a => k_is); (case l => k_is); (case c => k_is); (case k => k_is)
    refine' Sh.with_df (x := "most_needed") (st := Sh.s_most_needed) KX G ?a ?l ?c ?k fun D_most_needed => ?_
    (case a => k_is); (case l => k_is); (case c => k_is); (case k => k_is)
    refine' Sh.with_df (x := "least_of") (st := Sh.s_least_of) KX G ?a ?l ?c ?k fun D_least_of => ?_
    (case a => k_is); (case l => k_is); (case c => k_is); (case k => k_is)
    refine' Sh.with_dfL (x := "least_dredged") (st := Sh.s_least_dredged) KX G ?a ?l ?c ?k ?m ?s fun L_least_dredged => ?_
    (case a => k_is); (case l => k_is); (case c => k_is); (case k => k_is); (case m => k_is); (case s => exact ⟨_, _, _, _, _, _, _, _, rfl, rfl, rfl, rfl, rfl, rfl, rfl, rfl, by decide⟩)
    refine' Sh.with_dfL (x := "least_freeing") (st := Sh.s_least_freeing) KX G ?a ?l ?c ?k ?m ?s fun L_least_freeing => ?_
    (case a => k_is); (case l => k_is); (case c => k_is); (case k => k_is); (case m => k_is); (case s => exact ⟨_, _, _, _, _, _, _, _, rfl, rfl, rfl, rfl, rfl, rfl, rfl, rfl, by decide⟩)
    refine' Sh.with_df (x := "freed_by") (st := Sh.s_freed_by) KX G ?a ?l ?c ?k fun D_freed_by => ?_
    (case a => k_is); (case l => k_is); (case c => k_is); (case k => k_is)
    refine' Sh.with_df (x := "otherwise_ones") (st := Sh.s_otherwise_ones) KX G ?a ?l ?c ?k fun D_otherwise_ones => ?_
    (case a => k_is); (case l => k_is); (case c => k_is); (case k => k_is)
    refine' Sh.with_dfL (x := "window_between") (st := Sh.s_window_between) KX G ?a ?l ?c ?k ?m ?s fun L_window_between => ?_
    (case a => k_is); (case l => k_is); (case c => k_is); (case k => k_is); (case m => k_is); (case s => exact ⟨_, _, _, _, _, _, _, _, rfl, rfl, rfl, rfl, rfl, rfl, rfl, rfl, by decide⟩)
    refine' Sh.with_df (x := "goers_among") (st := Sh.s_goers_among) KX G ?a ?l ?c ?k fun D_goers_among => ?_
    (case a => k_is); (case l => k_is); (case c => k_is); (case k => k_is)
    refine' Sh.with_df (x := "both_ways") (st := Sh.s_both_ways) KX G ?a ?l ?c ?k fun D_both_ways => ?_
    (case a => k_is); (case l => k_is); (case c => k_is); (case k => k_is)
    refine' Sh.with_df (x := "lacking_below") (st := Sh.s_lacking_below) KX G ?a ?l ?c ?k fun D_lacking_below => ?_
    (case a => k_is); (case l => k_is); (case c => k_is); (case k => k_is)
    refine' Sh.with_df (x := "lacking_above") (st := Sh.s_lacking_above) KX G ?a ?l ?c ?k fun D_lacking_above => ?_
    (case a => k_is); (case l => k_is); (case c => k_is); (case k => k_is)
    refine' Sh.with_df (x := "lacking_both") (st := Sh.s_lacking_both) KX G ?a ?l ?c ?k fun D_lacking_both => ?_
    (case a => k_is); (case l => k_is); (case c => k_is); (case k => k_is)
    refine' Sh.with_df (x := "lacking_by") (st := Sh.s_lacking_by) KX G ?a ?l ?c ?k fun D_lacking_by => ?_
    (case a => k_is); (case l => k_is); (case c => k_is); (case k => k_is)
    refine' Sh.with_df (x := "step_papers") (st := Sh.s_step_papers) KX G ?a ?l ?c ?k fun D_step_papers => ?_
    (case a => k_is); (case l => k_is); (case c => k_is); (case k => k_is)
    refine' Sh.with_df (x := "lack_of") (st := Sh.s_lack_of) KX G ?a ?l ?c ?k fun D_lack_of => ?_
    (case a => k_is); (case l => k_is); (case c => k_is); (case k => k_is)
    refine' Sh.with_df (x := "how_far") (st := Sh.s_how_far) KX G ?a ?l ?c ?k fun D_how_far => ?_
    (case a => k_is); (case l => k_is); (case c => k_is); (case k => k_is)
    refine' Sh.with_df (x := "_law_cell_at") (st := Sh.s__law_cell_at) KX G ?a ?l ?c ?k fun D__law_cell_at => ?_
    (case a => k_is); (case l => k_is); (case c => k_is); (case k => k_is)
    refine' Sh.with_df (x := "_law_box") (st := Sh.s__law_box) KX G ?a ?l ?c ?k fun D__law_box => ?_
    (case a => k_is); (case l => k_is); (case c => k_is); (case k => k_is)
    refine' Sh.with_df (x := "_law_take") (st := Sh.s__law_take) KX G ?a ?l ?c ?k fun D__law_take => ?_
    (case a => k_is); (case l => k_is); (case c => k_is); (case k => k_is)
    refine' Sh.with_df (x := "_law_of") (st := Sh.s__law_of) KX G ?a ?l ?c ?k fun D__law_of => ?_
    (case a => k_is); (case l => k_is); (case c => k_is); (case k => k_is)
    refine' Sh.with_df (x := "_law_choose") (st := Sh.s__law_choose) KX G ?a ?l ?c ?k fun D__law_choose => ?_
    (case a => k_is); (case l => k_is); (case c => k_is); (case k => k_is)
    refine' Sh.with_df (x := "_law_two") (st := Sh.s__law_two) KX G ?a ?l ?c ?k fun D__law_two => ?_
    (case a => k_is); (case l => k_is); (case c => k_is); (case k => k_is)
    refine' Sh.with_df (x := "_law_alike_right") (st := Sh.s__law_alike_right) KX G ?a ?l ?c ?k fun D__law_alike_right => ?_
    (case a => k_is); (case l => k_is); (case c => k_is); (case k => k_is)
    refine' Sh.with_df (x := "_law_small_right") (st := Sh.s__law_small_right) KX G ?a ?l ?c ?k fun D__law_small_right => ?_
    (case a => k_is); (case l => k_is); (case c => k_is); (case k => k_is)
    refine' Sh.with_df (x := "_law_right") (st := Sh.s__law_right) KX G ?a ?l ?c ?k fun D__law_right => ?_
    (case a => k_is); (case l => k_is); (case c => k_is); (case k => k_is)
    refine' Sh.with_df (x := "law") (st := Sh.s_law) KX G ?a ?l ?c ?k fun D_law => ?_
    (case a => k_is); (case l => k_is); (case c => k_is); (case k => k_is)
    exact Sh.three_tab (q1 := "window_between.<locals>.<lambda>") (q2 := "least_dredged.<locals>.<lambda>") (q3 := "least_freeing.<locals>.<lambda>") (by decide) L_window_between L_least_dredged L_least_freeing ⟨by decide, by decide⟩ ⟨by decide, by decide⟩ ⟨by decide, by decide⟩ D_law hmg fun base tb1 tb2 tb3 =>
      let O__law_take := Sh.ok_take (base := base) (k := 0) D__law_take T
      let O__law_cell_at := Sh.ok_cell_at (base := base) (k := 0) D__law_cell_at T
      let O__law_box := Sh.ok_box (k := 1) D__law_box T O__law_cell_at
      let O__law_of := Sh.ok_of (k := 1) D__law_of T O__law_take
      let O_mark_of := Sh.ok_mark_of (base := base) (k := 0) D_mark_of T
      let O_top_of := Sh.ok_top_of (base := base) (k := 0) D_top_of T
      let O_mark_at := Sh.ok_mark (k := 1) D_mark_at T O_mark_of
      let O_window_of := Sh.ok_window (base := base) (k := 0) D_window_of T
      let O_ships_many := Sh.ok_ships (base := base) (k := 0) D_ships_many T
      let O_mark_in := Sh.ok_mark_in (k := 1) D_mark_in T O_mark_of O_ships_many
      let O_top_in := Sh.ok_top_in (k := 1) D_top_in T O_top_of O_ships_many
      let O_goers_many := Sh.ok_goers_many (k := 2) D_goers_many T O_mark_in
      let O_filled_at := Sh.ok_filled (k := 2) D_filled_at T O_mark_in
      let O_low_stop := Sh.ok_low_stop (k := 3) D_low_stop T O_filled_at
      let O_turned_fleet := Sh.ok_turned_fleet (base := base) (k := 0) D_turned_fleet T
      let O_lot_of := Sh.ok_lot_of (k := 4) D_lot_of T C (O_ships_many.mono (by decide)) (O_top_in.mono (by decide)) O_low_stop (O_turned_fleet.mono (by decide))
      let O_turned_lot := Sh.ok_turned_lot (k := 1) D_turned_lot T Ck O_ships_many
      let O_fixed_ones := Sh.ok_fixed (k := 2) D_fixed_ones T O_mark_in
      let O_moving_mark := Sh.ok_moving (k := 2) D_moving_mark T C (O_ships_many.mono (by decide)) O_mark_in
      let O_fleet_of := Sh.ok_fleet_of (base := base) (k := 0) D_fleet_of T
      let O_movers_of := Sh.ok_movers (k := 5) D_movers_of T (O_moving_mark.mono (by decide)) O_lot_of (O_fleet_of.mono (by decide))
      let O_fast_ones := Sh.ok_fast (base := base) (k := 0) D_fast_ones T
      let O_comes_to := Sh.ok_comes (k := 5) D_comes_to T O_lot_of (O_fleet_of.mono (by decide)) (O_mark_at.mono (by decide)) (O_fast_ones.mono (by decide))
      let Oot := Sh.ok_otherwise (base := base) (k := 0) D_otherwise_ones T
      let Owb := Sh.ok_winB (k := 1) L_window_between.df T tb1 (by simp) (by exact (Sh.three_names _ _ _ (by decide) (by decide) (by decide)).1) Oot O_window_of
      let Oam := Sh.ok_among (k := 2) D_goers_among T O_mark_at
      let Owy := Sh.ok_ways (base := base) (k := 0) D_both_ways T
      let Olb := Sh.ok_lbelow (k := 3) D_lacking_below T Oam
      let Ola := Sh.ok_labove (k := 3) D_lacking_above T Oam
      let Olc := Sh.ok_lboth (k := 3) D_lacking_both T Oam
      let Oby := Sh.ok_by (k := 4) D_lacking_by T Olb Ola Olc
      let Opp := Sh.ok_papers (base := base) (k := 0) D_step_papers T
      let Olo := Sh.ok_lack_of (k := 6) D_lack_of T O_comes_to (Owy.mono (by decide)) (Opp.mono (by decide)) (Owb.mono (by decide)) (Oby.mono (by decide))
      let Ofa := Sh.ok_how_far (k := 7) D_how_far T Olo (Oot.mono (by decide))
      let Owt := Sh.ok_ways_take (base := base) (k := 0) D_ways_to_take T
      let Owm := Sh.ok_with_more (k := 1) D_with_more T Owt
      let Owl := Sh.ok_ways_below (k := 5) D_ways_below T (O_fixed_ones.mono (by decide)) (O_goers_many.mono (by decide)) (Owm.mono (by decide))
      let Off := Sh.ok_fleet_ofA (base := base) (k := 0) D_fleet_of T
      let Ofs := Sh.ok_family (k := 6) D_family_size T C (Off.mono (by decide)) (O_lot_of.mono (by decide)) Owl (O_turned_fleet.mono (by decide)) (O_turned_lot.mono (by decide))
      let Oll := Sh.ok_low_lots (k := 5) D_low_lots T (O_ships_many.mono (by decide)) (O_goers_many.mono (by decide)) (Owt.mono (by decide))
      let Otl := Sh.ok_top_lots (k := 5) D_top_lots T (O_ships_many.mono (by decide)) (O_goers_many.mono (by decide)) (Owt.mono (by decide))
      let Ofm := Sh.ok_families (k := 6) D_families_many T (Off.mono (by decide)) (O_top_in.mono (by decide)) (O_ships_many.mono (by decide)) Oll Otl (O_turned_fleet.mono (by decide))
      let Ode := Sh.ok_deep (base := base) (k := 0) D_deepened T Ch
      let One := Sh.ok_needed (base := base) (k := 0) D_most_needed T Ch
      let Ols := Sh.ok_least_of (base := base) (k := 8) (j := 8) D_least_of T (by decide)
      let Old := Sh.ok_least_dredged (k := 9) (j := 7) L_least_dredged.df tb2 (by simp) (by exact (Sh.three_names _ _ _ (by decide) (by decide) (by decide)).2.1) Ols (O_comes_to.mono (by decide)) (Ode.mono (by decide)) (One.mono (by decide))
      let Olf := Sh.ok_least_freeing (k := 9) (j := 7) L_least_freeing.df tb3 (by simp) (by exact (Sh.three_names _ _ _ (by decide) (by decide) (by decide)).2.2) Ols (O_movers_of.mono (by decide)) (Ode.mono (by decide)) (One.mono (by decide))
      let Ofb := Sh.ok_freed_by (k := 10) D_freed_by T Olf
      let Ocs := Sh.ok_choose (base := base) (k := 0) D__law_choose T
      let Otw := Sh.ok_two47 (base := base) (k := 0) D__law_two T
      let Oal := Sh.ok_alike (k := 8) D__law_alike_right T (O__law_take.mono (by decide)) (O__law_of.mono (by decide)) (Ocs.mono (by decide)) (Ofs.mono (by decide)) (Ofm.mono (by decide))
      let Osm := Sh.ok_small (k := 12) D__law_small_right T (Ofs.mono (by decide)) (Ofm.mono (by decide)) (O_comes_to.mono (by decide)) (Ofa.mono (by decide)) (Old.mono (by decide)) (Ofb.mono (by decide))
      Sh.ok_lawT (k := 16) D_law T (O__law_box.mono (by decide)) ((Sh.ok_right (k := 15) D__law_right T (O__law_take.mono (by decide)) (O__law_of.mono (by decide)) (Otw.mono (by decide)) (Ofs.mono (by decide)) (Ofm.mono (by decide)) (Oal.mono (by decide)) (Osm.mono (by decide))).g)
