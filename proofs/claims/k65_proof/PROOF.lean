import PyProof.Rows.All
import Wide.All
import OpenK.AllK
import Wide.FinOn
import KE.GoesEnum
import HandS.ForMost
import HandS.Walk
import HandS.Zip
import HandS.IsInst
import HandS.NoneIn
import HandS.SortInts
import HandS.Evl
import HandS.Conv
import HandS.Style
import HandS.Star
import HandS.More
import HandS.Strs
import HandS.SetFor
import HandS.Wide
import HandS.Set
import HandS.Strs
import PyProof.FactsAll.set_2
import HandS.TupSets
import HandS.SortOrd
import KE.KDictSum
import KE.KTupSum
import HandS.TupAny
import HandS.NamedTupSort
import HandS.Deep
import PySem.Challenge.RW_shoalmates_k65_whole_a_bar_parts_two_lot
set_option Elab.async false
set_option linter.all false
set_option maxRecDepth 100000
set_option maxHeartbeats 1000000
/-! Own layer over the hand layer: sequences (a list or a tuple), enumerate of a tuple, defs by one fact each, what is told kept under a growing heap. -/
namespace Sh
open PySem PySem.Spec PyProof.Rows L2

/-! ### heaps -/
theorem same_new {H : Hp} {p : Addr} {o : HO} (h : H p = none) : Same H (upd H p o) := fun b x e => by
  rw [upd_ne (ne_of_none e h)]
  exact e
theorem Same.tup {K : PySem.W.Frag} {H H' : Hp} {a : Addr} {xs : List V} (e : Same H H') (h : SqT K H a xs) : SqT K H' a xs := by
  rcases h with (h | ⟨o, h⟩) | h
  · exact .inl (.inl (e _ _ h))
  · exact .inl (.inr ⟨o, e _ _ h⟩)
  · exact .inr h
/-- a list or a tuple of xs is to be read at a -/
def SqA (K : PySem.W.Frag) (H : Hp) (a : Addr) (xs : List V) : Prop := SqL K H a xs ∨ SqT K H a xs
theorem Same.sqA {K : PySem.W.Frag} {H H' : Hp} {a : Addr} {xs : List V} (e : Same H H') (h : SqA K H a xs) : SqA K H' a xs := h.elim (fun q => .inl (e.seq q)) fun q => .inr (Same.tup e q)
theorem SqA.l {K : PySem.W.Frag} {H : Hp} {a : Addr} {xs : List V} (h : H a = some (.lst xs)) : SqA K H a xs := .inl (SqL.of h)
theorem SqA.t {K : PySem.W.Frag} {H : Hp} {a : Addr} {xs : List V} (h : H a = some (.tup xs)) : SqA K H a xs := .inr (SqT.of h)
/-- nothing but b has changed of what was tracked -/
def But (b : Addr) (H H' : Hp) : Prop := ∀ a o, a ≠ b → H a = some o → H' a = some o
theorem But.refl (b : Addr) (H : Hp) : But b H H := fun _ _ _ e => e
theorem But.trans {b : Addr} {H H1 H2 : Hp} (x : But b H H1) (y : But b H1 H2) : But b H H2 := fun a o n e => y a o n (x a o n e)
theorem Same.but {b : Addr} {H H' : Hp} (e : Same H H') : But b H H' := fun a o _ h => e a o h
theorem But.ups {b : Addr} {H : Hp} {o : HO} : But b H (upd H b o) := fun a x n e => by rw [upd_ne n]; exact e
theorem But.same {b : Addr} {G H H' : Hp} (x : But b H H') (g : Same G H) (n : G b = none) : Same G H' := fun a o e => x a o (ne_of_none e n) (g a o e)

section
variable {K : PySem.W.Frag} {H H' : Hp}
mutual
theorem Dp.same (e : Same H H') : ∀ {v : V} {d : PyData}, Dp K H v d → Dp K H' v d
  | _, _, .non => .non
  | _, _, .bl b => .bl b
  | _, _, .int i => .int i
  | _, _, .str x => .str x
  | _, _, .lst h a => .lst (e.seq h) (DpAll.same e a)
  | _, _, .tup h a => .tup (Same.tup e h) (DpAll.same e a)
theorem DpAll.same (e : Same H H') : ∀ {vs : List V} {ds : List PyData}, DpAll K H vs ds → DpAll K H' vs ds
  | _, _, .nil => .nil
  | _, _, .cons h a => .cons (Dp.same e h) (DpAll.same e a)
end
theorem DpAll.ints : ∀ ns : List Int, DpAll K H (ns.map V.int) (ns.map PyData.int)
  | [] => .nil
  | n :: ns => .cons (.int n) (DpAll.ints ns)
theorem DpAll.len : ∀ {vs : List V} {ds : List PyData}, DpAll K H vs ds → vs.length = ds.length
  | _, _, .nil => rfl
  | _, _, .cons _ a => congrArg Nat.succ (DpAll.len a)
theorem DpAll.get : ∀ {vs : List V} {ds : List PyData} {i : Nat} {v : V}, DpAll K H vs ds → vs[i]? = some v → ∃ d, ds[i]? = some d ∧ Dp K H v d
  | _, _, _, _, .nil, h => by simp at h
  | _, _, 0, _, .cons x _, h => by
    cases Option.some.inj h
    exact ⟨_, rfl, x⟩
  | _, _, i + 1, _, .cons _ a, h => DpAll.get (i := i) a h
end

/-! ### rules for a list or a tuple -/
section
variable {X : Cx}
def rIxA (K : PySem.W.Frag) : R2 := fun x y H Q => ∃ p xs i v, x = .ref p ∧ y = .int i ∧ SqA K H p xs ∧ atI xs i = some v ∧ Q v H
theorem ix_lt : IxR X (rIxA X.K) := fun value slice pins s σ H x y v u Q I rx ry h hs => by
  obtain ⟨p, xs, i, z, e1, e2, hq | hq, he, q⟩ := h
  · exact ix_list value slice pins s σ H x y v u Q I rx ry ⟨p, xs, i, z, e1, e2, hq, he, q⟩ hs
  · exact ix_tup value slice pins s σ H x y v u Q I rx ry ⟨p, xs, i, z, e1, e2, hq, he, q⟩ hs
/-- a written power, its worth written -/
theorem op_powC (v : Int) : OpR X (binaryOp .Pow) (rI (fun i j => CPow i j ∧ i ^ j.toNat = v) fun _ _ => .int v) := fun pins s σ H x y u w Q I rx ry h => by
  obtain ⟨i, j, e1, e2, ⟨hc, hv⟩, q⟩ := h
  exact op_pow pins s σ H x y u w Q I rx ry ⟨i, j, e1, e2, hc, show Q (.int (i ^ j.toNat)) H by rw [hv]; exact q⟩
/-- a < b < c < d -/
def tChain3 (r r' r'' : R2) (ta tb tc td : TE) : TE := fun σ H Q => ta σ H fun x H1 => tb σ H1 fun y H2 => r x y H2 fun z H3 => ∃ k, z = .bl k ∧
  (if k = true then tc σ H3 fun y' H4 => r' y y' H4 fun z' H5 => ∃ k', z' = .bl k' ∧ (if k' = true then td σ H5 fun y'' H6 => r'' y' y'' H6 Q else Q (.bl false) H5) else Q (.bl false) H3)
theorem pe_chain3 {a b c d : Expr} {ta tb tc td : TE} {pos : Pos} {op op' op'' : CmpOp} {r r' r'' : R2} (ho : OpR X (compareOp op) r) (ho' : OpR X (compareOp op') r') (ho'' : OpR X (compareOp op'') r'') (ha : PE X a ta) (hb : PE X b tb) (hc : PE X c tc) (hd : PE X d td)
    (hm : lastMarks [op, op', op''] [b, c, d] = false := by with_unfolding_all rfl) : PE X (.Compare a [op, op', op''] [b, c, d] pos) (tChain3 r r' r'' ta tb tc td) := by
  refine ⟨fun pins s σ H Q I h => ?_⟩
  refine Compare_chain (thn (ha.run pins s σ H _ I h) fun v s1 ⟨x, H1, I1, r1, q1⟩ => chain_link (thn (hb.run pins s1 σ H1 _ I1 q1) fun u s2 ⟨y, H2, I2, r2, q2⟩ =>
    thn (ho pins s2 σ H2 x y v u _ I2 r1 r2 q2) fun e s3 ⟨z, H3, I3, r3, k, ez, q3⟩ => ?_)) hm
  subst ez
  cases r3
  refine wpAny_truthy_bool ?_
  cases k with
  | false => exact ite_ff ⟨.bl false, H3, I3, rfl, q3⟩
  | true =>
    refine ite_tt (chain_link (thn (hc.run pins s3 σ H3 _ I3 q3) fun u' s4 ⟨y', H4, I4, r4, q4⟩ => thn (ho' pins s4 σ H4 y y' u u' _ I4 r2 r4 q4) fun e s5 ⟨z', H5, I5, r5, k', ez', q5⟩ => ?_))
    subst ez'
    cases r5
    refine wpAny_truthy_bool ?_
    cases k' with
    | false => exact ite_ff ⟨.bl false, H5, I5, rfl, q5⟩
    | true => exact ite_tt (chain_last (thn (hd.run pins s5 σ H5 _ I5 q5) fun w' s6 ⟨y'', H6, I6, r6, q6⟩ => ho'' pins s6 σ H6 y' y'' u' w' Q I6 r4 r6 q6))
theorem pt_chain3 {a b c d : Expr} {ta tb tc td : TE} {pos : Pos} {op op' op'' : CmpOp} {r r' r'' : R2} (ho : OpR X (compareOp op) r) (ho' : OpR X (compareOp op') r') (ho'' : OpR X (compareOp op'') r'') (ha : PE X a ta) (hb : PE X b tb) (hc : PE X c tc) (hd : PE X d td)
    (hm : lastMarks [op, op', op''] [b, c, d] = false := by with_unfolding_all rfl) : PT X (.Compare a [op, op', op''] [b, c, d] pos) (tTest (tChain3 r r' r'' ta tb tc td)) := by
  refine ⟨fun pins s σ H Q I h => ?_⟩
  refine isTrue_chain (thn (ha.run pins s σ H _ I h) fun v s1 ⟨x, H1, I1, r1, q1⟩ => test_link (thn (hb.run pins s1 σ H1 _ I1 q1) fun u s2 ⟨y, H2, I2, r2, q2⟩ =>
    thn (ho pins s2 σ H2 x y v u _ I2 r1 r2 q2) fun e s3 ⟨z, H3, I3, r3, k, ez, q3⟩ => ?_)) hm
  subst ez
  cases r3
  refine wpAny_truthy_bool ?_
  cases k with
  | false =>
    obtain ⟨k', e', q'⟩ := q3
    cases e'
    exact ite_ff ⟨H3, I3, q'⟩
  | true =>
    refine ite_tt (test_link (thn (hc.run pins s3 σ H3 _ I3 q3) fun u' s4 ⟨y', H4, I4, r4, q4⟩ => thn (ho' pins s4 σ H4 y y' u u' _ I4 r2 r4 q4) fun e s5 ⟨z', H5, I5, r5, k', ez', q5⟩ => ?_))
    subst ez'
    cases r5
    refine wpAny_truthy_bool ?_
    cases k' with
    | false =>
      obtain ⟨k', e', q'⟩ := q5
      cases e'
      exact ite_ff ⟨H5, I5, q'⟩
    | true =>
      refine ite_tt (test_last (thn (hd.run pins s5 σ H5 _ I5 q5) fun w' s6 ⟨y'', H6, I6, r6, q6⟩ => thn (ho'' pins s6 σ H6 y' y'' u' w' _ I6 r4 r6 q6) fun e s7 ⟨z2, H7, I7, r7, k2, e2, q7⟩ => ?_))
      subst e2
      cases r7
      exact wpAny_truthy_bool ⟨H7, I7, q7⟩
/-- the same, the written part by its own name (within a comprehension) -/
theorem ix_ltK (K : PySem.W.Frag) (hK : X.K = K := by rfl) : IxR X (rIxA K) := hK ▸ ix_lt
theorem call_lenK (K : PySem.W.Frag) (hK : X.K = K := by rfl) : CallR X (.builtin "len") (fun xs H Q => ∃ p ys, xs = [.ref p] ∧ (SqL K H p ys ∨ SqT K H p ys) ∧ Q (.int ys.length) H) := hK ▸ call_len_seq
theorem op_inK (K : PySem.W.Frag) (hK : X.K = K := by rfl) : OpR X (compareOp .In) (rIn K false) := hK ▸ op_in_seq
theorem op_notInK (K : PySem.W.Frag) (hK : X.K = K := by rfl) : OpR X (compareOp .NotIn) (rIn K true) := hK ▸ op_notIn_seq
def gSeq (K : PySem.W.Frag) (n : Nat) (t : TGs) : TG := fun v σ H Q => ∃ a xs, v = .ref a ∧ SqA K H a xs ∧ xs.length = n ∧ t xs σ H Q
theorem pg_seq {es : List Expr} {k : Nat} {t : TGs} {n : Nat} {pos : Pos} (hc : X.calm = true) (h : PGs X es t)
    (hn : (assignEach es X.env).length = n := by rfl) (hst : (assignEach es X.env).findIdx? (·.1) = none := by rfl) : PG X (.Tuple es k pos) (gSeq X.K n t) := by
  refine ⟨fun pins s σ H v u Q I r hw => ?_⟩
  obtain ⟨a, xs, e1, hq | hq, hl, hw⟩ := hw
  · exact (pg_unl hc h hn hst).run pins s σ H v u Q I r ⟨a, xs, e1, hq, hl, hw⟩
  · exact (pg_tup hc h hn hst).run pins s σ H v u Q I r ⟨a, xs, e1, hq, hl, hw⟩
/-- what stands at a stands -/
def Kp (a : Addr) (H H' : Hp) : Prop := ∀ o, H a = some o → H' a = some o
theorem Kp.ofS {a : Addr} {H H' : Hp} (e : Same H H') : Kp a H H' := fun o h => e a o h
theorem Kp.ofB {a b : Addr} {H H' : Hp} (e : But b H H') (n : a ≠ b) : Kp a H H' := fun o h => e a o n h
theorem Kp.refl (a : Addr) (H : Hp) : Kp a H H := fun _ h => h
theorem Kp.sl {K : PySem.W.Frag} {a : Addr} {xs : List V} {H H' : Hp} (k : Kp a H H') (h : SqL K H a xs) : SqL K H' a xs := by
  rcases h with (h | ⟨o, h⟩) | h
  · exact .inl (.inl (k _ h))
  · exact .inl (.inr ⟨o, k _ h⟩)
  · exact .inr h
theorem Kp.st {K : PySem.W.Frag} {a : Addr} {xs : List V} {H H' : Hp} (k : Kp a H H') (h : SqT K H a xs) : SqT K H' a xs := by
  rcases h with (h | ⟨o, h⟩) | h
  · exact .inl (.inl (k _ h))
  · exact .inl (.inr ⟨o, k _ h⟩)
  · exact .inr h
theorem Kp.sa {K : PySem.W.Frag} {a : Addr} {xs : List V} {H H' : Hp} (k : Kp a H H') (h : SqA K H a xs) : SqA K H' a xs := h.elim (fun q => .inl (k.sl q)) fun q => .inr (k.st q)
/-- the walk over what stood at a in H0 -/
def ItA (K : PySem.W.Frag) (H0 : Hp) (a : Addr) (xs : List V) (J : It) : Prop := (J = Itl K a ∧ SqL K H0 a xs) ∨ (J = Itt K a ∧ SqT K H0 a xs)
def iSeq (K : PySem.W.Frag) (tl : TE) : TI := fun σ H R => tl σ H fun x H1 => ∃ (a : Addr) (xs : List V) (H0 : Hp), x = .ref a ∧ SqA K H0 a xs ∧ Kp a H0 H1 ∧ ∀ J, ItA K H0 a xs J → R J H1
theorem pi_seq {tg l : Expr} {tl : TE} (hl : PE X l tl) : PI X tg l (iSeq X.K tl) := by
  refine ⟨fun pins s σ H R I h => ?_⟩
  refine thn (hl.run pins s σ H _ I h) fun v s1 ⟨x, H1, I1, r1, q1⟩ => ?_
  obtain ⟨a, xs, H0, e, hq | hq, hk, q⟩ := q1
  · replace q := q _ (.inl ⟨rfl, hq⟩)
    replace hq := hk.sl hq
    subst e
    cases r1
    obtain ⟨its, rv, p, hz⟩ := I1.list hq
    refine wpAny_pyIter_list p.isList ?_
    refine ⟨s1.heap.objs.size, [s1.heap.objs.size], _, _, H1, rfl, I1.kept (t' := s1.toks) fun b o e => Heap.get?_push_of_some _ e, turn_list a _, ⟨_, Heap.get?_push_size _ rfl, rfl, rfl⟩, fun b hb => ?_, q⟩
    have e : b = s1.heap.objs.size := by simpa using hb
    subst e
    exact I1.fpOk (Nat.le_refl _) (I1.hok.fresh (Nat.le_refl _))
  · replace q := q _ (.inr ⟨rfl, hq⟩)
    replace hq := hk.st hq
    subst e
    cases r1
    obtain ⟨its, rv, p, hz⟩ := I1.tuple hq
    refine wpAny_pyIter_tuple (show s1.heap.IsTuple a its.toArray from p) ?_
    refine ⟨s1.heap.objs.size, [s1.heap.objs.size], _, _, H1, rfl, I1.kept (t' := s1.toks) fun b o e => Heap.get?_push_of_some _ e, turn_tuple a _, ⟨_, Heap.get?_push_size _ rfl, rfl, rfl⟩, fun b hb => ?_, q⟩
    have e : b = s1.heap.objs.size := by simpa using hb
    subst e
    exact I1.fpOk (Nat.le_refl _) (I1.hok.fresh (Nat.le_refl _))
end

theorem ItA.walk {K : PySem.W.Frag} {H0 : Hp} {a : Addr} {xs : List V} {J : It} (h : ItA K H0 a xs J) : ∃ G : Hp → Prop, (∀ H', Kp a H0 H' → G H') ∧ Walk J xs.length G (YAt xs) := by
  rcases h with ⟨rfl, q⟩ | ⟨rfl, q⟩
  · exact ⟨_, fun _ k => k.sl q, walk_list⟩
  · exact ⟨_, fun _ k => k.st q, walk_tup⟩

/-! ### enumerate of a tuple -/
set_option maxHeartbeats 1000000 in
theorem meets_enum1 {v : Value} {o : Obj} {H : Heap → Prop} (B : Begins v o H) :
    Meets (Builtin.«enumerate.__new__» ⟨[.type "enumerate", v], []⟩) (fun _ R s => H s.heap ∧
      R (.ok (.ret (.ref (s.heap.push o).objs.size))) { s with heap := (s.heap.push o).push { cls := .type "enumerate", data := .fields #[.none, .bool false, .ref s.heap.objs.size, rawInt 0, .none, .none] } }) :=
  .of_wp fun prog w A R s h => by
    obtain ⟨hp, g, d, tk, os⟩ := s; obtain ⟨h1, h⟩ := h
    have hsub := sub_enumerate
    have q1 : ∀ {A' : Around} {E : Value → Shared → Prop} {Q : Value → Shared → Prop}, Q (.ref hp.objs.size) ⟨hp.push o, g, d, tk, os⟩ → wpAny (model prog w) A' (pyIter v) Q E ⟨hp, g, d, tk, os⟩ :=
      fun q => B.iter prog w _ _ ⟨hp, g, d, tk, os⟩ _ h1 q
    wp_walk using q1
    refine wpAny_stack_any fun st => wpAny_pure ?_
    split
    · rename_i c _ _ _ _ _
      cases (c == Value.type "enumerate")
      · wp_walk using q1
        exact ⟨_, rfl, h⟩
      · wp_walk using q1
        exact ⟨_, rfl, h⟩
    · wp_walk using q1
      exact ⟨_, rfl, h⟩
section
variable {prog : Program} {w : World} {A : Around} {E : Value → Shared → Prop} {s : Shared}
theorem enum1_begins {v : Value} {o : Obj} {H : Heap → Prop} {Q : Value → Shared → Prop} (B : Begins v o H) (h1 : H s.heap)
    (h : ∀ h', IsEnum h' (s.heap.objs.size + 1) s.heap.objs.size 0 .none → h'.get? s.heap.objs.size = some o → h'.objs.size = s.heap.objs.size + 2 →
      (∀ b o, s.heap.get? b = some o → h'.get? b = some o) → Q (.ref (s.heap.objs.size + 1)) { s with heap := h' }) :
    wpAny (model prog w) A (call (.type "enumerate") [v]) Q E s := by
  refine callType_new F.called_enumerate (by decide) (F.typeCall_enumerate_1 _) (F.newCall_enumerate_1 _) (fun obj => F.args_object_init_2 obj _) F.entry_enumerate_new
    (meets_enum1 B) ⟨h1, ?_⟩
  have hz : (s.heap.push o).objs.size = s.heap.objs.size + 1 := Heap.size_push ..
  show _ ∧ _
  rw [hz]
  have he : IsEnum ((s.heap.push o).push { cls := .type "enumerate", data := .fields #[.none, .bool false, .ref s.heap.objs.size, rawInt 0, .none, .none] }) (s.heap.objs.size + 1) s.heap.objs.size 0 .none := by
    have := Heap.get?_push_size (s.heap.push o) (o := { cls := .type "enumerate", data := .fields #[.none, .bool false, .ref s.heap.objs.size, rawInt 0, .none, .none] }) rfl
    rw [hz] at this; exact this
  refine ⟨⟨_, he, rfl⟩, h _ he (Heap.get?_push_of_some _ (Heap.get?_push_size _ B.free)) (by rw [Heap.size_push, hz]) fun b o x => Heap.get?_push_of_some _ (Heap.get?_push_of_some _ x)⟩
end
/-- the tuple at a as it stands at each turn, each item in a new pair -/
def IteT (K : PySem.W.Frag) (a : Addr) : It :=
  ⟨fun i H => ∃ (xs : List V) (x : V), SqT K H a xs ∧ xs[i]? = some x, fun i H v H' => ∃ T x, v = .ref T ∧ H T = none ∧ H' = upd H T (.tup [.int (i : Nat), x]) ∧ ∀ xs, SqT K H a xs → xs[i]? = some x, fun i H => ∃ xs : List V, SqT K H a xs ∧ xs.length ≤ i⟩
end Sh

namespace Sh
open PySem PySem.Spec PyProof.Rows L2
section
variable {prog : Program} {w : World} {A : Around} {E : Value → Shared → Prop} {s : Shared}
theorem enum_endT {e it t : Addr} {n : Nat} {i : Int} {old : Value} {items : Array Value} {Q : Option Value → Shared → Prop} (hh : A.handled = none)
    (he : IsEnum s.heap e it i old) (hit : s.heap.IsTupleIter it t n) (ht : s.heap.IsTuple t items) (hx : items[n]? = none)
    (hQ : ∀ h', Heap.ExtBut it s.heap h' → Q none { s with heap := h' }) : wpAny (model prog w) A (pyNext (.ref e)) Q E s := by
  have hT : s.TypeIs (.ref e) "enumerate" := ⟨_, he, rfl⟩
  unfold pyNext
  refine wpAny_bind (wpAny_attempt (wpAny_callSpecial?_slot (name := Str.ofString "__next__") hT F.slot_enumerate_next
    (wpAny_call_entry F.slot_enumerate_next hT F.entry_enumerate_next ?_ (F.args_enumerate_next_1 _))))
  show wpAny _ _ (field (.ref e) 2 >>= _) _ _ _
  refine wpAny_bind (wpAny_field he rfl (x := .ref it) rfl ?_)
  refine wpAny_bind (wpAny_nextOf_tuple_end (show _ = none from hh) hit ht hx fun h' x he' hx' => ?_)
  obtain ⟨o, ho, hc⟩ := hx'
  refine wpAny_bind (wpAny_isInstance (T := "StopIteration") (b := true) ⟨o, ho, hc⟩ isSubtype_stop ?_)
  exact wpAny_pure (hQ _ he')
end
theorem turn_enumT {P : Program} {w : World} {K : PySem.W.Frag} {elts : List Expr} {kk : Nat} {tpos : Pos} (a e it : Addr) :
    Turn P w K (.Tuple elts kk tpos) (IteT K a) [e, it] e (fun i h => (∃ old, IsEnum h e it ((i : Nat) : Int) old) ∧ h.IsTupleIter it a i ∧ e ≠ it ∧ a ≠ it ∧ e ≠ a) where
  mem := by simp
  obj := fun i h st b hb => by
    obtain ⟨⟨old, he⟩, ⟨o, ho, hc, hd⟩, _⟩ := st
    have e' : b = e ∨ b = it := by simpa using hb
    rcases e' with z | z
    · rw [z]; exact ⟨_, he, fun v q => nomatch q⟩
    · rw [z]; exact ⟨o, ho, fun v q => by rw [hd] at q; cases q⟩
  keep := fun i h h' st k => let ⟨⟨old, he⟩, hi, hne⟩ := st; ⟨⟨old, k e (by simp) _ he⟩, hi.at fun o q => k it (by simp) o q, hne⟩
  item := by
    intro X hP hw hK hc i pins s σ H E I hf st hg
    subst hP hw hK
    obtain ⟨⟨old, he⟩, hit, hne, hai, hea⟩ := st
    obtain ⟨xs, x, hq, hx⟩ := hg
    obtain ⟨its, rv, p, hz⟩ := I.tuple hq
    obtain ⟨u, hu, ru⟩ := rv.get hx
    have hel : e < s.heap.objs.size := Heap.lt_size he
    have hil : it < s.heap.objs.size := by obtain ⟨_, q, _⟩ := hit; exact Heap.lt_size q
    have D := Draws.tuple (prog := X.prog) (w := X.w) (A := X.A.in1) (show X.A.in1.handled = none from I.ok.hd hc) it a hai its.toArray
    have hlt : i < its.toArray.size := by
      have q := (List.getElem?_eq_some_iff.mp hu).1
      simpa using q
    refine wpAny_pyNext_enum_itemC D he ⟨hit, p⟩ hlt hne (by simp [hne, hea]) fun u' h' tk hP ho hst' hT hsz hk => ?_
    have eu : u' = u := by
      have q : its.toArray[i]? = some u' := hP
      have q2 : its.toArray[i]? = some u := by simpa using hu
      exact Option.some.inj (q.symm.trans q2)
    subst eu
    obtain ⟨hit', _⟩ := hst'
    refine ⟨_, rfl, wpAny_letOwnedTupleGo_enum (s := { s with heap := h', toks := tk + 1 }) ho fun h'' he' sb => ?_⟩
    have hT2 : h''.get? s.heap.objs.size = some { cls := .type "tuple", data := .seq #[.int i tk, u'] } := (sb.2 _ (Nat.ne_of_gt hel)).trans hT
    have new : ObjOk X.prog X.w (upd H s.heap.objs.size (.tup [.int (i : Nat), x])) h'' s.heap.objs.size (.tup [.int (i : Nat), x]) :=
      ⟨by show 2 ≤ sizeLine; decide, [.int i tk, u'], .cons ⟨_, rfl⟩ (.cons ru .nil), ⟨_, hT2, rfl, _, rfl⟩⟩
    have I1 : Inv X pins σ (upd H s.heap.objs.size (.tup [.int (i : Nat), x])) { s with heap := h'', toks := tk + 1 } :=
      I.turnedNew (ch := [e, it]) (fun b ob hb q => (sb.2 b (fun z => hb (by simp [z]))).trans (hk b ob (fun z => hb (by simp [z])) (fun z => hb (by simp [z])) q)) hf (Nat.le_refl _) new
    refine ⟨.ref s.heap.objs.size, _, I1, rfl, ⟨_, x, rfl, I.hok.fresh (Nat.le_refl _), rfl, fun ys hy => by rw [I.tuple_inj hy hq]; exact hx⟩, ⟨⟨u', ?_⟩, hit'.at fun o q => (sb.2 it (Ne.symm hne)).trans q, hne, hai, hea⟩, fun b hb => ?_⟩
    · have e1 : ((i + 1 : Nat) : Int) = (i : Int) + 1 := by omega
      rw [e1]; exact he'
    · have hb' : b < s.heap.objs.size := by
        have e' : b = e ∨ b = it := by simpa using hb
        rcases e' with z | z
        · rw [z]; exact hel
        · rw [z]; exact hil
      rw [upd_ne (Nat.ne_of_lt hb')]
      exact (hf b hb).1
  done := by
    intro X hP hw hK hc i pins s σ H E I hf st hg
    subst hP hw hK
    obtain ⟨⟨old, he⟩, hit, hne, hai, hea⟩ := st
    obtain ⟨xs, hq, hx⟩ := hg
    obtain ⟨its, rv, p, hz⟩ := I.tuple hq
    obtain ⟨f0, f1, f2, f3, f4, f5⟩ := hf it (by simp)
    have hl := rv.length
    exact enum_endT (I.ok.hd hc) he hit p (by simp; omega) fun h' eb => ⟨rfl, I.turned (t' := s.toks) (fun b o hb q => eb b o hb q) f0 f1 f3 f4 f5⟩
  self := fun A i s Q E st h => let ⟨⟨_, he⟩, _⟩ := st; wpAny_pyIter_enum he h
def ItE (K : PySem.W.Frag) (H0 : Hp) (a : Addr) (xs : List V) (J : It) : Prop := (J = Ite K a ∧ SqL K H0 a xs) ∨ (J = IteT K a ∧ SqT K H0 a xs)
def iEnumA (K : PySem.W.Frag) (ta : TA) : TI := fun σ H R => ta σ H fun vs H1 => ∃ (a : Addr) (xs : List V) (H0 : Hp), vs = [.ref a] ∧ SqA K H0 a xs ∧ Kp a H0 H1 ∧ ∀ J, ItE K H0 a xs J → R J H1
theorem pi_enumA {X : Cx} {e : Expr} {ta : TA} {p pos tpos : Pos} {elts : List Expr} {kk : Nat} (hg : Gl X "enumerate") (hm : X.mg "enumerate" = none) (ha : PA X [e] ta) (hs : starEach [e] X.env = [(false, eval e X.env)] := by rfl) :
    PI X (.Tuple elts kk tpos) (.Call (.Name "enumerate" p) [e] [] pos) (iEnumA X.K ta) := by
  refine ⟨fun pins s σ H R I h => ?_⟩
  refine Call_ (ld_blt I hg hm boot_enumerate (PyProof.Rows.callWith_type1 (thn (ha.run pos pins s σ H _ I h) fun us s1 ⟨vs, H1, I1, r1, q1⟩ => ?_) hs rfl))
  obtain ⟨a, xs, H0, ex, hs0, hk, q1⟩ := q1
  subst ex
  cases r1 with
  | cons r rr =>
    cases rr
    cases r
    have fr : ∀ b ∈ [s1.heap.objs.size + 1, s1.heap.objs.size], FpOk X pins H1 b := fun b hb => by
      have e' : b = s1.heap.objs.size + 1 ∨ b = s1.heap.objs.size := by simpa using hb
      have hle : s1.heap.objs.size ≤ b := by
        rcases e' with z | z
        · rw [z]; exact Nat.le_add_right _ _
        · rw [z]; exact Nat.le_refl _
      exact I1.fpOk hle (I1.hok.fresh hle)
    rcases hs0 with hq | hq
    · have q := q1 _ (.inl ⟨rfl, hq⟩)
      replace hq := hk.sl hq
      obtain ⟨its, rv, p', hz⟩ := I1.list hq
      refine call_enumerate_list p'.isList fun h' he hit hsz hk => wpAny_pyIter_enum he ?_
      have I2 : Inv X pins σ H1 { s1 with heap := h' } := I1.kept (t' := s1.toks) hk
      exact ⟨s1.heap.objs.size + 1, [s1.heap.objs.size + 1, s1.heap.objs.size], _, _, H1, rfl, I2, turn_enum a (s1.heap.objs.size + 1) s1.heap.objs.size, ⟨⟨.none, he⟩, hit, Nat.succ_ne_self _⟩, fr, q⟩
    · have q := q1 _ (.inr ⟨rfl, hq⟩)
      replace hq := hk.st hq
      obtain ⟨its, rv, p', hz⟩ := I1.tuple hq
      have al : a < s1.heap.objs.size := by obtain ⟨_, q, _⟩ := id p'; exact Heap.lt_size q
      refine enum1_begins (begins_tuple a its.toArray) p' fun h' he hit hsz hk => wpAny_pyIter_enum he ?_
      have I2 : Inv X pins σ H1 { s1 with heap := h' } := I1.kept (t' := s1.toks) hk
      exact ⟨s1.heap.objs.size + 1, [s1.heap.objs.size + 1, s1.heap.objs.size], _, _, H1, rfl, I2, turn_enumT a (s1.heap.objs.size + 1) s1.heap.objs.size, ⟨⟨.none, he⟩, ⟨_, hit, rfl, rfl⟩, Nat.succ_ne_self _, Nat.ne_of_lt al, Nat.ne_of_gt (Nat.lt_succ_of_lt al)⟩, fr, q⟩
theorem walk_enumT {K : PySem.W.Frag} {a : Addr} {xs : List V} : Walk (IteT K a) xs.length (fun H => SqT K H a xs) (YPair (fun i => some (.int (i : Nat))) (fun i => xs[i]?)) := by
  refine ⟨fun i _ hi q => ⟨xs, xs[i], q, by simp [hi]⟩, fun _ q => ⟨xs, q, Nat.le_refl _⟩, fun i H v H' _ q y => ?_⟩
  obtain ⟨T, x, h1, h2, h3, h4⟩ := y
  exact ⟨T, .int (i : Nat), x, h1, h2, h3, rfl, h4 xs q⟩
theorem ItE.walk {K : PySem.W.Frag} {H0 : Hp} {a : Addr} {xs : List V} {J : It} (h : ItE K H0 a xs J) : ∃ G : Hp → Prop, (∀ H', Kp a H0 H' → G H') ∧ Walk J xs.length G (YPair (fun i => some (.int (i : Nat))) (fun i => xs[i]?)) := by
  rcases h with ⟨rfl, q⟩ | ⟨rfl, q⟩
  · exact ⟨_, fun _ k => k.sl q, walk_enum⟩
  · exact ⟨_, fun _ k => k.st q, walk_enumT⟩
theorem walk_zipT {K : PySem.W.Frag} {a b : Addr} {xs ys : List V} {n : Nat} (hn : n = min xs.length ys.length) : Walk (RZ.ItzT K a b) n (fun H => SqT K H a xs ∧ SqT K H b ys) (YPair (fun i => xs[i]?) (fun i => ys[i]?)) := by
  subst hn
  refine ⟨fun i _ hi q => ?_, fun _ q => ⟨xs, ys, q.1, q.2, by omega⟩, fun i H v H' _ q y => ?_⟩
  · have h1 : i < xs.length := by omega
    have h2 : i < ys.length := by omega
    exact ⟨xs, ys, xs[i], ys[i], q.1, q.2, by simp [h1], by simp [h2]⟩
  · obtain ⟨T, x, z, h1, h2, h3, h4, h5⟩ := y
    exact ⟨T, x, z, h1, h2, h3, h4 xs q.1, h5 ys q.2⟩
end Sh

namespace Sh
open PySem PySem.Spec PyProof.Rows L2
/-- a def of the top: where it stands, and the global name -/
structure Df (K : PySem.W.Frag) (mg : Str → Option Value) (x : Str) (st : Stmt) : Prop where
  ex : ∃ (f : Addr) (fd : FuncData), Fun K x x st f fd ∧ mg x = some (.ref f)
/-- it keeps its promise -/
structure Ok (P : Program) (w : World) (K : PySem.W.Frag) (mg : Str → Option Value) (base : Heap) (k : Nat) (x : Str) (st : Stmt) (ps : List Str) (sp : Sp) : Prop where
  ex : ∃ (f : Addr) (fd : FuncData), Fun K x x st f fd ∧ mg x = some (.ref f) ∧ Binds K fd ps [] ∧ FnOk P w K mg base CX0 k f fd ps sp
section
variable {P : Program} {w : World} {K : PySem.W.Frag} {mg : Str → Option Value} {base : Heap}
theorem Df.ok {x : Str} {st : Stmt} {N ps : List Str} {k : Nat} {sp : Sp} (D : Df K mg x st) (S : FnScope N ps (defScope st))
    (hb : ∀ (kV doc pm : Value) (an : Option Addr) (cdv ct : Value) (us : List Value), us.length = ps.length → bindArgs (PySem.W.fnOf x x (defArgs st) (defBody st) (defScope st) .none kV doc pm an cdv ct) ⟨us, []⟩ = pure (ps.zip us))
    (len : ∀ vs H Q E, sp vs H Q E → vs.length = ps.length)
    (hbody : ∀ (f : Addr) (cdv : Value) (A : Around) (outer : List Env) (s : Shared) (H : Hp) (vs : List V) (Q : VK) (E : XK), Room k (A.deeper (envOfC x (defScope st) s.heap.objs.size f cdv)) → sp vs H Q E →
      ∃ t, PSs (cxOf CX0 P w K mg base N x (defScope st) f cdv A outer s H E).nox (defBody st) t ∧ t { nx := fun _ H' => Q .non H', rt := Q } (start N vs) H) : Ok P w K mg base (k + 1) x st ps sp := by
  obtain ⟨f, fd, F, g⟩ := D.ex
  exact ⟨f, fd, F, g, F.binds hb, F.ok S len (fun cdv A outer s H vs Q E hr h => hbody f cdv A outer s H vs Q E hr h)⟩
theorem Ok.mono {x : Str} {st : Stmt} {ps : List Str} {j k : Nat} {sp : Sp} (O : Ok P w K mg base j x st ps sp) (h : j ≤ k) : Ok P w K mg base k x st ps sp := by
  obtain ⟨f, fd, F, g, b, G⟩ := O.ex
  exact ⟨f, fd, F, g, b, G.mono h⟩
theorem Ok.imp {x : Str} {st : Stmt} {ps : List Str} {k : Nat} {sp sp' : Sp} (O : Ok P w K mg base k x st ps sp) (h : ∀ vs H Q E, sp' vs H Q E → sp vs H Q E) : Ok P w K mg base k x st ps sp' := by
  obtain ⟨f, fd, F, g, b, G⟩ := O.ex
  exact ⟨f, fd, F, g, b, G.imp h⟩
end
/-- the values at the places js -/
def pk {α : Type} (js : List Nat) (l : List α) : List α := js.filterMap fun j => l[j]?
theorem vals_get : ∀ {vs : List V} {us : List Value} (j : Nat), Vals vs us → (vs[j]? = none ∧ us[j]? = none) ∨ ∃ v u, vs[j]? = some v ∧ us[j]? = some u ∧ RelV v u
  | _, _, _, .nil => .inl ⟨by simp, by simp⟩
  | _, _, 0, .cons r _ => .inr ⟨_, _, rfl, rfl, r⟩
  | _, _, j + 1, .cons _ t => by simpa using vals_get j t
theorem vals_app : ∀ {vs zs : List V} {us ws : List Value}, Vals vs us → Vals zs ws → Vals (vs ++ zs) (us ++ ws)
  | _, _, _, _, .nil, h => h
  | _, _, _, _, .cons r t, h => .cons r (vals_app t h)
theorem vals_pk {vs : List V} {us : List Value} (h : Vals vs us) : ∀ js : List Nat, Vals (pk js vs) (pk js us)
  | [] => .nil
  | j :: js => by
    unfold pk
    rcases vals_get j h with ⟨a, b⟩ | ⟨v, u, a, b, r⟩
    · rw [List.filterMap_cons_none a, List.filterMap_cons_none b]
      exact vals_pk h js
    · rw [List.filterMap_cons_some a, List.filterMap_cons_some b]
      exact .cons r (vals_pk h js)
section
variable {X : Cx} {k : Nat} {x : Str} {st : Stmt} {ps : List Str} {sp : Sp} {e : Expr} {es : List Expr} {t tk : TA} {p pos : Pos} {kws : List Keyword} {ks : List Str}
/-- f(e, ..) -/
theorem pe_fn (O : Ok X.prog X.w X.K X.mg X.base k x st ps sp) (hr : Room k X.A) (ha : PA X (e :: es) t) (hg : Gl X x := by rfl)
    (hdb : (x == ("__debug__" : Str)) = false := by decide) (he : starEach (e :: es) X.env = (false, eval e X.env) :: starEach es X.env := by rfl) (hpl : (backTo pos (starEach es X.env)).any (·.1) = false := by rfl) :
    PE X (.Call (.Name x p) (e :: es) [] pos) (tCall sp [] E0 t) := by
  obtain ⟨f, fd, F, g, b, G⟩ := O.ex
  exact pe_call G hr hg g F.kp b .nil pass0 ha hdb he hpl
/-- f(e, .., k = v, ..): the parameters are the places js of all that is handed in -/
def tCallJ (js : List Nat) (n : Nat) (sp : Sp) (t tk : TA) : TE := fun σ H Q => t σ H fun vs H1 => tk σ H1 fun zs H2 => (vs.length + zs.length = n ∧ zs.length = n - vs.length) ∧ sp (pk js (vs ++ zs)) H2 Q E0
theorem run_fnJ {pins : List (Addr × Obj)} {σ : L2.St} {H : Hp} {s : Shared} {Q : VK} {us ws : List Value} {vs zs : List V} {js : List Nat} {f : Addr} {fd : FuncData} (F : Fun X.K x x st f fd) (G : FnOk X.prog X.w X.K X.mg X.base CX0 k f fd ps sp) (hr : Room k X.A)
    (hb : ∀ (kV doc pm : Value) (an : Option Addr) (cdv ct : Value), bindArgs (PySem.W.fnOf x x (defArgs st) (defBody st) (defScope st) .none kV doc pm an cdv ct) ⟨us, ks.zip ws⟩ = pure (ps.zip (pk js (us ++ ws))))
    (I : Inv X pins σ H s) (r : Vals vs us) (rz : Vals zs ws) (h : sp (pk js (vs ++ zs)) H Q E0) : wpAny (model X.prog X.w) X.A (call (.ref f) us (ks.zip ws)) (EP X pins σ Q) X.xe s := by
  obtain ⟨oc, od, kV, doc, pm, an, cdv, ct, osl, rfl, lk, hcd⟩ := F.ex
  refine wpAny_call (codeAny_mono (G.run X.A X.stack s H ⟨us, ks.zip ws⟩ (pk js (us ++ ws)) (pk js (vs ++ zs)) Q E0 hr I.env0 (.of_eq (hb kV doc pm an cdv ct)) (vals_pk (vals_app r rz) js) h) fun r s' hq => ?_)
  cases r with
  | error e => exact pass0 pins σ H s e s' I hq
  | ok fl =>
    cases fl with
    | ret u => exact I.after hq
    | next => exact False.elim hq
    | brk => exact False.elim hq
    | cont => exact False.elim hq
/-- f(k = v, ..) -/
theorem pe_fnK0 (js : List Nat) (O : Ok X.prog X.w X.K X.mg X.base k x st ps sp) (hr : Room k X.A)
    (hb : ∀ (kV doc pm : Value) (an : Option Addr) (cdv ct : Value) (ws : List Value), ws.length = ks.length → bindArgs (PySem.W.fnOf x x (defArgs st) (defBody st) (defScope st) .none kV doc pm an cdv ct) ⟨[], ks.zip ws⟩ = pure (ps.zip (pk js ws)))
    (hkw : PK X kws tk) (hg : Gl X x := by rfl) (hall : (backToKw pos (keywordEach kws X.env)).all (·.1.isSome) = true := by rfl) (hks : (backToKw pos (keywordEach kws X.env)).filterMap (·.1) = ks := by rfl) (hdb : (x == ("__debug__" : Str)) = false := by decide)
    (hpl : ((backTo pos (starEach [] X.env)).any (·.1) || (backToKw pos (keywordEach kws X.env)).any (·.1.isNone)) = false := by rfl) :
    PE X (.Call (.Name x p) [] kws pos) (tCallJ js ks.length sp tNil tk) := by
  obtain ⟨f, fd, F, g, b, G⟩ := O.ex
  refine ⟨fun pins s σ H Q I h => ?_⟩
  refine wpAny_Call_Name_kw (ld_glob I hg g ?_ hdb)
  refine PySem.W.callWith_KW0 (h₀ := X.base) I.ok.mod.kin F.kp hall ?_ hpl
  refine thn (hkw.run pos pins s σ H _ I h) fun ws s2 ⟨zs, H2, I2, rz, l2, q2⟩ => ⟨I2.kIn, ?_⟩
  rw [hks]
  exact run_fnJ (us := []) (vs := []) (js := js) F G hr (fun kV doc pm an cdv ct => hb kV doc pm an cdv ct ws (rz.length.symm.trans l2.2)) I2 .nil rz q2
/-- f(e, .., k = v, ..), n positional ones -/
theorem pe_fnK (js : List Nat) (n : Nat) (O : Ok X.prog X.w X.K X.mg X.base k x st ps sp) (hr : Room k X.A)
    (hb : ∀ (kV doc pm : Value) (an : Option Addr) (cdv ct : Value) (us ws : List Value), us.length = n → ws.length = ks.length → bindArgs (PySem.W.fnOf x x (defArgs st) (defBody st) (defScope st) .none kV doc pm an cdv ct) ⟨us, ks.zip ws⟩ = pure (ps.zip (pk js (us ++ ws))))
    (ha : PA X (e :: es) t) (hkw : PK X kws tk) (hg : Gl X x := by rfl) (hall : (backToKw pos (keywordEach kws X.env)).all (·.1.isSome) = true := by rfl) (hks : (backToKw pos (keywordEach kws X.env)).filterMap (·.1) = ks := by rfl)
    (hdb : (x == ("__debug__" : Str)) = false := by decide) (he : starEach (e :: es) X.env = (false, eval e X.env) :: starEach es X.env := by rfl)
    (hpl : ((backTo pos (starEach (e :: es) X.env)).any (·.1) || (backToKw pos (keywordEach kws X.env)).any (·.1.isNone)) = false := by rfl) :
    PE X (.Call (.Name x p) (e :: es) kws pos) (fun σ H Q => t σ H fun vs H1 => tk σ H1 fun zs H2 => (vs.length = n ∧ zs.length = ks.length) ∧ sp (pk js (vs ++ zs)) H2 Q E0) := by
  obtain ⟨f, fd, F, g, b, G⟩ := O.ex
  refine ⟨fun pins s σ H Q I h => ?_⟩
  refine wpAny_Call_Name_kw (ld_glob I hg g ?_ hdb)
  refine PySem.W.callWith_KW (h₀ := X.base) I.ok.mod.kin F.kp hall (thn (ha.run pos pins s σ H _ I h) fun us s1 ⟨vs, H1, I1, r, q⟩ => ?_) hpl he
  refine thn (hkw.run pos pins s1 σ H1 _ I1 q) fun ws s2 ⟨zs, H2, I2, rz, ⟨l1, l2⟩, q2⟩ => ⟨I2.kIn, ?_⟩
  rw [hks]
  exact run_fnJ (js := js) F G hr (fun kV doc pm an cdv ct => hb kV doc pm an cdv ct us ws (r.length.symm.trans l1) (rz.length.symm.trans l2)) I2 r rz q2
end
theorem tyes {σ : L2.St} {H : Hp} {Q : Bool → Hp → Prop} (h : Q true H) : tYes σ H Q := h
/-! ### xs[a:b:c] -/
def pickV (xs : List V) (lo hi st : Option Int) : List V := pk (sliceRange (sliceBounds lo hi st xs.length).1 (sliceBounds lo hi st xs.length).2.1 (sliceBounds lo hi st xs.length).2.2) xs
theorem pick_vals {xs : List V} {us : List Value} (r : Vals xs us) (lo hi st : Option Int) : Vals (pickV xs lo hi st) (slicePick us.toArray lo hi st).toList := by
  have e := vals_pk r (sliceRange (sliceBounds lo hi st xs.length).1 (sliceBounds lo hi st xs.length).2.1 (sliceBounds lo hi st xs.length).2.2)
  have e2 : (slicePick us.toArray lo hi st).toList = pk (sliceRange (sliceBounds lo hi st xs.length).1 (sliceBounds lo hi st xs.length).2.1 (sliceBounds lo hi st xs.length).2.2) us := by
    unfold slicePick pk
    rw [List.size_toArray, ← r.length]
    simp
  rw [e2]
  exact e
section
variable {X : Cx}
def tStep (K : PySem.W.Frag) (te : TE) (tl th ts : TO) : TE := fun σ H Q => te σ H fun x H1 => tl σ H1 fun l H2 => th σ H2 fun u H3 => ts σ H3 fun o H4 => ∃ a xs, x = .ref a ∧ SqL K H4 a xs ∧ o ≠ some 0 ∧ (pickV xs l u o).length ≤ sizeLine ∧ ∀ p, H4 p = none → Q (.ref p) (upd H4 p (.lst (pickV xs l u o)))
theorem pe_step {e st : Expr} {lo hi : Option Expr} {te : TE} {tl th ts : TO} {p3 pos : Pos} (he : PE X e te) (hlo : PO X lo tl) (hhi : PO X hi th) (hst : PO X (some st) ts) : PE X (.Subscript e (.Slice lo hi (some st) p3) pos) (tStep X.K te tl th ts) := by
  refine ⟨fun pins s σ H Q I h => ?_⟩
  refine Subscript_ (thn (he.run pins s σ H _ I h) fun v s1 ⟨x, H1, I1, r1, q1⟩ => ?_)
  refine wpAny_Slice (thn (hlo.run pins s1 σ H1 _ I1 q1) fun vl s2 ⟨l, H2, I2, pl, q2⟩ => ?_)
  refine thn (hhi.run pins s2 σ H2 _ I2 q2) fun vu s3 ⟨u, H3, I3, pu, q3⟩ => ?_
  refine thn (hst.run pins s3 σ H3 _ I3 q3) fun vs s4 ⟨o, H4, I4, ps, q4⟩ => ?_
  obtain ⟨a, xs, ex, hx, h0, hz2, q⟩ := q4
  subst ex
  cases r1
  have I5 : Inv X pins σ H4 { s4 with heap := s4.heap.push { cls := .type "slice", data := .fields #[vl, vu, vs] } } := I4.kept (t' := s4.toks) fun b ob q => Heap.get?_push_of_some _ q
  obtain ⟨its, r, ht, hz⟩ := I5.list hx
  have hlen := r.length
  show wpAny (model X.prog X.w) X.A (subscriptTail e (.Slice lo hi (some st) p3) (.ref a) (.ref s4.heap.objs.size)) (EP X pins σ Q) X.xe { s4 with heap := s4.heap.push { cls := .type "slice", data := .fields #[vl, vu, vs] } }
  refine tail_any (ops := [.ref a, .ref s4.heap.objs.size]) ht.isList.typeIs (PySem.slot_list_getitem.lookup) ?_ (by with_unfolding_all rfl)
  refine wpAny_getItem_list_slice ht.isList (Heap.IsSliceOf.new _ vl vu vs) pl pu ps h0 ?_ (by rw [List.size_toArray]; omega)
  refine ⟨.ref _, _, I5.laid (t' := s4.toks) (o := .lst (pickV xs l u o)) (fun b ob q => Heap.get?_push_of_some _ q) (Nat.le_refl _) ?_, rfl, q _ (I5.hok.fresh (Nat.le_refl _))⟩
  exact ⟨hz2, (slicePick its.toArray l u o).toList, 0, pick_vals r l u o, Heap.get?_push_size _ rfl⟩
end
/-! ### set(t) of a tuple of ints, as a thing that stands -/
def rSetT (K : PySem.W.Frag) (w : World) : List V → Hp → VK → Prop := fun xs H Q => ∃ (q : Addr) (ns : List Int), xs = [.ref q] ∧ SqT K H q (ns.map V.int) ∧ ns.length ≤ 1000 ∧ ∀ (a : Addr) (c : Nat), H a = none → c ≤ ns.length → Q (.ref a) (upd H a (SetO w a (fun j => decide (j ∈ ns)) c))
theorem cr_setT {X : Cx} (hc : X.calm = true) : CallR X (.type "set") (rSetT X.K X.w) := by
  intro pins s σ H xs us Q I r h
  obtain ⟨q, ns, rfl, hq, hl, k⟩ := h
  rw [Vals.ref1 r]
  obtain ⟨its, rv, pt, hz⟩ := I.tuple hq
  have hi : IntsAre its.toArray.toList ns := ints_of_vals rv
  refine call_set_tupI ns (I.ok.hd hc) (show s.heap.IsTuple q its.toArray from pt) hi (by unfold scanBound; omega) fun h' tk c R1 hcn kk => ?_
  exact ⟨.ref _, upd H s.heap.objs.size (SetO X.w s.heap.objs.size _ c), I.laid (t' := tk) kk (Nat.le_refl _) (setO_new R1), rfl, k _ _ (I.hok.fresh (Nat.le_refl _)) hcn⟩
theorem cr_setTw {X : Cx} (w : World) (hc : X.calm = true) (hw : X.w = w := by rfl) : CallR X (.type "set") (rSetT X.K w) := hw ▸ cr_setT hc
theorem cr_sortedSetw {X : Cx} (w : World) (hc : X.calm = true) (hw : X.w = w := by rfl) : CallR X (.builtin "sorted") (rSortedSet w) := hw ▸ cr_sortedSet hc
/-- names of Python's own that the top leaves alone -/
structure Bt (mg : Str → Option Value) : Prop where
  len_ : mg "len" = none
  range_ : mg "range" = none
  abs_ : mg "abs" = none
  int_ : mg "int" = none
  min_ : mg "min" = none
  max_ : mg "max" = none
  list_ : mg "list" = none
  tuple_ : mg "tuple" = none
  all_ : mg "all" = none
  any_ : mg "any" = none
  sorted_ : mg "sorted" = none
  sum_ : mg "sum" = none
  repr_ : mg "repr" = none
  zip_ : mg "zip" = none
  enumerate_ : mg "enumerate" = none
  isinstance_ : mg "isinstance" = none
  reversed_ : mg "reversed" = none
  str_ : mg "str" = none
  bool_ : mg "bool" = none
  set_ : mg "set" = none
end Sh

/-! |, - and ^ of two sets of small ints: the tables laid anew, merged, walked -/
/-! a set's table laid anew: each small int finds its slot -/
namespace Sh
open PySem PySem.Spec PyProof.Rows L2
def hops (m : Nat) : Nat → Nat → List Nat
  | 0, _ => []
  | n + 1, i => i :: hops m n ((i * 5 + 1) % (m + 1))
def bitsOf (l : List Nat) : Nat := l.foldl (fun b j => b ||| (1 <<< j)) 0
theorem bits_go (j : Nat) : ∀ (l : List Nat) (b : Nat), (l.foldl (fun b j => b ||| (1 <<< j)) b).testBit j = true → b.testBit j = true ∨ j ∈ l
  | [], b, h => .inl h
  | x :: l, b, h => by
    rcases bits_go j l _ h with z | z
    · rw [Nat.testBit_or, Bool.or_eq_true] at z
      rcases z with z | z
      · exact .inl z
      · rw [Nat.testBit_shiftLeft, Bool.and_eq_true, decide_eq_true_eq] at z
        obtain ⟨z1, z2⟩ := z
        by_cases c : j = x
        · exact .inr (c ▸ List.mem_cons_self)
        · obtain ⟨k, e⟩ : ∃ k, j - x = k + 1 := ⟨j - x - 1, by omega⟩
          rw [e] at z2
          have : Nat.testBit 1 (k + 1) = false := by rw [Nat.testBit_succ]; simp
          rw [this] at z2
          cases z2
    · exact .inr (List.mem_cons_of_mem _ z)
def allHops (m : Nat) : Bool := (List.range (m + 1)).all fun i => bitsOf (hops m (m + 1) i) == 2 ^ (m + 1) - 1
theorem hops_all : ∀ m ∈ [7, 15, 31, 63, 127], allHops m = true := by decide +kernel
theorem hops_mono {m : Nat} : ∀ (n k i j : Nat), n ≤ k → j ∈ hops m n i → j ∈ hops m k i
  | 0, _, _, _, _, h => by cases h
  | n + 1, 0, _, _, l, _ => by omega
  | n + 1, k + 1, i, j, l, h => by
    rcases List.mem_cons.mp h with e | h
    · rw [e]; exact List.mem_cons_self
    · exact List.mem_cons_of_mem _ (hops_mono n k _ j (by omega) h)
theorem hops_find {m i j : Nat} (hm : m ∈ [7, 15, 31, 63, 127]) (hi : i ≤ m) (hj : j ≤ m) : j ∈ hops m (SetTable.turns m) i := by
  have a := hops_all m hm
  unfold allHops at a
  have b := beq_iff_eq.mp (List.all_eq_true.mp a i (List.mem_range.mpr (by omega)))
  have c : (bitsOf (hops m (m + 1) i)).testBit j = true := by
    rw [b, Nat.testBit_two_pow_sub_one]
    exact decide_eq_true (by omega)
  rcases bits_go j _ 0 c with z | z
  · rw [Nat.zero_testBit] at z
    cases z
  · exact hops_mono (m + 1) _ i j (by unfold SetTable.turns; omega) z
theorem run_ge (m i : Nat) : i ≤ SetTable.runEnd m i := by
  unfold SetTable.runEnd
  split <;> omega
theorem free_some {m : Nat} {ow : Array (Option Nat)} : ∀ (f i p : Nat), p < 32 → (∃ j ∈ hops m f i, (ow.getD j (some 0)).isNone = true) → ∃ j, SetTable.layClean.free m ow f i p = some j ∧ (ow.getD j (some 0)).isNone = true
  | 0, _, _, _, ⟨_, h, _⟩ => by cases h
  | f + 1, i, p, hp, ⟨j, hj, ej⟩ => by
    unfold SetTable.layClean.free
    cases e : (List.range (SetTable.runEnd m i + 1 - i)).find? fun k => (ow.getD (i + k) (some 0)).isNone with
    | some k => exact ⟨i + k, rfl, List.find?_some (p := fun k => (ow.getD (i + k) (some 0)).isNone) e⟩
    | none =>
      have h0 := List.find?_eq_none.mp e 0 (List.mem_range.mpr (by have := run_ge m i; omega))
      have j1 : j ∈ hops m f ((i * 5 + 1) % (m + 1)) := by
        rcases List.mem_cons.mp hj with z | z
        · rw [z] at ej
          exact absurd ej h0
        · exact z
      have p0 : p / 32 = 0 := Nat.div_eq_of_lt hp
      show ∃ j, SetTable.layClean.free m ow f ((i * 5 + 1 + p / 32) % (m + 1)) (p / 32) = some j ∧ _
      rw [p0, Nat.add_zero]
      exact free_some f _ 0 (by decide) ⟨j, j1, ej⟩
theorem fm_set {α : Type} : ∀ (l : List (Option α)) (j : Nat) (x : α), l[j]? = some none → ((l.set j (some x)).filterMap id).Perm (x :: l.filterMap id)
  | [], _, _, h => by cases h
  | o :: l, 0, x, h => by
    obtain rfl : o = none := Option.some.inj h
    exact List.Perm.refl _
  | o :: l, j + 1, x, h => by
    have ih := fm_set l j x h
    cases o with
    | none => exact ih
    | some y => exact (List.Perm.cons y ih).trans (List.Perm.swap x y _)
theorem fm_len {α : Type} : ∀ (l : List (Option α)), (∀ o ∈ l, o ≠ none) → (l.filterMap id).length = l.length
  | [], _ => rfl
  | none :: l, h => absurd rfl (h none List.mem_cons_self)
  | some x :: l, h => by
    show (l.filterMap id).length + 1 = l.length + 1
    rw [fm_len l fun o ho => h o (List.mem_cons_of_mem _ ho)]
def small (h : Int) : Prop := 0 ≤ h ∧ h < 32
theorem bits_small {h : Int} (s : small h) : SetTable.bits h < 32 := by
  unfold SetTable.bits
  obtain ⟨a, b⟩ := s
  have : h % (2 ^ 64 : Int) = h := Int.emod_eq_of_lt a (by omega)
  omega
theorem lay_go {m : Nat} (hm : m ∈ [7, 15, 31, 63, 127]) : ∀ (hs : List Int) (ow : Array (Option Nat)) (k : Nat), (∀ h ∈ hs, small h) → ow.size = m + 1 → (ow.toList.filterMap id).Perm (List.range k) → k + hs.length ≤ m + 1 →
    ∃ ow' : Array (Option Nat), List.foldl (fun (acc : Option (Array (Option Nat) × Nat)) (h : Int) => do
      let (owner, k) ← acc
      let j ← SetTable.layClean.free m owner (SetTable.turns m) (SetTable.bits h % (m + 1)) (SetTable.bits h)
      pure (owner.setIfInBounds j (some k), k + 1)) (some (ow, k)) hs = some (ow', k + hs.length) ∧ ow'.size = m + 1 ∧ (ow'.toList.filterMap id).Perm (List.range (k + hs.length))
  | [], ow, k, _, sz, pm, _ => ⟨ow, rfl, sz, pm⟩
  | h :: hs, ow, k, sm, sz, pm, l => by
    rw [List.length_cons] at l
    have ex : ∃ j, j ≤ m ∧ (ow.getD j (some 0)).isNone = true := by
      refine Classical.byContradiction fun no => ?_
      have all : ∀ o ∈ ow.toList, o ≠ none := fun o ho z => by
        obtain ⟨j, hj, e⟩ := List.mem_iff_getElem.mp ho
        rw [Array.length_toList] at hj
        refine no ⟨j, by omega, ?_⟩
        rw [Array.getD_eq_getD_getElem?, Array.getElem?_eq_getElem hj]
        rw [Array.getElem_toList] at e
        rw [e, z]
        rfl
      have e1 := fm_len _ all
      rw [pm.length_eq, List.length_range, Array.length_toList] at e1
      omega
    obtain ⟨j0, j1, j2⟩ := ex
    obtain ⟨j, ef, ej⟩ := free_some (m := m) (ow := ow) (SetTable.turns m) (SetTable.bits h % (m + 1)) (SetTable.bits h) (bits_small (sm h List.mem_cons_self)) ⟨j0, hops_find hm (by have := Nat.mod_lt (SetTable.bits h) (show 0 < m + 1 by omega); omega) j1, j2⟩
    have gj : ow.toList[j]? = some none := by
      rw [Array.getElem?_toList]
      rw [Array.getD_eq_getD_getElem?] at ej
      cases e : ow[j]? with
      | none => rw [e] at ej; cases ej
      | some o =>
        rw [e] at ej
        cases o with
        | none => rfl
        | some _ => cases ej
    have pm2 : ((ow.setIfInBounds j (some k)).toList.filterMap id).Perm (List.range (k + 1)) := by
      rw [Array.toList_setIfInBounds]
      refine (fm_set _ _ _ gj).trans ((List.Perm.cons _ pm).trans ?_)
      rw [List.range_succ]
      exact (List.perm_append_singleton _ _).symm
    obtain ⟨ow', r1, r2, r3⟩ := lay_go hm hs (ow.setIfInBounds j (some k)) (k + 1) (fun x hx => sm x (List.mem_cons_of_mem _ hx)) (by rw [Array.size_setIfInBounds]; exact sz) pm2 (by omega)
    refine ⟨ow', ?_, r2, ?_⟩
    · rw [List.foldl_cons, show (k + (h :: hs).length) = k + 1 + hs.length by rw [List.length_cons]; omega, ← r1]
      congr 1
      show (do let j ← SetTable.layClean.free m ow (SetTable.turns m) (SetTable.bits h % (m + 1)) (SetTable.bits h); pure (ow.setIfInBounds j (some k), k + 1)) = _
      rw [ef]
      rfl
    · rw [show (k + (h :: hs).length) = k + 1 + hs.length by rw [List.length_cons]; omega]
      exact r3
theorem fm_pair {α : Type} (f : Nat → Option α) : ∀ l : List Nat, ((l.filterMap fun j => (f j).map (j, ·)).map (·.2)) = l.filterMap f
  | [] => rfl
  | j :: l => by
    cases e : f j with
    | none => rw [List.filterMap_cons_none (by simp [e]), List.filterMap_cons_none e]; exact fm_pair f l
    | some x => rw [List.filterMap_cons_some (b := (j, x)) (by simp [e]), List.filterMap_cons_some e, List.map_cons, fm_pair f l]
/-- a table is laid: its order is of all -/
theorem laid_some {m fg mv : Nat} {led pl : Bool} {hs : Array Int} (hm : m ∈ [7, 15, 31, 63, 127]) (sm : ∀ h ∈ hs.toList, small h) (l : hs.size ≤ m) :
    ∃ (t : SetTable) (o : Array Nat), SetTable.laid m fg mv led pl hs = some (t, o) ∧ o.toList.Perm (List.range hs.size) ∧ t.fits hs.size = true ∧ Ris t.place.toList ∧ t.led = led ∧ t.mask = m ∧ t.dummies = #[] := by
  have l' : 0 + hs.toList.length ≤ m + 1 := by rw [Array.length_toList]; omega
  obtain ⟨ow, e1, e2, e3⟩ := lay_go hm hs.toList (Array.replicate (m + 1) none) 0 sm (by simp) (by simp) l'
  have ec : SetTable.layClean m hs = some ow := by
    unfold SetTable.layClean
    rw [← Array.foldl_toList]
    exact congrArg (Option.map (·.1)) e1
  unfold SetTable.laid
  rw [ec]
  rw [Nat.zero_add, Array.length_toList] at e3
  have ep : ((List.range (m + 1)).filterMap fun j => ow.getD j none) = ow.toList.filterMap id := by
    have : ow.toList = (List.range (m + 1)).map fun j => ow.getD j none := by
      refine List.ext_getElem? fun i => ?_
      rw [List.getElem?_map, Array.getElem?_toList]
      by_cases c : i < m + 1
      · rw [List.getElem?_range c, Array.getElem?_eq_getElem (by omega)]
        show _ = some (ow.getD i none)
        rw [Array.getD_eq_getD_getElem?, Array.getElem?_eq_getElem (by omega)]
        rfl
      · rw [List.getElem?_eq_none (by rw [List.length_range]; omega), Array.getElem?_eq_none (by omega)]
        rfl
    rw [this, List.filterMap_map]
    rfl
  have pm : (((List.range (m + 1)).filterMap fun j => (ow.getD j none).map (j, ·)).map (·.2)).Perm (List.range hs.size) := by
    rw [fm_pair, ep]
    exact e3
  refine ⟨_, _, rfl, pm, ?_, (ris_live (fun j => ow.getD j none) (List.range (m + 1)) (by unfold Ris; exact List.pairwise_lt_range)).1, rfl, rfl, rfl⟩
  have le := pm.length_eq
  rw [List.length_map, List.length_range] at le
  unfold SetTable.fits SetTable.fill
  dsimp only
  rw [List.size_toArray, List.length_map, le]
  simp
  omega
/-! sets put together -/
end Sh
namespace Sh
open PySem PySem.Spec PyProof.Rows L2
theorem hash_small {k : Int} (h : 0 ≤ k ∧ k < 32) : hashInt k = k := by
  obtain ⟨n, rfl⟩ : ∃ n : Fin 32, k = (n.val : Int) := ⟨⟨k.toNat, by omega⟩, by show k = ((k.toNat : Nat) : Int); omega⟩
  exact (by decide +kernel : ∀ n : Fin 32, hashInt (n.val : Int) = (n.val : Int)) n
abbrev M5 : List Nat := [7, 15, 31, 63, 127]
theorem above_ok : ∀ w : Fin 97, SetTable.sizeAbove w.val - 1 ∈ M5 ∧ w.val ≤ SetTable.sizeAbove w.val - 1 ∧ SetTable.sizeAbove w.val ≤ 128 := by decide +kernel
structure Tb (w : World) (h : Heap) (a : Addr) (es : Array (Int × Value)) (ep : Nat) (t : SetTable) : Prop where
  ob : ∃ o, h.get? a = some o ∧ o.ExactSet ∧ o.data = .set es ep t
  good : ∀ e ∈ es.toList, GoodE e
  sm : ∀ e ∈ es.toList, 0 ≤ keyOf e ∧ keyOf e < 32
  nd : (es.toList.map keyOf).Nodup
  few : es.size ≤ 48
  fits : t.fits es.size = true
  ris : Ris t.place.toList
  led : w.params.followText "set-order" = true ∨ t.led = true
theorem Tb.sb {w : World} {h : Heap} {a : Addr} {es : Array (Int × Value)} {ep : Nat} {t : SetTable} (T : Tb w h a es ep t) : es.size < scanBound := by
  have := T.few
  unfold scanBound
  omega
theorem Tb.at {w : World} {h h' : Heap} {a : Addr} {es : Array (Int × Value)} {ep : Nat} {t : SetTable} (T : Tb w h a es ep t) (k : ∀ o, h.get? a = some o → h'.get? a = some o) : Tb w h' a es ep t := by
  obtain ⟨⟨o, ho, r⟩, a1, a2, a3, a4, a5, a6, a7⟩ := T
  exact ⟨⟨o, k o ho, r⟩, a1, a2, a3, a4, a5, a6, a7⟩
theorem Tb.setR {w : World} {h : Heap} {a : Addr} {es : Array (Int × Value)} {ep : Nat} {t : SetTable} (T : Tb w h a es ep t) {S : Int → Bool} (m : ∀ k, S k = true ↔ k ∈ es.toList.map keyOf) : SetR w h a S es.size := by
  have sb := T.sb
  obtain ⟨⟨o, ho, hx, hd⟩, a1, a2, a3, a4, a5, a6, a7⟩ := T
  exact ⟨o, es, ep, t, ho, hx, hd, a1, a3, m, sb, a5, rfl, a6, a7⟩
theorem tb_of {w : World} {h : Heap} {a : Addr} {S : Int → Bool} {n : Nat} (R : SetR w h a S n) (l : n ≤ 48) (sm : ∀ k, S k = true → 0 ≤ k ∧ k < 32) : ∃ es ep t, Tb w h a es ep t ∧ (∀ k, S k = true ↔ k ∈ es.toList.map keyOf) ∧ es.size = n := by
  obtain ⟨o, es, ep, t, ho, hx, hd, g, nd, hm, hb, hf, hn, hr, hl⟩ := R
  exact ⟨es, ep, t, ⟨⟨o, ho, hx, hd⟩, g, fun e he => sm _ ((hm _).mpr (List.mem_map_of_mem he)), nd, by omega, hf, hr, hl⟩, hm, hn⟩
theorem Tb.hash {w : World} {h : Heap} {a : Addr} {es : Array (Int × Value)} {ep : Nat} {t : SetTable} (T : Tb w h a es ep t) : ∀ x ∈ (es.map (·.1)).toList, small x := fun x hx => by
  rw [Array.toList_map] at hx
  obtain ⟨e, he, rfl⟩ := List.mem_map.mp hx
  obtain ⟨k, tk, e1, e2⟩ := T.good e he
  have s := T.sm e he
  have ek : keyOf e = k := by unfold keyOf; rw [e1]
  rw [ek] at s
  rw [e2, hash_small s]
  exact s
theorem order_perm {es : Array (Int × Value)} {o : Array Nat} (p : o.toList.Perm (List.range es.size)) : (o.filterMap (es[·]?)).toList.Perm es.toList := by
  rw [Array.toList_filterMap]
  refine (p.filterMap _).trans ?_
  have : (List.range es.size).filterMap (fun i => es[i]?) = es.toList := by
    rw [← Array.length_toList]
    have key : ∀ (l : List (Int × Value)) (f : Nat → Option (Int × Value)), (∀ i, i < l.length → f i = l[i]?) → (List.range l.length).filterMap f = l := by
      intro l
      induction l with
      | nil => intro f _; rfl
      | cons x l ih =>
        intro f hf
        rw [List.length_cons, List.range_succ_eq_map, List.filterMap_cons_some (hf 0 (by simp)), List.filterMap_map]
        congr 1
        exact ih _ fun i hi => by
          show f (i + 1) = _
          rw [hf (i + 1) (by simp; omega)]
          simp
    exact key es.toList _ fun i hi => by rw [Array.getElem?_toList]
  rw [this]
theorem Tb.perm {w : World} {h h' : Heap} {a b : Addr} {es es' : Array (Int × Value)} {ep ep' : Nat} {t t' : SetTable} (T : Tb w h a es ep t) (ob : ∃ o, h'.get? b = some o ∧ o.ExactSet ∧ o.data = .set es' ep' t') (p : es'.toList.Perm es.toList) (f : t'.fits es'.size = true) (r : Ris t'.place.toList) (l : w.params.followText "set-order" = true ∨ t'.led = true) : Tb w h' b es' ep' t' :=
  ⟨ob, fun e he => T.good e (p.mem_iff.mp he), fun e he => T.sm e (p.mem_iff.mp he), (p.map keyOf).nodup_iff.mpr T.nd, by rw [← Array.length_toList, p.length_eq, Array.length_toList]; exact T.few, f, r, l⟩
theorem relay_eq (a : Addr) (n : Nat) : setRelay a n = (do
    let (xs, _, tb) ← setState a
    if SetTable.sizeAbove n > sizeLine then unsupported "set:memory"
    let (xs, tb) ← (do
      let some (tb, od) := tb.relaid (xs.map (·.1)) n | unsupported "internal:set-table-without-room"
      let ys := od.filterMap (xs[·]?)
      if ys.size != xs.size then unsupported "internal:set-table-lost-an-element"
      pure (ys, tb) : Sem (Array (Int × Value) × SetTable))
    storeSet a xs tb) := by rfl
section
variable {P : Program} {w : World} {A : Around} {E : Value → Shared → Prop} {s : Shared} {a : Addr} {es : Array (Int × Value)} {ep : Nat} {t : SetTable}
theorem relay_tb (T : Tb w s.heap a es ep t) {n : Nat} (l1 : es.size ≤ n) (l2 : n ≤ 96) {Q : Unit → Shared → Prop}
    (q : ∀ h' es' t', Heap.SameBut a s.heap h' → Tb w h' a es' (ep + 1) t' → es'.toList.Perm es.toList → t'.mask ∈ M5 → n ≤ t'.mask → t'.fill = es.size → Q () { s with heap := h' }) : wpAny (model P w) A (setRelay a n) Q E s := by
  obtain ⟨o, ho, hx, hd⟩ := T.ob
  obtain ⟨m1, m2, m3⟩ : SetTable.sizeAbove n - 1 ∈ M5 ∧ n ≤ SetTable.sizeAbove n - 1 ∧ SetTable.sizeAbove n ≤ 128 := above_ok ⟨n, by omega⟩
  obtain ⟨t', od, e, pm, ft, rs, ld, mk, dm⟩ := laid_some (fg := t.finger) (mv := t.movedTo (SetTable.sizeAbove n - 1)) (led := t.led) (pl := t.plain) m1 T.hash (by rw [Array.size_map]; omega)
  rw [Array.size_map] at pm ft
  have p2 := order_perm pm
  have s2 : (od.filterMap (es[·]?)).size = es.size := by rw [← Array.length_toList, p2.length_eq, Array.length_toList]
  rw [relay_eq]
  refine wpAny_bind (wpAny_setState_of ho hd T.fits ?_)
  dsimp only
  refine wp_if_neg (by rw [sizeLine_eq]; omega) ?_
  try refine wpAny_bind (wpAny_pure ?_)
  have er : t.relaid (es.map (·.1)) n = some (t', od) := e
  rw [er]
  dsimp only
  refine wpAny_bind ?_
  refine wp_if_neg (by rw [s2]; simp) ?_
  try refine wpAny_bind (wpAny_pure ?_)
  refine wpAny_pure ?_
  dsimp only
  refine wpAny_storeSet_of ho hd ?_ (by rw [s2, sizeLine_eq]; have := T.few; omega)
  refine q _ _ _ (Heap.SameBut.update ..) (T.perm ⟨_, store_at ho hd, ⟨hx.1, hx.2.1, hx.2.2⟩, rfl⟩ p2 (by rw [s2]; exact ft) rs (T.led.imp id fun z => by rw [ld]; exact z)) p2 (by rw [mk]; exact m1) (by rw [mk]; exact m2) ?_
  unfold SetTable.fits SetTable.fill at ft
  unfold SetTable.fill
  rw [Bool.and_eq_true, beq_iff_eq] at ft
  rw [dm, ft.1]
  rfl
/-- room for so many more -/
theorem room_tb (T : Tb w s.heap a es ep t) {n : Nat} (l1 : es.size + n ≤ 48) (hm : t.mask ∈ M5) {Q : Unit → Shared → Prop}
    (q : ∀ h' es' ep' t', Heap.SameBut a s.heap h' → Tb w h' a es' ep' t' → es'.toList.Perm es.toList → t'.mask ∈ M5 → n ≤ t'.mask → (t.fill = 0 → t'.fill = 0) → Q () { s with heap := h' }) : wpAny (model P w) A (setRoomFor a n) Q E s := by
  obtain ⟨o, ho, hx, hd⟩ := T.ob
  unfold setRoomFor
  refine wpAny_bind (wpAny_setState_of ho hd T.fits ?_)
  dsimp only
  have ps : t.place.size = es.size ∧ t.fill ≤ t.mask := by
    have f := T.fits
    unfold SetTable.fits at f
    rw [Bool.and_eq_true, beq_iff_eq, decide_eq_true_eq] at f
    exact f
  unfold SetTable.roomFor
  by_cases c : (t.fill + n) * 5 ≥ t.mask * 3
  · rw [if_pos c]
    dsimp only
    rw [ps.1]
    refine relay_tb T (by omega) (by omega) fun h' es' t' sb T' p m l f => q h' es' _ t' sb T' p m (by omega) fun z => by rw [f]; unfold SetTable.fill at z; omega
  · rw [if_neg c]
    refine wpAny_pure (q s.heap es ep t (Heap.SameBut.refl _ _) T (List.Perm.refl _) hm ?_ id)
    have : t.mask ≤ 127 := by
      simp only [M5, List.mem_cons, List.not_mem_nil, or_false] at hm
      omega
    omega
theorem quiet_tb (l : List Addr) (h : ∀ b ∈ l, ∃ es ep t, Tb w s.heap b es ep t) {Q : Bool → Shared → Prop} (q : Q true s) : wpAny (model P w) A (setsQuiet l) Q E s := by
  unfold setsQuiet
  refine wpAny_bind ?_
  refine wpAny_forIn_list _ (fun rest r s' => r.1 = none ∧ s' = s ∧ ∀ b ∈ rest, ∃ es ep t, Tb w s.heap b es ep t) _ ?_ ?_ _ _ ⟨rfl, rfl, h⟩
  · rintro b rest ⟨r1, r2⟩ s' ⟨hr, rfl, hall⟩
    obtain ⟨es, ep, t, T⟩ := hall b List.mem_cons_self
    obtain ⟨o, ho, hx, hd⟩ := T.ob
    refine wpAny_bind (wpAny_setEntries_of ho hd T.fits ?_)
    refine wpAny_bind ?_
    rw [← Array.forIn_toList]
    refine wpAny_forIn_list _ (fun rest r s2 => r.1 = none ∧ s2 = s' ∧ ∀ e ∈ rest, GoodE e) _ ?_ ?_ _ _ ⟨rfl, rfl, T.good⟩
    · rintro e rest2 ⟨r3, r4⟩ s2 ⟨hr2, rfl, hg⟩
      obtain ⟨k, tk, e1, e2⟩ := hg e List.mem_cons_self
      obtain ⟨e3, e4⟩ := e
      simp only at e1
      subst e1
      exact wpAny_pure ⟨rfl, rfl, fun x hx => hg x (List.mem_cons_of_mem _ hx)⟩
    · rintro ⟨r3, r4⟩ s2 ⟨hr2, rfl, _⟩
      simp only at hr2
      subst hr2
      exact wpAny_pure ⟨rfl, rfl, fun x hx => hall x (List.mem_cons_of_mem _ hx)⟩
  · rintro ⟨r1, r2⟩ s' ⟨hr, rfl, _⟩
    simp only at hr
    subst hr
    exact wpAny_pure q
theorem plain_tb {o0 : Addr} {eo : Array (Int × Value)} {eq : Nat} {to : SetTable} (U : Tb w s.heap o0 eo eq to) {Q : Array (Int × Value) → Shared → Prop} (q : ∀ out, out.toList.Perm eo.toList → Q out s) (c : w.params.followText "set-order" = true ∨ to.plain = true ∨ eo.size ≤ 1) : wpAny (model P w) A (setWalk o0) Q E s := by
  obtain ⟨u, hu, ux, ud⟩ := U.ob
  unfold setWalk
  refine wpAny_bind (wpAny_setState_of hu ud U.fits ?_)
  dsimp only
  refine wpAny_bind (wpAny_byText ?_)
  by_cases bt : w.params.followText "set-order" = true
  · refine wp_if_pos bt ?_
    refine wpAny_bind (wpAny_askSetting (wpAny_pure (q _ (pick_perm _ _))))
  · refine wp_if_neg bt ?_
    have ld : to.led = true := U.led.resolve_left bt
    refine wp_if_neg (c := (!to.plain && decide (eo.size > 1)) = true) (fun z => ?_) ?_
    · rw [Bool.and_eq_true, decide_eq_true_eq] at z
      rcases c with c | c | c
      · exact bt c
      · rw [c] at z
        exact absurd z.1 (by decide)
      · omega
    · refine wpAny_bind ?_
      show wpAny _ _ (if (!to.led && decide (eo.size > 1)) = true then unsupported "set:maker-not-led" else pure ()) _ _ _
      refine wp_if_neg (fun z => ?_) (wpAny_pure (wpAny_pure (q _ (List.Perm.refl _))))
      rw [ld] at z
      exact absurd z (by simp)
/-- asked for a walk that nobody sees -/
theorem walk_tb {o0 : Addr} {eo : Array (Int × Value)} {eq : Nat} {to : SetTable} (bs : List Addr) (hbs : ∀ b ∈ bs, ∃ es ep t, Tb w s.heap b es ep t) (T : Tb w s.heap a es ep t) (U : Tb w s.heap o0 eo eq to) {Q : Array (Int × Value) → Shared → Prop}
    (q : ∀ h' out ep' t', Heap.SameBut a s.heap h' → Tb w h' a es ep' t' → t'.mask = t.mask → t'.fill = t.fill → out.toList.Perm eo.toList → Q out { s with heap := h' }) : wpAny (model P w) A (setWalkUnseen o0 bs (some a)) Q E s := by
  obtain ⟨o, ho, hx, hd⟩ := T.ob
  obtain ⟨u, hu, ux, ud⟩ := U.ob
  have plain := fun {Q} q c => plain_tb (Q := Q) (P := P) (A := A) (E := E) U q c
  have done : ∀ out, out.toList.Perm eo.toList → Q out s := fun out p => q s.heap out ep t (Heap.SameBut.refl _ _) T rfl rfl p
  unfold setWalkUnseen
  refine wpAny_bind (wpAny_setState_of hu ud U.fits ?_)
  dsimp only
  refine wpAny_bind (wpAny_byText ?_)
  by_cases c : (w.params.followText "set-order" || to.led && to.plain || decide (eo.size ≤ 1)) = true
  · refine wp_if_pos c ?_
    refine plain done ?_
    rw [Bool.or_eq_true, Bool.or_eq_true, Bool.and_eq_true, decide_eq_true_eq] at c
    rcases c with (c | c) | c
    · exact .inl c
    · exact .inr (.inl c.2)
    · exact .inr (.inr c)
  · refine wp_if_neg c ?_
    refine wpAny_bind (quiet_tb (o0 :: bs) (fun b hb => ?_) ?_)
    · rcases List.mem_cons.mp hb with rfl | hb
      · exact ⟨_, _, _, U⟩
      · exact hbs b hb
    refine wp_if_neg (by decide) ?_
    refine wpAny_bind (wpAny_rule ?_)
    refine wpAny_bind (wpAny_setState_of ho hd T.fits ?_)
    dsimp only
    by_cases c2 : (t.led && !to.led || t.plain && !to.plain) = true
    · refine wp_if_pos c2 ?_
      refine wpAny_bind (wpAny_storeSet_of ho hd ?_ (by rw [sizeLine_eq]; have := T.few; omega))
      refine wpAny_pure (q _ eo _ _ (Heap.SameBut.update ..) (T.perm ⟨_, store_at ho hd, ⟨hx.1, hx.2.1, hx.2.2⟩, rfl⟩ (List.Perm.refl _) T.fits T.ris ?_) rfl rfl (List.Perm.refl _))
      rcases T.led with z | z
      · exact .inl z
      · rcases U.led with y | y
        · exact .inl y
        · right
          show (t.led && to.led) = true
          rw [z, y]
          rfl
    · refine wp_if_neg c2 ?_
      exact wpAny_pure (done _ (List.Perm.refl _))
theorem walk_none {o0 : Addr} {eo : Array (Int × Value)} {eq : Nat} {to : SetTable} (bs : List Addr) (hbs : ∀ b ∈ bs, ∃ es ep t, Tb w s.heap b es ep t) (U : Tb w s.heap o0 eo eq to) {Q : Array (Int × Value) → Shared → Prop}
    (q : ∀ out, out.toList.Perm eo.toList → Q out s) : wpAny (model P w) A (setWalkUnseen o0 bs none) Q E s := by
  obtain ⟨u, hu, ux, ud⟩ := U.ob
  unfold setWalkUnseen
  refine wpAny_bind (wpAny_setState_of hu ud U.fits ?_)
  dsimp only
  refine wpAny_bind (wpAny_byText ?_)
  by_cases c : (w.params.followText "set-order" || to.led && to.plain || decide (eo.size ≤ 1)) = true
  · refine wp_if_pos c ?_
    rw [Bool.or_eq_true, Bool.or_eq_true, Bool.and_eq_true, decide_eq_true_eq] at c
    refine plain_tb U q ?_
    rcases c with (c | c) | c
    · exact .inl c
    · exact .inr (.inl c.2)
    · exact .inr (.inr c)
  · refine wp_if_neg c ?_
    refine wpAny_bind (quiet_tb (o0 :: bs) (fun b hb => ?_) ?_)
    · rcases List.mem_cons.mp hb with rfl | hb
      · exact ⟨_, _, _, U⟩
      · exact hbs b hb
    refine wp_if_neg (by decide) ?_
    refine wpAny_bind (wpAny_rule ?_)
    exact wpAny_pure (q _ (List.Perm.refl _))
/-- one by one -/
theorem merge_tb {o0 : Addr} {eo : Array (Int × Value)} {eq : Nat} {to : SetTable} (each : Sem Unit) (T : Tb w s.heap a es ep t) (U : Tb w s.heap o0 eo eq to) (ne : o0 ≠ a) (hm : t.mask ∈ M5) (l : es.size + eo.size ≤ 48)
    (he : ∀ (s' : Shared) (Q' : Unit → Shared → Prop), s'.heap.get? o0 = s.heap.get? o0 → Q' () s' → wpAny (model P w) A each Q' E s') {Q : Unit → Shared → Prop}
    (q : ∀ h' es' ep' t', Heap.SameBut a s.heap h' → Tb w h' a es' ep' t' → (∀ k, k ∈ es'.toList.map keyOf ↔ k ∈ es.toList.map keyOf ∨ k ∈ eo.toList.map keyOf) → es'.size ≤ es.size + eo.size → (t.fill = 0 → t'.mask ∈ M5) → Q () { s with heap := h' }) : wpAny (model P w) A (setMerge a o0 each) Q E s := by
  obtain ⟨o, ho, hx, hd⟩ := T.ob
  obtain ⟨u, hu, ux, ud⟩ := U.ob
  unfold setMerge
  refine wp_if_neg (by simpa using Ne.symm ne) ?_
  try refine wpAny_bind (wpAny_pure ?_)
  refine wpAny_bind (wpAny_setState_of hu ud U.fits ?_)
  dsimp only
  by_cases c0 : eo.isEmpty = true
  · refine wp_if_pos c0 ?_
    have e0 : eo.toList = [] := by
      have := Array.isEmpty_iff.mp c0
      rw [this]
    exact wpAny_pure (q s.heap es ep t (Heap.SameBut.refl _ _) T (fun k => by rw [e0]; simp) (by omega) fun _ => hm)
  refine wp_if_neg c0 ?_
  try refine wpAny_bind (wpAny_pure ?_)
  refine wpAny_bind (room_tb T l hm fun h1 es1 ep1 t1 sb1 T1 p1 m1 l1 f1 => ?_)
  obtain ⟨o1, ho1, hx1, hd1⟩ := T1.ob
  have U1 : Tb w h1 o0 eo eq to := U.at fun x hx => (sb1.2 _ ne).trans hx
  obtain ⟨u1, hu1, ux1, ud1⟩ := U1.ob
  refine wpAny_bind (wpAny_setState_of ho1 hd1 T1.fits ?_)
  dsimp only
  have hz : eo.size ≤ sizeLine := by rw [sizeLine_eq]; omega
  have ld1 : w.params.followText "set-order" = true ∨ (t1.led && to.led) = true := by
    rcases T1.led with z | z
    · exact .inl z
    · rcases U.led with y | y
      · exact .inl y
      · right
        rw [z, y]
        rfl
  unfold SetTable.road
  by_cases c1 : t1.fill = 0
  · have e1 : es1.toList = [] := by
      have f := T1.fits
      unfold SetTable.fits SetTable.fill at f
      unfold SetTable.fill at c1
      rw [Bool.and_eq_true, beq_iff_eq] at f
      exact List.eq_nil_of_length_eq_zero (by rw [Array.length_toList]; omega)
    have e0 : es.toList = [] := List.eq_nil_of_length_eq_zero (by rw [← p1.length_eq, e1]; rfl)
    have keys : ∀ {xs : Array (Int × Value)}, xs.toList.Perm eo.toList → ∀ k, k ∈ xs.toList.map keyOf ↔ k ∈ es.toList.map keyOf ∨ k ∈ eo.toList.map keyOf := fun p k => by
      rw [e0, (p.map keyOf).mem_iff]
      simp
    rw [if_neg (by rw [c1]; decide)]
    by_cases c2 : (t1.mask == to.mask && to.dummies.isEmpty) = true
    · rw [if_pos c2]
      dsimp only
      rw [Bool.and_eq_true, beq_iff_eq] at c2
      refine wpAny_storeSet_of ho1 hd1 ?_ hz
      refine q _ eo (ep1 + 1) { to with finger := t1.finger, led := t1.led && to.led, moves := t1.moves, plain := t1.plain && to.plain } (sb1.trans (Heap.SameBut.update ..)) (U1.perm ⟨_, store_at ho1 hd1, ⟨hx1.1, hx1.2.1, hx1.2.2⟩, rfl⟩ (List.Perm.refl _) U.fits U.ris ld1) (keys (List.Perm.refl _)) (by omega) fun _ => ?_
      show to.mask ∈ M5
      rw [← c2.1]
      exact m1
    · rw [if_neg c2]
      dsimp only
      obtain ⟨t', od, e, pm, ft, rs, ld, mk, dm⟩ := laid_some (fg := t1.finger) (mv := t1.moves) (led := t1.led && to.led) (pl := t1.plain && to.plain) m1 U.hash (by rw [Array.size_map]; exact l1)
      rw [Array.size_map] at pm ft
      have p2 := order_perm pm
      have s2 : (od.filterMap (eo[·]?)).size = eo.size := by rw [← Array.length_toList, p2.length_eq, Array.length_toList]
      refine wpAny_bind ?_
      rw [e]
      show wpAny _ _ (if ((od.filterMap (eo[·]?)).size != eo.size) = true then _ else _) _ _ _
      refine wp_if_neg (by rw [s2]; simp) ?_
      refine wpAny_pure ?_
      dsimp only
      refine wpAny_storeSet_of ho1 hd1 ?_ (by rw [s2]; exact hz)
      refine q _ _ (ep1 + 1) t' (sb1.trans (Heap.SameBut.update ..)) (U1.perm ⟨_, store_at ho1 hd1, ⟨hx1.1, hx1.2.1, hx1.2.2⟩, rfl⟩ p2 (by rw [s2]; exact ft) rs (by rw [ld]; exact ld1)) (keys p2) (by rw [s2]; omega) fun _ => ?_
      rw [mk]
      exact m1
  · rw [if_pos (by simpa using c1)]
    dsimp only
    refine wpAny_bind (walk_tb [a] (fun b hb => ⟨_, _, _, List.mem_singleton.mp hb ▸ T1⟩) T1 U1 fun h2 out ep2 t2 sb2 T2 m2 f2 p2 => ?_)
    have U2 : Tb w h2 o0 eo eq to := U1.at fun x hx => (sb2.2 _ ne).trans hx
    have g2 : ∀ e ∈ out.toList, GoodE e := fun e he => U.good e (p2.mem_iff.mp he)
    have hu2 : h2.get? o0 = s.heap.get? o0 := (sb2.2 _ ne).trans (sb1.2 _ ne)
    have n1 : es1.size = es.size := by rw [← Array.length_toList, p1.length_eq, Array.length_toList]
    have n2 : out.toList.length = eo.size := by rw [p2.length_eq, Array.length_toList]
    have R2 := T2.setR (S := fun k => decide (k ∈ es1.toList.map keyOf)) (fun k => decide_eq_true_iff)
    refine wpAny_bind ?_
    rw [← Array.forIn_toList]
    refine wpAny_forIn_list _ (fun rest _ s' => ∃ (h' : Heap) (S' : Int → Bool) (n : Nat), s' = { s with heap := h' } ∧ Heap.SameBut a h2 h' ∧ SetR w h' a S' n ∧ n + rest.length ≤ es.size + eo.size ∧ (∀ e ∈ rest, GoodE e) ∧ ∀ k, (S' k = true ∨ k ∈ rest.map keyOf) ↔ (k ∈ es.toList.map keyOf ∨ k ∈ eo.toList.map keyOf)) _ ?_ ?_ _ _ ⟨h2, _, _, rfl, Heap.SameBut.refl _ _, R2, by omega, g2, fun k => by rw [decide_eq_true_iff, (p1.map keyOf).mem_iff, (p2.map keyOf).mem_iff]⟩
    · rintro e rest b s' ⟨h', S', n, rfl, sb', R', nl, gr, mk⟩
      obtain ⟨k, tk, e1, e2⟩ := gr e List.mem_cons_self
      rw [List.length_cons] at nl
      obtain ⟨eh, ev⟩ := e
      simp only at e1 e2
      subst e1 e2
      refine wpAny_bind (wpAny_holding (setR_add_hashed (P := P) R' (by unfold scanBound; omega) fun h'' sb'' R'' => ?_))
      have hu3 : h''.get? o0 = s.heap.get? o0 := (sb''.2 _ ne).trans ((sb'.2 _ ne).trans hu2)
      refine wpAny_bind (he _ _ hu3 ?_)
      refine wpAny_bind (wpAny_setState_of (hu3.trans hu) ud U.fits ?_)
      dsimp only
      refine wp_if_neg (by simp) (wpAny_pure ?_)
      refine ⟨h'', _, _, rfl, sb'.trans sb'', R'', ?_, fun x hx => gr x (List.mem_cons_of_mem _ hx), fun j => ?_⟩
      · split <;> omega
      · rw [← mk j, List.map_cons, List.mem_cons, Bool.or_eq_true, decide_eq_true_eq]
        show _ ↔ (_ ∨ (j = k ∨ _))
        rw [or_assoc]
    · rintro b s' ⟨h', S', n, rfl, sb', R', nl, _, mk⟩
      have mk' : ∀ k, S' k = true ↔ (k ∈ es.toList.map keyOf ∨ k ∈ eo.toList.map keyOf) := fun k => by rw [← mk k]; simp
      obtain ⟨es3, ep3, t3, T3, k3, z3⟩ := tb_of R' (by omega) fun k hk => by
        rcases (mk' k).mp hk with z | z
        · obtain ⟨e, he1, rfl⟩ := List.mem_map.mp z
          exact T.sm e he1
        · obtain ⟨e, he1, rfl⟩ := List.mem_map.mp z
          exact U.sm e he1
      exact wpAny_pure (q h' es3 ep3 t3 (sb1.trans (sb2.trans sb')) T3 (fun k => (k3 k).symm.trans (mk' k)) (by omega) fun z => absurd (f1 z) c1)
end
end Sh
/-! |, - and ^ of two sets of small ints -/
namespace Sh
open PySem PySem.Spec PyProof.Rows L2
theorem ent_or : entryFor table "set.__or__" = some Builtin.«frozenset.__or__» := entryFor_alias (id' := "frozenset.__or__") (by kernel_rfl) rfl (by decide +kernel) (by kernel_rfl)
theorem ent_sub : entryFor table "set.__sub__" = some Builtin.«frozenset.__sub__» := entryFor_alias (id' := "frozenset.__sub__") (by kernel_rfl) rfl (by decide +kernel) (by kernel_rfl)
theorem ent_xor : entryFor table "set.__xor__" = some Builtin.«frozenset.__xor__» := entryFor_alias (id' := "frozenset.__xor__") (by kernel_rfl) rfl (by decide +kernel) (by kernel_rfl)
section
variable {P : Program} {w : World} {A : Around} {E : Value → Shared → Prop} {s : Shared} {a : Addr} {es : Array (Int × Value)} {ep : Nat} {t : SetTable}
theorem Tb.ty (T : Tb w s.heap a es ep t) : s.TypeIs (.ref a) "set" := let ⟨o, ho, hx, _⟩ := T.ob; ⟨o, ho, hx.1⟩
theorem any_tb (T : Tb w s.heap a es ep t) {Q : Bool → Shared → Prop} (q : Q true s) : wpAny (model P w) A (Builtin.Frozenset.isAnySet (.ref a)) Q E s := by
  unfold Builtin.Frozenset.isAnySet
  refine wpAny_bind (wpAny_isInstance (b := true) T.ty sub_set_self ?_)
  exact wpAny_pure q
theorem base_tb (T : Tb w s.heap a es ep t) {Q : Value → Shared → Prop} (q : Q (.type "set") s) : wpAny (model P w) A (Builtin.Frozenset.baseOf a) Q E s := by
  unfold Builtin.Frozenset.baseOf
  refine wpAny_bind (wpAny_isInstance (b := true) T.ty sub_set_self ?_)
  exact wpAny_pure q
/-- a new one, bare -/
theorem new_tb {Q : Value → Shared → Prop}
    (q : ∀ h', h'.objs.size = s.heap.objs.size + 1 → (∀ b o, s.heap.get? b = some o → h'.get? b = some o) → Tb w h' s.heap.objs.size #[] 0 (.fresh 0 0 (!w.params.followText "set-order")) → Q (.ref s.heap.objs.size) { s with heap := h' }) :
    wpAny (model P w) A (newSet (.type "set")) Q E s := by
  unfold newSet setsByText
  refine wpAny_bind (wpAny_bind (wpAny_askSetting (wpAny_pure ?_)))
  dsimp only
  simp only [newObj]
  refine wpAny_bind (wpAny_alloc (wpAny_pure ?_))
  refine q _ (size_push' _ _) (fun b o e => Heap.get?_push_of_some _ e) ⟨⟨_, Heap.get?_push_size _ rfl, ⟨rfl, rfl, rfl⟩, rfl⟩, fun e he => by simp at he, fun e he => by simp at he, by simp, by decide, by rfl, List.Pairwise.nil, ?_⟩
  show _ ∨ (!w.params.followText "set-order") = true
  cases w.params.followText "set-order"
  · exact .inr rfl
  · exact .inl rfl
/-- a copy -/
theorem copy_tb (T : Tb w s.heap a es ep t) {Q : Value → Shared → Prop}
    (q : ∀ h' es' ep' t', h'.objs.size = s.heap.objs.size + 1 → (∀ b o, s.heap.get? b = some o → h'.get? b = some o) → Tb w h' s.heap.objs.size es' ep' t' → (∀ k, k ∈ es'.toList.map keyOf ↔ k ∈ es.toList.map keyOf) → es'.size ≤ es.size → t'.mask ∈ M5 → Q (.ref s.heap.objs.size) { s with heap := h' }) :
    wpAny (model P w) A (Builtin.Frozenset.copyOf a) Q E s := by
  unfold Builtin.Frozenset.copyOf
  refine wpAny_bind (base_tb T ?_)
  refine wpAny_bind (new_tb fun h1 z1 k1 T1 => ?_)
  obtain ⟨o, ho, _⟩ := T.ob
  have ne : a ≠ s.heap.objs.size := Nat.ne_of_lt (Heap.lt_size ho)
  refine wpAny_bind (wpAny_pure ?_)
  refine wpAny_bind (merge_tb (pure ()) T1 (T.at (k1 a)) ne (by simp [SetTable.fresh]) (by have := T.few; simpa using this) (fun s' Q' _ q => wpAny_pure q) fun h2 es2 ep2 t2 sb2 T2 m2 l2 f2 => ?_)
  refine wpAny_pure (q h2 es2 ep2 t2 (by rw [sb2.1]; exact z1) (fun b o e => (sb2.2 b (Nat.ne_of_lt (Heap.lt_size e))).trans (k1 b o e)) T2 (fun k => by rw [m2]; simp) (by simpa using l2) (f2 rfl))
/-- what one more set is merged into -/
theorem upd_tb {id : String} {o0 : Addr} {eo : Array (Int × Value)} {eq : Nat} {to : SetTable} (T : Tb w s.heap a es ep t) (U : Tb w s.heap o0 eo eq to) (ne : o0 ≠ a) (hm : t.mask ∈ M5) (l : es.size + eo.size ≤ 48) {Q : Unit → Shared → Prop}
    (q : ∀ h' es' ep' t', Heap.SameBut a s.heap h' → Tb w h' a es' ep' t' → (∀ k, k ∈ es'.toList.map keyOf ↔ k ∈ es.toList.map keyOf ∨ k ∈ eo.toList.map keyOf) → es'.size ≤ es.size + eo.size → (t.fill = 0 → t'.mask ∈ M5) → Q () { s with heap := h' }) :
    wpAny (model P w) A (Builtin.Frozenset.updateFrom id a (.ref o0)) Q E s := by
  unfold Builtin.Frozenset.updateFrom
  refine wpAny_bind (any_tb U ?_)
  refine wp_if_pos rfl ?_
  refine wpAny_bind (wpAny_pure ?_)
  unfold Builtin.Frozenset.merge
  obtain ⟨u, hu, ux, ud⟩ := U.ob
  refine wpAny_bind (wpAny_setEpoch_of hu ud U.fits ?_)
  refine merge_tb _ T U ne hm l (fun s' Q' e q' => ?_) q
  unfold Builtin.Frozenset.unchanged
  refine wpAny_bind (wpAny_setEpoch_of (e.trans hu) ud U.fits ?_)
  exact wp_if_neg (by simp) (wpAny_pure q')
theorem add_tb {n : Nat} {S : Int → Bool} {k : Int} {tk : Tok} (R : SetR w s.heap a S n) (room : n + 1 < scanBound) {Q : Bool → Shared → Prop}
    (hQ : ∀ h', Heap.SameBut a s.heap h' → SetR w h' a (fun j => S j || decide (j = k)) (if S k = true then n else n + 1) → Q (!S k) { s with heap := h' }) : wpAny (model P w) A (setAddHashed a (.int k tk) (hashInt k)) Q E s := setR_add_hashed (P := P) R room hQ
theorem find_idx (T : Tb w s.heap a es ep t) (k : Int) (tk : Tok) {Q : Option Nat → Shared → Prop} (q : Q (es.toList.findIdx? fun e => (intKind P w).is k e.2) s) : wpAny (model P w) A (setFind a (.int k tk) (hashInt k)) Q E s := by
  obtain ⟨o, ho, hx, hd⟩ := T.ob
  have hkey : (intKind P w).is k (.int k tk) = true := intKind_is P w k tk
  have hel : ElemsOf (intKind P w) es.toList := good_elems T.good
  unfold setFind setFindIn
  refine wpAny_bind (wpAny_setState_of ho hd T.fits ?_)
  dsimp only
  rw [byScan_of (show (Value.int k tk).scannable = true from rfl) T.sb hel]
  simp only [↓reduceIte]
  refine wpAny_bind (wpAny_rule ?_)
  refine wpAny_bind (wpAny_setScan_of (knd := intKind P w) hkey ho hd T.fits hel ?_)
  cases hr : List.findIdx? (fun e => (intKind P w).is k e.2) es.toList with
  | none =>
    rw [hr] at q
    exact wpAny_pure q
  | some j =>
    rw [hr] at q
    dsimp only
    exact wpAny_pure (by simpa using q)
theorem is_iff {e : Int × Value} (g : GoodE e) (k : Int) : (intKind P w).is k e.2 = true ↔ keyOf e = k := good_is g k
theorem erase_list {α : Type} (xs : Array α) (p : Nat) : (SetTable.eraseAt xs p).toList = xs.toList.eraseIdx p := by
  unfold SetTable.eraseAt
  rw [Array.toList_append, List.eraseIdx_eq_take_drop_succ]
  rw [Array.toList_extract, Array.toList_extract, List.extract_eq_take_drop, List.extract_eq_take_drop, List.drop_zero, Nat.sub_zero, List.take_of_length_le (l := xs.toList.drop (p + 1)) (by rw [List.length_drop, Array.length_toList]; exact Nat.le_refl _)]
theorem insert_size {α : Type} (xs : Array α) (p : Nat) (x : α) : (SetTable.insertAt xs p x).size = xs.size + 1 := by
  unfold SetTable.insertAt
  simp
  omega
/-- one taken out -/
theorem out_tb (T : Tb w s.heap a es ep t) (k : Int) (tk : Tok) {Q : Bool → Shared → Prop}
    (q : ∀ h' es' ep' t', Heap.SameBut a s.heap h' → Tb w h' a es' ep' t' → (∀ j, j ∈ es'.toList.map keyOf ↔ j ∈ es.toList.map keyOf ∧ j ≠ k) → es'.size ≤ es.size → Q (decide (k ∈ es.toList.map keyOf)) { s with heap := h' }) : wpAny (model P w) A (setDiscardHashed a (.int k tk) (hashInt k)) Q E s := by
  obtain ⟨o, ho, hx, hd⟩ := T.ob
  unfold setDiscardHashed
  refine wpAny_bind (find_idx T k tk ?_)
  cases hr : List.findIdx? (fun e => (intKind P w).is k e.2) es.toList with
  | none =>
    have no : k ∉ es.toList.map keyOf := fun z => by
      obtain ⟨e, he, rfl⟩ := List.mem_map.mp z
      have c := List.findIdx?_eq_none_iff.mp hr e he
      rw [(is_iff (T.good e he) _).mpr rfl] at c
      cases c
    have := q s.heap es ep t (Heap.SameBut.refl _ _) T (fun j => ⟨fun z => ⟨z, fun y => no (y ▸ z)⟩, fun z => z.1⟩) (Nat.le_refl _)
    rw [decide_eq_false no] at this
    exact wpAny_pure this
  | some i =>
    obtain ⟨hi, pi, _⟩ := List.findIdx?_eq_some_iff_getElem.mp hr
    have kk := (is_iff (T.good _ (List.getElem_mem hi)) k).mp pi
    have yes : k ∈ es.toList.map keyOf := List.mem_map.mpr ⟨_, List.getElem_mem hi, kk⟩
    dsimp only
    refine wpAny_bind (wpAny_setState_of ho hd T.fits ?_)
    dsimp only
    have le := erase_list es i
    have sz : (SetTable.eraseAt es i).size + 1 = es.size := by
      have := congrArg List.length le
      rw [Array.length_toList, List.length_eraseIdx, if_pos hi] at this
      rw [Array.length_toList] at this hi
      omega
    refine wpAny_bind (wpAny_storeSet_of ho hd ?_ (by rw [sizeLine_eq]; have := T.few; omega))
    refine wpAny_bind (wpAny_point ?_)
    have f := T.fits
    unfold SetTable.fits SetTable.fill at f
    rw [Bool.and_eq_true, beq_iff_eq, decide_eq_true_eq] at f
    have hp : i < t.place.size := by rw [Array.length_toList] at hi; omega
    have dp : t.drop i = { t with place := SetTable.eraseAt t.place i, dummies := SetTable.insertAt t.dummies (SetTable.below t.dummies t.place[i]) t.place[i] } := by
      unfold SetTable.drop
      rw [Array.getElem?_eq_getElem hp]
    have sp : (SetTable.eraseAt t.place i).size + 1 = t.place.size := by
      have := congrArg List.length (erase_list t.place i)
      rw [Array.length_toList, List.length_eraseIdx, if_pos (by rw [Array.length_toList]; exact hp), Array.length_toList] at this
      omega
    have mem : ∀ j, j ∈ (SetTable.eraseAt es i).toList.map keyOf ↔ j ∈ es.toList.map keyOf ∧ j ≠ k := fun j => by
      rw [le]
      have p := (erase_perm es.toList i _ (List.getElem?_eq_getElem hi)).map keyOf
      have nd := p.nodup_iff.mpr T.nd
      rw [List.map_cons, kk] at p nd
      rw [← p.mem_iff, List.mem_cons]
      have nm := (List.nodup_cons.mp nd).1
      exact ⟨fun z => ⟨.inr z, fun y => nm (y ▸ z)⟩, fun z => z.1.resolve_left z.2⟩
    have fin := q _ (SetTable.eraseAt es i) (ep + 1) (t.drop i) (Heap.SameBut.update _ a (Obj.putSet (SetTable.eraseAt es i) (t.drop i))) ⟨⟨_, store_at ho hd, ⟨hx.1, hx.2.1, hx.2.2⟩, rfl⟩, fun e he => T.good e (List.mem_of_mem_eraseIdx (le ▸ he)), fun e he => T.sm e (List.mem_of_mem_eraseIdx (le ▸ he)), by rw [le]; exact T.nd.sublist ((List.eraseIdx_sublist _ _).map _), by have := T.few; omega, ?_, ?_, ?_⟩ mem (by omega)
    · rw [decide_eq_true yes] at fin
      exact wpAny_pure fin
    · rw [dp]
      unfold SetTable.fits SetTable.fill
      dsimp only
      rw [insert_size, Bool.and_eq_true, beq_iff_eq, decide_eq_true_eq]
      omega
    · rw [dp]
      show Ris (SetTable.eraseAt t.place i).toList
      rw [erase_list]
      exact T.ris.sublist (List.eraseIdx_sublist _ _)
    · rw [dp]
      exact T.led
end
end Sh
namespace Sh
open PySem PySem.Spec PyProof.Rows L2
section
variable {P : Program} {w : World} {A : Around} {E : Value → Shared → Prop} {s : Shared} {a : Addr} {es : Array (Int × Value)} {ep : Nat} {t : SetTable}
/-- a new set: what stood stands -/
def NewS (w : World) (s : Shared) (S : Int → Bool) (n : Nat) (h' : Heap) : Prop := (∀ b o, s.heap.get? b = some o → h'.get? b = some o) ∧ SetR w h' s.heap.objs.size S n
theorem union_tb {b : Addr} {eb : Array (Int × Value)} {eq : Nat} {tb : SetTable} (T : Tb w s.heap a es ep t) (U : Tb w s.heap b eb eq tb) (ne : a ≠ b) (l : es.size + eb.size ≤ 48) {Q : Value → Shared → Prop}
    (q : ∀ h' n, n ≤ 48 → NewS w s (fun k => decide (k ∈ es.toList.map keyOf) || decide (k ∈ eb.toList.map keyOf)) n h' → Q (.ref s.heap.objs.size) { s with heap := h' }) :
    wpAny (model P w) A (call (.builtin "set.__or__") [.ref a, .ref b]) Q E s := by
  refine wpAny_call_entry F.slot_set_or T.ty ent_or ?_ (F.args_set_or_2 _ _)
  unfold Builtin.«frozenset.__or__»
  refine wpAny_bind (wpAny_pure ?_)
  dsimp only
  refine wpAny_bind ?_
  refine wpAny_bind (any_tb T ?_)
  refine any_tb U ?_
  refine wp_if_neg (by decide) ?_
  refine wpAny_bind (wpAny_pure ?_)
  refine wpAny_bind ?_
  refine wpAny_bind (copy_tb T fun h1 es1 ep1 t1 z1 k1 T1 m1 l1 mm1 => ?_)
  obtain ⟨o, ho, _⟩ := U.ob
  have nb : b ≠ s.heap.objs.size := Nat.ne_of_lt (Heap.lt_size ho)
  refine wp_if_pos (by simpa using Ne.symm ne) ?_
  refine wpAny_bind (wpAny_pure ?_)
  refine wpAny_bind (wpAny_holding ?_)
  refine upd_tb T1 (U.at (k1 b)) nb mm1 (by omega) fun h2 es2 ep2 t2 sb2 T2 m2 l2 _ => ?_
  refine wpAny_pure (wpAny_pure ⟨_, rfl, q h2 es2.size (by omega) ⟨fun c o e => (sb2.2 c (Nat.ne_of_lt (Heap.lt_size e))).trans (k1 c o e), T2.setR fun k => ?_⟩⟩)
  rw [Bool.or_eq_true, decide_eq_true_eq, decide_eq_true_eq, m2, m1]
/-- flipped, one by one -/
theorem xor_tb {b : Addr} {eb : Array (Int × Value)} {eq : Nat} {tb : SetTable} (T : Tb w s.heap a es ep t) (U : Tb w s.heap b eb eq tb) (ne : a ≠ b) (l : es.size + eb.size ≤ 48) {Q : Value → Shared → Prop}
    (q : ∀ h' n, n ≤ 48 → NewS w s (fun k => decide (k ∈ es.toList.map keyOf) != decide (k ∈ eb.toList.map keyOf)) n h' → Q (.ref s.heap.objs.size) { s with heap := h' }) :
    wpAny (model P w) A (call (.builtin "set.__xor__") [.ref a, .ref b]) Q E s := by
  refine wpAny_call_entry F.slot_set_xor T.ty ent_xor ?_ (F.args_set_xor_2 _ _)
  unfold Builtin.«frozenset.__xor__»
  refine wpAny_bind (wpAny_pure ?_)
  dsimp only
  refine wpAny_bind ?_
  refine wpAny_bind (any_tb T ?_)
  refine any_tb U ?_
  refine wp_if_neg (by decide) ?_
  refine wpAny_bind (wpAny_pure ?_)
  refine wpAny_bind ?_
  refine wpAny_bind (base_tb T ?_)
  refine wpAny_bind ?_
  unfold Builtin.Frozenset.newFrom
  obtain ⟨o, ho, _⟩ := U.ob
  have nb : b ≠ s.heap.objs.size := Nat.ne_of_lt (Heap.lt_size ho)
  obtain ⟨oa, hoa, _⟩ := T.ob
  have na : a ≠ s.heap.objs.size := Nat.ne_of_lt (Heap.lt_size hoa)
  refine wpAny_bind (new_tb fun h0 z0 k0 T0 => ?_)
  refine wpAny_bind (wpAny_pure ?_)
  refine wpAny_bind (wpAny_holding ?_)
  refine upd_tb T0 (U.at (k0 b)) nb (by simp [SetTable.fresh]) (by have := U.few; simpa using this) fun h1 es1 ep1 t1 sb1 T1 m1 l1 _ => ?_
  have l1 : es1.size ≤ eb.size := by simpa using l1
  have k1 : ∀ c o, s.heap.get? c = some o → h1.get? c = some o := fun c o e => (sb1.2 c (Nat.ne_of_lt (Heap.lt_size e))).trans (k0 c o e)
  refine wpAny_pure ?_
  refine wpAny_bind (wpAny_pure ?_)
  refine wpAny_bind (wpAny_holding ?_)
  unfold Builtin.Frozenset.symmetricDifferenceUpdate
  refine wp_if_neg (by simpa using na) ?_
  have T' := T.at (k1 a)
  refine wpAny_bind (wpAny_typeOf T'.ty ?_)
  refine wp_if_neg (by decide) ?_
  refine wpAny_bind (any_tb T' ?_)
  refine wp_if_pos rfl ?_
  refine wpAny_bind (wpAny_pure ?_)
  show wpAny _ _ (Builtin.Frozenset.addrOf (.ref a) >>= _) _ _ _
  refine wpAny_bind (wpAny_pure ?_)
  obtain ⟨oa', hoa', xa', da'⟩ := T'.ob
  refine wpAny_bind (wpAny_setEpoch_of hoa' da' T'.fits ?_)
  refine wpAny_holding ?_
  refine wpAny_bind (walk_tb [s.heap.objs.size] (fun c hc => ⟨_, _, _, List.mem_singleton.mp hc ▸ T1⟩) T1 T' fun h2 out ep2 t2 sb2 T2 _ _ p2 => ?_)
  have nd2 : (out.toList.map keyOf).Nodup := (p2.map keyOf).nodup_iff.mpr T.nd
  refine wpAny_bind ?_
  rw [← Array.forIn_toList]
  refine wpAny_forIn_list _ (fun rest _ s' => ∃ (h' : Heap) (es' : Array (Int × Value)) (ep' : Nat) (t' : SetTable), s' = { s with heap := h' } ∧ Heap.SameBut s.heap.objs.size h1 h' ∧ Tb w h' s.heap.objs.size es' ep' t' ∧ es'.size + rest.length ≤ 48 ∧ (∀ e ∈ rest, e ∈ es.toList) ∧ (rest.map keyOf).Nodup ∧
      ∀ j, j ∈ es'.toList.map keyOf ↔ (if j ∈ es.toList.map keyOf ∧ j ∉ rest.map keyOf then j ∉ eb.toList.map keyOf else j ∈ eb.toList.map keyOf)) _ ?_ ?_ _ _ ⟨h2, es1, ep2, t2, rfl, sb2, T2, ?_, fun e he => p2.mem_iff.mp he, nd2, fun j => ?_⟩
  · rintro e rest b' s' ⟨h', es', ep', t', rfl, sb', T3, nl, gr, nr, mk⟩
    have ge := gr e List.mem_cons_self
    obtain ⟨k, tk, e1, e2⟩ := T.good e ge
    have ks := T.sm e ge
    have ek : keyOf e = k := by unfold keyOf; rw [e1]
    have kin : k ∈ es.toList.map keyOf := ek ▸ List.mem_map_of_mem ge
    rw [List.length_cons] at nl
    rw [List.map_cons, List.nodup_cons, ek] at nr
    rw [ek] at ks
    rw [List.map_cons, ek] at mk
    obtain ⟨eh, ev⟩ := e
    simp only at e1 e2
    subst e1 e2
    have kb : k ∈ es'.toList.map keyOf ↔ k ∈ eb.toList.map keyOf := by
      rw [mk k, if_neg (fun z => z.2 List.mem_cons_self)]
    have next : ∀ h'', Heap.SameBut s.heap.objs.size h1 h'' → ∀ (es'' : Array (Int × Value)) ep'' t'', Tb w h'' s.heap.objs.size es'' ep'' t'' → es''.size ≤ es'.size + 1 → (∀ j, j ∈ es''.toList.map keyOf ↔ (j = k ∧ k ∉ eb.toList.map keyOf) ∨ (j ≠ k ∧ j ∈ es'.toList.map keyOf)) →
        ∃ (h' : Heap) (es' : Array (Int × Value)) (ep' : Nat) (t' : SetTable), ({ s with heap := h'' } : Shared) = { s with heap := h' } ∧ Heap.SameBut s.heap.objs.size h1 h' ∧ Tb w h' s.heap.objs.size es' ep' t' ∧ es'.size + rest.length ≤ 48 ∧ (∀ e ∈ rest, e ∈ es.toList) ∧ (rest.map keyOf).Nodup ∧
      ∀ j, j ∈ es'.toList.map keyOf ↔ (if j ∈ es.toList.map keyOf ∧ j ∉ rest.map keyOf then j ∉ eb.toList.map keyOf else j ∈ eb.toList.map keyOf) := fun h'' sb'' es'' ep'' t'' T4 l4 m4 => by
      refine ⟨h'', es'', ep'', t'', rfl, sb'', T4, by omega, fun x hx => gr x (List.mem_cons_of_mem _ hx), nr.2, fun j => ?_⟩
      rw [m4 j]
      by_cases c : j = k
      · subst c
        rw [if_pos ⟨kin, nr.1⟩]
        exact ⟨fun z => z.elim (fun y => y.2) fun y => absurd rfl y.1, fun z => .inl ⟨rfl, z⟩⟩
      · rw [mk j]
        have : (j ∈ es.toList.map keyOf ∧ j ∉ k :: rest.map keyOf) ↔ (j ∈ es.toList.map keyOf ∧ j ∉ rest.map keyOf) := by
          rw [List.mem_cons, not_or]
          exact ⟨fun z => ⟨z.1, z.2.2⟩, fun z => ⟨z.1, c, z.2⟩⟩
        simp only [this]
        exact ⟨fun z => z.elim (fun y => absurd y.1 c) fun y => y.2, fun z => .inr ⟨c, z⟩⟩
    have tail : ∀ h'', Heap.SameBut s.heap.objs.size h1 h'' → ∀ {Q' : ForInStep PUnit → Shared → Prop}, Q' (.yield ⟨⟩) { s with heap := h'' } → wpAny (model P w) A.in1 (do Builtin.Frozenset.unchanged (toString "frozenset." ++ toString "__xor__") a ep; pure (ForInStep.yield PUnit.unit)) Q' E { s with heap := h'' } := fun h'' sb'' Q' q' => by
      unfold Builtin.Frozenset.unchanged
      refine wpAny_bind (wpAny_bind (wpAny_setEpoch_of ((sb''.2 a na).trans hoa') da' T'.fits ?_))
      exact wp_if_neg (by simp) (wpAny_pure (wpAny_pure q'))
    refine wpAny_bind (wpAny_holding ?_)
    refine wpAny_bind (out_tb T3 k tk fun h3 es3 ep3 t3 sb3 T4 m4 l4 => ?_)
    by_cases c : k ∈ es'.toList.map keyOf
    · rw [decide_eq_true c]
      refine wp_if_neg (by decide) (wpAny_pure ?_)
      refine tail h3 (sb'.trans sb3) ?_
      refine next h3 (sb'.trans sb3) es3 ep3 t3 T4 (by omega) fun j => ?_
      rw [m4 j]
      exact ⟨fun z => .inr ⟨z.2, z.1⟩, fun z => z.elim (fun y => absurd (kb.mp c) y.2) fun y => ⟨y.2, y.1⟩⟩
    · rw [decide_eq_false c]
      refine wp_if_pos rfl ?_
      have R4 := T4.setR (S := fun j => decide (j ∈ es3.toList.map keyOf)) (fun j => decide_eq_true_iff)
      refine wpAny_bind (add_tb (k := k) (tk := tk) R4 (by unfold scanBound; omega) fun h4 sb4 R5 => wpAny_pure ?_)
      have sb5 := (sb'.trans sb3).trans sb4
      refine tail h4 sb5 ?_
      have nk : ¬ decide (k ∈ es3.toList.map keyOf) = true := by
        rw [decide_eq_true_eq, m4 k]
        exact fun z => z.2 rfl
      rw [if_neg nk] at R5
      obtain ⟨es5, ep5, t5, T5, k5, z5⟩ := tb_of R5 (by omega) fun j hj => by
        rw [Bool.or_eq_true, decide_eq_true_eq, decide_eq_true_eq] at hj
        rcases hj with hj | rfl
        · obtain ⟨x, hx, rfl⟩ := List.mem_map.mp hj
          exact T4.sm x hx
        · exact ks
      refine next h4 sb5 es5 ep5 t5 T5 (by omega) fun j => ?_
      rw [← k5 j, Bool.or_eq_true, decide_eq_true_eq, decide_eq_true_eq, m4 j]
      constructor
      · rintro (z | rfl)
        · exact .inr ⟨z.2, z.1⟩
        · exact .inl ⟨rfl, fun z => c (kb.mpr z)⟩
      · rintro (⟨rfl, _⟩ | z)
        · exact .inr rfl
        · exact .inl ⟨z.2, z.1⟩
  · rintro b' s' ⟨h', es', ep', t', rfl, sb', T3, nl, _, _, mk⟩
    refine wpAny_pure (wpAny_pure (wpAny_pure ⟨_, rfl, q h' es'.size (by omega) ⟨fun c o e => (sb'.2 c (Nat.ne_of_lt (Heap.lt_size e))).trans (k1 c o e), T3.setR fun k => ?_⟩⟩))
    rw [mk k]
    by_cases c1 : k ∈ es.toList.map keyOf <;> by_cases c2 : k ∈ eb.toList.map keyOf <;> simp [c1, c2]
  · rw [p2.length_eq, Array.length_toList]
    omega
  · rw [m1 j, if_neg (fun z => z.2 ((p2.map keyOf).mem_iff.mpr z.1))]
    simp
end
end Sh
namespace Sh
open PySem PySem.Spec PyProof.Rows L2
section
variable {P : Program} {w : World} {A : Around} {E : Value → Shared → Prop} {s : Shared} {a : Addr} {es : Array (Int × Value)} {ep : Nat} {t : SetTable}
theorem size_tb (T : Tb w s.heap a es ep t) {Q : Nat → Shared → Prop} (q : Q es.size s) : wpAny (model P w) A (Builtin.Frozenset.sizeOf a) Q E s := by
  obtain ⟨o, ho, hx, hd⟩ := T.ob
  unfold Builtin.Frozenset.sizeOf
  exact wpAny_bind (wpAny_setEntries_of ho hd T.fits (wpAny_pure q))
/-- taken out, one by one -/
theorem less_tb {id : String} {b : Addr} {eb : Array (Int × Value)} {eq : Nat} {tb : SetTable} (T : Tb w s.heap a es ep t) (U : Tb w s.heap b eb eq tb) (ne : b ≠ a) (l : es.size ≤ 24) (l2 : eb.size / 8 ≤ es.size) {Q : Unit → Shared → Prop}
    (q : ∀ h' es' ep' t', Heap.SameBut a s.heap h' → Tb w h' a es' ep' t' → (∀ k, k ∈ es'.toList.map keyOf ↔ k ∈ es.toList.map keyOf ∧ k ∉ eb.toList.map keyOf) → es'.size ≤ es.size → Q () { s with heap := h' }) : wpAny (model P w) A (Builtin.Frozenset.differenceUpdate id a (.ref b)) Q E s := by
  obtain ⟨u, hu, ux, ud⟩ := U.ob
  unfold Builtin.Frozenset.differenceUpdate
  refine wp_if_neg (by simpa using ne) ?_
  refine wpAny_bind (any_tb U ?_)
  refine wp_if_pos rfl ?_
  refine wpAny_bind (wpAny_pure ?_)
  refine wpAny_bind (size_tb U ?_)
  refine wpAny_bind (size_tb T ?_)
  refine wp_if_neg (by omega) ?_
  refine wpAny_bind (wpAny_setEpoch_of hu ud U.fits ?_)
  refine wpAny_bind (wpAny_holding ?_)
  refine wpAny_bind (walk_none [a] (fun c hc => ⟨_, _, _, List.mem_singleton.mp hc ▸ T⟩) U fun out p2 => ?_)
  refine wpAny_bind ?_
  rw [← Array.forIn_toList]
  refine wpAny_forIn_list _ (fun rest _ s' => ∃ (h' : Heap) (es' : Array (Int × Value)) (ep' : Nat) (t' : SetTable), s' = { s with heap := h' } ∧ Heap.SameBut a s.heap h' ∧ Tb w h' a es' ep' t' ∧ es'.size ≤ es.size ∧ (∀ e ∈ rest, e ∈ eb.toList) ∧
      ∀ j, (j ∈ es'.toList.map keyOf ∧ j ∉ rest.map keyOf) ↔ (j ∈ es.toList.map keyOf ∧ j ∉ eb.toList.map keyOf)) _ ?_ ?_ _ _ ⟨s.heap, es, ep, t, rfl, Heap.SameBut.refl _ _, T, Nat.le_refl _, fun e he => p2.mem_iff.mp he, fun j => by rw [(p2.map keyOf).mem_iff]⟩
  · rintro e rest b' s' ⟨h', es', ep', t', rfl, sb', T3, nl, gr, mk⟩
    have ge := gr e List.mem_cons_self
    obtain ⟨k, tk, e1, e2⟩ := U.good e ge
    have ek : keyOf e = k := by unfold keyOf; rw [e1]
    rw [List.map_cons, ek] at mk
    obtain ⟨eh, ev⟩ := e
    simp only at e1 e2
    subst e1 e2
    refine wpAny_bind (wpAny_holding (out_tb T3 k tk fun h3 es3 ep3 t3 sb3 T4 m4 l4 => ?_))
    have sb5 := sb'.trans sb3
    unfold Builtin.Frozenset.unchanged
    refine wpAny_bind (wpAny_bind (wpAny_setEpoch_of ((sb5.2 b ne).trans hu) ud U.fits ?_))
    refine wp_if_neg (by simp) (wpAny_pure (wpAny_pure ?_))
    refine ⟨h3, es3, ep3, t3, rfl, sb5, T4, by omega, fun x hx => gr x (List.mem_cons_of_mem _ hx), fun j => ?_⟩
    rw [← mk j, m4 j, List.mem_cons, not_or]
    exact ⟨fun z => ⟨z.1.1, z.1.2, z.2⟩, fun z => ⟨⟨z.1, z.2.1⟩, z.2.2⟩⟩
  · rintro b' s' ⟨h', es', ep', t', rfl, sb', T3, nl, _, mk⟩
    refine wpAny_pure ?_
    have mk' : ∀ j, j ∈ es'.toList.map keyOf ↔ (j ∈ es.toList.map keyOf ∧ j ∉ eb.toList.map keyOf) := fun j => by rw [← mk j]; simp
    unfold setTidy
    obtain ⟨o3, ho3, hx3, hd3⟩ := T3.ob
    refine wpAny_bind (wpAny_setState_of ho3 hd3 T3.fits ?_)
    dsimp only
    by_cases c : t'.tooManyDummies = true
    · refine wp_if_pos c ?_
      have eg : SetTable.grown es'.size = es'.size * 4 := by
        unfold SetTable.grown
        rw [if_neg (by omega)]
      rw [eg]
      refine relay_tb T3 (by omega) (by omega) fun h4 es4 t4 sb4 T4 p4 _ _ _ => ?_
      refine q h4 es4 _ t4 (sb'.trans sb4) T4 (fun k => by rw [(p4.map keyOf).mem_iff, mk']) ?_
      rw [← Array.length_toList, p4.length_eq, Array.length_toList]
      exact nl
    · refine wp_if_neg c (wpAny_pure (q h' es' ep' t' sb' T3 mk' nl))
theorem sub_tb {b : Addr} {eb : Array (Int × Value)} {eq : Nat} {tb : SetTable} (T : Tb w s.heap a es ep t) (U : Tb w s.heap b eb eq tb) (ne : a ≠ b) (l : es.size ≤ 24) {Q : Value → Shared → Prop}
    (q : ∀ h' n, n ≤ 48 → NewS w s (fun k => decide (k ∈ es.toList.map keyOf) && !decide (k ∈ eb.toList.map keyOf)) n h' → Q (.ref s.heap.objs.size) { s with heap := h' }) :
    wpAny (model P w) A (call (.builtin "set.__sub__") [.ref a, .ref b]) Q E s := by
  refine wpAny_call_entry F.slot_set_sub T.ty ent_sub ?_ (F.args_set_sub_2 _ _)
  unfold Builtin.«frozenset.__sub__»
  refine wpAny_bind (wpAny_pure ?_)
  dsimp only
  refine wpAny_bind ?_
  refine wpAny_bind (any_tb T ?_)
  refine any_tb U ?_
  refine wp_if_neg (by decide) ?_
  refine wpAny_bind (wpAny_pure ?_)
  refine wpAny_bind ?_
  obtain ⟨o, ho, hox, hod⟩ := U.ob
  have nb : b ≠ s.heap.objs.size := Nat.ne_of_lt (Heap.lt_size ho)
  obtain ⟨oa, hoa, xa, da⟩ := T.ob
  have na : a ≠ s.heap.objs.size := Nat.ne_of_lt (Heap.lt_size hoa)
  unfold Builtin.Frozenset.difference
  refine wpAny_bind (any_tb U ?_)
  refine wp_if_neg (by decide) ?_
  refine wpAny_bind (wpAny_pure ?_)
  refine wp_if_neg (by simp) ?_
  refine wp_if_pos rfl ?_
  refine wpAny_bind (size_tb U ?_)
  refine wpAny_bind (size_tb T ?_)
  by_cases big : es.size / 4 > eb.size
  · refine wp_if_pos big ?_
    refine wpAny_bind (wpAny_rule ?_)
    refine wpAny_bind (copy_tb T fun h1 es1 ep1 t1 z1 k1 T1 m1 l1 mm1 => ?_)
    refine wpAny_bind (wpAny_pure ?_)
    refine wpAny_bind (wpAny_holding ?_)
    have sz : es1.size = es.size := by
      have := ((List.perm_ext_iff_of_nodup T1.nd T.nd).mpr m1).length_eq
      rw [List.length_map, List.length_map, Array.length_toList, Array.length_toList] at this
      exact this
    refine less_tb T1 (U.at (k1 b)) nb (by omega) (by omega) fun h2 es2 ep2 t2 sb2 T2 m2 l2 => ?_
    refine wpAny_pure (wpAny_pure ⟨_, rfl, q h2 es2.size (by omega) ⟨fun c o e => (sb2.2 c (Nat.ne_of_lt (Heap.lt_size e))).trans (k1 c o e), T2.setR fun k => ?_⟩⟩)
    rw [Bool.and_eq_true, Bool.not_eq_true', decide_eq_true_eq, decide_eq_false_iff_not, m2, m1]
  · refine wp_if_neg big ?_
    refine wpAny_bind (base_tb T ?_)
    refine wpAny_bind (new_tb fun h0 z0 k0 T0 => ?_)
    refine wpAny_bind (wpAny_pure ?_)
    have T' := T.at (k0 a)
    have U' := U.at (k0 b)
    refine wpAny_bind (wpAny_setEpoch_of (k0 a _ hoa) da T'.fits ?_)
    refine wpAny_bind (wpAny_holding ?_)
    refine wpAny_bind ?_
    refine wp_if_pos rfl ?_
    refine walk_tb [b, s.heap.objs.size] (fun c hc => ?_) T0 T' fun h2 out ep2 t2 sb2 T2 _ _ p2 => ?_
    · rcases List.mem_cons.mp hc with rfl | hc
      · exact ⟨_, _, _, U'⟩
      · exact ⟨_, _, _, List.mem_singleton.mp hc ▸ T0⟩
    have nd2 : (out.toList.map keyOf).Nodup := (p2.map keyOf).nodup_iff.mpr T.nd
    have R2 := T2.setR (S := fun _ => false) (fun k => by simp)
    refine wpAny_bind ?_
    rw [← Array.forIn_toList]
    refine wpAny_forIn_list _ (fun rest _ s' => ∃ (h' : Heap) (S' : Int → Bool) (n : Nat), s' = { s with heap := h' } ∧ Heap.SameBut s.heap.objs.size h0 h' ∧ SetR w h' s.heap.objs.size S' n ∧ n + rest.length ≤ 24 ∧ (∀ e ∈ rest, e ∈ es.toList) ∧
      ∀ j, (S' j = true ∨ (j ∈ rest.map keyOf ∧ j ∉ eb.toList.map keyOf)) ↔ (j ∈ es.toList.map keyOf ∧ j ∉ eb.toList.map keyOf)) _ ?_ ?_ _ _ ⟨h2, _, _, rfl, sb2, R2, ?_, fun e he => p2.mem_iff.mp he, fun j => by rw [(p2.map keyOf).mem_iff]; simp⟩
    · rintro e rest b' s' ⟨h', S', n, rfl, sb', R', nl, gr, mk⟩
      have ge := gr e List.mem_cons_self
      obtain ⟨k, tk, e1, e2⟩ := T.good e ge
      have ek : keyOf e = k := by unfold keyOf; rw [e1]
      rw [List.length_cons] at nl
      rw [List.map_cons, ek] at mk
      obtain ⟨eh, ev⟩ := e
      simp only at e1 e2
      subst e1 e2
      have tail : ∀ h'', Heap.SameBut s.heap.objs.size h0 h'' → ∀ {Q' : ForInStep PUnit → Shared → Prop}, Q' (.yield ⟨⟩) { s with heap := h'' } → wpAny (model P w) A.in1 (do Builtin.Frozenset.unchanged (toString "frozenset." ++ toString "__sub__") a ep; pure (ForInStep.yield PUnit.unit)) Q' E { s with heap := h'' } := fun h'' sb'' Q' q' => by
        unfold Builtin.Frozenset.unchanged
        refine wpAny_bind (wpAny_bind (wpAny_setEpoch_of ((sb''.2 a na).trans (k0 a _ hoa)) da T'.fits ?_))
        exact wp_if_neg (by simp) (wpAny_pure (wpAny_pure q'))
      have Ub : Tb w h' b eb eq tb := U'.at fun x hx => (sb'.2 b nb).trans hx
      have hR := (Ub.setR (S := fun j => decide (j ∈ eb.toList.map keyOf)) (fun j => decide_eq_true_iff)).setOf (P := P)
      refine wpAny_bind (wpAny_holding ?_)
      refine wp_if_pos rfl ?_
      refine wpAny_bind (wpAny_setFind_of (knd := intKind P w) (k := k) (intKind_is P w k tk) rfl hR fun r hr => ?_)
      refine wpAny_bind (wpAny_pure ?_)
      rw [hr]
      by_cases c : k ∈ eb.toList.map keyOf
      · rw [decide_eq_true c]
        refine wp_if_neg (by decide) (wpAny_pure ?_)
        refine tail h' sb' ⟨h', S', n, rfl, sb', R', by omega, fun x hx => gr x (List.mem_cons_of_mem _ hx), fun j => ?_⟩
        rw [← mk j, List.mem_cons]
        constructor
        · rintro (z | z)
          · exact .inl z
          · exact .inr ⟨.inr z.1, z.2⟩
        · rintro (z | ⟨rfl | z, y⟩)
          · exact .inl z
          · exact absurd c y
          · exact .inr ⟨z, y⟩
      · rw [decide_eq_false c]
        refine wp_if_pos rfl ?_
        refine wpAny_bind (add_tb (k := k) (tk := tk) R' (by unfold scanBound; omega) fun h4 sb4 R5 => wpAny_pure ?_)
        refine tail h4 (sb'.trans sb4) ⟨h4, _, _, rfl, sb'.trans sb4, R5, by split <;> omega, fun x hx => gr x (List.mem_cons_of_mem _ hx), fun j => ?_⟩
        rw [← mk j, List.mem_cons, Bool.or_eq_true, decide_eq_true_eq]
        constructor
        · rintro ((z | rfl) | z)
          · exact .inl z
          · exact .inr ⟨.inl rfl, c⟩
          · exact .inr ⟨.inr z.1, z.2⟩
        · rintro (z | ⟨rfl | z, y⟩)
          · exact .inl (.inl z)
          · exact .inl (.inr rfl)
          · exact .inr ⟨z, y⟩
    · rintro b' s' ⟨h', S', n, rfl, sb', R', nl, _, mk⟩
      refine wpAny_pure (wpAny_pure (wpAny_pure ⟨_, rfl, q h' n (by omega) ⟨fun c o e => (sb'.2 c (Nat.ne_of_lt (Heap.lt_size e))).trans (k0 c o e), R'.congr fun k => ?_⟩⟩))
      rw [Bool.eq_iff_iff, Bool.and_eq_true, Bool.not_eq_true', decide_eq_true_eq, decide_eq_false_iff_not, ← mk k]
      simp
    · rw [p2.length_eq, Array.length_toList]
      simpa using l
end
end Sh
namespace Sh
open PySem PySem.Spec PyProof.Rows L2
/-- |, -, ^ of two sets of small ints, by members -/
def rSetOp (w : World) (f : Bool → Bool → Bool) : R2 := fun x y H Q => ∃ (a b : Addr) (S1 S2 : Int → Bool) (n1 n2 : Nat), x = .ref a ∧ y = .ref b ∧ a ≠ b ∧ H a = some (SetO w a S1 n1) ∧ H b = some (SetO w b S2 n2) ∧ n1 ≤ 24 ∧ n2 ≤ 24 ∧
  (∀ k, S1 k = true → 0 ≤ k ∧ k < 32) ∧ (∀ k, S2 k = true → 0 ≤ k ∧ k < 32) ∧ ∀ (p : Addr) (n : Nat), H p = none → n ≤ 48 → Q (.ref p) (upd H p (SetO w p (fun k => f (S1 k) (S2 k)) n))
section
variable {X : Cx}
theorem set_rule {op : Operator} {id : String} {f : Bool → Bool → Bool} (fills : fillsNumberSlot (.type "set") op.info.2 = pure true) (slot : Slot "set" (dunder op.info.2) id)
    (run : ∀ {A : Around} {E : Value → Shared → Prop} {s : Shared} {a b : Addr} {es eb : Array (Int × Value)} {ep eq : Nat} {t tb : SetTable}, Tb X.w s.heap a es ep t → Tb X.w s.heap b eb eq tb → a ≠ b → es.size ≤ 24 → eb.size ≤ 24 → ∀ {Q : Value → Shared → Prop},
      (∀ h' n, n ≤ 48 → NewS X.w s (fun k => f (decide (k ∈ es.toList.map keyOf)) (decide (k ∈ eb.toList.map keyOf))) n h' → Q (.ref s.heap.objs.size) { s with heap := h' }) → wpAny (model X.prog X.w) A (call (.builtin id) [.ref a, .ref b]) Q E s) : OpR X (binaryOp op) (rSetOp X.w f) := by
  intro pins s σ H x y v u Q I rx ry h
  obtain ⟨a, b, S1, S2, n1, n2, rfl, rfl, ne, ha, hb, l1, l2, m1, m2, q⟩ := h
  cases rx
  cases ry
  obtain ⟨es, ep, t, T, k1, z1⟩ := tb_of (setO_get I ha) (by omega) m1
  obtain ⟨eb, eq, tb, U, k2, z2⟩ := tb_of (setO_get I hb) (by omega) m2
  refine wpAny_binaryOp_same T.ty U.ty fills slot (run T U ne (by omega) (by omega) fun h' n ln ⟨kk, R⟩ => ⟨by simp, ?_⟩)
  have e1 : ∀ k, decide (k ∈ es.toList.map keyOf) = S1 k := fun k => by rw [Bool.eq_iff_iff, decide_eq_true_eq, k1]
  have e2 : ∀ k, decide (k ∈ eb.toList.map keyOf) = S2 k := fun k => by rw [Bool.eq_iff_iff, decide_eq_true_eq, k2]
  have R' : SetR X.w h' s.heap.objs.size (fun k => f (S1 k) (S2 k)) n := R.congr fun k => by
    show f (S1 k) (S2 k) = f _ _
    rw [e1, e2]
  exact ⟨.ref _, upd H s.heap.objs.size (SetO X.w s.heap.objs.size _ n), I.laid (t' := s.toks) kk (Nat.le_refl _) (setO_new R'), rfl, q _ n (I.hok.fresh (Nat.le_refl _)) ln⟩
theorem op_orS (w : World) (hw : X.w = w := by rfl) : OpR X (binaryOp .BitOr) (rSetOp w fun a b => a || b) := by
  subst hw
  exact set_rule (id := "set.__or__") F.fills_set_or F.slot_set_or @fun _ _ _ _ _ _ _ _ _ _ _ T U ne l1 l2 _ q => union_tb T U ne (by omega) q
theorem op_subS (w : World) (hw : X.w = w := by rfl) : OpR X (binaryOp .Sub) (rSetOp w fun a b => a && !b) := by
  subst hw
  exact set_rule (id := "set.__sub__") F.fills_set_sub F.slot_set_sub @fun _ _ _ _ _ _ _ _ _ _ _ T U ne l1 l2 _ q => sub_tb T U ne l1 q
theorem op_xorS (w : World) (hw : X.w = w := by rfl) : OpR X (binaryOp .BitXor) (rSetOp w fun a b => a != b) := by
  subst hw
  exact set_rule (id := "set.__xor__") F.fills_set_xor F.slot_set_xor @fun _ _ _ _ _ _ _ _ _ _ _ T U ne l1 l2 _ q => xor_tb T U ne (by omega) q
end
end Sh

/-! sorted(d), d a dict whose keys are tuples of so many ints each: some order of the keys, any number of them -/
namespace Sh
open PySem PySem.Spec PyProof.Rows L2
section
variable {prog : Program} {w : World} {A : Around} {E : Value → Shared → Prop} {s : Shared}
theorem rank_swo (r : Value → Int) : SrtO.Swo fun u v => decide (r u < r v) := by
  refine ⟨fun x y h => ?_, fun x y z h1 h2 => ?_⟩
  · have a := of_decide_eq_true h
    exact decide_eq_false (by omega)
  · have a := of_decide_eq_false h1
    have b := of_decide_eq_false h2
    exact decide_eq_false (by omega)
theorem tups_sortable {a : Addr} {vs : List Value} {d : Nat} {B : Int} (hd : 1 ≤ d) (h2 : 2 ≤ vs.length) (x : TS.TupsOk s.heap d B vs) (ha : ∀ o, s.heap.get? a = some o → o.cls ≠ .type "tuple") :
    SrtO.SortableO prog w A s a vs fun u v => decide (TS.code B (TS.intsOf s.heap u) < TS.code B (TS.intsOf s.heap v)) := by
  intro h' keep
  have kp : ∀ b o, s.heap.get? b = some o → o.cls = .type "tuple" → h'.get? b = some o := fun b o e c => keep b o (fun z => by subst z; exact ha o e c) e
  obtain ⟨fs, k, hl, hi⟩ := TS.firsts_of hd vs (x.keeps kp)
  refine ⟨tuples' true, fun Q E hq => ?_, fun p q hp hq => ?_⟩
  · refine PySem.W.kat_kind (T := .type "int") k (by omega) (fun f hf => ?_) (by rfl) ?_
    · obtain ⟨n, t, rfl⟩ := hi f hf
      exact PySem.W.Looks.now
    · have e : (Value.type "int" != Value.type "tuple") = true := by first | decide +kernel | rfl | decide
      rw [e]
      exact hq
  · obtain ⟨ns, tp, lp, bp⟩ := x p.1 hp
    obtain ⟨ms, tq, lq, bq⟩ := x q.1 hq
    show wpAny (model prog w) A (keyLt' (tuples' true) p.1 q.1) (fun r s' => s' = { s with heap := h' } ∧ r = decide (TS.code B (TS.intsOf s.heap p.1) < TS.code B (TS.intsOf s.heap q.1))) (fun _ _ => False) { s with heap := h' }
    rw [tp.ints, tq.ints]
    obtain ⟨a1, xs, e1, ⟨o, ho, hc, n, hdt⟩, i⟩ := tp.keeps kp
    obtain ⟨a2, ys, e2, ⟨o', ho', hc', n', hdt'⟩, i'⟩ := tq.keeps kp
    rw [e1, e2]
    refine PySem.W.kat_lt ho hdt ho' hdt' ?_
    have sz : decide (xs.size < ys.size) = false := by
      have l1 := i.length
      have l2 := i'.length
      rw [Array.length_toList] at l1 l2
      exact decide_eq_false (by omega)
    rw [sz]
    exact TS.lex_ints 0 i i' (by omega) bp bq ⟨rfl, rfl⟩
end
theorem par_get {α β : Type} {F : α → β → Prop} : ∀ {l : List α} {m : List β} {j : Nat} {x : β}, Paired F l m → m[j]? = some x → ∃ y, l[j]? = some y ∧ F y x
  | _, _, _, _, .nil, h => by simp at h
  | _, _, 0, _, .cons (a := y) f _, h => ⟨y, rfl, by simp at h; subst h; exact f⟩
  | _, _, j + 1, _, .cons _ t, h => par_get (j := j) t (by simpa using h)
section
variable {X : Cx}
/-- sum(t), t a tuple of ints -/
def rSumT (K : PySem.W.Frag) : List V → Hp → VK → Prop := fun vs H Q => ∃ (a : Addr) (ns : List Int), vs = [.ref a] ∧ SqT K H a (ns.map V.int) ∧ Q (.int ns.sum) H
theorem cr_sumT (hc : X.calm = true) : CallR X (.builtin "sum") (rSumT X.K) := by
  intro pins s σ H vs us Q I r h
  obtain ⟨a, ns, rfl, hs, q⟩ := h
  obtain ⟨its, rv, hT, _⟩ := I.tuple hs
  rw [Vals.ref1 r]
  have hi := rv.ints
  obtain ⟨xs, e⟩ := hi.allInts.items
  have hn : numsOf (intItems xs).toList = ns := by rw [← e]; exact hi.numsOf
  rw [nums_intItems] at hn
  rw [e] at hT
  refine PySem.W.ktm_sumG (I.ok.hd hc) hT fun h' tk t' hk => ?_
  refine ⟨.int ns.sum, H, I.kept hk, ⟨t', ?_⟩, q⟩
  rw [preSum_eq, List.take_of_length_le (by simp), hn]
def rSortedDT : List V → Hp → VK → Prop := fun vs H Q => ∃ (a : Addr) (kvs : List (List Key × V)) (d : Nat) (B : Int), vs = [.ref a] ∧ H a = some (.dT kvs) ∧ kvs.length ≤ 1000000 ∧ 1 ≤ d ∧ (∀ kv ∈ kvs, ∃ ns : List Int, kv.1 = ns.map Sum.inl ∧ ns.length = d ∧ TS.Bd B ns) ∧
  ∀ (p : Addr) (bs : List Addr), H p = none → bs.length = kvs.length → (∀ b ∈ bs, ∃ kv ∈ kvs, H b = some (.tup (kv.1.map kV))) → Q (.ref p) (upd H p (.lst (bs.map V.ref)))
theorem cr_sortedDT (hc : X.calm = true) : CallR X (.builtin "sorted") rSortedDT := by
  intro pins s σ H xs us Q I r h
  obtain ⟨a, kvs, d, B, rfl, hd, hl, d1, hk, q⟩ := h
  rw [Vals.ref1 r]
  obtain ⟨z, hs, ks, pr, o, es, ep, ho, hx, hdt, he, hn⟩ := (show ObjOk X.prog X.w H s.heap a (.dT kvs) from I.hok a _ hd)
  have l1 : es.size = ks.length := size_of_entries he
  have l2 : kvs.length = ks.length := Paired.length pr
  refine Calls.call_function_entry kind_sorted plain_sorted entry_sorted (args_sorted1 _) ?_
  unfold Builtin.«sorted»
  refine wpAny_bind (m := checkCount "sorted" 1 1 _) (wpAny_pure ?_)
  refine wpAny_bind (PySem.W.kdu_collect (A := X.A.in1) (kdl_raw hs hx hdt) (I.ok.hd hc) ho (by rw [sizeLine_eq]; omega) fun h' tk acc kp it => ?_)
  have ea : acc.toList = (ks.map fun x => x.2.1).map Value.ref := by
    rw [List.map_map]
    have hl' : acc.toList.length = ks.length := by rw [Array.length_toList, it.1]; exact l1
    apply List.ext_getElem?
    intro j
    rw [List.getElem?_map]
    cases hj : acc.toList[j]? with
    | none =>
      have h1 := List.getElem?_eq_none_iff.mp hj
      rw [List.getElem?_eq_none (by omega)]
      rfl
    | some v =>
      obtain ⟨en, hen, hv⟩ := it.2 j v (by rw [← Array.getElem?_toList]; exact hj)
      have qe := entry_at he j
      rw [hen] at qe
      cases hb : ks[j]? with
      | none =>
        rw [hb] at qe
        cases (show some en = none from qe)
      | some b =>
        rw [hb] at qe
        have e2 : en = entryOfKey (tupleKind (mixKind X.prog X.w)) b := Option.some.inj qe
        rw [hv, e2]
        rfl
  have keys : ∀ x ∈ ks, ∃ kv ∈ kvs, H x.2.1 = some (.tup (kv.1.map kV)) := fun x hx => by
    obtain ⟨j, hj⟩ := List.getElem?_of_mem hx
    obtain ⟨e0, he0, _, r2, _⟩ := par_get pr hj
    exact ⟨e0, List.mem_of_getElem? he0, r2⟩
  have I1 : Inv X pins σ H { s with heap := h', toks := tk } := I.kept kp
  have tups : TS.TupsOk h' d B acc.toList := fun v hv => by
    rw [ea] at hv
    obtain ⟨b, hb, rfl⟩ := List.mem_map.mp hv
    obtain ⟨x, hx, rfl⟩ := List.mem_map.mp hb
    obtain ⟨kv, hkv, e⟩ := keys x hx
    obtain ⟨ns, en, ln, bn⟩ := hk kv hkv
    refine ⟨ns, ?_, ln, bn⟩
    have e' : H x.2.1 = some (.tup (ns.map V.int)) := by
      rw [e, en, List.map_map]
      rfl
    exact tupI_raw I1 (SqT.of e')
  have hal : acc.toList.length = kvs.length := by rw [ea, List.length_map, List.length_map, l2]
  refine wpAny_bind (wpAny_newList ?_ (by rw [hal, sizeLine_eq]; omega))
  have hoL : (h'.push (seqObj "list" acc.toList.toArray 0)).get? h'.objs.size = some (seqObj "list" acc.toList.toArray 0) := Heap.get?_push_size _ rfl
  have kp2 : ∀ b o, h'.get? b = some o → (h'.push (seqObj "list" acc.toList.toArray 0)).get? b = some o := fun b o e => Heap.get?_push_of_some _ e
  show wpAny _ _ _ _ _ { s with heap := h'.push (seqObj "list" acc.toList.toArray 0), toks := tk }
  refine wpAny_bind (wpAny_holding (wpAny_call_entry slot_list_sort ⟨_, hoL, rfl⟩ entry_list_sort (SrtO.list_sort_ord (s := { s with heap := h'.push (seqObj "list" acc.toList.toArray 0), toks := tk }) (rank_swo _) hoL (by rw [hal, sizeLine_eq]; omega) (fun h2 => tups_sortable (B := B) d1 h2 (tups.keeps fun b o e _ => kp2 b o e) fun o e => ?_) fun out hs' hb' => ⟨_, rfl, ?_⟩) (args_list_sort _)))
  · have e' := hoL.symm.trans e
    cases e'
    exact fun z => by injection z with z; exact absurd z (by decide)
  obtain ⟨e', he'⟩ := sortedHeap_at (vs := acc.toList) (out := out.toArray) hoL
  obtain ⟨bs, eb, hbs⟩ : ∃ bs : List Addr, out = bs.map Value.ref ∧ ∀ b ∈ bs, ∃ x ∈ ks, b = x.2.1 := by
    have all : ∀ v ∈ out, ∃ x ∈ ks, v = Value.ref x.2.1 := fun v hv => by
      have m := hb'.perm.mem_iff.mp hv
      rw [ea, List.map_map] at m
      obtain ⟨x, hx, e⟩ := List.mem_map.mp m
      exact ⟨x, hx, e.symm⟩
    clear hb' hs' he' 
    induction out with
    | nil => exact ⟨[], rfl, fun b hb => by cases hb⟩
    | cons v out ih =>
      obtain ⟨bs, e1, e2⟩ := ih fun u hu => all u (List.mem_cons_of_mem _ hu)
      obtain ⟨x, hx, e3⟩ := all v List.mem_cons_self
      refine ⟨x.2.1 :: bs, by rw [e1, e3]; rfl, fun b hb => ?_⟩
      rcases List.mem_cons.mp hb with z | z
      · exact ⟨x, hx, z⟩
      · exact e2 b z
  have lb : bs.length = kvs.length := by
    have := hb'.perm.length_eq
    rw [eb, List.length_map, hal] at this
    exact this
  refine wpAny_pure ⟨_, rfl, .ref h'.objs.size, upd H h'.objs.size (.lst (bs.map V.ref)), I1.laid (t' := tk) (fun b u e => ?_) (Nat.le_refl _)
    (show ObjOk X.prog X.w _ _ _ (.lst (bs.map V.ref)) from ⟨by rw [List.length_map, lb, sizeLine_eq]; omega, out, e', by rw [eb]; exact vals_refs _, he'⟩), rfl, q _ bs (I1.hok.fresh (Nat.le_refl _)) lb fun b hb => ?_⟩
  · have hb : b < h'.objs.size := Heap.lt_size e
    rw [sortedHeap_old (Nat.ne_of_lt hb) (by rw [size_push']; exact Nat.lt_succ_of_lt hb)]
    exact Heap.get?_push_of_some _ e
  · obtain ⟨x, hx, rfl⟩ := hbs b hb
    exact keys x hx
end
end Sh

/-! sorted(d), d a dict whose keys are tuples of ints of several lengths, the empty one among them: some order of the keys -/
namespace Sh
open PySem PySem.Spec PyProof.Rows L2 PySem.W
section
variable {prog : Program} {w : World} {A : Around} {E : Value → Shared → Prop} {s : Shared} {b : Bool} {Q : Bool → Shared → Prop}
theorem lex_intsV {xs ys : List Value} {ns ms : List Int} (i : Nat) (hx : IntsAre xs ns) (hy : IntsAre ys ms) (h : Q (HT.lexLt ns ms) s) : PySem.W.KatLex prog w A b (decide (xs.length < ys.length)) Q (xs.zip ys) i s := by
  induction hx generalizing ys ms i with
  | nil =>
    cases hy with
    | nil => exact PySem.W.kat_nil h
    | cons q u hy =>
      refine PySem.W.kat_nil ?_
      rw [HT.lexLt_nil_cons] at h
      rw [decide_eq_true (by simp)]
      exact h
  | @cons p t xs ns hx ih =>
    cases hy with
    | nil =>
      refine PySem.W.kat_nil ?_
      rw [HT.lexLt_cons_nil] at h
      rw [decide_eq_false (by simp)]
      exact h
    | @cons q u ys ms hy =>
      show PySem.W.KatLex prog w A b _ Q ((Value.int p t, Value.int q u) :: xs.zip ys) i s
      have el : decide ((Value.int p t :: xs).length < (Value.int q u :: ys).length) = decide (xs.length < ys.length) := by simp
      rw [el]
      rw [HT.lexLt_cons] at h
      refine PySem.W.kat_cons (wpAny_eqBool_int ?_)
      by_cases e : p = q
      · subst e
        rw [beq_self_eq_true]
        rw [if_pos rfl] at h
        refine PySem.W.kat_yes ?_
        exact ih (i + 1) hy h
      · rw [show (p == q) = false from beq_eq_false_iff_ne.mpr e]
        rw [if_neg e] at h
        exact PySem.W.kat_no (_root_.TS.oneLt_ints _ h)
def firstV (h : Heap) : Value → Option Value
  | .ref a => match h.get? a with
    | some o => match o.data with
      | .seq xs _ => xs[0]?
      | _ => none
    | none => none
  | _ => none
theorem firstV_eq {h : Heap} {a : Addr} {o : Obj} {xs : Array Value} {n : Nat} (ho : h.get? a = some o) (hd : o.data = .seq xs n) : firstV h (.ref a) = xs[0]? := by
  simp only [firstV, ho, hd]
variable {M : Model}
theorem tv_firsts : ∀ (vs : List Value) {Q : List (Option Value) → Shared → Prop}, (∀ v ∈ vs, ∃ ns, TS.TupInts s.heap v ns) → Q (vs.map (firstV s.heap)) s → wpAny M A (vs.mapM firstOfTuple') Q E s
  | [], _, _, h => by rw [List.mapM_nil]; exact wpAny_pure h
  | v :: vs, Q, t, h => by
    obtain ⟨ns, a, xs, rfl, ⟨o, ho, hc, n, hd⟩, _⟩ := t v List.mem_cons_self
    rw [List.mapM_cons]
    refine wpAny_bind ?_
    rw [kas_first_eq]
    refine wpAny_bind (Looks.here (show Looks M s.heap (typeOf (.ref a)) o.cls from (Looks.ld ho).andThen .now) ?_)
    rw [hc, if_neg (by first | decide | simp)]
    refine wpAny_bind (listItems_at ho hd (wpAny_pure ?_))
    rw [List.map_cons, firstV_eq ho hd] at h
    exact wpAny_bind (tv_firsts vs (Q := fun bs s' => wpAny M A (pure (xs[0]? :: bs)) Q E s') (fun u hu => t u (List.mem_cons_of_mem _ hu)) (wpAny_pure h))
theorem tv_tups : ∀ {vs : List Value}, (∀ v ∈ vs, ∃ ns, TS.TupInts s.heap v ns) → (∀ v ∈ vs, (firstV s.heap v).isSome = true) → ∃ fs, PySem.W.KatTups s.heap vs fs ∧ fs.length = vs.length ∧ ∀ f ∈ fs, ∃ n t, f = Value.int n t
  | [], _, _ => ⟨[], PySem.W.KatTups.nil, rfl, fun f hf => by cases hf⟩
  | v :: vs, t, y => by
    obtain ⟨fs, k, l, q⟩ := tv_tups (fun u hu => t u (List.mem_cons_of_mem _ hu)) fun u hu => y u (List.mem_cons_of_mem _ hu)
    obtain ⟨ns, a, xs, rfl, ⟨o, ho, hc, n, hd⟩, i⟩ := t v List.mem_cons_self
    have z := y _ List.mem_cons_self
    rw [firstV_eq ho hd] at z
    obtain ⟨f, ef⟩ := Option.isSome_iff_exists.mp z
    refine ⟨f :: fs, PySem.W.KatTups.cons ho hc hd ef k, by rw [List.length_cons, List.length_cons, l], fun g hg => ?_⟩
    rcases List.mem_cons.mp hg with e | e
    · subst e
      rw [← Array.getElem?_toList] at ef
      generalize xs.toList = l at ef i
      revert ef
      cases i with
      | nil => intro ef; simp at ef
      | cons p t _ =>
        intro ef
        rw [List.getElem?_cons_zero] at ef
        exact ⟨p, t, (Option.some.inj ef).symm⟩
    · exact q g e
theorem tv_kind {vs : List Value} (h2 : 2 ≤ vs.length) (x : ∀ v ∈ vs, ∃ ns, TS.TupInts s.heap v ns) : ∃ κ : SortKind, (κ = tuples' true ∨ κ = general' ∨ κ = oneType') ∧
    ∀ (M : Model) (A : Around) (E : Value → Shared → Prop) (Q : SortKind → Shared → Prop), Q κ s → wpAny M A (keyKind' vs.toArray) Q E s := by
  by_cases all : ((vs.map (firstV s.heap)).toArray.all fun x => x.isSome) = true
  · obtain ⟨fs, k, l, q⟩ := tv_tups x fun v hv => by
      rw [List.all_toArray, List.all_eq_true] at all
      exact all _ (List.mem_map.mpr ⟨v, hv, rfl⟩)
    refine ⟨tuples' true, .inl rfl, fun M A E Q hq => ?_⟩
    refine PySem.W.kat_kind (T := .type "int") k (by omega) (fun f hf => ?_) (by rfl) ?_
    · obtain ⟨n, t, rfl⟩ := q f hf
      exact PySem.W.Looks.now
    · have e : (Value.type "int" != Value.type "tuple") = true := by first | decide +kernel | rfl | decide
      rw [e]
      exact hq
  · by_cases f0 : ((vs.map (firstV s.heap)).toArray[0]?.bind id).isSome = true
    · refine ⟨general', .inr (.inl rfl), fun M A E Q hq => ?_⟩
      rw [kat_kind_eq, List.mapM_toArray, map_eq_pure_bind]
      refine wpAny_bind (wpAny_bind (tv_firsts vs x (wpAny_pure ?_)))
      rw [if_neg all, if_pos f0]
      exact wpAny_pure hq
    · refine ⟨oneType', .inr (.inr rfl), fun M A E Q hq => ?_⟩
      rw [kat_kind_eq, List.mapM_toArray, map_eq_pure_bind]
      refine wpAny_bind (wpAny_bind (tv_firsts vs x (wpAny_pure ?_)))
      rw [if_neg all, if_neg f0]
      rw [oneTypeOnly'_eq, List.mapM_toArray, map_eq_pure_bind]
      refine wpAny_bind (wpAny_bind (wpAny_bind (kas_mapM (r := .type "tuple") _ (fun v hv Q' hq' => ?_) (wpAny_pure ?_))))
      · obtain ⟨ns, a, xs, rfl, ⟨o, ho, hc, n, hd⟩, _⟩ := x v hv
        refine Looks.here (show Looks M s.heap (typeOf (.ref a)) (.type "tuple") from ?_) hq'
        rw [← hc]
        exact (Looks.ld ho).andThen .now
      obtain ⟨v1, vr, rfl⟩ : ∃ v1 vr, vs = v1 :: vr := by
        match vs, h2 with
        | v1 :: vr, _ => exact ⟨v1, vr, rfl⟩
      have hall : ((List.map (fun _ => Value.type "tuple") (v1 :: vr)).toArray.all fun x => x == Value.type "tuple") = true := by
        simp only [List.all_toArray, List.all_map, List.all_eq_true]
        intro _ _
        rfl
      have h0 : (List.map (fun _ => Value.type "tuple") (v1 :: vr)).toArray[0]? = some (Value.type "tuple") := by simp
      rw [h0]
      simp only [hall, if_true]
      exact wpAny_pure (wpAny_pure hq)
theorem tv_lt {κ : SortKind} (hκ : κ = tuples' true ∨ κ = general' ∨ κ = oneType') {u v : Value} {ns ms : List Int} (hu : A.units < cLine) (xu : TS.TupInts s.heap u ns) (xv : TS.TupInts s.heap v ms) (h : Q (HT.lexLt ns ms) s) : wpAny (model prog w) A (keyLt' κ u v) Q E s := by
  obtain ⟨a, xs, rfl, p1, i1⟩ := xu
  obtain ⟨c, ys, rfl, p2, i2⟩ := xv
  rcases hκ with rfl | rfl | rfl
  · obtain ⟨o, ho, hc, n, hd⟩ := p1
    obtain ⟨o', ho', hc', n', hd'⟩ := p2
    refine PySem.W.kat_lt ho hd ho' hd' ?_
    have := lex_intsV (prog := prog) (w := w) (A := A) (b := true) 0 i1 i2 h
    rw [Array.length_toList, Array.length_toList] at this
    exact this
  · show wpAny (model prog w) A (oneLt' false (.ref a) (.ref c)) Q E s
    exact PySem.W.kat_one _ _ (HT.lt_tupInts (Q := PySem.W.BoolBack Q) p1 p2 i1 i2 hu h)
  · rw [keyLt'_oneType, oneLt'_eq]
    simp only [if_true]
    refine wpAny_bind (wpAny_cRoomFor hu ?_)
    obtain ⟨⟨cls, dd, data, sl⟩, ho, hc, n, hd⟩ := id p1
    obtain ⟨⟨cls2, dd2, data2, sl2⟩, ho2, hc2, n2, hd2⟩ := id p2
    simp only at hc hd hc2 hd2
    subst hc hd hc2 hd2
    refine wpAny_bind (wpAny_callSpecialIfBound?_slot (T := "tuple") ⟨_, ho, rfl⟩ F.slot_tuple_lt (call_meets F.slot_tuple_lt ⟨_, ho, rfl⟩ F.entry_tuple_lt (F.args_tuple_lt_2 _ _) (HT.tuple_lt_ints a c xs ys n n2 dd dd2 sl sl2 ns ms i1 i2) ⟨ho, ho2, ?_⟩))
    exact wpAny_truthy_bool h
theorem tv_sortable {a : Addr} {vs : List Value} (h2 : 2 ≤ vs.length) (hu : A.units < cLine) (x : ∀ v ∈ vs, ∃ ns, TS.TupInts s.heap v ns) (ha : ∀ o, s.heap.get? a = some o → o.cls ≠ .type "tuple") :
    SrtO.SortableO prog w A s a vs fun u v => HT.lexLt (TS.intsOf s.heap u) (TS.intsOf s.heap v) := by
  intro h' keep
  have kp : ∀ b o, s.heap.get? b = some o → o.cls = .type "tuple" → h'.get? b = some o := fun b o e c => keep b o (fun z => by subst z; exact ha o e c) e
  have x' : ∀ v ∈ vs, ∃ ns, TS.TupInts h' v ns := fun v hv => let ⟨ns, t⟩ := x v hv; ⟨ns, t.keeps kp⟩
  obtain ⟨κ, hκ, q⟩ := tv_kind (s := { s with heap := h' }) h2 x'
  refine ⟨κ, fun Q E hq => q _ A E Q hq, fun p q' hp hq => ?_⟩
  obtain ⟨ns, tp⟩ := x p.1 hp
  obtain ⟨ms, tq⟩ := x q'.1 hq
  show wpAny (model prog w) A (keyLt' κ p.1 q'.1) (fun r s' => s' = { s with heap := h' } ∧ r = HT.lexLt (TS.intsOf s.heap p.1) (TS.intsOf s.heap q'.1)) (fun _ _ => False) { s with heap := h' }
  rw [tp.ints, tq.ints]
  exact tv_lt hκ hu (tp.keeps kp) (tq.keeps kp) ⟨rfl, rfl⟩
end
section
variable {X : Cx}
/-- sorted(d), d a dict whose keys are tuples of ints: the keys, in their order -/
def rSortedDV : List V → Hp → VK → Prop := fun vs H Q => ∃ (a : Addr) (kvs : List (List Key × V)) (Ks : List (List Int)), vs = [.ref a] ∧ H a = some (.dT kvs) ∧ kvs.length ≤ 1000000 ∧ kvs.map (·.1) = Ks.map (fun ns => ns.map Sum.inl) ∧
  ∀ (p : Addr) (bs : List Addr) (Ls : List (List Int)), H p = none → bs.length = Ls.length → (∀ (i : Nat) (b : Addr) (ns : List Int), bs[i]? = some b → Ls[i]? = some ns → H b = some (.tup (ns.map V.int))) → Ls.Perm Ks → Ls.Pairwise (fun x y => HT.lexLt y x = false) → Q (.ref p) (upd H p (.lst (bs.map V.ref)))
theorem cr_sortedDV (hc : X.calm = true) (hu : X.A.units + 64 < cLine) : CallR X (.builtin "sorted") rSortedDV := by
  intro pins s σ H xs us Q I r h
  obtain ⟨a, kvs, Ks, rfl, hd, hl, hk, q⟩ := h
  rw [Vals.ref1 r]
  obtain ⟨z, hs, ks, pr, o, es, ep, ho, hx, hdt, he, hn⟩ := (show ObjOk X.prog X.w H s.heap a (.dT kvs) from I.hok a _ hd)
  have l1 : es.size = ks.length := size_of_entries he
  have l2 : kvs.length = ks.length := Paired.length pr
  refine Calls.call_function_entry kind_sorted plain_sorted entry_sorted (args_sorted1 _) ?_
  unfold Builtin.«sorted»
  refine wpAny_bind (m := checkCount "sorted" 1 1 _) (wpAny_pure ?_)
  refine wpAny_bind (PySem.W.kdu_collect (A := X.A.in1) (kdl_raw hs hx hdt) (I.ok.hd hc) ho (by rw [sizeLine_eq]; omega) fun h' tk acc kp it => ?_)
  have ea : acc.toList = (ks.map fun x => x.2.1).map Value.ref := by
    rw [List.map_map]
    have hl' : acc.toList.length = ks.length := by rw [Array.length_toList, it.1]; exact l1
    apply List.ext_getElem?
    intro j
    rw [List.getElem?_map]
    cases hj : acc.toList[j]? with
    | none =>
      have h1 := List.getElem?_eq_none_iff.mp hj
      rw [List.getElem?_eq_none (by omega)]
      rfl
    | some v =>
      obtain ⟨en, hen, hv⟩ := it.2 j v (by rw [← Array.getElem?_toList]; exact hj)
      have qe := entry_at he j
      rw [hen] at qe
      cases hb : ks[j]? with
      | none =>
        rw [hb] at qe
        cases (show some en = none from qe)
      | some b =>
        rw [hb] at qe
        have e2 : en = entryOfKey (tupleKind (mixKind X.prog X.w)) b := Option.some.inj qe
        rw [hv, e2]
        rfl
  have lK : Ks.length = kvs.length := by
    have := congrArg List.length hk
    rw [List.length_map, List.length_map] at this
    exact this.symm
  have keys : ∀ (j : Nat) (x : _) (ns : List Int), ks[j]? = some x → Ks[j]? = some ns → H x.2.1 = some (.tup (ns.map V.int)) := fun j x ns hj hn => by
    obtain ⟨e0, he0, _, r2, _⟩ := par_get pr hj
    have e1 : (kvs.map (·.1))[j]? = some e0.1 := by rw [List.getElem?_map, he0]; rfl
    rw [hk, List.getElem?_map, hn] at e1
    have e2 : ns.map Sum.inl = e0.1 := Option.some.inj e1
    rw [r2, ← e2, List.map_map]
    rfl
  have I1 : Inv X pins σ H { s with heap := h', toks := tk } := I.kept kp
  have hal : acc.toList.length = kvs.length := by rw [ea, List.length_map, List.length_map, l2]
  have tj : ∀ (j : Nat) (v : Value) (ns : List Int), acc.toList[j]? = some v → Ks[j]? = some ns → TS.TupInts h' v ns := fun j v ns hv hn => by
    rw [ea, List.getElem?_map, List.getElem?_map] at hv
    cases hx : ks[j]? with
    | none => rw [hx] at hv; cases hv
    | some x =>
      rw [hx] at hv
      obtain rfl : Value.ref x.2.1 = v := Option.some.inj hv
      exact tupI_raw I1 (SqT.of (keys j x ns hx hn))
  have tups : ∀ v ∈ acc.toList, ∃ ns, TS.TupInts h' v ns := fun v hv => by
    obtain ⟨j, hj⟩ := List.getElem?_of_mem hv
    have lj : j < acc.toList.length := (List.getElem?_eq_some_iff.mp hj).1
    exact ⟨_, tj j v _ hj (List.getElem?_eq_getElem (by omega))⟩
  have eK : acc.toList.map (TS.intsOf h') = Ks := by
    refine List.ext_getElem? fun j => ?_
    rw [List.getElem?_map]
    cases hj : acc.toList[j]? with
    | none =>
      have := List.getElem?_eq_none_iff.mp hj
      rw [List.getElem?_eq_none (by omega)]
      rfl
    | some v =>
      have lj : j < acc.toList.length := (List.getElem?_eq_some_iff.mp hj).1
      have hn : Ks[j]? = some (Ks[j]'(by omega)) := List.getElem?_eq_getElem (by omega)
      rw [hn]
      exact congrArg some (tj j v _ hj hn).ints
  refine wpAny_bind (wpAny_newList ?_ (by rw [hal, sizeLine_eq]; omega))
  have hoL : (h'.push (seqObj "list" acc.toList.toArray 0)).get? h'.objs.size = some (seqObj "list" acc.toList.toArray 0) := Heap.get?_push_size _ rfl
  have kp2 : ∀ b o, h'.get? b = some o → (h'.push (seqObj "list" acc.toList.toArray 0)).get? b = some o := fun b o e => Heap.get?_push_of_some _ e
  show wpAny _ _ _ _ _ { s with heap := h'.push (seqObj "list" acc.toList.toArray 0), toks := tk }
  refine wpAny_bind (wpAny_holding (wpAny_call_entry slot_list_sort ⟨_, hoL, rfl⟩ entry_list_sort (SrtO.list_sort_ord (s := { s with heap := h'.push (seqObj "list" acc.toList.toArray 0), toks := tk }) (NtL.swo_lexL _) hoL (by rw [hal, sizeLine_eq]; omega) (fun h2 => tv_sortable h2 ?_ (fun v hv => let ⟨ns, t⟩ := tups v hv; ⟨ns, t.keeps fun b o e _ => kp2 b o e⟩) fun o e => ?_) fun out hs' hb' => ⟨_, rfl, ?_⟩) (args_list_sort _)))
  · first
      | (show X.A.units + 1 < cLine; omega)
      | (show X.A.units + 1 + 1 < cLine; omega)
      | (show X.A.units + 1 + 1 + 1 < cLine; omega)
      | (show X.A.units + 1 + 1 + 1 + 1 < cLine; omega)
      | (show X.A.units < cLine; omega)
  · have e' := hoL.symm.trans e
    cases e'
    exact fun z => by injection z with z; exact absurd z (by decide)
  obtain ⟨e', he'⟩ := sortedHeap_at (vs := acc.toList) (out := out.toArray) hoL
  have mo : ∀ v ∈ out, v ∈ acc.toList := fun v hv => hb'.perm.mem_iff.mp hv
  obtain ⟨bs, eb⟩ : ∃ bs : List Addr, out = bs.map Value.ref := by
    have all : ∀ v ∈ out, ∃ b, v = Value.ref b := fun v hv => by
      obtain ⟨ns, b, _, e, _⟩ := tups v (mo v hv)
      exact ⟨b, e⟩
    clear hb' hs' he' mo
    induction out with
    | nil => exact ⟨[], rfl⟩
    | cons v out ih =>
      obtain ⟨bs, e1⟩ := ih fun u hu => all u (List.mem_cons_of_mem _ hu)
      obtain ⟨b, e3⟩ := all v List.mem_cons_self
      exact ⟨b :: bs, by rw [e1, e3]; rfl⟩
  have lb : bs.length = kvs.length := by
    have := hb'.perm.length_eq
    rw [eb, List.length_map, hal] at this
    exact this
  refine wpAny_pure ⟨_, rfl, .ref h'.objs.size, upd H h'.objs.size (.lst (bs.map V.ref)), I1.laid (t' := tk) (fun b u e => ?_) (Nat.le_refl _)
    (show ObjOk X.prog X.w _ _ _ (.lst (bs.map V.ref)) from ⟨by rw [List.length_map, lb, sizeLine_eq]; omega, out, e', by rw [eb]; exact vals_refs _, he'⟩), rfl, q _ bs (out.map (TS.intsOf h')) (I1.hok.fresh (Nat.le_refl _)) (by rw [eb, List.length_map, List.length_map]) (fun i b ns hi hn => ?_) ?_ ?_⟩
  · have hb : b < h'.objs.size := Heap.lt_size e
    rw [sortedHeap_old (Nat.ne_of_lt hb) (by rw [size_push']; exact Nat.lt_succ_of_lt hb)]
    exact Heap.get?_push_of_some _ e
  · have hv : out[i]? = some (Value.ref b) := by rw [eb, List.getElem?_map, hi]; rfl
    rw [List.getElem?_map, hv] at hn
    have hm := mo _ (List.mem_of_getElem? hv)
    rw [ea] at hm
    obtain ⟨c, hc', e⟩ := List.mem_map.mp hm
    obtain ⟨x, hx, rfl⟩ := List.mem_map.mp hc'
    obtain rfl : x.2.1 = b := by injection e
    obtain ⟨j, hj⟩ := List.getElem?_of_mem hx
    have lj : j < ks.length := (List.getElem?_eq_some_iff.mp hj).1
    have hn2 : Ks[j]? = some (Ks[j]'(by omega)) := List.getElem?_eq_getElem (by omega)
    have kk := keys j x _ hj hn2
    have ti := (tupI_raw I1 (SqT.of kk)).ints
    have : TS.intsOf h' (Value.ref x.2.1) = ns := Option.some.inj hn
    rw [← this, ti]
    exact kk
  · have := hb'.perm.map (TS.intsOf h')
    rw [eK] at this
    exact this
  · rw [List.pairwise_map]
    refine List.Pairwise.imp_of_mem (fun {u v} hu' hv' z => ?_) hs'
    obtain ⟨ns, tu⟩ := tups u (mo u hu')
    obtain ⟨ms, tv⟩ := tups v (mo v hv')
    have e1 := (tu.keeps (h' := h'.push (seqObj "list" acc.toList.toArray 0)) fun b o e _ => kp2 b o e).ints
    have e2 := (tv.keeps (h' := h'.push (seqObj "list" acc.toList.toArray 0)) fun b o e _ => kp2 b o e).ints
    rw [tu.ints, tv.ints]
    have z' : HT.lexLt (TS.intsOf (h'.push (seqObj "list" acc.toList.toArray 0)) v) (TS.intsOf (h'.push (seqObj "list" acc.toList.toArray 0)) u) = false := z
    rw [e1, e2] at z'
    exact z'
end
end Sh

namespace Sh
open PySem PySem.Spec PyProof.Rows L2
/-! ### the text by places -/
def topS (i : Nat) : Stmt := PySem.Challenge.pw_shoalmates_k65_whole_a_bar_parts_two_lot.main.body.getD i (.Pass ⟨0, 0, 0, 0⟩)
end Sh

namespace Sh
open PySem PySem.Spec PyProof.Rows L2
/-! ### what is drawn from -/
def BoxOk (xs : List V) (n : Nat) : Prop := ∃ b0 b1 b2 : Int, xs = [.int b0, .int b1, .int b2] ∧ 0 ≤ b0 ∧ 0 ≤ b1 ∧ b1 < 4611686018427387904 ∧ 0 ≤ b2 ∧ b2 + (n : Int) ≤ 1099511627776
def BoxAt (H : Hp) (b : Addr) (n : Nat) : Prop := ∃ xs, H b = some (.lst xs) ∧ BoxOk xs n
theorem BoxOk.mono {xs : List V} {n m : Nat} (h : BoxOk xs n) (l : m ≤ n) : BoxOk xs m := by
  obtain ⟨b0, b1, b2, e, h0, h1, h2, h3, h4⟩ := h
  exact ⟨b0, b1, b2, e, h0, h1, h2, h3, by omega⟩
theorem BoxAt.mono {H : Hp} {b : Addr} {n m : Nat} (h : BoxAt H b n) (l : m ≤ n) : BoxAt H b m := let ⟨xs, e, k⟩ := h; ⟨xs, e, k.mono l⟩
theorem BoxAt.same {H H' : Hp} {b : Addr} {n : Nat} (h : BoxAt H b n) (s : Same H H') : BoxAt H' b n := let ⟨xs, e, k⟩ := h; ⟨xs, s _ _ e, k⟩
theorem BoxAt.some {H : Hp} {b : Addr} {n : Nat} (h : BoxAt H b n) : H b ≠ none := fun z => by
  obtain ⟨xs, e, _⟩ := h
  rw [e] at z
  cases z
/-- a new place is not the box -/
theorem BoxAt.ne {H : Hp} {b p : Addr} {n : Nat} (h : BoxAt H b n) (z : H p = none) : b ≠ p := let ⟨_, e, _⟩ := h; ne_of_none e z
def spTake : Sp := fun vs H Q _ => ∃ (b : Addr) (n : Nat) (span : Int), vs = [.ref b, .int span] ∧ 0 < span ∧ span < 1152921504606846976 ∧ BoxAt H b (n + 1) ∧ ∀ (v : Int) (xs : List V), 0 ≤ v → v < span → BoxOk xs n → Q (.int v) (upd H b (.lst xs))
abbrev s__law_take : Stmt := topS 43
theorem sc__law_take : FnScope (["_law_box_here", "_law_span", "_law_found", "_law_once", "_law_twice"] : List Str) (["_law_box_here", "_law_span"] : List Str) (defScope s__law_take) := ⟨rfl, rfl, rfl, by decide +kernel, rfl, by decide +kernel, by decide +kernel⟩
theorem b__law_take (kV doc pm : Value) (an : Option Addr) (cdv ct : Value) (us : List Value) (hl : us.length = (["_law_box_here", "_law_span"] : List Str).length) : bindArgs (PySem.W.fnOf "_law_take" "_law_take" (defArgs s__law_take) (defBody s__law_take) (defScope s__law_take) .none kV doc pm an cdv ct) ⟨us, []⟩ = pure ((["_law_box_here", "_law_span"] : List Str).zip us) :=
  match us, hl with | [_, _], _ => rfl
section
variable {P : Program} {w : World} {K : PySem.W.Frag} {mg : Str → Option Value} {base : Heap}
theorem ok_take {k : Nat} (D : Df K mg "_law_take" s__law_take) (T : Bt mg) : Ok P w K mg base (k + 1) "_law_take" s__law_take ["_law_box_here", "_law_span"] spTake := by
  refine D.ok sc__law_take b__law_take (fun vs H Q E h => ?_) (fun f cdv A outer s H vs Q E hr h => ?_)
  · obtain ⟨b, n, span, rfl, _⟩ := h
    rfl
  · obtain ⟨b, n, span, rfl, s0, s1, ⟨xs, hb, b0, b1, b2, rfl, h0, h1, h1', h2, h3⟩, q⟩ := h
    refine ⟨_, (pss_cons (ps_if (pt_cmpR op_gt (pe_ix ix_lt (pv 0) pe_int (fun _ _ => rfl)) pe_int (nomark _))
        (pss_cons (ps_set (i := 2) sc__law_take.nd rfl (.inl rfl) (pe_op op_mod (pe_ix ix_lt (pv 0) pe_int (fun _ _ => rfl)) (pv 1)))
          (pss_cons (ps_asg (pe_op op_fdivW (pe_ix ix_lt (pv 0) pe_int (fun _ _ => rfl)) (pv 1)) (pg_sub (pv 0) pe_int set_list))
          (pss_one (ps_ret (pv 2)))))
        pss_nil)
      (pss_cons (ps_asg (pe_op op_add (pe_ix ix_lt (pv 0) pe_int (fun _ _ => rfl)) pe_int) (pg_sub (pv 0) pe_int set_list))
      (pss_cons (ps_set (i := 3) sc__law_take.nd rfl (.inl rfl) (pe_op op_mod (pe_op op_mul (pe_op op_add (pe_ix ix_lt (pv 0) pe_int (fun _ _ => rfl)) (pe_op op_mul pe_int (pe_ix ix_lt (pv 0) pe_int (fun _ _ => rfl)))) (pe_op op_add pe_int (pe_ix ix_lt (pv 0) pe_int (fun _ _ => rfl)))) pe_int))
      (pss_cons (ps_set (i := 4) sc__law_take.nd rfl (.inl rfl) (pe_op op_mod (pe_op op_mul (pe_op op_add (pe_op op_add (pv 3) (pe_ix ix_lt (pv 0) pe_int (fun _ _ => rfl))) (pe_op op_fdiv (pe_ix ix_lt (pv 0) pe_int (fun _ _ => rfl)) pe_int)) (pe_op op_add (pe_op op_mod (pv 3) pe_int) pe_int)) pe_int))
      (pss_one (ps_ret (pe_op op_mod (pe_op op_fdiv (pe_op op_mod (pe_op op_add (pe_op op_mul (pv 4) pe_int) (pv 3)) pe_int) pe_int) (pv 1)))))))), ?_⟩
    have hq : SqA K H b [.int b0, .int b1, .int b2] := SqA.l hb
    refine ⟨_, rfl, b, _, 0, .int b0, rfl, rfl, hq, rfl, b0, 0, rfl, rfl, _, rfl, ite2 (fun c => ?_) (fun c => ?_)⟩
    · have c0 : 0 < b0 := of_decide_eq_true c
      refine ⟨_, rfl, b, _, 0, .int b0, rfl, rfl, hq, rfl, _, rfl, b0, span, rfl, rfl, s0, ?_⟩
      refine ⟨_, rfl, b, _, 0, .int b0, rfl, rfl, hq, rfl, _, rfl, b0, span, rfl, rfl, wide_div (b := 60) s0 (show span.natAbs < 1152921504606846976 by omega) (by decide) (by decide), ?_⟩
      refine ⟨_, rfl, b, _, 0, 0, rfl, rfl, hb, rfl, ?_⟩
      refine ⟨_, rfl, ?_⟩
      exact q _ _ (Int.emod_nonneg _ (by omega)) (Int.emod_lt_of_pos _ s0) ⟨b0 / span, b1, b2, rfl, Int.ediv_nonneg h0 (by omega), h1, h1', h2, by omega⟩
    · refine ⟨_, rfl, b, _, 2, .int b2, rfl, rfl, hq, rfl, b2, 1, rfl, rfl, ?_⟩
      refine ⟨_, rfl, b, _, 2, 2, rfl, rfl, hb, rfl, ?_⟩
      have hq2 : SqA K (upd H b (.lst [.int b0, .int b1, .int (b2 + 1)])) b [.int b0, .int b1, .int (b2 + 1)] := SqA.l upd_same
      have m1 : 0 ≤ (b1 + 48271 * (b2 + 1)) * (39373 + (b2 + 1)) % 2147483647 := Int.emod_nonneg _ (by decide)
      have m2 : (b1 + 48271 * (b2 + 1)) * (39373 + (b2 + 1)) % 2147483647 < 2147483647 := Int.emod_lt_of_pos _ (by decide)
      refine ⟨_, rfl, b, _, 1, .int b1, rfl, rfl, hq2, rfl, _, rfl, b, _, 2, .int (b2 + 1), rfl, rfl, hq2, rfl, 48271, b2 + 1, rfl, rfl, .inl ⟨by decide, by decide⟩, b1, _, rfl, rfl, ?_⟩
      refine ⟨_, rfl, b, _, 2, .int (b2 + 1), rfl, rfl, hq2, rfl, 39373, b2 + 1, rfl, rfl, _, _, rfl, rfl, .inr ⟨by omega, by omega⟩, _, 2147483647, rfl, rfl, (show (0 : Int) < 2147483647 by decide), ?_⟩
      dsimp only
      generalize (b1 + 48271 * (b2 + 1)) * (39373 + (b2 + 1)) % 2147483647 = once at m1 m2
      have o1 : 0 ≤ once % 40009 := Int.emod_nonneg _ (by decide)
      have o2 : once % 40009 < 40009 := Int.emod_lt_of_pos _ (by decide)
      refine ⟨_, rfl, _, rfl, b, _, 2, .int (b2 + 1), rfl, rfl, hq2, rfl, once, b2 + 1, rfl, rfl, _, rfl, b, _, 1, .int b1, rfl, rfl, hq2, rfl, b1, 1000003, rfl, rfl, ⟨by decide, by decide⟩, _, _, rfl, rfl, ?_⟩
      refine ⟨_, rfl, once, 40009, rfl, rfl, (show (0 : Int) < 40009 by decide), _, 7, rfl, rfl, _, _, rfl, rfl, .inr ⟨by omega, by omega⟩, _, 2147483629, rfl, rfl, (show (0 : Int) < 2147483629 by decide), ?_⟩
      dsimp only
      have t1 : 0 ≤ (once + (b2 + 1) + b1 / 1000003) * (once % 40009 + 7) % 2147483629 := Int.emod_nonneg _ (by decide)
      have t2 : (once + (b2 + 1) + b1 / 1000003) * (once % 40009 + 7) % 2147483629 < 2147483629 := Int.emod_lt_of_pos _ (by decide)
      generalize (once + (b2 + 1) + b1 / 1000003) * (once % 40009 + 7) % 2147483629 = twice at t1 t2
      refine ⟨_, rfl, twice, 48271, rfl, rfl, .inl ⟨by omega, by omega⟩, _, rfl, _, once, rfl, rfl, _, 2147483587, rfl, rfl, (show (0 : Int) < 2147483587 by decide), _, 64, rfl, rfl, ⟨by decide, by decide⟩, _, rfl, _, span, rfl, rfl, s0, ?_⟩
      exact q _ _ (Int.emod_nonneg _ (by omega)) (Int.emod_lt_of_pos _ s0) ⟨b0, b1, b2 + 1, rfl, h0, h1, h1', by omega, by omega⟩
end
end Sh

namespace Sh
open PySem PySem.Spec PyProof.Rows L2
theorem SqA.at {K : PySem.W.Frag} {H : Hp} {b l : Addr} {o : HO} {xs : List V} (n : l ≠ b) (h : SqA K H l xs) : SqA K (upd H b o) l xs := by
  rcases h with ((h | ⟨z, h⟩) | h) | ((h | ⟨z, h⟩) | h)
  · exact .inl (.inl (.inl (by rw [upd_ne n]; exact h)))
  · exact .inl (.inl (.inr ⟨z, by rw [upd_ne n]; exact h⟩))
  · exact .inl (.inr h)
  · exact .inr (.inl (.inl (by rw [upd_ne n]; exact h)))
  · exact .inr (.inl (.inr ⟨z, by rw [upd_ne n]; exact h⟩))
  · exact .inr (.inr h)
theorem at_nat {xs : List V} {i : Int} {j : Nat} {v : V} (e : i = (j : Int)) (h : xs[j]? = some v) : atI xs i = some v := L2.at_of e h
theorem b01 (c : Bool) : (0 : Int) ≤ if c = true then 1 else 0 := by cases c <;> decide
theorem b01' (c : Bool) : (-(2 ^ 64) : Int) < (if c = true then 1 else 0) ∧ (if c = true then 1 else 0) < (2 ^ 64 : Int) := by cases c <;> decide
/-- a cell of the script: some int -/
def spCellAt (K : PySem.W.Frag) : Sp := fun vs H Q _ => ∃ (l : Addr) (ns : List Int) (j : Nat), vs = [.ref l, .int (j : Int)] ∧ SqL K H l (ns.map V.int) ∧ ∀ z : Int, Q (.int z) H
abbrev s__law_cell_at : Stmt := topS 41
theorem sc__law_cell_at : FnScope (["_law_script", "_law_k"] : List Str) (["_law_script", "_law_k"] : List Str) (defScope s__law_cell_at) := ⟨rfl, rfl, rfl, by decide +kernel, rfl, by decide +kernel, by decide +kernel⟩
theorem b__law_cell_at (kV doc pm : Value) (an : Option Addr) (cdv ct : Value) (us : List Value) (hl : us.length = (["_law_script", "_law_k"] : List Str).length) : bindArgs (PySem.W.fnOf "_law_cell_at" "_law_cell_at" (defArgs s__law_cell_at) (defBody s__law_cell_at) (defScope s__law_cell_at) .none kV doc pm an cdv ct) ⟨us, []⟩ = pure ((["_law_script", "_law_k"] : List Str).zip us) :=
  match us, hl with | [_, _], _ => rfl
def spBox (K : PySem.W.Frag) : Sp := fun vs H Q _ => ∃ (l : Addr) (ns : List Int) (j : Nat), vs = [.ref l, .int (j : Int)] ∧ j ≤ 100 ∧ SqL K H l (ns.map V.int) ∧ ∀ (p : Addr) (xs : List V), H p = none → BoxOk xs 549755813888 → Q (.ref p) (upd H p (.lst xs))
abbrev s__law_box : Stmt := topS 42
theorem sc__law_box : FnScope (["_law_script", "_law_k", "_law_core"] : List Str) (["_law_script", "_law_k"] : List Str) (defScope s__law_box) := ⟨rfl, rfl, rfl, by decide +kernel, rfl, by decide +kernel, by decide +kernel⟩
theorem b__law_box (kV doc pm : Value) (an : Option Addr) (cdv ct : Value) (us : List Value) (hl : us.length = (["_law_script", "_law_k"] : List Str).length) : bindArgs (PySem.W.fnOf "_law_box" "_law_box" (defArgs s__law_box) (defBody s__law_box) (defScope s__law_box) .none kV doc pm an cdv ct) ⟨us, []⟩ = pure ((["_law_script", "_law_k"] : List Str).zip us) :=
  match us, hl with | [_, _], _ => rfl
section
variable {P : Program} {w : World} {K : PySem.W.Frag} {mg : Str → Option Value} {base : Heap}
theorem ok_cell_at {k : Nat} (D : Df K mg "_law_cell_at" s__law_cell_at) (T : Bt mg) : Ok P w K mg base (k + 1) "_law_cell_at" s__law_cell_at ["_law_script", "_law_k"] (spCellAt K) := by
  refine D.ok sc__law_cell_at b__law_cell_at (fun vs H Q E h => ?_) (fun f cdv A outer s H vs Q E hr h => ?_)
  · obtain ⟨l, ns, j, rfl, _⟩ := h
    rfl
  · obtain ⟨l, ns, j, rfl, hs, q⟩ := h
    refine ⟨_, (pss_cons (ps_if (pt_cmpR op_lt (pv 1) (pe_callB call_len_seq (by rfl) T.len_ PySem.boot_len (pa_cons (pv 0) pa_nil)) (nomark _))
        (pss_one (ps_ret (pe_ix ix_lt (pv 0) (pv 1) (fun _ _ => rfl))))
        pss_nil)
      (pss_one (ps_ret pe_int))), ?_⟩
    refine ⟨_, rfl, _, rfl, l, _, rfl, .inl hs, _, _, rfl, rfl, _, rfl, ite2 (fun c => ?_) (fun c => ?_)⟩
    · have c0 : (j : Int) < ((ns.map V.int).length : Int) := of_decide_eq_true c
      rw [List.length_map] at c0
      have c1 : j < ns.length := by omega
      refine ⟨_, rfl, _, rfl, l, _, _, .int ns[j], rfl, rfl, .inl hs, at_nat rfl (by simp [c1]), q _⟩
    · exact q 0
theorem ok_box {k : Nat} (D : Df K mg "_law_box" s__law_box) (T : Bt mg) (O__law_cell_at : Ok P w K mg base k "_law_cell_at" s__law_cell_at ["_law_script", "_law_k"] (spCellAt K)) : Ok P w K mg base (k + 1) "_law_box" s__law_box ["_law_script", "_law_k"] (spBox K) := by
  refine D.ok sc__law_box b__law_box (fun vs H Q E h => ?_) (fun f cdv A outer s H vs Q E hr h => ?_)
  · obtain ⟨l, ns, j, rfl, _⟩ := h
    rfl
  · obtain ⟨l, ns, j, rfl, hj, hs, q⟩ := h
    refine ⟨_, (pss_cons (ps_set (i := 2) sc__law_box.nd rfl (.inl rfl) (pe_fn O__law_cell_at (hr.mono (by omega)) (pa_cons (pv 0) (pa_cons (pv 1) pa_nil))))
      (pss_one (ps_ret (pe_lst (pa_cons (pe_op op_mul (pe_callB call_abs (by rfl) T.abs_ (by decide +kernel) (pa_cons (pv 2) pa_nil)) (pe_callTy call_int1 (by rfl) T.int_ (by decide +kernel) (pa_cons (pe_cmpR op_ge (pe_callB call_abs (by rfl) T.abs_ (by decide +kernel) (pa_cons (pv 2) pa_nil)) (pe_op (op_powC 1000000000000000000) pe_int pe_int) (nomark _)) pa_nil))) (pa_cons (pe_op op_add (pe_op op_add (pe_op op_mod (pv 2) pe_int) (pe_op op_mul pe_int (pv 1))) pe_int) (pa_cons pe_int pa_nil))))))), ?_⟩
    refine ⟨_, rfl, _, rfl, l, ns, j, rfl, hs, fun z => ?_⟩
    have z1 : 0 ≤ z % 2305843009213693951 := Int.emod_nonneg _ (by decide)
    have z2 : z % 2305843009213693951 < 2305843009213693951 := Int.emod_lt_of_pos _ (by decide)
    have za : 0 ≤ (if z < 0 then -z else z) := by split <;> omega
    refine ⟨_, rfl, z, rfl, _, rfl, z, rfl, 10, 18, rfl, rfl, ⟨⟨by decide, by decide, by decide⟩, by decide⟩, _, _, rfl, rfl, .inr ⟨_, rfl, ?_⟩⟩
    refine ⟨_, _, rfl, rfl, .inr (b01' _), ?_⟩
    refine ⟨_, rfl, z, _, rfl, rfl, (show (0 : Int) < 2305843009213693951 by decide), _, rfl, 39373, (j : Int), rfl, rfl, .inl ⟨by decide, by decide⟩, _, _, rfl, rfl, _, 17, rfl, rfl, ?_⟩
    refine ⟨(by show 3 ≤ sizeLine; decide), fun p np => ?_⟩
    refine q p _ np ⟨_, _, 0, rfl, ?_, by omega, by omega, by omega, by omega⟩
    exact Int.mul_nonneg za (b01 _)
end
/-! ### one of some -/
def spOf (K : PySem.W.Frag) : Sp := fun vs H Q _ => ∃ (b l : Addr) (n : Nat) (xs : List V), vs = [.ref b, .ref l] ∧ SqA K H l xs ∧ l ≠ b ∧ 0 < xs.length ∧ xs.length < 1000000 ∧ BoxAt H b (n + 1) ∧ ∀ (v : V) (ys : List V), v ∈ xs → BoxOk ys n → Q v (upd H b (.lst ys))
abbrev s__law_of : Stmt := topS 44
theorem sc__law_of : FnScope (["_law_box_here", "_law_some_here"] : List Str) (["_law_box_here", "_law_some_here"] : List Str) (defScope s__law_of) := ⟨rfl, rfl, rfl, by decide +kernel, rfl, by decide +kernel, by decide +kernel⟩
theorem b__law_of (kV doc pm : Value) (an : Option Addr) (cdv ct : Value) (us : List Value) (hl : us.length = (["_law_box_here", "_law_some_here"] : List Str).length) : bindArgs (PySem.W.fnOf "_law_of" "_law_of" (defArgs s__law_of) (defBody s__law_of) (defScope s__law_of) .none kV doc pm an cdv ct) ⟨us, []⟩ = pure ((["_law_box_here", "_law_some_here"] : List Str).zip us) :=
  match us, hl with | [_, _], _ => rfl
section
variable {P : Program} {w : World} {K : PySem.W.Frag} {mg : Str → Option Value} {base : Heap}
theorem ok_of {k : Nat} (D : Df K mg "_law_of" s__law_of) (T : Bt mg) (O__law_take : Ok P w K mg base k "_law_take" s__law_take ["_law_box_here", "_law_span"] spTake) : Ok P w K mg base (k + 1) "_law_of" s__law_of ["_law_box_here", "_law_some_here"] (spOf K) := by
  refine D.ok sc__law_of b__law_of (fun vs H Q E h => ?_) (fun f cdv A outer s H vs Q E hr h => ?_)
  · obtain ⟨b, l, n, xs, rfl, _⟩ := h
    rfl
  · obtain ⟨b, l, n, xs, rfl, hl, hne, l0, l1, hb, q⟩ := h
    refine ⟨_, (pss_one (ps_ret (pe_ix ix_lt (pv 1) (pe_fn O__law_take (hr.mono (by omega)) (pa_cons (pv 0) (pa_cons (pe_callB call_len_seq (by rfl) T.len_ PySem.boot_len (pa_cons (pv 1) pa_nil)) pa_nil))) (fun _ _ => rfl)))), ?_⟩
    refine ⟨_, rfl, _, rfl, _, rfl, l, xs, rfl, hl, b, n, _, rfl, by omega, by omega, hb, fun v ys v0 v1 hy => ?_⟩
    have hi : v.toNat < xs.length := by omega
    refine ⟨l, xs, v, xs[v.toNat], rfl, rfl, SqA.at hne hl, at_nat (j := v.toNat) (by omega) (by simp [hi]), ?_⟩
    exact q _ _ (List.getElem_mem hi) hy
end
end Sh

namespace Sh
open PySem PySem.Spec PyProof.Rows L2
/-! ### what is told is what is due -/
def tyS : PyData → String
  | .none => "NoneType" | .bool _ => "bool" | .int _ => "int" | .str _ => "str" | .list _ => "list" | .tuple _ => "tuple" | .dict _ => "dict"
/-- at most so deep, no longer than a hundred thousand -/
def Lv : Nat → PyData → Prop
  | 0, _ => False
  | _ + 1, .none => True
  | _ + 1, .bool _ => True
  | _ + 1, .int _ => True
  | _ + 1, .str _ => True
  | n + 1, .list ds => ds.length ≤ 100000 ∧ ∀ e ∈ ds, Lv n e
  | n + 1, .tuple ds => ds.length ≤ 100000 ∧ ∀ e ∈ ds, Lv n e
  | _ + 1, .dict _ => False
theorem lv_ints {n : Nat} (ns : List Int) (h : ns.length ≤ 100000) : Lv (n + 2) (.list (ns.map .int)) := ⟨by rw [List.length_map]; exact h, fun e he => by
  obtain ⟨i, _, rfl⟩ := List.mem_map.mp he
  exact trivial⟩
theorem lv_intsT {n : Nat} (ns : List Int) (h : ns.length ≤ 100000) : Lv (n + 2) (.tuple (ns.map .int)) := ⟨by rw [List.length_map]; exact h, fun e he => by
  obtain ⟨i, _, rfl⟩ := List.mem_map.mp he
  exact trivial⟩
section
variable {K : PySem.W.Frag} {H : Hp}
theorem ty_list {a : Addr} {xs : List V} (h : SqL K H a xs) : TyX K H (.ref a) (.type "list") := by
  rcases h with (h | ⟨o, h⟩) | ⟨o, its, n, h, c, _⟩
  · exact .base (.lst h)
  · exact .base (.frz h)
  · exact .kList h c
theorem ty_tup {a : Addr} {xs : List V} (h : SqT K H a xs) : TyX K H (.ref a) (.type "tuple") := by
  rcases h with (h | ⟨o, h⟩) | ⟨o, its, n, h, c, _⟩
  · exact .base (.tup h)
  · exact .fTuple h
  · exact .kTuple h c
theorem ty_of {v : V} {d : PyData} (h : Dp K H v d) : TyX K H v (.type (tyS d)) := by
  cases h with
  | non => exact .base .non
  | bl b => exact .base (.bl b)
  | int i => exact .base (.int i)
  | str x => exact .base (.str x)
  | lst h _ => exact ty_list h
  | tup h _ => exact ty_tup h
theorem kit2 {t a b : String} {r1 r2 r : Bool} (h1 : kitB t a = some r1) (h2 : kitB t b = some r2) (hr : (r1 || r2) = r) : PySem.W.kitAny K (.type t) [.type a, .type b] = some r := by
  refine kitAny_cons (b := r1) (kit_ty h1) (fun e => ?_) (fun e => ?_)
  · refine kitAny_cons (b := r2) (kit_ty h2) (fun e2 => ?_) (fun e2 => ?_)
    · rw [← hr, e, e2]
      exact kitAny_nil
    · rw [← hr, e, e2]
      all_goals rfl
  · rw [← hr, e]
    all_goals rfl
end
end Sh

namespace Sh
open PySem PySem.Spec PyProof.Rows L2
/-! ### a drawn sea -/
theorem But.put {b p : Addr} {H H' : Hp} {o : HO} (h : But b H H') (n : H p = none) : But b H (upd H' p o) := fun a x na e => by
  rw [upd_ne (ne_of_none e n)]
  exact h a x na e
theorem But.box {b : Addr} {H H' : Hp} {o : HO} (h : But b H H') : But b H (upd H' b o) := fun a x na e => by
  rw [upd_ne na]
  exact h a x na e
theorem BoxAt.put {H : Hp} {b : Addr} {n : Nat} {xs : List V} (h : BoxOk xs n) : BoxAt (upd H b (.lst xs)) b n := ⟨xs, upd_same, h⟩
theorem BoxAt.at {H : Hp} {b p : Addr} {n : Nat} {o : HO} (h : BoxAt H b n) (ne : b ≠ p) : BoxAt (upd H p o) b n := let ⟨xs, e, k⟩ := h; ⟨xs, by rw [upd_ne ne]; exact e, k⟩
structure SeaOk (most : Nat) (h t : Int) (ds : List Int) : Prop where
  h0 : 0 ≤ h
  h1 : h ≤ 1000000000000
  t0 : 0 ≤ t
  t1 : t ≤ 1000000000000
  l0 : 0 < ds.length
  l1 : ds.length ≤ most
  d0 : ∀ d ∈ ds, 0 ≤ d ∧ d ≤ 1000000000000
def spSea : Sp := fun vs H Q _ => ∃ (b : Addr) (n most : Nat), vs = [.ref b, .int (most : Int)] ∧ 0 < most ∧ most ≤ 60 ∧ BoxAt H b (n + 200) ∧
  ∀ (H' : Hp) (p q : Addr) (h t : Int) (ds : List Int), But b H H' → BoxAt H' b n → H p = none → H q = none → H' p = some (.tup [.int h, .int t, .ref q]) → H' q = some (.tup (ds.map V.int)) → SeaOk most h t ds → Q (.ref p) H'
abbrev s__law_sea : Stmt := topS 45
theorem sc__law_sea : FnScope (["_law_box_here", "_law_most", "_law_count", "_law_far", "_law_wide", "_law_depths", "_law_draughts", "_law_side", "_law_whom"] : List Str) (["_law_box_here", "_law_most"] : List Str) (defScope s__law_sea) := ⟨rfl, rfl, rfl, by decide +kernel, rfl, by decide +kernel, by decide +kernel⟩
theorem b__law_sea (kV doc pm : Value) (an : Option Addr) (cdv ct : Value) (us : List Value) (hl : us.length = (["_law_box_here", "_law_most"] : List Str).length) : bindArgs (PySem.W.fnOf "_law_sea" "_law_sea" (defArgs s__law_sea) (defBody s__law_sea) (defScope s__law_sea) .none kV doc pm an cdv ct) ⟨us, []⟩ = pure ((["_law_box_here", "_law_most"] : List Str).zip us) :=
  match us, hl with | [_, _], _ => rfl
section
variable {P : Program} {w : World} {K : PySem.W.Frag} {mg : Str → Option Value} {base : Heap}
/-- a new object, a draw: what stands, stands -/
theorem al {b p : Addr} {H Hc : Hp} {n : Nat} {o : HO} (u : But b H Hc) (x : BoxAt Hc b n) (np : Hc p = none) : But b H (upd Hc p o) ∧ BoxAt (upd Hc p o) b n ∧ upd Hc p o p = some o ∧ p ≠ b :=
  ⟨fun a z na e => by rw [upd_ne (ne_of_none (u a z na e) np)]; exact u a z na e, x.at (x.ne np), upd_same, (x.ne np).symm⟩
theorem tk {b : Addr} {H Hc : Hp} {n : Nat} {ys : List V} (u : But b H Hc) (y : BoxOk ys n) : But b H (upd Hc b (.lst ys)) ∧ BoxAt (upd Hc b (.lst ys)) b n := ⟨u.box, .put y⟩
theorem But.free {b p : Addr} {H H' : Hp} (u : But b H H') (n : p ≠ b) (h : H' p = none) : H p = none := by
  cases e : H p with
  | none => rfl
  | some o =>
    rw [u p o n e] at h
    cases h
theorem two_of {ns : List Int} (h : ns.length = 2) : ∃ a b, ns = [a, b] := by
  match ns, h with
  | [a, b], _ => exact ⟨a, b, rfl⟩
theorem ints_mem {v : V} {ns : List Int} (h : v ∈ ns.map V.int) : ∃ i ∈ ns, v = .int i := by
  obtain ⟨i, hi, e⟩ := List.mem_map.mp h
  exact ⟨i, hi, e.symm⟩
theorem ne_box {H : Hp} {b p : Addr} {n : Nat} (h : BoxAt H b n) (z : H p = none) : p ≠ b := (h.ne z).symm
set_option maxHeartbeats 4000000 in
theorem ok_sea {k : Nat} (D : Df K mg "_law_sea" s__law_sea) (T : Bt mg) (O__law_take : Ok P w K mg base k "_law_take" s__law_take ["_law_box_here", "_law_span"] spTake) (O__law_of : Ok P w K mg base k "_law_of" s__law_of ["_law_box_here", "_law_some_here"] (spOf K)) :
    Ok P w K mg base (k + 1) "_law_sea" s__law_sea ["_law_box_here", "_law_most"] spSea := by
  refine D.ok sc__law_sea b__law_sea (fun vs H Q E h => ?_) (fun f cdv A outer s H vs Q E hr h => ?_)
  · obtain ⟨b, n, most, rfl, _⟩ := h
    rfl
  · obtain ⟨b, n, most, rfl, m0, m1, hb, q⟩ := h
    refine ⟨_, (pss_cons (ps_asg (pe_tup (pa_cons (pe_op op_add pe_int (pe_fn O__law_take (hr.mono (by omega)) (pa_cons (pv 0) (pa_cons (pv 1) pa_nil)))) (pa_cons (pe_fn O__law_of (hr.mono (by omega)) (pa_cons (pv 0) (pa_cons (pe_lst (pa_cons pe_int (pa_cons pe_int (pa_cons pe_int (pa_cons (pe_op op_sub (pe_op op_sub (pe_op (op_powC 1000000000000) pe_int pe_int) pe_int) (pe_fn O__law_take (hr.mono (by omega)) (pa_cons (pv 0) (pa_cons (pe_op (op_powC 1000000) pe_int pe_int) pa_nil)))) pa_nil))))) pa_nil))) pa_nil))) (pg_seq rfl (pgs_cons (pg_name (i := 2) sc__law_sea.nd rfl (.inr rfl)) (pgs_cons (pg_name (i := 3) sc__law_sea.nd rfl (.inr rfl)) pgs_nil))))
      (pss_cons (ps_set (i := 4) sc__law_sea.nd rfl (.inr rfl) (pe_fn O__law_of (hr.mono (by omega)) (pa_cons (pv 0) (pa_cons (pe_lst (pa_cons pe_int (pa_cons (pe_op op_add (pv 2) pe_int) (pa_cons (pe_op op_add (pe_op op_mul pe_int (pv 2)) pe_int) pa_nil)))) pa_nil))))
      (pss_cons (ps_setLc (i := 5) (own := [("_law_side", 7)]) (g := (gName 7)) (tt := tYes) (by rfl) sc__law_sea.nd rfl rfl (sw_true rfl rfl rfl (by decide +kernel)) (pi_range1 (by rfl) T.range_ (pa_cons pe_int pa_nil)) (blkOk_by (own := [("_law_side", 7)]) (N := (["_law_box_here", "_law_most", "_law_count", "_law_far", "_law_wide", "_law_depths", "_law_draughts", "_law_side", "_law_whom"] : List Str)) (sc := defScope s__law_sea) (by decide +kernel)) (fun _ _ _ _ _ => (pg_name (i := 7) sc__law_sea.nd rfl (.inl rfl))) (fun _ _ _ _ _ => pts_nil) (fun _ _ _ _ _ => (pe_op op_add (pv 3) (pe_op op_mul (pe_fn O__law_take (hr.mono (by omega)) (pa_cons (pv 0) (pa_cons (pe_op op_add (pv 2) pe_int) pa_nil))) (pe_fn O__law_take (hr.mono (by omega)) (pa_cons (pv 0) (pa_cons pe_int pa_nil)))))))
      (pss_cons (ps_set (i := 6) sc__law_sea.nd rfl (.inr rfl) (pe_lc (own := [("_law_whom", 8)]) (g := (gName 8)) (tt := tYes) (by rfl) sc__law_sea.nd (pi_range1 (by rfl) T.range_ (pa_cons (pv 2) pa_nil)) (blkOk_by (own := [("_law_whom", 8)]) (N := (["_law_box_here", "_law_most", "_law_count", "_law_far", "_law_wide", "_law_depths", "_law_draughts", "_law_side", "_law_whom"] : List Str)) (sc := defScope s__law_sea) (by decide +kernel)) (fun _ _ _ _ _ => (pg_name (i := 8) sc__law_sea.nd rfl (.inl rfl))) (fun _ _ _ _ _ => pts_nil) (fun _ _ _ _ _ => (pe_op op_add (pv 3) (pe_fn O__law_take (hr.mono (by omega)) (pa_cons (pv 0) (pa_cons (pv 4) pa_nil)))))))
      (pss_cons (ps_if (pt_cmpR op_eq (pe_fn O__law_take (hr.mono (by omega)) (pa_cons (pv 0) (pa_cons pe_int pa_nil))) pe_int (nomark _))
        (pss_one (ps_set (i := 6) sc__law_sea.nd rfl (.inr rfl) (pe_lc (own := [("_law_whom", 8)]) (g := (gName 8)) (tt := tYes) (by rfl) sc__law_sea.nd (pi_range1 (by rfl) T.range_ (pa_cons (pv 2) pa_nil)) (blkOk_by (own := [("_law_whom", 8)]) (N := (["_law_box_here", "_law_most", "_law_count", "_law_far", "_law_wide", "_law_depths", "_law_draughts", "_law_side", "_law_whom"] : List Str)) (sc := defScope s__law_sea) (by decide +kernel)) (fun _ _ _ _ _ => (pg_name (i := 8) sc__law_sea.nd rfl (.inl rfl))) (fun _ _ _ _ _ => pts_nil) (fun _ _ _ _ _ => (pe_ifExp (pt_cmpR op_eq (pe_fn O__law_take (hr.mono (by omega)) (pa_cons (pv 0) (pa_cons pe_int pa_nil))) pe_int (nomark _)) (pe_ix (ix_ltK K) (pv 6) (pv 8) (fun _ _ => rfl)) (pe_ix (ix_ltK K) (pv 6) pe_int (fun _ _ => rfl)))))))
        pss_nil)
      (pss_one (ps_ret (pe_tup (pa_cons (pe_ix ix_lt (pv 5) pe_int (fun _ _ => rfl)) (pa_cons (pe_ix ix_lt (pv 5) pe_int (fun _ _ => rfl)) (pa_cons (pe_callTy call_tuple_of (by rfl) T.tuple_ (by decide +kernel) (pa_cons (pv 6) pa_nil)) pa_nil))))))))))), ?_⟩
    -- 1 + take(box, most)
    refine ⟨_, rfl, _, rfl, b, n + 199, _, rfl, by omega, by omega, hb, fun c ys1 c0 c1 y1 => ?_⟩
    refine ⟨1, c, rfl, rfl, ?_⟩
    have u1 : But b H (upd H b (.lst ys1)) := But.ups
    have x1 : BoxAt (upd H b (.lst ys1)) b (n + 199) := .put y1
    generalize upd H b (.lst ys1) = H1 at u1 x1
    -- of(box, [0, 0, 0, 10 ** 12 - 200 - take(box, 10 ** 6)])
    refine ⟨_, rfl, 10, 12, rfl, rfl, ⟨⟨by decide, by decide, by decide⟩, by decide⟩, _, 200, rfl, rfl, _, rfl, 10, 6, rfl, rfl, ⟨⟨by decide, by decide, by decide⟩, by decide⟩, ?_⟩
    refine ⟨b, n + 198, 1000000, rfl, by decide, by decide, x1, fun r ys2 r0 r1 y2 => ?_⟩
    have u2 : But b H (upd H1 b (.lst ys2)) := u1.box
    have x2 : BoxAt (upd H1 b (.lst ys2)) b (n + 198) := .put y2
    generalize upd H1 b (.lst ys2) = H2 at u2 x2
    refine ⟨_, _, rfl, rfl, (by show 4 ≤ sizeLine; decide), fun l nl => ?_⟩
    have u3 : But b H (upd H2 l (.lst [.int 0, .int 0, .int 0, .int (1000000000000 - 200 - r)])) := fun a o na e => by
      rw [upd_ne (ne_of_none (u2 a o na e) nl)]
      exact u2 a o na e
    refine ⟨b, l, n + 197, _, rfl, SqA.l upd_same, ne_box x2 nl, (by show 0 < 4; decide), (by show 4 < 1000000; decide), x2.at (x2.ne nl), fun v ys3 hv y3 => ?_⟩
    obtain ⟨far, f0, f1, rfl⟩ : ∃ far : Int, 0 ≤ far ∧ far ≤ 1000000000000 - 200 ∧ v = .int far := by
      have e4 : v = .int 0 ∨ v = .int (1000000000000 - 200 - r) := by
        have e5 : v = .int 0 ∨ v = .int 0 ∨ v = .int 0 ∨ v = .int (1000000000000 - 200 - r) := by simpa using hv
        rcases e5 with e | e | e | e
        · exact .inl e
        · exact .inl e
        · exact .inl e
        · exact .inr e
      rcases e4 with e | e
      · exact ⟨0, by decide, by decide, e⟩
      · exact ⟨_, by omega, by omega, e⟩
    replace u3 : But b H (upd (upd H2 l (.lst [.int 0, .int 0, .int 0, .int (1000000000000 - 200 - r)])) b (.lst ys3)) := u3.box
    have x3 : BoxAt (upd (upd H2 l (.lst [.int 0, .int 0, .int 0, .int (1000000000000 - 200 - r)])) b (.lst ys3)) b (n + 197) := .put y3
    try dsimp only
    generalize upd (upd H2 l (.lst [.int 0, .int 0, .int 0, .int (1000000000000 - 200 - r)])) b (.lst ys3) = H3 at u3 x3
    refine ⟨(by show 2 ≤ sizeLine; decide), fun tp ntp => ?_⟩
    refine ⟨tp, _, rfl, SqA.t upd_same, rfl, _, _, rfl, _, _, rfl, rfl, ?_⟩
    obtain ⟨u4, x4, _, _⟩ := al (o := .tup [.int (1 + c), .int far]) u3 x3 ntp
    try dsimp only
    generalize upd H3 tp (.tup [.int (1 + c), .int far]) = H4 at u4 x4
    obtain ⟨cn, ec⟩ : ∃ cn : Nat, 1 + c = ((cn : Nat) : Int) := ⟨(1 + c).toNat, by omega⟩
    have cn0 : 0 < cn := by omega
    have cn1 : cn ≤ most := by omega
    rw [ec]
    -- wide
    refine ⟨_, rfl, _, rfl, _, 2, rfl, rfl, _, rfl, 2, _, rfl, rfl, .inl ⟨by decide, by decide⟩, _, 2, rfl, rfl, (by show 3 ≤ sizeLine; decide), fun l2 nl2 => ?_⟩
    obtain ⟨u5, x5, e5, n5⟩ := al (o := .lst [.int 2, .int ((cn : Int) + 2), .int (2 * (cn : Int) + 2)]) u4 x4 nl2
    refine ⟨b, l2, n + 196, _, rfl, SqA.l upd_same, n5, (by show 0 < 3; decide), (by show 3 < 1000000; decide), x5.mono (by omega), fun v ys6 hv y6 => ?_⟩
    obtain ⟨wide, w0, w1, rfl⟩ : ∃ wide : Int, 2 ≤ wide ∧ wide ≤ 122 ∧ v = .int wide := by
      have e5 : v = .int 2 ∨ v = .int ((cn : Int) + 2) ∨ v = .int (2 * (cn : Int) + 2) := by simpa using hv
      rcases e5 with e | e | e
      · exact ⟨2, by decide, by decide, e⟩
      · exact ⟨_, by omega, by omega, e⟩
      · exact ⟨_, by omega, by omega, e⟩
    obtain ⟨u6, x6⟩ := tk u5 y6
    try dsimp only
    generalize upd (upd H4 l2 (.lst [.int 2, .int ((cn : Int) + 2), .int (2 * (cn : Int) + 2)])) b (.lst ys6) = H6 at u6 x6
    -- depths
    refine ⟨2, rfl, by decide, by decide, fun C nC => ?_⟩
    refine lc_range (fun i Hc => ∃ ns : List Int, But b H6 Hc ∧ BoxAt Hc b (n + 196 - 2 * i) ∧ Hc C = some (.lst (ns.map V.int)) ∧ ns.length = i ∧ ∀ d ∈ ns, 0 ≤ d ∧ d ≤ 1000000000000) ?_ ?_ ?_
    · exact ⟨[], (al (But.refl b H6) x6 nC).1, (al (But.refl b H6) x6 nC).2.1, upd_same, rfl, fun d hd => by simp at hd⟩
    · rintro i Hc hi ⟨ns, uc, xc, hC, hl, hn⟩
      have nCb : C ≠ b := (x6.ne nC).symm
      have i2 : i < 2 := hi
      refine ⟨rfl, tyes (iteT ?_)⟩
      refine ⟨_, rfl, _, rfl, _, rfl, _, 2, rfl, rfl, ?_⟩
      refine ⟨b, n + 196 - 2 * i - 1, _, rfl, by omega, by omega, xc.mono (by omega), fun v ys v0 v1 y => ?_⟩
      obtain ⟨ud, xd⟩ := tk uc y
      have hD : upd Hc b (.lst ys) C = some (.lst (ns.map V.int)) := by rw [upd_ne nCb]; exact hC
      generalize upd Hc b (.lst ys) = Hd at ud xd hD
      refine ⟨_, rfl, ?_⟩
      refine ⟨b, n + 196 - 2 * i - 2, 2, rfl, by decide, by decide, xd.mono (by omega), fun v' ys' v0' v1' y' => ?_⟩
      obtain ⟨ue, xe⟩ := tk ud y'
      have hE : upd Hd b (.lst ys') C = some (.lst (ns.map V.int)) := by rw [upd_ne nCb]; exact hD
      generalize upd Hd b (.lst ys') = He at ue xe hE
      refine ⟨v, v', rfl, rfl, .inl ⟨by omega, by omega⟩, far, v * v', rfl, rfl, ns.map V.int, hE, ?_, ns ++ [far + v * v'], ?_, ?_, ?_, ?_, ?_⟩
      · rw [List.length_map, hl]
        exact Nat.lt_trans i2 (by decide)
      · exact fun a o na e => by rw [upd_ne (ne_of_none e nC)]; exact ue a o na e
      · exact (xe.at (x6.ne nC)).mono (by omega)
      · rw [upd_same, List.map_append]
        rfl
      · simp [hl]
      · intro d hd
        rcases List.mem_append.mp hd with z | z
        · exact hn d z
        · have e : d = far + v * v' := by simpa using z
          have e01 : v' = 0 ∨ v' = 1 := by omega
          rcases e01 with z | z <;> (rw [e, z]; omega)
    · rintro H7 ⟨ds2, u7', x7, h7, l7, b7⟩
      have u7 : But b H H7 := u6.trans u7'
      clear u7'
      replace x7 : BoxAt H7 b (n + 192) := x7.mono (by omega)
      have nCb : C ≠ b := (x6.ne nC).symm
      -- draughts
      refine ⟨_, rfl, _, rfl, by omega, by omega, fun C2 nC2 => ?_⟩
      rw [show ((cn : Int)).toNat = cn by omega]
      refine lc_range (fun i Hc => ∃ ns : List Int, But b H7 Hc ∧ BoxAt Hc b (n + 192 - i) ∧ Hc C2 = some (.lst (ns.map V.int)) ∧ ns.length = i ∧ ∀ d ∈ ns, 0 ≤ d ∧ d ≤ 1000000000000) ?_ ?_ ?_
      · exact ⟨[], (al (But.refl b H7) x7 nC2).1, (al (But.refl b H7) x7 nC2).2.1, upd_same, rfl, fun d hd => by simp at hd⟩
      · rintro i Hc hi ⟨ns, uc, xc, hC, hl, hn⟩
        have nCb2 : C2 ≠ b := (x7.ne nC2).symm
        refine ⟨rfl, tyes (iteT ?_)⟩
        refine ⟨_, rfl, _, rfl, _, rfl, ?_⟩
        refine ⟨b, n + 192 - i - 1, wide, rfl, by omega, by omega, xc.mono (by omega), fun v ys v0 v1 y => ?_⟩
        obtain ⟨ud, xd⟩ := tk uc y
        have hD : upd Hc b (.lst ys) C2 = some (.lst (ns.map V.int)) := by rw [upd_ne nCb2]; exact hC
        generalize upd Hc b (.lst ys) = Hd at ud xd hD
        refine ⟨far, v, rfl, rfl, ns.map V.int, hD, ?_, ns ++ [far + v], ?_, ?_, ?_, ?_, ?_⟩
        · rw [List.length_map, hl]
          exact Nat.lt_of_lt_of_le hi (Nat.le_trans (show cn ≤ 60 by omega) (by decide))
        · exact fun a o na e => by rw [upd_ne (ne_of_none e nC2)]; exact ud a o na e
        · exact (xd.at (x7.ne nC2)).mono (by omega)
        · rw [upd_same, List.map_append]
          rfl
        · simp [hl]
        · intro d hd
          rcases List.mem_append.mp hd with z | z
          · exact hn d z
          · have e : d = far + v := by simpa using z
            omega
      · rintro H8 ⟨ds, u8', x8, h8, l8, b8⟩
        have h7' : H8 C = some (.lst (ds2.map V.int)) := u8' _ _ nCb h7
        have u8 : But b H H8 := u7.trans u8'
        have nC2b : C2 ≠ b := (x7.ne nC2).symm
        have nCC : C ≠ C2 := ne_of_none h7 nC2
        replace x8 : BoxAt H8 b (n + 132) := x8.mono (by omega)
        clear u8'
        -- take(box, 4) == 0
        refine ⟨_, rfl, b, n + 131, 4, rfl, by decide, by decide, x8.mono (by omega), fun v ys v0 v1 y => ?_⟩
        obtain ⟨u9, x9⟩ := tk u8 y
        have h9 : upd H8 b (.lst ys) C = some (.lst (ds2.map V.int)) := by rw [upd_ne nCb]; exact h7'
        have g9 : upd H8 b (.lst ys) C2 = some (.lst (ds.map V.int)) := by rw [upd_ne nC2b]; exact h8
        generalize upd H8 b (.lst ys) = H9 at u9 x9 h9 g9
        obtain ⟨d0, d1, rfl⟩ := two_of l7
        refine ⟨rfl, _, rfl, ite2 (fun c => ?_) (fun c => ?_)⟩
        · refine ⟨_, rfl, _, rfl, by omega, by omega, fun C3 nC3 => ?_⟩
          rw [show ((cn : Int)).toNat = cn by omega]
          have nC3b : C3 ≠ b := (x9.ne nC3).symm
          refine lc_range (fun i Hc => ∃ ns : List Int, But b H9 Hc ∧ BoxAt Hc b (n + 131 - i) ∧ Hc C3 = some (.lst (ns.map V.int)) ∧ ns.length = i ∧ ∀ d ∈ ns, 0 ≤ d ∧ d ≤ 1000000000000) ?_ ?_ ?_
          · exact ⟨[], (al (But.refl b H9) x9 nC3).1, (al (But.refl b H9) x9 nC3).2.1, upd_same, rfl, fun d hd => by simp at hd⟩
          · rintro i Hc hi ⟨ns, uc, xc, hC, hl, hn⟩
            refine ⟨rfl, tyes (iteT ?_)⟩
            refine ⟨_, rfl, b, n + 131 - i - 1, 2, rfl, by decide, by decide, xc.mono (by omega), fun v ys v0 v1 y => ?_⟩
            obtain ⟨ud, xd⟩ := tk uc y
            have hD : upd Hc b (.lst ys) C3 = some (.lst (ns.map V.int)) := by rw [upd_ne nC3b]; exact hC
            generalize upd Hc b (.lst ys) = Hd at ud xd hD
            have gd : Hd C2 = some (.lst (ds.map V.int)) := ud _ _ nC2b g9
            have fin : ∀ z ∈ ds, ∃ acc : List V, Hd C3 = some (.lst acc) ∧ acc.length < sizeLine ∧ ∃ ns : List Int, But b H9 (upd Hd C3 (.lst (acc ++ [.int z]))) ∧ BoxAt (upd Hd C3 (.lst (acc ++ [.int z]))) b (n + 131 - (i + 1)) ∧
                upd Hd C3 (.lst (acc ++ [.int z])) C3 = some (.lst (ns.map V.int)) ∧ ns.length = i + 1 ∧ ∀ d ∈ ns, 0 ≤ d ∧ d ≤ 1000000000000 := fun z hz => by
              refine ⟨ns.map V.int, hD, ?_, ns ++ [z], ?_, ?_, ?_, ?_, ?_⟩
              · rw [List.length_map, hl]
                exact Nat.lt_of_lt_of_le hi (Nat.le_trans (show cn ≤ 60 by omega) (by decide))
              · exact fun a o na e => by rw [upd_ne (ne_of_none e nC3)]; exact ud a o na e
              · exact (xd.at (x9.ne nC3)).mono (by omega)
              · rw [upd_same, List.map_append]
                rfl
              · simp [hl]
              · intro d hd
                rcases List.mem_append.mp hd with z2 | z2
                · exact hn d z2
                · have e : d = z := by simpa using z2
                  rw [e]
                  exact b8 z hz
            refine ⟨rfl, _, rfl, ite2 (fun c => ?_) (fun c => ?_)⟩
            · have hi' : i < ds.length := by omega
              exact ⟨_, rfl, _, rfl, C2, _, _, .int ds[i], rfl, rfl, SqA.l gd, at_nat (j := i) (by omega) (by simp [hi']), fin _ (List.getElem_mem hi')⟩
            · have hi' : 0 < ds.length := by omega
              exact ⟨_, rfl, C2, _, _, .int ds[0], rfl, rfl, SqA.l gd, at_nat (j := 0) rfl (by simp [hi']), fin _ (List.getElem_mem hi')⟩
          · rintro H10 ⟨ds', u10', x10, h10, l10, b10⟩
            have u10 : But b H H10 := u9.trans u10'
            refine ⟨_, rfl, C, _, 0, .int d0, rfl, rfl, SqA.l (u10' _ _ nCb h9), rfl, _, rfl, C, _, 1, .int d1, rfl, rfl, SqA.l (u10' _ _ nCb h9), rfl, _, rfl, C3, _, rfl, .inl ⟨SqL.of h10, fun q' nq => ?_⟩⟩
            refine ⟨(by show 3 ≤ sizeLine; decide), fun p np => ?_⟩
            obtain ⟨uq, xq, eq, nqb⟩ := al (o := .tup (ds'.map V.int)) u10 x10 nq
            obtain ⟨up, xp, ep, npb⟩ := al (o := .tup [.int d0, .int d1, .ref q']) uq xq np
            refine q _ p q' d0 d1 ds' up (xp.mono (by omega)) (uq.free npb np) (u10.free nqb nq) ep ?_ ⟨(b7 d0 (by simp)).1, (b7 d0 (by simp)).2, (b7 d1 (by simp)).1, (b7 d1 (by simp)).2, by omega, by omega, b10⟩
            rw [upd_ne (ne_of_none eq np)]
            exact eq
        · refine ⟨_, rfl, C, _, 0, .int d0, rfl, rfl, SqA.l h9, rfl, _, rfl, C, _, 1, .int d1, rfl, rfl, SqA.l h9, rfl, _, rfl, C2, _, rfl, .inl ⟨SqL.of g9, fun q' nq => ?_⟩⟩
          refine ⟨(by show 3 ≤ sizeLine; decide), fun p np => ?_⟩
          obtain ⟨uq, xq, eq, nqb⟩ := al (o := .tup (ds.map V.int)) u9 x9 nq
          obtain ⟨up, xp, ep, npb⟩ := al (o := .tup [.int d0, .int d1, .ref q']) uq xq np
          refine q _ p q' d0 d1 ds up (xp.mono (by omega)) (uq.free npb np) (u9.free nqb nq) ep ?_ ⟨(b7 d0 (by simp)).1, (b7 d0 (by simp)).2, (b7 d1 (by simp)).1, (b7 d1 (by simp)).2, by omega, by omega, b8⟩
          rw [upd_ne (ne_of_none eq np)]
          exact eq
end
end Sh

namespace Sh
open PySem PySem.Spec PyProof.Rows L2
/-! ### what many laws ask -/
/-- a sea (list or tuple) is handed in -/
def SeaA (K : PySem.W.Frag) (H : Hp) (v : V) (h t : Int) (ds : List Int) : Prop := ∃ p q, v = .ref p ∧ SqA K H p [.int h, .int t, .ref q] ∧ SqA K H q (ds.map V.int)
theorem SeaA.same {K : PySem.W.Frag} {H H' : Hp} {v : V} {h t : Int} {ds : List Int} (s : SeaA K H v h t ds) (e : Same H H') : SeaA K H' v h t ds := let ⟨p, q, a, b, c⟩ := s; ⟨p, q, a, Same.sqA e b, Same.sqA e c⟩
theorem lay_ints : ∀ ns : List Int, PyData.canLayAll0 (ns.map .int) = true ∧ PyData.depthAll (ns.map .int) = 0
  | [] => ⟨rfl, rfl⟩
  | n :: ns => by
    obtain ⟨a, b⟩ := lay_ints ns
    constructor
    · show (PyData.canLay0 (.int n) && PyData.canLayAll0 (ns.map .int)) = true
      rw [a]
      rfl
    · show max (PyData.depth (.int n)) (PyData.depthAll (ns.map .int)) = 0
      rw [b]
      rfl
theorem shaped_ints (ns : List Int) : SeqAt.shaped (.list (ns.map .int)) = true := by
  obtain ⟨a, b⟩ := lay_ints ns
  unfold SeqAt.shaped
  rw [show PyData.canLay0 (.list (ns.map .int)) = PyData.canLayAll0 (ns.map .int) from rfl, show PyData.depth (.list (ns.map .int)) = PyData.depthAll (ns.map .int) + 1 from rfl, a, b]
  rfl
theorem flat_ints (ns : List Int) : (ns.map V.int).all flatV = true := by
  rw [List.all_map]
  exact List.all_eq_true.mpr fun _ _ => rfl
theorem same_over {H H1 : Hp} {p : Addr} {o : HO} (s : Same H H1) (n : H p = none) : Same H (upd H1 p o) := fun a x e => by
  rw [upd_ne (ne_of_none e n)]
  exact s _ _ e
end Sh

namespace Sh
open PySem PySem.Spec PyProof.Rows L2
/-! ### standings as lists of ships -/
def ni (L : List Nat) : List V := L.map fun (i : Nat) => V.int (i : Int)
theorem ni_len (L : List Nat) : (ni L).length = L.length := by unfold ni; simp
theorem ni_get {L : List Nat} {i : Nat} (h : i < L.length) : (ni L)[i]? = some (.int ((L[i] : Nat) : Int)) := by unfold ni; simp [h]
theorem ni_app (L M : List Nat) : ni (L ++ M) = ni L ++ ni M := by unfold ni; simp
theorem ni_ints (L : List Nat) : ni L = (L.map fun (i : Nat) => (i : Int)).map V.int := by unfold ni; simp
theorem ni_flat (L : List Nat) : (ni L).all flatV = true := by unfold ni; rw [List.all_map]; exact List.all_eq_true.mpr fun _ _ => rfl
/-- a rising lot of ships below c -/
structure Lot (c : Nat) (L : List Nat) : Prop where
  up : L.Pairwise (· < ·)
  lt : ∀ i ∈ L, i < c
theorem up_len : ∀ {L : List Nat} {lo c : Nat}, L.Pairwise (· < ·) → (∀ i ∈ L, lo ≤ i ∧ i < c) → L.length ≤ c - lo
  | [], _, _, _, _ => Nat.zero_le _
  | a :: r, lo, c, h, hb => by
    obtain ⟨h1, h2⟩ := List.pairwise_cons.mp h
    have ha := hb a List.mem_cons_self
    have := up_len (lo := a + 1) (c := c) h2 fun i hi => ⟨h1 i hi, (hb i (List.mem_cons_of_mem _ hi)).2⟩
    rw [List.length_cons]
    omega
theorem Lot.len {c : Nat} {L : List Nat} (h : Lot c L) : L.length ≤ c := up_len (lo := 0) h.up fun i hi => ⟨Nat.zero_le _, h.lt i hi⟩
theorem Lot.nil (c : Nat) : Lot c [] := ⟨.nil, fun _ h => by cases h⟩
theorem Lot.all (c : Nat) : Lot c (List.range c) := ⟨List.pairwise_lt_range, fun _ h => List.mem_range.mp h⟩
theorem Lot.filter {c : Nat} {L : List Nat} (h : Lot c L) (p : Nat → Bool) : Lot c (L.filter p) := ⟨h.up.filter p, fun i hi => h.lt i (List.mem_filter.mp hi).1⟩
theorem rgV_ni (n : Nat) : rgV 0 (n : Int) = ni (List.range n) := by
  unfold rgV ni
  rw [show ((n : Int) - 0).toNat = n by omega]
  refine List.map_congr_left fun i _ => ?_
  rw [Int.zero_add]
theorem dp_ni {K : PySem.W.Frag} {H : Hp} {a : Addr} {L : List Nat} (h : H a = some (.lst (ni L))) : Dp K H (.ref a) (.list ((L.map fun (i : Nat) => (i : Int)).map .int)) := by
  rw [ni_ints] at h
  exact .lst (SqL.of h) (DpAll.ints _)
end Sh

namespace Sh
open PySem PySem.Spec PyProof.Rows L2
/-! ### a drawn lot -/
def spLot : Sp := fun vs H Q _ => ∃ (b : Addr) (n c : Nat), vs = [.ref b, .int (c : Int)] ∧ c ≤ 60 ∧ BoxAt H b (n + 100) ∧
  ∀ (H' : Hp) (p : Addr) (L : List Nat), But b H H' → BoxAt H' b n → H p = none → H' p = some (.tup (ni L)) → Lot c L → Q (.ref p) H'
abbrev s__law_lot : Stmt := topS 46
theorem sc__law_lot : FnScope (["_law_box_here", "_law_count", "_law_odds", "_law_whom"] : List Str) (["_law_box_here", "_law_count"] : List Str) (defScope s__law_lot) := ⟨rfl, rfl, rfl, by decide +kernel, rfl, by decide +kernel, by decide +kernel⟩
theorem b__law_lot (kV doc pm : Value) (an : Option Addr) (cdv ct : Value) (us : List Value) (hl : us.length = (["_law_box_here", "_law_count"] : List Str).length) : bindArgs (PySem.W.fnOf "_law_lot" "_law_lot" (defArgs s__law_lot) (defBody s__law_lot) (defScope s__law_lot) .none kV doc pm an cdv ct) ⟨us, []⟩ = pure ((["_law_box_here", "_law_count"] : List Str).zip us) :=
  match us, hl with | [_, _], _ => rfl
section
variable {P : Program} {w : World} {K : PySem.W.Frag} {mg : Str → Option Value} {base : Heap}
theorem ok_lot {k : Nat} (D : Df K mg "_law_lot" s__law_lot) (T : Bt mg) (O__law_take : Ok P w K mg base k "_law_take" s__law_take ["_law_box_here", "_law_span"] spTake) (O__law_of : Ok P w K mg base k "_law_of" s__law_of ["_law_box_here", "_law_some_here"] (spOf K)) :
    Ok P w K mg base (k + 1) "_law_lot" s__law_lot ["_law_box_here", "_law_count"] spLot := by
  refine D.ok sc__law_lot b__law_lot (fun vs H Q E h => ?_) (fun f cdv A outer s H vs Q E hr h => ?_)
  · obtain ⟨b, n, c, rfl, _⟩ := h
    rfl
  · obtain ⟨b, n, c, rfl, c60, hb, q⟩ := h
    refine ⟨_, (pss_cons (ps_set (i := 2) sc__law_lot.nd rfl (.inr rfl) (pe_fn O__law_of (hr.mono (by omega)) (pa_cons (pv 0) (pa_cons (pe_lst (pa_cons pe_int (pa_cons pe_int (pa_cons pe_int (pa_cons pe_int (pa_cons pe_int pa_nil)))))) pa_nil))))
      (pss_cons (ps_if (pt_cmpR op_eq (pe_fn O__law_take (hr.mono (by omega)) (pa_cons (pv 0) (pa_cons pe_int pa_nil))) pe_int (nomark _))
        (pss_one (ps_ret (pe_ifExp (pt_cmpR op_eq (pe_fn O__law_take (hr.mono (by omega)) (pa_cons (pv 0) (pa_cons pe_int pa_nil))) pe_int (nomark _)) (pe_tupRg (by rfl) (by rfl) T.tuple_ (prg_1 (by rfl) T.range_ (pv 1))) (pe_tup pa_nil))))
        pss_nil)
      (pss_one (ps_ret (pe_callTy call_tuple_of (by rfl) T.tuple_ (by decide +kernel) (pa_cons (pe_lc (own := [("_law_whom", 3)]) (g := (gName 3)) (by rfl) sc__law_lot.nd (pi_range1 (by rfl) T.range_ (pa_cons (pv 1) pa_nil)) (blkOk_by (own := [("_law_whom", 3)]) (N := (["_law_box_here", "_law_count", "_law_odds", "_law_whom"] : List Str)) (sc := defScope s__law_lot) (by decide +kernel)) (fun _ _ _ _ _ => (pg_name (i := 3) sc__law_lot.nd rfl (.inl rfl))) (fun _ _ _ _ _ => (pts_one (pt_cmpR op_eq (pe_fn O__law_take (hr.mono (by omega)) (pa_cons (pv 0) (pa_cons (pv 2) pa_nil))) pe_int (nomark _)))) (fun _ _ _ _ _ => (pv 3))) pa_nil)))))), ?_⟩
    -- odds
    refine ⟨_, rfl, (by show 5 ≤ sizeLine; decide), fun l nl => ?_⟩
    obtain ⟨u1, x1, e1, n1⟩ := al (o := .lst [.int 1, .int 2, .int 2, .int 3, .int 4]) (But.refl b H) hb nl
    refine ⟨b, l, n + 99, _, rfl, SqA.l upd_same, n1, (by show 0 < 5; decide), (by show 5 < 1000000; decide), x1.mono (by omega), fun v ys hv y => ?_⟩
    obtain ⟨o, o0, o1, rfl⟩ : ∃ o : Int, 1 ≤ o ∧ o ≤ 4 ∧ v = .int o := by
      have e5 : v = .int 1 ∨ v = .int 2 ∨ v = .int 3 ∨ v = .int 4 := by simpa using hv
      rcases e5 with e | e | e | e
      · exact ⟨1, by decide, by decide, e⟩
      · exact ⟨2, by decide, by decide, e⟩
      · exact ⟨3, by decide, by decide, e⟩
      · exact ⟨4, by decide, by decide, e⟩
    obtain ⟨u2, x2⟩ := tk u1 y
    generalize upd (upd H l (.lst [.int 1, .int 2, .int 2, .int 3, .int 4])) b (.lst ys) = H2 at u2 x2
    -- take(box, 8) == 0
    refine ⟨_, rfl, b, n + 98, 8, rfl, by decide, by decide, x2.mono (by omega), fun v ys v0 v1 y => ?_⟩
    obtain ⟨u3, x3⟩ := tk u2 y
    generalize upd H2 b (.lst ys) = H3 at u3 x3
    refine ⟨rfl, _, rfl, ite2 (fun _ => ?_) (fun _ => ?_)⟩
    · refine ⟨_, rfl, b, n + 97, 2, rfl, by decide, by decide, x3.mono (by omega), fun v ys v0 v1 y => ?_⟩
      obtain ⟨u4, x4⟩ := tk u3 y
      generalize upd H3 b (.lst ys) = H4 at u4 x4
      refine ⟨rfl, _, rfl, ite2 (fun _ => ?_) (fun _ => ?_)⟩
      · refine ⟨_, rfl, _, rfl, .of_le (by omega) (by omega) (by omega) (by omega), fun p np => ?_⟩
        rw [rgV_ni]
        obtain ⟨u5, x5, e5, n5⟩ := al (o := .tup (ni (List.range c))) u4 x4 np
        exact q _ p _ u5 (x5.mono (by omega)) (u4.free n5 np) e5 (Lot.all c)
      · refine ⟨Nat.zero_le _, fun p np => ?_⟩
        obtain ⟨u5, x5, e5, n5⟩ := al (o := .tup []) u4 x4 np
        exact q _ p [] u5 (x5.mono (by omega)) (u4.free n5 np) e5 (Lot.nil c)
    · refine ⟨_, rfl, _, rfl, by omega, by omega, fun C nC => ?_⟩
      rw [show ((c : Int)).toNat = c by omega]
      have nCb : C ≠ b := (x3.ne nC).symm
      refine lc_range (fun i Hc => ∃ L : List Nat, But b H3 Hc ∧ BoxAt Hc b (n + 98 - i) ∧ Hc C = some (.lst (ni L)) ∧ Lot i L) ?_ ?_ ?_
      · exact ⟨[], (al (But.refl b H3) x3 nC).1, (al (But.refl b H3) x3 nC).2.1, upd_same, Lot.nil 0⟩
      · rintro i Hc hi ⟨L, uc, xc, hC, hL⟩
        refine ⟨rfl, ?_⟩
        refine ⟨_, rfl, _, rfl, b, n + 98 - i - 1, o, rfl, by omega, by omega, xc.mono (by omega), fun v ys v0 v1 y => ?_⟩
        obtain ⟨ud, xd⟩ := tk uc y
        have hD : upd Hc b (.lst ys) C = some (.lst (ni L)) := by rw [upd_ne nCb]; exact hC
        generalize upd Hc b (.lst ys) = Hd at ud xd hD
        refine ⟨rfl, _, rfl, ite2 (fun _ => ?_) (fun _ => ?_)⟩
        · refine ⟨_, rfl, _, hD, ?_, L ++ [i], ?_, ?_, ?_, ?_⟩
          · rw [ni_len]
            exact small1000 (by have := hL.len; omega)
          · exact fun a z na e => by rw [upd_ne (ne_of_none e nC)]; exact ud a z na e
          · exact (xd.at (x3.ne nC)).mono (by omega)
          · rw [upd_same, ni_app]
            exact congrArg (fun z => some (HO.lst (ni L ++ [V.int z]))) (Int.zero_add (i : Int))
          · refine ⟨List.pairwise_append.mpr ⟨hL.up, List.pairwise_singleton _ _, fun a ha z hz => ?_⟩, fun a ha => ?_⟩
            · rw [List.mem_singleton.mp hz]
              exact hL.lt a ha
            · rcases List.mem_append.mp ha with z | z
              · have := hL.lt a z
                omega
              · rw [List.mem_singleton.mp z]
                omega
        · exact ⟨L, ud, xd.mono (by omega), hD, hL.up, fun a ha => Nat.lt_succ_of_lt (hL.lt a ha)⟩
      · rintro H4 ⟨L, u4', x4, h4, hL⟩
        have u4 := u3.trans u4'
        refine ⟨C, _, rfl, .inl ⟨SqL.of h4, fun p np => ?_⟩⟩
        obtain ⟨u5, x5, e5, n5⟩ := al (o := .tup (ni L)) u4 x4 np
        exact q _ p L u5 (x5.mono (by omega)) (u4.free n5 np) e5 hL
end
end Sh

namespace Sh
open PySem PySem.Spec PyProof.Rows L2
/-! ### who may go -/
/-- how many others lie here -/
def near (L : List Nat) (i : Nat) : Nat := (L.filter fun j => !decide (j = i)).length
def mayB (h t : Int) (ds : List Int) (L : List Nat) (i : Nat) : Bool := decide (ds.getD i 0 ≤ h + (near L i : Int)) && decide (ds.getD i 0 ≤ t + (ds.length : Int) - 1 - (near L i : Int))
def lets (h t : Int) (ds : List Int) (L : List Nat) (n : Nat) : List Nat := (List.range n).filter (mayB h t ds L)
theorem filter_succ (p : Nat → Bool) (n : Nat) : (List.range (n + 1)).filter p = (List.range n).filter p ++ (if p n = true then [n] else []) := by
  rw [List.range_succ, List.filter_append]
  congr 1
  by_cases h : p n = true
  · rw [if_pos h, List.filter_cons_of_pos h]
    rfl
  · rw [if_neg h, List.filter_cons_of_neg h]
    rfl
theorem filter_len (p : Nat → Bool) (n : Nat) : ((List.range n).filter p).length ≤ n := Nat.le_trans (List.length_filter_le _ _) (by simp)
theorem take_succ_get {α : Type} {L : List α} {i : Nat} (h : i < L.length) : L.take (i + 1) = L.take i ++ [L[i]] := by rw [List.take_add_one, List.getElem?_eq_getElem h]; rfl
/-- a standing is handed in -/
def LotA (K : PySem.W.Frag) (H : Hp) (v : V) (L : List Nat) : Prop := ∃ p, v = .ref p ∧ SqA K H p (ni L)
theorem LotA.same {K : PySem.W.Frag} {H H' : Hp} {v : V} {L : List Nat} (s : LotA K H v L) (e : Same H H') : LotA K H' v L := let ⟨p, a, b⟩ := s; ⟨p, a, Same.sqA e b⟩
end Sh

namespace Sh
open PySem PySem.Spec PyProof.Rows L2
def spLets (K : PySem.W.Frag) : Sp := fun vs H Q _ => ∃ (v l : V) (h t : Int) (ds : List Int) (L : List Nat), vs = [v, l] ∧ SeaA K H v h t ds ∧ LotA K H l L ∧ ds.length ≤ 1000 ∧ L.length ≤ 1000 ∧
  ∀ (H' : Hp) (p : Addr), Same H H' → H p = none → H' p = some (.lst (ni (lets h t ds L ds.length))) → Q (.ref p) H'
abbrev s__law_lets : Stmt := topS 47
theorem sc__law_lets : FnScope (["_law_sea_here", "_law_lot_here", "_law_depth", "_law_other_depth", "_law_draughts", "_law_found", "_law_whom", "_law_deep", "_law_near", "_law_mate"] : List Str) (["_law_sea_here", "_law_lot_here"] : List Str) (defScope s__law_lets) := ⟨rfl, rfl, rfl, by decide +kernel, rfl, by decide +kernel, by decide +kernel⟩
theorem b__law_lets (kV doc pm : Value) (an : Option Addr) (cdv ct : Value) (us : List Value) (hl : us.length = (["_law_sea_here", "_law_lot_here"] : List Str).length) : bindArgs (PySem.W.fnOf "_law_lets" "_law_lets" (defArgs s__law_lets) (defBody s__law_lets) (defScope s__law_lets) .none kV doc pm an cdv ct) ⟨us, []⟩ = pure ((["_law_sea_here", "_law_lot_here"] : List Str).zip us) :=
  match us, hl with | [_, _], _ => rfl
section
variable {P : Program} {w : World} {K : PySem.W.Frag} {mg : Str → Option Value} {base : Heap}
theorem ok_lets {k : Nat} (D : Df K mg "_law_lets" s__law_lets) (T : Bt mg) : Ok P w K mg base (k + 1) "_law_lets" s__law_lets ["_law_sea_here", "_law_lot_here"] (spLets K) := by
  refine D.ok sc__law_lets b__law_lets (fun vs H Q E h => ?_) (fun f cdv A outer s H vs Q E hr h => ?_)
  · obtain ⟨v, l, h, t, ds, L, rfl, _⟩ := h
    rfl
  · obtain ⟨v, l, h, t, ds, L, rfl, ⟨p, q, rfl, hp, hq⟩, ⟨pl, rfl, hl⟩, d1, l1, k⟩ := h
    refine ⟨_, (pss_cons (ps_asg (pv 0) (pg_seq rfl (pgs_cons (pg_name (i := 2) sc__law_lets.nd rfl (.inl rfl)) (pgs_cons (pg_name (i := 3) sc__law_lets.nd rfl (.inl rfl)) (pgs_cons (pg_name (i := 4) sc__law_lets.nd rfl (.inl rfl)) pgs_nil)))))
      (pss_cons (ps_set (i := 5) sc__law_lets.nd rfl (.inl rfl) (pe_lst pa_nil))
      (pss_cons (ps_for PassesOwn.never rfl (pi_enumA (by rfl) T.enumerate_ (pa_cons (pv 4) pa_nil)) (pg_seq rfl (pgs_cons (pg_name (i := 6) sc__law_lets.nd rfl (.inr rfl)) (pgs_cons (pg_name (i := 7) sc__law_lets.nd rfl (.inl rfl)) pgs_nil)))
        (pss_cons (ps_set (i := 8) sc__law_lets.nd rfl (.inl rfl) (pe_callB call_len_seq (by rfl) T.len_ PySem.boot_len (pa_cons (pe_lc (own := [("_law_mate", 9)]) (g := (gName 9)) (by rfl) sc__law_lets.nd (pi_seq (pv 1)) (blkOk_by (own := [("_law_mate", 9)]) (N := (["_law_sea_here", "_law_lot_here", "_law_depth", "_law_other_depth", "_law_draughts", "_law_found", "_law_whom", "_law_deep", "_law_near", "_law_mate"] : List Str)) (sc := defScope s__law_lets) (by decide +kernel)) (fun _ _ _ _ _ => (pg_name (i := 9) sc__law_lets.nd rfl (.inl rfl))) (fun _ _ _ _ _ => (pts_one (pt_cmpR op_ne (pv 9) (pv 6) (nomark _)))) (fun _ _ _ _ _ => (pv 9))) pa_nil)))
          (pss_one (ps_if (PW.pt (pw_and (pt_cmpR op_le (pv 7) (pe_op op_add (pv 2) (pv 8)) (nomark _)) (pw_and1 (pt_cmpR op_le (pv 7) (pe_op op_sub (pe_op op_sub (pe_op op_add (pv 3) (pe_callB call_len_seq (by rfl) T.len_ PySem.boot_len (pa_cons (pv 4) pa_nil))) pe_int) (pv 8)) (nomark _)))))
            (pss_one (ps_expr (pe_bm PySem.F.plainAttrs_list PySem.F.slot_list_append PySem.F.type_list_append mt_append (pv 5) (pa_cons (pv 6) pa_nil))))
            pss_nil))))
      (pss_one (ps_ret (pv 5)))))), ?_⟩
    refine ⟨_, rfl, p, _, rfl, hp, rfl, _, _, rfl, _, _, rfl, _, _, rfl, rfl, ?_⟩
    refine ⟨Nat.zero_le _, fun F nF => ?_⟩
    have s1 : Same H (upd H F (.lst [])) := same_new nF
    refine ⟨_, rfl, q, _, H, rfl, hq, .ofS s1, fun J hJ => ?_⟩
    obtain ⟨G, g, W⟩ := hJ.walk
    refine for_it W (fun i σ H' => ∃ y6 y7 y8 y9 : Option V, σ = [some (.ref p), some (.ref pl), some (.int h), some (.int t), some (.ref q), some (.ref F), y6, y7, y8, y9] ∧ Same H H' ∧ H' F = some (.lst (ni (lets h t ds L i))))
      ⟨none, none, none, none, rfl, s1, upd_same⟩ (fun i σ H' _ ⟨_, _, _, _, _, z, _⟩ => g H' (.ofS z)) ?_ ?_
    · rintro i x σ H1 H2 hi ⟨y6, y7, y8, y9, rfl, sm, hF⟩ ⟨u, x1, x2, rfl, nu, rfl, g1, g2⟩
      rw [List.length_map] at hi
      obtain rfl : .int (i : Nat) = x1 := Option.some.inj g1
      obtain rfl : .int ds[i] = x2 := by
        have g3 : (ds.map V.int)[i]? = some (.int ds[i]) := by simp [hi]
        exact Option.some.inj (g3.symm.trans g2)
      have ed : ds.getD i 0 = ds[i] := by simp [hi]
      have s2 : Same H1 (upd H1 u (.tup [.int (i : Nat), .int ds[i]])) := same_new nu
      refine ⟨u, _, rfl, SqA.t upd_same, rfl, _, _, rfl, _, _, rfl, rfl, ?_⟩
      have sm2 := sm.trans s2
      have hF2 := s2 _ _ hF
      generalize upd H1 u (.tup [.int (i : Nat), .int ds[i]]) = H2 at sm2 hF2
      -- near
      refine ⟨_, rfl, pl, _, H, rfl, hl, .ofS sm2, fun J2 hJ2 C nC => ?_⟩
      obtain ⟨G2, gg, W2⟩ := hJ2.walk
      refine lc_it W2 (fun j H' => Same H2 H' ∧ H' C = some (.lst (ni ((L.take j).filter fun m => !decide (m = i))))) ⟨same_new nC, upd_same⟩ (fun j H' _ z => gg H' (.ofS (sm2.trans z.1))) ?_ ?_
      · rintro j x H3 H4 hj ⟨s3, hC⟩ ⟨rfl, gx⟩
        rw [ni_len] at hj
        obtain rfl : .int ((L[j] : Nat) : Int) = x := Option.some.inj ((ni_get hj).symm.trans gx)
        refine ⟨rfl, ?_⟩
        refine ⟨_, rfl, _, rfl, rfl, _, rfl, ite2 (fun c => ?_) (fun c => ?_)⟩
        · have c0 : ¬ L[j] = i := fun e => by
            rw [e] at c
            simp at c
          refine ⟨_, rfl, _, hC, ?_, same_over s3 nC, ?_⟩
          · rw [ni_len]
            have h1 := List.length_filter_le (fun m => !decide (m = i)) (L.take j)
            rw [List.length_take] at h1
            exact small1000 (by omega)
          · rw [upd_same, take_succ_get hj, List.filter_append, ni_app, List.filter_cons_of_pos (by simpa using c0)]
            rfl
        · have c0 : L[j] = i := by
            have c1 : ¬ (!decide (V.int ((L[j] : Nat) : Int) = V.int (i : Nat))) = true := c
            have c2 : decide (V.int ((L[j] : Nat) : Int) = V.int (i : Nat)) = true := by
              cases e : decide (V.int ((L[j] : Nat) : Int) = V.int (i : Nat)) with
              | true => rfl
              | false => rw [e] at c1; exact absurd rfl c1
            have c3 := V.int.inj (of_decide_eq_true c2)
            omega
          refine ⟨s3, ?_⟩
          rw [hC, take_succ_get hj, List.filter_append, List.filter_cons_of_neg (by simpa using c0)]
          simp
      rintro H3 ⟨s3, hC⟩
      rw [ni_len, List.take_length] at hC
      refine ⟨C, _, rfl, .inl (SqL.of hC), ?_⟩
      rw [ni_len]
      have sm3 := sm2.trans s3
      have hF3 := s3 _ _ hF2
      -- the test
      have fin : ∀ bb : Bool, mayB h t ds L i = bb → (if bb = true then H3 F = some (.lst (ni (lets h t ds L i))) else H3 F = some (.lst (ni (lets h t ds L (i + 1))))) := fun bb e => by
        cases bb with
        | true => rw [if_pos rfl]; exact hF3
        | false =>
          rw [if_neg Bool.false_ne_true, hF3]
          unfold lets
          rw [filter_succ, e]
          simp
      refine ⟨_, rfl, _, rfl, _, rfl, h, _, rfl, rfl, ds[i], _, rfl, rfl, _, rfl, ite2 (fun c => ?_) (fun c => ?_)⟩
      · have c0 : ds[i] ≤ h + (near L i : Int) := of_decide_eq_true c
        refine ⟨_, rfl, _, rfl, _, rfl, q, _, rfl, Same.sqA sm3 hq, t, _, rfl, rfl, _, 1, rfl, rfl, _, rfl, _, _, rfl, rfl, ds[i], _, rfl, rfl, _, rfl, ite2 (fun c => ?_) (fun c => ?_)⟩
        · have c1 : ds[i] ≤ t + (ds.length : Int) - 1 - (near L i : Int) := by
            have z := of_decide_eq_true c
            rw [List.length_map] at z
            exact z
          have e : mayB h t ds L i = true := by
            unfold mayB
            rw [ed, decide_eq_true c0, decide_eq_true c1]
            rfl
          refine ⟨_, rfl, .inl ⟨rfl, _, SqL.of hF3⟩, _, rfl, F, _, _, rfl, rfl, hF3, ?_, _, _, _, _, rfl, same_over sm3 nF, ?_⟩
          · rw [ni_len]
            exact Nat.lt_of_le_of_lt (filter_len _ _) (small1000 (by omega))
          · rw [upd_same]
            unfold lets
            rw [filter_succ, if_pos e, ni_app]
            rfl
        · have c1 : ¬ ds[i] ≤ t + (ds.length : Int) - 1 - (near L i : Int) := fun z => c (decide_eq_true (by rw [List.length_map]; exact z))
          have e : mayB h t ds L i = false := by
            unfold mayB
            rw [ed, decide_eq_false c1, Bool.and_false]
          exact ⟨_, _, _, _, rfl, sm3, fin false e⟩
      · have c0 : ¬ ds[i] ≤ h + (near L i : Int) := fun z => c (decide_eq_true z)
        have e : mayB h t ds L i = false := by
          unfold mayB
          rw [ed, decide_eq_false c0, Bool.false_and]
        exact iteF ⟨_, _, _, _, rfl, sm3, fin false e⟩
    · rintro σ H1 ⟨y6, y7, y8, y9, rfl, sm, hF⟩
      rw [List.length_map] at hF
      exact ⟨_, rfl, k H1 F sm nF hF⟩
end
end Sh

namespace Sh
open PySem PySem.Spec PyProof.Rows L2
/-! ### who is afloat -/
theorem Lot.mem_eq {c : Nat} {L : List Nat} (h : Lot c L) : L = (List.range c).filter fun j => decide (j ∈ L) := by
  have h2 : Lot c ((List.range c).filter fun j => decide (j ∈ L)) := (Lot.all c).filter _
  refine List.Perm.eq_of_pairwise (le := (· < ·)) (fun a b _ _ h1 h2 => absurd (Nat.lt_trans h1 h2) (Nat.lt_irrefl _)) h.up h2.up ?_
  refine (List.perm_ext_iff_of_nodup (h.up.imp Nat.ne_of_lt) (h2.up.imp Nat.ne_of_lt)).mpr fun a => ?_
  rw [List.mem_filter, List.mem_range, decide_eq_true_eq]
  exact ⟨fun q => ⟨h.lt a q, q⟩, fun q => q.2⟩
theorem filter_filter_len (p q : Nat → Bool) : ∀ l : List Nat, (l.filter p).length = (l.filter fun j => p j && q j).length + (l.filter fun j => p j && !q j).length
  | [] => rfl
  | a :: l => by
    have ih := filter_filter_len p q l
    cases hp : p a <;> cases hq : q a <;> simp [List.filter_cons, hp, hq, ih] <;> omega
/-- how many mates: here, or there -/
def mates (c : Nat) (L : List Nat) (i : Nat) : List Nat := (List.range c).filter fun j => !decide (j = i) && (decide (j ∈ L) == decide (i ∈ L))
theorem near_in {c : Nat} {L : List Nat} (h : Lot c L) (i : Nat) : near L i = ((List.range c).filter fun j => decide (j ∈ L) && !decide (j = i)).length := by
  unfold near
  conv => lhs; rw [h.mem_eq]
  rw [List.filter_filter]
  congr 1
  refine List.filter_congr fun a _ => ?_
  cases decide (a ∈ L) <;> cases decide (a = i) <;> rfl
theorem mates_here {c : Nat} {L : List Nat} (h : Lot c L) {i : Nat} (hi : i ∈ L) : (mates c L i).length = near L i := by
  rw [near_in h, mates]
  congr 1
  refine List.filter_congr fun a _ => ?_
  rw [decide_eq_true hi]
  cases decide (a ∈ L) <;> cases decide (a = i) <;> rfl
theorem one_of {c i : Nat} (hi : i < c) : ((List.range c).filter fun j => decide (j = i)).length = 1 := by
  have e : ((List.range c).filter fun j => decide (j = i)) = [i] := by
    refine List.Perm.eq_of_pairwise (le := (· < ·)) (fun a b _ _ h1 h2 => absurd (Nat.lt_trans h1 h2) (Nat.lt_irrefl _)) (List.pairwise_lt_range.filter _) (List.pairwise_singleton _ _) ?_
    refine (List.perm_ext_iff_of_nodup ((List.pairwise_lt_range.filter _).imp Nat.ne_of_lt) (by simp)).mpr fun a => ?_
    rw [List.mem_filter, List.mem_range, decide_eq_true_eq, List.mem_singleton]
    exact ⟨fun q => q.2, fun q => ⟨q ▸ hi, q⟩⟩
  rw [e]
  rfl
theorem mates_there {c : Nat} {L : List Nat} (h : Lot c L) {i : Nat} (hc : i < c) (hi : i ∉ L) : ((mates c L i).length : Int) = (c : Int) - 1 - (near L i : Int) := by
  have e1 := filter_filter_len (fun j => !decide (j = i)) (fun j => decide (j ∈ L)) (List.range c)
  have e2 := filter_filter_len (fun _ => true) (fun j => decide (j = i)) (List.range c)
  have e3 : ((List.range c).filter fun j => true && decide (j = i)).length = 1 := one_of hc
  have e4 : ((List.range c).filter fun _ => true).length = c := by rw [List.filter_eq_self.mpr fun _ _ => rfl, List.length_range]
  have e5 : ((List.range c).filter fun j => !decide (j = i) && decide (j ∈ L)).length = near L i := by
    rw [near_in h]
    congr 1
    exact List.filter_congr fun a _ => Bool.and_comm _ _
  have e6 : ((List.range c).filter fun j => !decide (j = i) && !decide (j ∈ L)).length = (mates c L i).length := by
    unfold mates
    congr 1
    refine List.filter_congr fun a _ => ?_
    rw [decide_eq_false hi]
    cases decide (a ∈ L) <;> cases decide (a = i) <;> rfl
  have e7 : ((List.range c).filter fun j => true && !decide (j = i)).length = ((List.range c).filter fun j => !decide (j = i)).length := rfl
  rw [e5, e6] at e1
  rw [e3, e4, e7] at e2
  omega
/-- afloat where it lies -/
def aflB (h t : Int) (ds : List Int) (L : List Nat) (i : Nat) : Bool := if i ∈ L then decide (ds.getD i 0 ≤ h + (near L i : Int)) else decide (ds.getD i 0 ≤ t + ((ds.length : Int) - 1 - (near L i : Int)))
def afl (h t : Int) (ds : List Int) (L : List Nat) (n : Nat) : List Nat := (List.range n).filter (aflB h t ds L)
theorem aflB_mates {h t : Int} {ds : List Int} {L : List Nat} {i : Nat} (hL : Lot ds.length L) (hi : i < ds.length) :
    aflB h t ds L i = decide (ds.getD i 0 ≤ (if i ∈ L then h else t) + ((mates ds.length L i).length : Int)) := by
  unfold aflB
  by_cases z : i ∈ L
  · rw [if_pos z, if_pos z, mates_here hL z]
  · rw [if_neg z, if_neg z, mates_there hL hi z]
theorem in_ni {i : Nat} {L : List Nat} : inV (.int (i : Int)) (ni L) = decide (i ∈ L) := by
  unfold inV ni
  rw [List.any_map, Bool.eq_iff_iff, List.any_eq_true, decide_eq_true_eq]
  constructor
  · rintro ⟨x, hx, e⟩
    have e' : ((x : Int) == (i : Int)) = true := e
    have : x = i := by have := beq_iff_eq.mp e'; omega
    rw [← this]
    exact hx
  · intro hx
    exact ⟨i, hx, beq_self_eq_true (i : Int)⟩
def spAfl (K : PySem.W.Frag) : Sp := fun vs H Q _ => ∃ (v l : V) (h t : Int) (ds : List Int) (L : List Nat), vs = [v, l] ∧ SeaA K H v h t ds ∧ LotA K H l L ∧ ds.length ≤ 1000 ∧ Lot ds.length L ∧
  ∀ (H' : Hp) (p : Addr), Same H H' → H p = none → H' p = some (.lst (ni (afl h t ds L ds.length))) → Q (.ref p) H'
/-- the same of who may go: of a standing -/
def spMay (K : PySem.W.Frag) : Sp := fun vs H Q _ => ∃ (v l : V) (h t : Int) (ds : List Int) (L : List Nat), vs = [v, l] ∧ SeaA K H v h t ds ∧ LotA K H l L ∧ ds.length ≤ 1000 ∧ Lot ds.length L ∧
  ∀ (H' : Hp) (p : Addr), Same H H' → H p = none → H' p = some (.lst (ni (lets h t ds L ds.length))) → Q (.ref p) H'
end Sh

namespace Sh
open PySem PySem.Spec PyProof.Rows L2
theorem eqv_nil (ns : List Int) : PyData.eqv (.list (ns.map .int)) (.list []) = ns.isEmpty := by cases ns <;> rfl
end Sh

namespace Sh
open PySem PySem.Spec PyProof.Rows L2
/-! ### the program: steps -/
def mk (h t : Int) (k : Nat) (s : Int) : Int := if t + ((k : Int) - 1 - s) < h + s then t + ((k : Int) - 1 - s) else h + s
def gs (m : Int) (ds : List Int) (n : Nat) : List Nat := (List.range n).filter fun i => decide (ds.getD i 0 ≤ m)
def topI (h t : Int) (k : Nat) : Int := if (if (t + ((k : Int) - 1) - h) / 2 < (k : Int) - 1 then (t + ((k : Int) - 1) - h) / 2 else (k : Int) - 1) > 0 then (if (t + ((k : Int) - 1) - h) / 2 < (k : Int) - 1 then (t + ((k : Int) - 1) - h) / 2 else (k : Int) - 1) else 0
def lowI (h d : Int) : Int := if d - h > 0 then d - h else 0
def highI (t : Int) (k : Nat) (d : Int) : Int := if t + ((k : Int) - 1) - d < (k : Int) - 1 then t + ((k : Int) - 1) - d else (k : Int) - 1
def spMark (K : PySem.W.Frag) : Sp := fun vs H Q _ => ∃ (v : V) (h t s : Int) (ds : List Int), vs = [v, .int s] ∧ SeaA K H v h t ds ∧ Q (.int (mk h t ds.length s)) H
def spGoers (K : PySem.W.Frag) : Sp := fun vs H Q _ => ∃ (v : V) (h t s : Int) (ds : List Int), vs = [v, .int s] ∧ SeaA K H v h t ds ∧ ds.length ≤ 1000 ∧
  ∀ (H' : Hp) (p : Addr), Same H H' → H p = none → H' p = some (.lst (((gs (mk h t ds.length s) ds ds.length).map fun (i : Nat) => (i : Int)).map V.int)) → Q (.ref p) H'
def spTop (K : PySem.W.Frag) : Sp := fun vs H Q _ => ∃ (v : V) (h t : Int) (ds : List Int), vs = [v] ∧ SeaA K H v h t ds ∧ Q (.int (topI h t ds.length)) H
def spWindow (K : PySem.W.Frag) : Sp := fun vs H Q _ => ∃ (v : V) (h t d : Int) (j : Nat) (ds : List Int), vs = [v, .int (j : Int)] ∧ SeaA K H v h t ds ∧ ds[j]? = some d ∧
  (lowI h d > highI t ds.length d → Q .non H) ∧ (¬ lowI h d > highI t ds.length d → ∀ p, H p = none → Q (.ref p) (upd H p (.tup [.int (lowI h d), .int (highI t ds.length d)])))
theorem gs_succ {m : Int} {ds : List Int} {n : Nat} : gs m ds (n + 1) = gs m ds n ++ (if ds.getD n 0 ≤ m then [n] else []) := by
  unfold gs
  rw [List.range_succ, List.filter_append]
  congr 1
  by_cases h : ds.getD n 0 ≤ m
  · rw [if_pos h, List.filter_cons_of_pos (by simpa using h)]
    rfl
  · rw [if_neg h, List.filter_cons_of_neg (by simpa using h)]
    rfl
theorem gs_len {m : Int} {ds : List Int} {n : Nat} : (gs m ds n).length ≤ n := by
  unfold gs
  exact Nat.le_trans (List.length_filter_le _ _) (by simp)
theorem mk_alt (h t : Int) (k : Nat) (s : Int) : (if t + (k : Int) - 1 - s < h + s then t + (k : Int) - 1 - s else h + s) = mk h t k s := by
  unfold mk
  rw [show t + (k : Int) - 1 - s = t + ((k : Int) - 1 - s) by omega]
end Sh

namespace Sh
open PySem PySem.Spec PyProof.Rows L2
/-! ### steps: the mathematics -/
def ml (h t : Int) (k n : Nat) : List Int := (List.range n).map fun (i : Nat) => mk h t k (i : Int)
theorem ml_succ (h t : Int) (k n : Nat) : ml h t k (n + 1) = ml h t k n ++ [mk h t k (n : Int)] := by
  unfold ml
  rw [List.range_succ, List.map_append]
  rfl
theorem ml_len (h t : Int) (k n : Nat) : (ml h t k n).length = n := by
  unfold ml
  simp
theorem ml_get {h t : Int} {k n i : Nat} (hi : i < n) : (ml h t k n)[i]? = some (mk h t k (i : Int)) := by
  unfold ml
  simp [hi]
theorem top_lo (h t : Int) (k : Nat) : 0 ≤ topI h t k := by
  unfold topI
  split <;> omega
theorem top_hi (h t : Int) {k : Nat} (hk : 0 < k) : topI h t k < (k : Int) := by
  unfold topI
  repeat' split
  all_goals omega
theorem top_max (h t : Int) {k i : Nat} (hi : i < k) : mk h t k (i : Int) ≤ mk h t k (topI h t k) := by
  unfold mk topI
  repeat' split
  all_goals omega
theorem top_least (h t : Int) {k i : Nat} (hi : (i : Int) < topI h t k) : mk h t k (i : Int) < mk h t k (topI h t k) := by
  unfold mk topI at *
  repeat' split
  all_goals (repeat' split at hi)
  all_goals omega
theorem win_iff (h t d : Int) {k i : Nat} (hi : i < k) : d ≤ mk h t k (i : Int) ↔ lowI h d ≤ (i : Int) ∧ (i : Int) ≤ highI t k d := by
  unfold mk lowI highI
  constructor
  · intro z
    split at z <;> (constructor <;> split <;> omega)
  · intro z
    split <;> (obtain ⟨z1, z2⟩ := z; split at z1 <;> split at z2 <;> omega)
/-- the steps at which it may go -/
def fl (h t d : Int) (k n : Nat) : List Nat := (List.range n).filter fun (i : Nat) => decide (d ≤ mk h t k (i : Int))
theorem fl_succ {h t d : Int} {k n : Nat} : fl h t d k (n + 1) = fl h t d k n ++ (if d ≤ mk h t k (n : Int) then [n] else []) := by
  unfold fl
  rw [List.range_succ, List.filter_append]
  congr 1
  by_cases z : d ≤ mk h t k (n : Int)
  · rw [if_pos z, List.filter_cons_of_pos (by simpa using z)]
    rfl
  · rw [if_neg z, List.filter_cons_of_neg (by simpa using z)]
    rfl
theorem fl_len {h t d : Int} {k n : Nat} : (fl h t d k n).length ≤ n := by
  unfold fl
  exact Nat.le_trans (List.length_filter_le _ _) (by simp)
theorem fl_mem {h t d : Int} {k i : Nat} : i ∈ fl h t d k k ↔ i < k ∧ lowI h d ≤ (i : Int) ∧ (i : Int) ≤ highI t k d := by
  unfold fl
  rw [List.mem_filter, List.mem_range, decide_eq_true_eq]
  constructor
  · rintro ⟨a, b⟩
    exact ⟨a, (win_iff h t d a).mp b⟩
  · rintro ⟨a, b⟩
    exact ⟨a, (win_iff h t d a).mpr b⟩
theorem fl_sorted (h t d : Int) (k : Nat) : (fl h t d k k).Pairwise (· < ·) := by
  unfold fl
  exact List.Pairwise.filter _ List.pairwise_lt_range
theorem high_lt (t d : Int) {k : Nat} (hk : 0 < k) : highI t k d < (k : Int) := by
  unfold highI
  split <;> omega
theorem low_nn (h d : Int) : 0 ≤ lowI h d := by
  unfold lowI
  split <;> omega
theorem fl_nil {h t d : Int} {k : Nat} (z : lowI h d > highI t k d) : fl h t d k k = [] := by
  cases e : fl h t d k k with
  | nil => rfl
  | cons x r =>
    have m : x ∈ fl h t d k k := by rw [e]; exact List.mem_cons_self
    obtain ⟨_, a, b⟩ := fl_mem.mp m
    omega
/-- a rising list has its least first, its greatest last -/
theorem fl_ends {h t d : Int} {k : Nat} (hk : 0 < k) (z : ¬ lowI h d > highI t k d) : ∃ (l : List Nat) (r : List Nat) (a b : Nat), fl h t d k k = a :: r ∧ fl h t d k k = l ++ [b] ∧ (a : Int) = lowI h d ∧ (b : Int) = highI t k d := by
  have hh := high_lt t d hk
  have hl := low_nn h d
  have ml' : (lowI h d).toNat ∈ fl h t d k k := fl_mem.mpr ⟨by omega, by omega, by omega⟩
  have mh : (highI t k d).toNat ∈ fl h t d k k := fl_mem.mpr ⟨by omega, by omega, by omega⟩
  have ne : fl h t d k k ≠ [] := List.ne_nil_of_mem ml'
  have st := fl_sorted h t d k
  obtain ⟨a, r, e1⟩ : ∃ a r, fl h t d k k = a :: r := by
    cases e : fl h t d k k with
    | nil => exact absurd e ne
    | cons x r => exact ⟨x, r, rfl⟩
  have e2 : fl h t d k k = (fl h t d k k).dropLast ++ [(fl h t d k k).getLast ne] := (List.dropLast_concat_getLast ne).symm
  refine ⟨_, r, a, _, e1, e2, ?_, ?_⟩
  · have ma : a ∈ fl h t d k k := by rw [e1]; exact List.mem_cons_self
    obtain ⟨_, g1, g2⟩ := fl_mem.mp ma
    have le : a ≤ (lowI h d).toNat := by
      rw [e1] at ml' st
      rcases List.mem_cons.mp ml' with q | q
      · omega
      · have := (List.pairwise_cons.mp st).1 _ q
        omega
    omega
  · have mb := List.getLast_mem ne
    obtain ⟨_, g1, g2⟩ := fl_mem.mp mb
    have le : (highI t k d).toNat ≤ (fl h t d k k).getLast ne := by
      have st2 := st
      rw [e2] at mh st2
      rcases List.mem_append.mp mh with q | q
      · have := (List.pairwise_append.mp st2).2.2 _ q _ List.mem_cons_self
        omega
      · have : (highI t k d).toNat = (fl h t d k k).getLast ne := by simpa using q
        omega
    omega
end Sh

namespace Sh
open PySem PySem.Spec PyProof.Rows L2
/-! ### sorted lists of ships -/
theorem nat_list {c : Nat} : ∀ {ns : List Int}, (∀ z ∈ ns, 0 ≤ z ∧ z < (c : Int)) → ∃ L : List Nat, ns = L.map (fun (i : Nat) => (i : Int)) ∧ ∀ i ∈ L, i < c
  | [], _ => ⟨[], rfl, fun _ h => by cases h⟩
  | z :: ns, h => by
    obtain ⟨L, e, hL⟩ := nat_list (ns := ns) fun y hy => h y (List.mem_cons_of_mem _ hy)
    have hz := h z List.mem_cons_self
    refine ⟨z.toNat :: L, ?_, fun i hi => ?_⟩
    · rw [List.map_cons, ← e]
      congr 1
      omega
    · rcases List.mem_cons.mp hi with q | q
      · omega
      · exact hL i q
theorem map_inj {L M : List Nat} (h : (L.map fun (i : Nat) => (i : Int)).Perm (M.map fun (i : Nat) => (i : Int))) : L.Perm M := by
  have h2 := h.map Int.toNat
  rw [List.map_map, List.map_map] at h2
  have e : (Int.toNat ∘ fun (i : Nat) => (i : Int)) = id := by
    funext i
    exact Int.toNat_natCast i
  rw [e, List.map_id, List.map_id] at h2
  exact h2
/-- sorted ints that are a rearrangement of different ships: a lot -/
theorem lot_sorted {c : Nat} {ns : List Int} {M : List Nat} (pm : ns.Perm (M.map fun (i : Nat) => (i : Int))) (up : ns.Pairwise (· ≤ ·)) (nd : M.Nodup) (lt : ∀ i ∈ M, i < c) :
    ∃ L : List Nat, ns = L.map (fun (i : Nat) => (i : Int)) ∧ L.Perm M ∧ Lot c L := by
  obtain ⟨L, rfl, hL⟩ := nat_list (c := c) (ns := ns) fun z hz => by
    obtain ⟨i, hi, rfl⟩ := List.mem_map.mp (pm.mem_iff.mp hz)
    have := lt i hi
    omega
  have p2 := map_inj pm
  refine ⟨L, rfl, p2, ?_, hL⟩
  have ndL : L.Nodup := p2.nodup_iff.mpr nd
  have up2 : L.Pairwise (· ≤ ·) := by
    rw [List.pairwise_map] at up
    exact up.imp fun h => by omega
  exact (up2.and ndL).imp fun h => Nat.lt_of_le_of_ne h.1 h.2
theorem cut_take (xs : List V) (l : Nat) : cutV xs none (some (l : Int)) = xs.take l := by
  unfold cutV
  rw [HT.sIx_none, HT.sIx_nat]
  show (xs.drop 0).take (min l xs.length - 0) = xs.take l
  rw [List.drop_zero, Nat.sub_zero]
  by_cases h : l ≤ xs.length
  · rw [Nat.min_eq_left h]
  · rw [Nat.min_eq_right (by omega), List.take_length, List.take_of_length_le (by omega)]
theorem near_out {L : List Nat} {i : Nat} (h : i ∉ L) : near L i = L.length := by
  unfold near
  rw [List.filter_eq_self.mpr fun a ha => ?_]
  have : ¬ a = i := fun e => h (e ▸ ha)
  simpa using this
theorem near_perm {L M : List Nat} (i : Nat) (h : L.Perm M) : near L i = near M i := (h.filter _).length_eq
theorem near_add {L : List Nat} {i : Nat} (h : i ∉ L) : near (L ++ [i]) i = L.length := by
  rw [← near_out h]
  unfold near
  rw [List.filter_append]
  simp
end Sh

namespace Th
/-! ### counting ships below k -/
def cnt (k : Nat) (S : Nat → Bool) : Nat := (List.range k).countP S
theorem cnt_zero (S : Nat → Bool) : cnt 0 S = 0 := rfl
theorem cnt_succ (k : Nat) (S : Nat → Bool) : cnt (k + 1) S = cnt k S + (if S k = true then 1 else 0) := by
  unfold cnt
  rw [List.range_succ, List.countP_append]
  congr 1
  cases h : S k <;> simp [h]
theorem cnt_le (k : Nat) (S : Nat → Bool) : cnt k S ≤ k := by
  induction k with
  | zero => exact Nat.le_refl _
  | succ k ih => rw [cnt_succ]; split <;> omega
theorem cnt_congr {k : Nat} {S U : Nat → Bool} (h : ∀ i, i < k → S i = U i) : cnt k S = cnt k U := by
  induction k with
  | zero => rfl
  | succ k ih => rw [cnt_succ, cnt_succ, ih fun i hi => h i (by omega), h k (by omega)]
theorem cnt_mono {k : Nat} {S U : Nat → Bool} (h : ∀ i, i < k → S i = true → U i = true) : cnt k S ≤ cnt k U := by
  induction k with
  | zero => exact Nat.le_refl _
  | succ k ih =>
    have := ih fun i hi => h i (by omega)
    rw [cnt_succ, cnt_succ]
    by_cases e : S k = true
    · rw [if_pos e, if_pos (h k (by omega) e)]
      omega
    · rw [if_neg e]
      omega
/-- as many, and all of the one among the other: the same -/
theorem cnt_eq {k : Nat} {S U : Nat → Bool} (h : ∀ i, i < k → S i = true → U i = true) (e : cnt k U ≤ cnt k S) : ∀ i, i < k → U i = true → S i = true := by
  induction k with
  | zero => intro i hi; omega
  | succ k ih =>
    have hm := cnt_mono (k := k) fun i hi => h i (by omega)
    rw [cnt_succ, cnt_succ] at e
    intro i hi hu
    by_cases ek : S k = true
    · have uk := h k (by omega) ek
      rw [if_pos ek, if_pos uk] at e
      by_cases z : i = k
      · rw [z]; exact ek
      · exact ih (fun i hi => h i (by omega)) (by omega) i (by omega) hu
    · rw [if_neg ek] at e
      by_cases uk : U k = true
      · rw [if_pos uk] at e
        omega
      · rw [if_neg uk] at e
        by_cases z : i = k
        · rw [z] at hu; exact absurd hu uk
        · exact ih (fun i hi => h i (by omega)) (by omega) i (by omega) hu
theorem cnt_ex {k : Nat} {S U : Nat → Bool} (e : cnt k S < cnt k U) : ∃ i, i < k ∧ U i = true ∧ S i = false := by
  induction k with
  | zero => rw [cnt_zero, cnt_zero] at e; omega
  | succ k ih =>
    rw [cnt_succ, cnt_succ] at e
    by_cases uk : U k = true
    · by_cases sk : S k = true
      · rw [if_pos uk, if_pos sk] at e
        obtain ⟨i, h1, h2⟩ := ih (by omega)
        exact ⟨i, by omega, h2⟩
      · exact ⟨k, by omega, uk, by simpa using sk⟩
    · rw [if_neg uk] at e
      obtain ⟨i, h1, h2⟩ := ih (by omega)
      exact ⟨i, by omega, h2⟩
theorem cnt_pos_ex {k : Nat} {S : Nat → Bool} (e : 0 < cnt k S) : ∃ i, i < k ∧ S i = true := by
  induction k with
  | zero => rw [cnt_zero] at e; omega
  | succ k ih =>
    by_cases sk : S k = true
    · exact ⟨k, by omega, sk⟩
    · rw [cnt_succ, if_neg sk] at e
      obtain ⟨i, h1, h2⟩ := ih (by omega)
      exact ⟨i, by omega, h2⟩
def flip (S : Nat → Bool) (i : Nat) : Nat → Bool := fun j => if j = i then !S j else S j
theorem flip_self (S : Nat → Bool) (i : Nat) : flip S i i = !S i := by unfold flip; rw [if_pos rfl]
theorem flip_ne (S : Nat → Bool) {i j : Nat} (h : j ≠ i) : flip S i j = S j := by unfold flip; rw [if_neg h]
theorem flip_flip (S : Nat → Bool) (i : Nat) : flip (flip S i) i = S := by
  funext j
  by_cases h : j = i
  · subst h
    rw [flip_self, flip_self, Bool.not_not]
  · rw [flip_ne _ h, flip_ne _ h]
theorem cnt_flip_up {k : Nat} {S : Nat → Bool} {i : Nat} (hi : i < k) (h : S i = false) : cnt k (flip S i) = cnt k S + 1 := by
  induction k with
  | zero => omega
  | succ k ih =>
    rw [cnt_succ, cnt_succ]
    by_cases z : i = k
    · subst z
      rw [flip_self, h]
      rw [cnt_congr (k := i) (S := flip S i) (U := S) fun j hj => flip_ne S (by omega)]
      simp
    · rw [ih (by omega), flip_ne S (show k ≠ i by omega)]
      omega
theorem cnt_flip_dn {k : Nat} {S : Nat → Bool} {i : Nat} (hi : i < k) (h : S i = true) : cnt k (flip S i) + 1 = cnt k S := by
  have e : flip S i i = false := by rw [flip_self, h]; rfl
  have := cnt_flip_up hi e
  rw [flip_flip] at this
  omega
theorem cnt_pos {k : Nat} {S : Nat → Bool} {i : Nat} (hi : i < k) (h : S i = true) : 0 < cnt k S := by
  have := cnt_flip_dn hi h
  omega
theorem cnt_or_not {k : Nat} (S U : Nat → Bool) : cnt k (fun i => S i || U i) = cnt k S + cnt k (fun i => U i && !S i) := by
  induction k with
  | zero => rfl
  | succ k ih =>
    rw [cnt_succ, cnt_succ, cnt_succ, ih]
    cases S k <;> cases U k <;> simp <;> omega
theorem cnt_split {k : Nat} (S U : Nat → Bool) : cnt k S = cnt k (fun i => S i && U i) + cnt k (fun i => S i && !U i) := by
  induction k with
  | zero => rfl
  | succ k ih =>
    rw [cnt_succ, cnt_succ, cnt_succ, ih]
    cases S k <;> cases U k <;> simp <;> omega
theorem cnt_not {k : Nat} (S : Nat → Bool) : cnt k S + cnt k (fun i => !S i) = k := by
  induction k with
  | zero => rfl
  | succ k ih =>
    rw [cnt_succ, cnt_succ]
    cases S k <;> simp <;> omega

/-! ### crossings -/
section
variable (k : Nat) (G : Nat → Nat → Bool)
inductive Step : (Nat → Bool) → (Nat → Bool) → Prop
  | up {S : Nat → Bool} {i : Nat} (hi : i < k) (hs : S i = false) (hg : G (cnt k S) i = true) : Step S (flip S i)
  | dn {S : Nat → Bool} {i : Nat} (hi : i < k) (hs : S i = true) (hg : G (cnt k S - 1) i = true) : Step S (flip S i)
inductive Reach : (Nat → Bool) → (Nat → Bool) → Prop
  | refl (S : Nat → Bool) : Reach S S
  | step {S U W : Nat → Bool} : Reach S U → Step k G U W → Reach S W
end
section
variable {k : Nat} {G : Nat → Nat → Bool} {S U W : Nat → Bool}
theorem Step.symm (h : Step k G S U) : Step k G U S := by
  cases h with
  | @up i hi hs hg =>
    have e : Step k G (flip S i) (flip (flip S i) i) := .dn hi (by rw [flip_self, hs]; rfl) (by rw [cnt_flip_up hi hs, Nat.add_sub_cancel]; exact hg)
    rwa [flip_flip] at e
  | @dn i hi hs hg =>
    have e : Step k G (flip S i) (flip (flip S i) i) := .up hi (by rw [flip_self, hs]; rfl) (by have := cnt_flip_dn hi hs; rw [show cnt k (flip S i) = cnt k S - 1 by omega]; exact hg)
    rwa [flip_flip] at e
theorem Reach.trans (a : Reach k G S U) (b : Reach k G U W) : Reach k G S W := by
  induction b with
  | refl => exact a
  | step _ s ih => exact .step ih s
theorem Reach.one (s : Step k G S U) : Reach k G S U := .step (.refl _) s
theorem Reach.symm (a : Reach k G S U) : Reach k G U S := by
  induction a with
  | refl => exact .refl _
  | step _ s ih => exact (Reach.one s.symm).trans ih
/-- whatever every crossing keeps -/
theorem Reach.inv {P : (Nat → Bool) → Prop} (hp : ∀ S U, P S → Step k G S U → P U) (a : Reach k G S U) (h : P S) : P U := by
  induction a with
  | refl => exact h
  | step _ s ih => exact hp _ _ ih s
/-! ### filled from below -/
/-- between a and b goers grow -/
def Grow (G : Nat → Nat → Bool) (b : Nat) : Prop := ∀ s s' i, s ≤ s' → s' ≤ b → G s i = true → G s' i = true
/-- S can be filled to N, if at each number on the way somebody lacks -/
theorem fill {T : Nat} (gr : Grow G T) (N : Nat) (hN : N ≤ T + 1) (h0 : cnt k S ≤ N) (hl : ∀ n, cnt k S ≤ n → n < N → n < cnt k (fun i => S i || G n i)) :
    ∃ U, Reach k G S U ∧ cnt k U = N ∧ (∀ i, S i = true → U i = true) ∧ ∀ i, i < k → U i = true → S i = true ∨ (0 < N ∧ G (N - 1) i = true) := by
  induction N with
  | zero => exact ⟨S, .refl _, by omega, fun _ h => h, fun _ _ h => .inl h⟩
  | succ N ih =>
    by_cases e : cnt k S = N + 1
    · exact ⟨S, .refl _, e, fun _ h => h, fun _ _ h => .inl h⟩
    · obtain ⟨U, r, c, h1, h2⟩ := ih (by omega) (by omega) fun n a b => hl n a (by omega)
      have hlt := hl N (by omega) (by omega)
      obtain ⟨i, hi, g, u⟩ := cnt_ex (k := k) (S := U) (U := fun i => S i || G N i) (by omega)
      have gi : G N i = true := by
        cases hs : S i with
        | true => rw [h1 i hs] at u; cases u
        | false => rw [hs] at g; exact g
      refine ⟨flip U i, r.step (.up hi u (by rw [c]; exact gi)), by rw [cnt_flip_up hi u, c], fun j hj => ?_, fun j hj hf => ?_⟩
      · by_cases z : j = i
        · subst z
          rw [h1 j hj] at u
          cases u
        · rw [flip_ne _ z]
          exact h1 j hj
      · by_cases z : j = i
        · exact .inr ⟨by omega, by rw [z]; exact gi⟩
        · rw [flip_ne _ z] at hf
          rcases h2 j hj hf with q | ⟨q, g2⟩
          · exact .inl q
          · exact .inr ⟨by omega, gr _ _ _ (by omega) (by omega) g2⟩
/-- stuck at N: the fullest one is S with all goers at N -/
theorem stuck {T N : Nat} (gr : Grow G T) (hN : N ≤ T) (h0 : cnt k S ≤ N) (hl : ∀ n, cnt k S ≤ n → n < N → n < cnt k (fun i => S i || G n i)) (hs : cnt k (fun i => S i || G N i) ≤ N) :
    ∃ U, Reach k G S U ∧ cnt k U = N ∧ ∀ i, i < k → U i = (S i || G N i) := by
  obtain ⟨U, r, c, h1, h2⟩ := fill gr N (by omega) h0 hl
  have hm : ∀ i, i < k → U i = true → (S i || G N i) = true := fun i hi hu => by
    rcases h2 i hi hu with q | ⟨_, q⟩
    · rw [q]; rfl
    · rw [gr _ _ _ (by omega) hN q, Bool.or_true]
  have he := cnt_eq (k := k) (S := U) (U := fun i => S i || G N i) hm (by omega)
  refine ⟨U, r, c, fun i hi => ?_⟩
  cases hu : U i with
  | true => exact (hm i hi hu).symm
  | false =>
    cases hq : (S i || G N i) with
    | false => rfl
    | true => rw [he i hi hq] at hu; cases hu
/-- under a low bar at N nobody gets out -/
theorem low_inv {T N : Nat} (gr : Grow G T) (hN : N ≤ T) {F : Nat → Bool} (hF : cnt k F = N) (hG : ∀ i, i < k → G N i = true → F i = true) :
    ∀ S U, (cnt k S ≤ N ∧ ∀ i, i < k → (S i || G N i) = F i) → Step k G S U → (cnt k U ≤ N ∧ ∀ i, i < k → (U i || G N i) = F i) := by
  rintro S U ⟨c, h⟩ s
  have sub : ∀ i, i < k → S i = true → F i = true := fun i hi hs => by rw [← h i hi, hs]; rfl
  cases s with
  | @up i hi hs hg =>
    by_cases z : cnt k S = N
    · exfalso
      rw [z] at hg
      have := cnt_eq sub (by omega) i hi (hG i hi hg)
      rw [hs] at this
      cases this
    · refine ⟨by rw [cnt_flip_up hi hs]; omega, fun j hj => ?_⟩
      by_cases e : j = i
      · subst e
        have gN := gr _ _ _ (by omega) hN hg
        rw [gN, Bool.or_true, hG j hj gN]
      · rw [flip_ne _ e]
        exact h j hj
  | @dn i hi hs hg =>
    have := cnt_flip_dn hi hs
    refine ⟨by omega, fun j hj => ?_⟩
    by_cases e : j = i
    · subst e
      have gN := gr _ _ _ (by omega) hN hg
      rw [gN, Bool.or_true, hG j hj gN]
    · rw [flip_ne _ e]
      exact h j hj
end
end Th
namespace Th
section
variable {k : Nat} {G : Nat → Nat → Bool} {S U W : Nat → Bool}
/-! ### met from the other basin -/
def co (S : Nat → Bool) : Nat → Bool := fun i => !S i
def dual (k : Nat) (G : Nat → Nat → Bool) : Nat → Nat → Bool := fun s i => G (k - 1 - s) i
theorem co_co (S : Nat → Bool) : co (co S) = S := by funext i; exact Bool.not_not _
theorem cnt_co (k : Nat) (S : Nat → Bool) : cnt k S + cnt k (co S) = k := cnt_not S
theorem flip_co (S : Nat → Bool) (i : Nat) : flip (co S) i = co (flip S i) := by
  funext j
  unfold co flip
  split <;> rfl
theorem Step.dual (h : Step k G S U) : Step k (dual k G) (co S) (co U) := by
  cases h with
  | @up i hi hs hg =>
    rw [← flip_co]
    have c1 := cnt_co k S
    have c2 := cnt_le k (flip S i)
    rw [cnt_flip_up hi hs] at c2
    refine .dn hi (by unfold co; rw [hs]; rfl) ?_
    unfold Th.dual
    rw [show k - 1 - (cnt k (co S) - 1) = cnt k S by omega]
    exact hg
  | @dn i hi hs hg =>
    rw [← flip_co]
    have c1 := cnt_co k S
    have c2 := cnt_pos hi hs
    refine .up hi (by unfold co; rw [hs]; rfl) ?_
    unfold Th.dual
    rw [show k - 1 - cnt k (co S) = cnt k S - 1 by omega]
    exact hg
theorem dual_dual_at {s : Nat} (hs : s < k) (i : Nat) : Th.dual k (Th.dual k G) s i = G s i := by
  unfold Th.dual
  rw [show k - 1 - (k - 1 - s) = s by omega]
theorem Reach.dual (h : Reach k G S U) : Reach k (Th.dual k G) (co S) (co U) := by
  induction h with
  | refl => exact .refl _
  | step _ s ih => exact .step ih s.dual
theorem Step.congr {G' : Nat → Nat → Bool} (hg : ∀ s i, s < k → G s i = G' s i) (h : Step k G S U) : Step k G' S U := by
  cases h with
  | @up i hi hs g =>
    have := cnt_le k (flip S i)
    rw [cnt_flip_up hi hs] at this
    exact .up hi hs (by rw [← hg _ _ (by omega)]; exact g)
  | @dn i hi hs g =>
    have := cnt_le k S
    have := cnt_pos hi hs
    exact .dn hi hs (by rw [← hg _ _ (by omega)]; exact g)
theorem Reach.congr {G' : Nat → Nat → Bool} (hg : ∀ s i, s < k → G s i = G' s i) (h : Reach k G S U) : Reach k G' S U := by
  induction h with
  | refl => exact .refl _
  | step _ s ih => exact .step ih (s.congr hg)
theorem Reach.codual (h : Reach k (Th.dual k G) (co S) (co U)) : Reach k G S U := by
  have h2 := h.dual
  rw [co_co, co_co] at h2
  exact h2.congr fun s i hs => dual_dual_at hs i
/-! ### at the top -/
structure Top (k : Nat) (G : Nat → Nat → Bool) (T : Nat) : Prop where
  lt : T < k
  up : Grow G T
  dn : ∀ s s' i, T ≤ s → s ≤ s' → s' < k → G s' i = true → G s i = true
theorem Top.all {T : Nat} (t : Top k G T) {s i : Nat} (hs : s < k) (h : G s i = true) : G T i = true := by
  by_cases z : s ≤ T
  · exact t.up s T i z (Nat.le_refl _) h
  · exact t.dn T s i (Nat.le_refl _) (by omega) hs h
theorem Top.dual {T : Nat} (t : Top k G T) : Top k (Th.dual k G) (k - 1 - T) := by
  have := t.lt
  refine ⟨by omega, fun s s' i a b g => ?_, fun s s' i a b c g => ?_⟩
  · exact t.dn (k - 1 - s') (k - 1 - s) i (by omega) (by omega) (by omega) g
  · exact t.up (k - 1 - s') (k - 1 - s) i (by omega) (by omega) g
/-- who isn't a goer at the top never goes -/
theorem fast_inv {T : Nat} (t : Top k G T) (h : Reach k G S U) : ∀ i, i < k → G T i = false → U i = S i := by
  intro i hi hg
  refine Reach.inv (P := fun W => W i = S i) (fun A B e s => ?_) h rfl
  cases s with
  | @up j hj hs g =>
    have c := cnt_le k (flip A j)
    rw [cnt_flip_up hj hs] at c
    have : i ≠ j := fun z => by
      subst z
      rw [t.all (by omega) g] at hg
      cases hg
    rw [flip_ne _ this]
    exact e
  | @dn j hj hs g =>
    have c := cnt_le k A
    have c2 := cnt_pos hj hs
    have : i ≠ j := fun z => by
      subst z
      rw [t.all (by omega) g] at hg
      cases hg
    rw [flip_ne _ this]
    exact e
def diff (k : Nat) (S U : Nat → Bool) : Nat := cnt k (fun i => S i && !U i)
theorem reach_out (h : Reach k G S U) : ∀ i, ¬ i < k → U i = S i := by
  intro i hi
  refine Reach.inv (P := fun W => W i = S i) (fun A B e s => ?_) h rfl
  cases s with
  | @up j hj hs g =>
    rw [flip_ne _ (show i ≠ j by omega)]
    exact e
  | @dn j hj hs g =>
    rw [flip_ne _ (show i ≠ j by omega)]
    exact e
/-- at the top's own number goers can be exchanged -/
theorem swap {T : Nat} (t : Top k G T) : ∀ (n : Nat) (S U : Nat → Bool), diff k S U ≤ n → cnt k S = T → cnt k U = T → (∀ i, i < k → G T i = false → U i = S i) → (∀ i, ¬ i < k → U i = S i) → Reach k G S U := by
  intro n
  induction n with
  | zero =>
    intro S U hd cs cu hf ho
    have hsub : ∀ i, i < k → S i = true → U i = true := fun i hi hs => by
      cases hu : U i with
      | true => rfl
      | false =>
        have := cnt_pos (k := k) (S := fun i => S i && !U i) hi (by show (S i && !U i) = true; rw [hs, hu]; rfl)
        unfold diff at hd
        omega
    have heq := cnt_eq hsub (by omega)
    have : U = S := by
      funext i
      by_cases hi : i < k
      · cases hs : S i with
        | true => exact hsub i hi hs
        | false =>
          cases hu : U i with
          | false => rfl
          | true => rw [heq i hi hu] at hs; cases hs
      · exact ho i hi
    rw [this]
    exact .refl _
  | succ n ih =>
    intro S U hd cs cu hf ho
    by_cases z : diff k S U = 0
    · exact ih S U (by omega) cs cu hf ho
    · obtain ⟨i, hi, h1⟩ := cnt_pos_ex (k := k) (S := fun i => S i && !U i) (by unfold diff at z; omega)
      have si : S i = true := by revert h1; cases S i <;> simp
      have ui : U i = false := by revert h1; cases U i <;> simp
      have e1 := cnt_split (k := k) S U
      have e2 := cnt_split (k := k) U S
      have e3 : cnt k (fun i => S i && U i) = cnt k (fun i => U i && S i) := cnt_congr fun i _ => Bool.and_comm _ _
      obtain ⟨j, hj, h2⟩ := cnt_pos_ex (k := k) (S := fun i => U i && !S i) (by unfold diff at z; omega)
      have uj : U j = true := by revert h2; cases U j <;> simp
      have sj : S j = false := by revert h2; cases S j <;> simp
      have gi : G T i = true := by
        cases g : G T i with
        | true => rfl
        | false => rw [hf i hi g, si] at ui; cases ui
      have gj : G T j = true := by
        cases g : G T j with
        | true => rfl
        | false => rw [hf j hj g, sj] at uj; cases uj
      have ij : i ≠ j := fun e => by rw [e, sj] at si; cases si
      have s1 : Step k G S (flip S j) := .up hj sj (by rw [cs]; exact gj)
      have c1 : cnt k (flip S j) = T + 1 := by rw [cnt_flip_up hj sj, cs]
      have s2 : Step k G (flip S j) (flip (flip S j) i) := .dn hi (by rw [flip_ne _ ij]; exact si) (by rw [c1, Nat.add_sub_cancel]; exact gi)
      have c2 := cnt_flip_dn (k := k) (S := flip S j) hi (by rw [flip_ne _ ij]; exact si)
      refine ((Reach.one s1).trans (Reach.one s2)).trans (ih _ U ?_ (by omega) cu (fun l hl g => ?_) (fun l hl => ?_))
      · have e : (fun l => flip (flip S j) i l && !U l) = flip (fun l => S l && !U l) i := by
          funext l
          by_cases li : l = i
          · subst li
            rw [flip_self, flip_self, flip_ne _ ij, si, ui]
            rfl
          · rw [flip_ne _ li, flip_ne _ li]
            by_cases lj : l = j
            · subst lj
              rw [flip_self, sj, uj]
              rfl
            · rw [flip_ne _ lj]
        unfold diff
        rw [e]
        have := cnt_flip_dn (k := k) (S := fun l => S l && !U l) hi h1
        unfold diff at hd
        omega
      · have li : l ≠ i := fun e => by rw [e, gi] at g; cases g
        have lj : l ≠ j := fun e => by rw [e, gj] at g; cases g
        rw [flip_ne _ li, flip_ne _ lj]
        exact hf l hl g
      · rw [flip_ne _ (show l ≠ i by omega), flip_ne _ (show l ≠ j by omega)]
        exact ho l hl
/-! ### which lot a standing is in -/
/-- from below it gets to the top's number -/
def Rises (k : Nat) (G : Nat → Nat → Bool) (T : Nat) (S : Nat → Bool) : Prop := cnt k S ≤ T ∧ ∀ n, cnt k S ≤ n → n < T → n < cnt k (fun i => S i || G n i)
/-- from above -/
def Sinks (k : Nat) (G : Nat → Nat → Bool) (T : Nat) (S : Nat → Bool) : Prop := T < cnt k S ∧ ∀ s, T ≤ s → s < cnt k S → cnt k (fun i => S i && !G s i) ≤ s
theorem Rises.to {T : Nat} (t : Top k G T) (h : Rises k G T S) : ∃ U, Reach k G S U ∧ cnt k U = T := by
  obtain ⟨U, r, c, _⟩ := fill t.up T (by omega) h.1 h.2
  exact ⟨U, r, c⟩
theorem co_or (S : Nat → Bool) (f : Nat → Bool) : (fun i => co S i || f i) = co (fun i => S i && !f i) := by
  funext i
  show (!S i || f i) = !(S i && !f i)
  cases S i <;> cases f i <;> rfl
theorem Sinks.to {T : Nat} (t : Top k G T) (h : Sinks k G T S) : ∃ U, Reach k G S U ∧ cnt k U = T := by
  have tl := t.lt
  have c0 := cnt_co k S
  have cle := cnt_le k S
  obtain ⟨h1, h2⟩ := h
  obtain ⟨U, r, c, _⟩ := fill (k := k) (G := Th.dual k G) (S := co S) t.dual.up (k - 1 - T + 1) (by omega) (by omega) fun n a b => by
    have e : (fun i => co S i || Th.dual k G n i) = co (fun i => S i && !G (k - 1 - n) i) := co_or S _
    rw [e]
    have q := h2 (k - 1 - n) (by omega) (by omega)
    have c1 := cnt_co k (fun i => S i && !G (k - 1 - n) i)
    omega
  refine ⟨co U, ?_, ?_⟩
  · refine Reach.codual ?_
    rw [co_co]
    exact r
  · have := cnt_co k U
    omega
/-- two that get to the top's number and have the same fast ones here come to one another -/
theorem open_reach {T : Nat} (t : Top k G T) (hS : Rises k G T S ∨ Sinks k G T S) (hU : Rises k G T U ∨ Sinks k G T U) (hf : ∀ i, i < k → G T i = false → U i = S i) (ho : ∀ i, ¬ i < k → U i = S i) : Reach k G S U := by
  obtain ⟨S', rS, cS⟩ := hS.elim (fun h => h.to t) (fun h => h.to t)
  obtain ⟨U', rU, cU⟩ := hU.elim (fun h => h.to t) (fun h => h.to t)
  refine rS.trans (Reach.trans ?_ rU.symm)
  refine swap t _ S' U' (Nat.le_refl _) cS cU (fun i hi g => ?_) (fun i hi => ?_)
  · rw [fast_inv t rS i hi g, fast_inv t rU i hi g, hf i hi g]
  · rw [reach_out rS i hi, reach_out rU i hi, ho i hi]
/-- the first number at which filling is stuck -/
def StuckLow (k : Nat) (G : Nat → Nat → Bool) (N : Nat) (S : Nat → Bool) : Prop := cnt k S ≤ N ∧ (∀ n, cnt k S ≤ n → n < N → n < cnt k (fun i => S i || G n i)) ∧ cnt k (fun i => S i || G N i) ≤ N
theorem StuckLow.full {N : Nat} (h : StuckLow k G N S) {T : Nat} (t : Top k G T) (hN : N ≤ T) : ∃ U, Reach k G S U ∧ cnt k U = N ∧ ∀ i, i < k → U i = (S i || G N i) := stuck t.up hN h.1 h.2.1 h.2.2
theorem StuckLow.cnt_full {N : Nat} (h : StuckLow k G N S) {T : Nat} (t : Top k G T) (hN : N ≤ T) : cnt k (fun i => S i || G N i) = N := by
  obtain ⟨U, _, c, e⟩ := h.full t hN
  exact (cnt_congr e).symm.trans c
/-- nobody leaves the lot under it -/
theorem StuckLow.under {N T : Nat} (h : StuckLow k G N S) (t : Top k G T) (hN : N ≤ T) (r : Reach k G S U) : cnt k U ≤ N ∧ ∀ i, i < k → (U i || G N i) = (S i || G N i) := by
  refine Reach.inv (P := fun W => cnt k W ≤ N ∧ ∀ i, i < k → (W i || G N i) = (S i || G N i)) (low_inv t.up hN (h.cnt_full t hN) fun i _ g => by rw [g, Bool.or_true]) r ⟨h.1, fun _ _ => rfl⟩
/-- all of a lot are stuck alike -/
theorem StuckLow.same {N T : Nat} (h : StuckLow k G N S) (t : Top k G T) (hN : N ≤ T) (r : Reach k G S U) : StuckLow k G N U := by
  obtain ⟨c, e⟩ := h.under t hN r
  have ce : cnt k (fun i => U i || G N i) = N := by
    rw [cnt_congr e]
    exact h.cnt_full t hN
  refine ⟨c, fun n a b => ?_, by omega⟩
  -- stuck earlier it would never get to S's fullest one
  by_cases z : n < cnt k (fun i => U i || G n i)
  · exact z
  · exfalso
    -- the first such number
    have ex : ∃ m, cnt k U ≤ m ∧ m < N ∧ ¬ m < cnt k (fun i => U i || G m i) ∧ ∀ m', cnt k U ≤ m' → m' < m → m' < cnt k (fun i => U i || G m' i) := by
      clear ce e
      induction n using Nat.strongRecOn with
      | _ n ih =>
        by_cases q : ∀ m', cnt k U ≤ m' → m' < n → m' < cnt k (fun i => U i || G m' i)
        · exact ⟨n, a, b, z, q⟩
        · have : ∃ m', cnt k U ≤ m' ∧ m' < n ∧ ¬ m' < cnt k (fun i => U i || G m' i) := by
            refine Classical.byContradiction fun w => q fun m' x y => ?_
            refine Classical.byContradiction fun v => w ⟨m', x, y, v⟩
          obtain ⟨m', x, y, v⟩ := this
          exact ih m' y x (by omega) v
    obtain ⟨m, x, y, v, u⟩ := ex
    have sl : StuckLow k G m U := ⟨x, u, by omega⟩
    obtain ⟨F, rF, cF, _⟩ := h.full t hN
    have := (sl.under t (by omega) (r.symm.trans rF)).1
    omega
theorem StuckLow.iff {N T : Nat} (h : StuckLow k G N S) (t : Top k G T) (hN : N ≤ T) (ho : ∀ i, ¬ i < k → U i = S i) : Reach k G S U ↔ StuckLow k G N U ∧ ∀ i, i < k → (U i || G N i) = (S i || G N i) := by
  constructor
  · intro r
    exact ⟨h.same t hN r, (h.under t hN r).2⟩
  · rintro ⟨hu, e⟩
    obtain ⟨A, rA, _, eA⟩ := h.full t hN
    obtain ⟨B, rB, _, eB⟩ := hu.full t hN
    have : A = B := by
      funext i
      by_cases hi : i < k
      · rw [eA i hi, eB i hi, e i hi]
      · rw [reach_out rA i hi, reach_out rB i hi, ho i hi]
    rw [this] at rA
    exact rA.trans rB.symm
/-- each standing of no more than the top's number is stuck below it, or gets there -/
theorem low_or {T : Nat} (h : cnt k S ≤ T) : (∃ N, N < T ∧ StuckLow k G N S) ∨ Rises k G T S := by
  by_cases q : ∀ n, cnt k S ≤ n → n < T → n < cnt k (fun i => S i || G n i)
  · exact .inr ⟨h, q⟩
  · refine .inl ?_
    have : ∃ m, cnt k S ≤ m ∧ m < T ∧ ¬ m < cnt k (fun i => S i || G m i) := by
      refine Classical.byContradiction fun w => q fun m' x y => ?_
      refine Classical.byContradiction fun v => w ⟨m', x, y, v⟩
    obtain ⟨n, a, b, z⟩ := this
    clear q
    induction n using Nat.strongRecOn with
    | _ n ih =>
      by_cases q : ∀ m', cnt k S ≤ m' → m' < n → m' < cnt k (fun i => S i || G m' i)
      · exact ⟨n, b, a, q, by omega⟩
      · have : ∃ m', cnt k S ≤ m' ∧ m' < n ∧ ¬ m' < cnt k (fun i => S i || G m' i) := by
          refine Classical.byContradiction fun w => q fun m' x y => ?_
          refine Classical.byContradiction fun v => w ⟨m', x, y, v⟩
        obtain ⟨m', x, y, v⟩ := this
        exact ih m' y x (by omega) v
end
end Th
namespace Th
section
variable {k : Nat} {G : Nat → Nat → Bool} {S U W : Nat → Bool}
/-- i may go at U -/
def May (k : Nat) (G : Nat → Nat → Bool) (U : Nat → Bool) (i : Nat) : Prop := G (if U i = true then cnt k U - 1 else cnt k U) i = true
theorem May.step {i : Nat} (hi : i < k) (h : May k G U i) : Step k G U (flip U i) := by
  unfold May at h
  cases e : U i with
  | true => rw [e, if_pos rfl] at h; exact .dn hi e h
  | false => rw [e, if_neg Bool.false_ne_true] at h; exact .up hi e h
/-- ever goes -/
def Moves (k : Nat) (G : Nat → Nat → Bool) (S : Nat → Bool) (i : Nat) : Prop := ∃ U, Reach k G S U ∧ May k G U i
theorem moves_low {N T i : Nat} (h : StuckLow k G N S) (t : Top k G T) (hN : N ≤ T) (hi : i < k) : Moves k G S i ↔ 0 < N ∧ G (N - 1) i = true := by
  constructor
  · rintro ⟨U, r, m⟩
    obtain ⟨c, e⟩ := h.under t hN r
    unfold May at m
    cases u : U i with
    | true =>
      rw [u, if_pos rfl] at m
      have := cnt_pos hi u
      exact ⟨by omega, t.up _ _ _ (by omega) (by omega) m⟩
    | false =>
      rw [u, if_neg Bool.false_ne_true] at m
      by_cases z : cnt k U = N
      · exfalso
        rw [z] at m
        have cf := h.cnt_full t hN
        have hsub : ∀ j, j < k → U j = true → (S j || G N j) = true := fun j hj uj => by rw [← e j hj, uj]; rfl
        have := cnt_eq hsub (by omega) i hi (by rw [m, Bool.or_true])
        rw [u] at this
        cases this
      · exact ⟨by omega, t.up _ _ _ (by omega) (by omega) m⟩
  · rintro ⟨n0, g⟩
    obtain ⟨F, r, c, e⟩ := h.full t hN
    refine ⟨F, r, ?_⟩
    have fi : F i = true := by rw [e i hi, t.up _ _ _ (show N - 1 ≤ N by omega) hN g, Bool.or_true]
    unfold May
    rw [fi, if_pos rfl, c]
    exact g
/-- gets to the top's number, and there's somebody out who may go there -/
theorem moves_open {T i : Nat} (t : Top k G T) (hS : Rises k G T S ∨ Sinks k G T S) (hc : T < cnt k (fun i => S i || G T i)) (hi : i < k) : Moves k G S i ↔ G T i = true := by
  constructor
  · rintro ⟨U, r, m⟩
    unfold May at m
    have := cnt_le k U
    by_cases u : U i = true
    · rw [if_pos u] at m
      have := cnt_pos hi u
      exact t.all (by omega) m
    · rw [if_neg u] at m
      have u' : U i = false := by simpa using u
      have c := cnt_le k (flip U i)
      rw [cnt_flip_up hi u'] at c
      exact t.all (by omega) m
  · intro g
    obtain ⟨U, r, c⟩ := hS.elim (fun h => h.to t) (fun h => h.to t)
    by_cases u : U i = true
    · -- somebody j is out: exchange them
      have hf := fast_inv t r
      have ce : cnt k (fun i => U i || G T i) = cnt k (fun i => S i || G T i) := cnt_congr fun j hj => by
        cases q : G T j with
        | true => rw [Bool.or_true, Bool.or_true]
        | false => rw [Bool.or_false, Bool.or_false, hf j hj q]
      obtain ⟨j, hj, h1, h2⟩ := cnt_ex (k := k) (S := U) (U := fun i => U i || G T i) (by omega)
      have gj : G T j = true := by rw [h2] at h1; exact h1
      have ij : i ≠ j := fun e => by rw [e, h2] at u; cases u
      have s1 : Step k G U (flip U j) := .up hj h2 (by rw [c]; exact gj)
      have c1 : cnt k (flip U j) = T + 1 := by rw [cnt_flip_up hj h2, c]
      refine ⟨flip U j, r.step s1, ?_⟩
      unfold May
      rw [flip_ne _ ij, u, if_pos rfl, c1, Nat.add_sub_cancel]
      exact g
    · refine ⟨U, r, ?_⟩
      unfold May
      rw [if_neg u, c]
      exact g
/-- stuck at some number up to N, or not before it -/
theorem stuck_or (N : Nat) : (∃ n, n < N ∧ StuckLow k G n S) ∨ ∀ n, cnt k S ≤ n → n < N → n < cnt k (fun i => S i || G n i) := by
  by_cases h : cnt k S ≤ N
  · rcases low_or (k := k) (G := G) (S := S) h with ⟨n, a, b⟩ | r
    · exact .inl ⟨n, a, b⟩
    · exact .inr r.2
  · exact .inr fun n a b => by omega
/-- the three sorts of lots -/
theorem sorts {T : Nat} (t : Top k G T) : (∃ N, N ≤ T ∧ StuckLow k G N S) ∨ (∃ N, N ≤ k - 1 - T ∧ StuckLow k (Th.dual k G) N (co S)) ∨ ((Rises k G T S ∨ Sinks k G T S) ∧ T < cnt k (fun i => S i || G T i)) := by
  have tl := t.lt
  by_cases h : cnt k S ≤ T
  · rcases stuck_or (k := k) (G := G) (S := S) (T + 1) with ⟨N, a, b⟩ | r
    · exact .inl ⟨N, by omega, b⟩
    · exact .inr (.inr ⟨.inl ⟨h, fun n a b => r n a (by omega)⟩, r T h (by omega)⟩)
  · have c0 := cnt_co k S
    rcases stuck_or (k := k) (G := Th.dual k G) (S := co S) (k - 1 - T + 1) with ⟨N, a, b⟩ | r
    · exact .inr (.inl ⟨N, by omega, b⟩)
    · refine .inr (.inr ⟨.inr ⟨by omega, fun s a b => ?_⟩, ?_⟩)
      · have cle := cnt_le k S
        have q := r (k - 1 - s) (by omega) (by omega)
        have e : (fun i => co S i || Th.dual k G (k - 1 - s) i) = co (fun i => S i && !G s i) := by
          rw [co_or]
          funext i
          show (!(S i && !Th.dual k G (k - 1 - s) i)) = !(S i && !G s i)
          have := dual_dual_at (G := G) (k := k) (s := s) (by omega) i
          unfold Th.dual at this ⊢
          rw [this]
        rw [e] at q
        have c1 := cnt_co k (fun i => S i && !G s i)
        omega
      · have := cnt_mono (k := k) (S := S) (U := fun i => S i || G T i) fun i _ hs => by show (S i || G T i) = true; rw [hs]; rfl
        omega
theorem may_co {i : Nat} (hi : i < k) : May k (Th.dual k G) (co U) i ↔ May k G U i := by
  have c0 := cnt_co k U
  have cl := cnt_le k U
  unfold May Th.dual
  cases u : U i with
  | true =>
    have := cnt_pos hi u
    have e : co U i = false := by unfold co; rw [u]; rfl
    rw [e, if_neg Bool.false_ne_true, if_pos rfl, show k - 1 - cnt k (co U) = cnt k U - 1 by omega]
  | false =>
    have e : co U i = true := by unfold co; rw [u]; rfl
    have := cnt_pos (S := co U) hi e
    rw [e, if_pos rfl, if_neg Bool.false_ne_true, show k - 1 - (cnt k (co U) - 1) = cnt k U by omega]
theorem moves_co {i : Nat} (hi : i < k) : Moves k (Th.dual k G) (co S) i ↔ Moves k G S i := by
  constructor
  · rintro ⟨U, r, m⟩
    refine ⟨co U, ?_, ?_⟩
    · refine Reach.codual ?_
      rw [co_co]
      exact r
    · rw [← may_co hi, co_co]
      exact m
  · rintro ⟨U, r, m⟩
    exact ⟨co U, r.dual, (may_co hi).mpr m⟩
/-- stuck from above at N (of the turned sea): who moves -/
theorem moves_high {N T i : Nat} (h : StuckLow k (Th.dual k G) N (co S)) (t : Top k G T) (hN : N ≤ k - 1 - T) (hi : i < k) : Moves k G S i ↔ 0 < N ∧ G (k - N) i = true := by
  have tl := t.lt
  rw [← moves_co hi, moves_low h t.dual hN hi]
  constructor
  · rintro ⟨a, b⟩
    refine ⟨a, ?_⟩
    unfold Th.dual at b
    rw [show k - N = k - 1 - (N - 1) by omega]
    exact b
  · rintro ⟨a, b⟩
    refine ⟨a, ?_⟩
    unfold Th.dual
    rw [show k - 1 - (N - 1) = k - N by omega]
    exact b
end
end Th
namespace Th
section
variable {k : Nat} {G : Nat → Nat → Bool} {S U W : Nat → Bool}
def Sub (k : Nat) (A B : Nat → Bool) : Prop := ∀ i, i < k → A i = true → B i = true
/-- so many of Z, such that each set of a nested family is among them or they among it -/
theorem chain (F : Nat → Nat → Bool) (P : Nat → Prop) (nest : ∀ s s', P s → P s' → Sub k (F s) (F s') ∨ Sub k (F s') (F s)) (Z : Nat → Bool) (inZ : ∀ s, P s → Sub k (F s) Z) :
    ∀ m, m ≤ cnt k Z → ∃ A : Nat → Bool, Sub k A Z ∧ cnt k A = m ∧ (∀ i, ¬ i < k → A i = false) ∧ ∀ s, P s → Sub k A (F s) ∨ Sub k (F s) A := by
  intro m
  induction m with
  | zero =>
    intro _
    have e : ∀ n, cnt n (fun _ => false) = 0 := fun n => by
      induction n with
      | zero => rfl
      | succ n ih => rw [cnt_succ, ih]; rfl
    exact ⟨fun _ => false, (fun _ _ h => by cases h), e k, (fun _ _ => rfl), fun s _ => .inl (fun _ _ h => by cases h)⟩
  | succ m ih =>
    intro hm
    obtain ⟨A, a1, a2, a3, a4⟩ := ih (by omega)
    -- a smallest set of the family that isn't among them, or Z
    have pick : ∃ i, i < k ∧ A i = false ∧ Z i = true ∧ ∀ s, P s → ¬ Sub k (F s) A → F s i = true := by
      -- by how many members
      have go : ∀ n, (∃ s, P s ∧ ¬ Sub k (F s) A ∧ cnt k (F s) ≤ n) → ∃ i, i < k ∧ A i = false ∧ Z i = true ∧ ∀ s, P s → ¬ Sub k (F s) A → F s i = true := by
        intro n
        induction n using Nat.strongRecOn with
        | _ n ih2 =>
          rintro ⟨s, ps, hs, hn⟩
          by_cases q : ∃ s', P s' ∧ ¬ Sub k (F s') A ∧ cnt k (F s') < cnt k (F s)
          · obtain ⟨s', ps', hs', hlt⟩ := q
            exact ih2 (cnt k (F s')) (by omega) ⟨s', ps', hs', Nat.le_refl _⟩
          · have : ∃ i, i < k ∧ F s i = true ∧ A i = false := by
              refine Classical.byContradiction fun w => hs fun i hi f => ?_
              cases e : A i with
              | true => rfl
              | false => exact absurd ⟨i, hi, f, e⟩ w
            obtain ⟨i, hi, f, e⟩ := this
            refine ⟨i, hi, e, inZ s ps i hi f, fun s' ps' hs' => ?_⟩
            rcases nest s s' ps ps' with w | w
            · exact w i hi f
            · have hge : cnt k (F s) ≤ cnt k (F s') := by
                refine Classical.byContradiction fun v => q ⟨s', ps', hs', by omega⟩
              exact cnt_eq w hge i hi f
      by_cases q : ∃ s, P s ∧ ¬ Sub k (F s) A
      · obtain ⟨s, ps, hs⟩ := q
        exact go _ ⟨s, ps, hs, Nat.le_refl _⟩
      · obtain ⟨i, hi, z, e⟩ := cnt_ex (k := k) (S := A) (U := Z) (by omega)
        exact ⟨i, hi, e, z, fun s ps hs => absurd ⟨s, ps, hs⟩ q⟩
    obtain ⟨i, hi, e, z, hp⟩ := pick
    refine ⟨flip A i, fun j hj h => ?_, by rw [cnt_flip_up hi e, a2], fun j hj => ?_, fun s ps => ?_⟩
    · by_cases q : j = i
      · rw [q]; exact z
      · rw [flip_ne _ q] at h
        exact a1 j hj h
    · rw [flip_ne _ (show j ≠ i by omega)]
      exact a3 j hj
    · by_cases q : Sub k (F s) A
      · refine .inr fun j hj h => ?_
        by_cases w : j = i
        · subst w
          have := q j hj h
          rw [e] at this
          cases this
        · rw [flip_ne _ w]
          exact q j hj h
      · rcases a4 s ps with w | w
        · refine .inl fun j hj h => ?_
          by_cases v : j = i
          · rw [v]; exact hp s ps q
          · rw [flip_ne _ v] at h
            exact w j hj h
        · exact absurd w q
theorem cnt_diff {A B : Nat → Bool} (h : Sub k B A) : cnt k (fun i => A i && !B i) + cnt k B = cnt k A := by
  have e := cnt_split (k := k) A B
  have e2 : cnt k (fun i => A i && B i) = cnt k B := cnt_congr fun i hi => by
    cases b : B i with
    | true => rw [h i hi b]; rfl
    | false => rw [Bool.and_false]
  omega
theorem cnt_none {A : Nat → Bool} (h : ∀ i, i < k → A i = false) : cnt k A = 0 := by
  have := cnt_congr (k := k) (S := A) (U := fun _ => false) h
  have e : ∀ n, cnt n (fun _ => false) = 0 := fun n => by
    induction n with
    | zero => rfl
    | succ n ih => rw [cnt_succ, ih]; rfl
  rw [this, e]
/-- how few can come to lie here, of a lot that is stuck at N -/
theorem low_counts {N T n : Nat} (h : StuckLow k G N S) (t : Top k G T) (hN : N ≤ T) (hn : n ≤ N) : (∃ U, Reach k G S U ∧ cnt k U = n) ↔ ∀ m, m < N → m + 1 ≤ n + cnt k (G m) := by
  constructor
  · rintro ⟨U, r, c⟩ m hm
    by_cases z : n ≤ m
    · have q := (h.same t hN r).2.1 m (by omega) hm
      have e := cnt_or_not (k := k) U (G m)
      have e2 := cnt_mono (k := k) (S := fun i => G m i && !U i) (U := G m) fun i _ hh => by revert hh; cases G m i <;> simp
      omega
    · omega
  · intro hc
    have cf := h.cnt_full t hN
    -- the goers at N, so many of them out: the shallowest ones
    have cR : cnt k (fun i => S i && !G N i) + cnt k (G N) = N := by
      have e := cnt_or_not (k := k) (G N) S
      have e1 : (fun i => G N i || S i) = (fun i => S i || G N i) := funext fun i => Bool.or_comm _ _
      rw [e1] at e
      omega
    have hle : N - n ≤ cnt k (G N) := by
      by_cases z : N = 0
      · omega
      · have q := hc (N - 1) (by omega)
        have := cnt_mono (k := k) (S := G (N - 1)) (U := G N) fun i _ g => t.up _ _ _ (by omega) hN g
        omega
    obtain ⟨A, a1, a2, a3, a4⟩ := chain (k := k) G (fun m => m ≤ N) (fun s s' hs hs' => by
      by_cases z : s ≤ s'
      · exact .inl fun i _ g => t.up _ _ _ z (by omega) g
      · exact .inr fun i _ g => t.up _ _ _ (by omega) (by omega) g) (G N) (fun s hs i _ g => t.up _ _ _ hs hN g) (N - n) hle
    -- all others of the fullest one
    have hout : ∀ i, ¬ i < k → (fun i => if i < k then (S i || G N i) && !A i else S i) i = S i := fun i hi => by show (if i < k then (S i || G N i) && !A i else S i) = S i; rw [if_neg hi]
    have hin : ∀ i, i < k → (fun i => if i < k then (S i || G N i) && !A i else S i) i = ((S i || G N i) && !A i) := fun i hi => by show (if i < k then (S i || G N i) && !A i else S i) = _; rw [if_pos hi]
    have subA : Sub k A (fun i => S i || G N i) := fun i hi q => by show (S i || G N i) = true; rw [a1 i hi q, Bool.or_true]
    have cU : cnt k (fun i => if i < k then (S i || G N i) && !A i else S i) = n := by
      rw [cnt_congr hin]
      have := cnt_diff subA
      omega
    have or_eq : ∀ i, i < k → ((fun i => if i < k then (S i || G N i) && !A i else S i) i || G N i) = (S i || G N i) := fun i hi => by
      rw [hin i hi]
      cases q : A i with
      | true =>
        have := a1 i hi q
        rw [this, Bool.or_true, Bool.or_true]
      | false => cases S i <;> cases G N i <;> rfl
    have sl : StuckLow k G N (fun i => if i < k then (S i || G N i) && !A i else S i) := by
      refine ⟨by omega, fun m x y => ?_, ?_⟩
      · have q := hc m y
        -- all of the fullest one but those of A that aren't goers at m
        have e1 : cnt k (fun i => (fun i => if i < k then (S i || G N i) && !A i else S i) i || G m i) = cnt k (fun i => (S i || G N i) && !(A i && !G m i)) := cnt_congr fun i hi => by
          rw [hin i hi]
          cases g : G m i with
          | true =>
            rw [t.up _ _ _ (show m ≤ N by omega) hN g]
            cases S i <;> cases A i <;> rfl
          | false => cases S i <;> cases G N i <;> cases A i <;> rfl
        have sub2 : Sub k (fun i => A i && !G m i) (fun i => S i || G N i) := fun i hi w => subA i hi (by have w' : (A i && !G m i) = true := w; revert w'; cases A i <;> simp)
        have e2 := cnt_diff sub2
        rw [e1]
        rcases a4 m (by omega) with w | w
        · have e3 : cnt k (fun i => A i && !G m i) = 0 := cnt_none fun i hi => by
            cases q : A i with
            | false => rfl
            | true => rw [w i hi q]; rfl
          omega
        · have e3 := cnt_diff w
          omega
      · rw [cnt_congr or_eq]
        omega
    exact ⟨_, (h.iff t hN hout).mpr ⟨sl, or_eq⟩, cU⟩
/-- how many can come to lie here, of a lot that gets to the top's number -/
theorem open_counts {T n : Nat} (t : Top k G T) (hS : Rises k G T S ∨ Sinks k G T S) (hn : T ≤ n) : (∃ U, Reach k G S U ∧ cnt k U = n) ↔ n ≤ cnt k (fun i => S i || G T i) ∧ ∀ s, T ≤ s → s < k → n ≤ s + cnt k (G s) := by
  obtain ⟨V, rV, cV⟩ := hS.elim (fun h => h.to t) (fun h => h.to t)
  have tl := t.lt
  constructor
  · rintro ⟨U, r, c⟩
    have sub : Sub k U (fun i => S i || G T i) := fun i hi u => by
      cases g : G T i with
      | true => show (S i || G T i) = true; rw [g, Bool.or_true]
      | false =>
        rw [fast_inv t r i hi g] at u
        show (S i || G T i) = true
        rw [u]; rfl
    refine ⟨by rw [← c]; exact cnt_mono sub, fun s hs hk => ?_⟩
    by_cases z : n ≤ s
    · omega
    · -- U isn't stuck from above
      have c0 := cnt_co k U
      have cle := cnt_le k U
      rcases stuck_or (k := k) (G := Th.dual k G) (S := co U) (k - 1 - T + 1) with ⟨N, a, b⟩ | q
      · exfalso
        have hr := (rV.symm.trans r).symm.dual
        have := (b.under t.dual (by omega) hr).1
        have c1 := cnt_co k V
        omega
      · have q2 := q (k - 1 - s) (by omega) (by omega)
        have e : (fun i => co U i || Th.dual k G (k - 1 - s) i) = co (fun i => U i && !G s i) := by
          rw [co_or]
          funext i
          show (!(U i && !Th.dual k G (k - 1 - s) i)) = !(U i && !G s i)
          have := dual_dual_at (G := G) (k := k) (s := s) hk i
          unfold Th.dual at this ⊢
          rw [this]
        rw [e] at q2
        have c1 := cnt_co k (fun i => U i && !G s i)
        have c2 := cnt_split (k := k) U (G s)
        have c3 := cnt_mono (k := k) (S := fun i => U i && G s i) (U := G s) fun i _ h => by revert h; cases U i <;> simp
        omega
  · rintro ⟨h1, h2⟩
    have cR : cnt k (fun i => S i && !G T i) + cnt k (G T) = cnt k (fun i => S i || G T i) := by
      have e := cnt_or_not (k := k) (G T) S
      have e1 : (fun i => G T i || S i) = (fun i => S i || G T i) := funext fun i => Bool.or_comm _ _
      rw [e1] at e
      omega
    have rT : cnt k (fun i => S i && !G T i) ≤ T := by
      refine Nat.le_trans (cnt_mono (U := V) fun i hi q => ?_) (Nat.le_of_eq cV)
      have q' : (S i && !G T i) = true := q
      have g : G T i = false := by revert q'; cases G T i <;> cases S i <;> simp
      have s : S i = true := by revert q'; cases G T i <;> cases S i <;> simp
      rw [fast_inv t rV i hi g]
      exact s
    obtain ⟨A, a1, a2, a3, a4⟩ := chain (k := k) G (fun s => T ≤ s ∧ s < k) (fun s s' hs hs' => by
      by_cases z : s ≤ s'
      · exact .inr fun i _ g => t.dn _ _ _ hs.1 z hs'.2 g
      · exact .inl fun i _ g => t.dn _ _ _ hs'.1 (by omega) hs.2 g) (G T) (fun s hs i _ g => t.dn _ _ _ (Nat.le_refl _) hs.1 hs.2 g) (n - cnt k (fun i => S i && !G T i)) (by omega)
    have hout : ∀ i, ¬ i < k → (fun i => if i < k then (S i && !G T i) || A i else S i) i = S i := fun i hi => by show (if i < k then (S i && !G T i) || A i else S i) = S i; rw [if_neg hi]
    have hin : ∀ i, i < k → (fun i => if i < k then (S i && !G T i) || A i else S i) i = ((S i && !G T i) || A i) := fun i hi => by show (if i < k then (S i && !G T i) || A i else S i) = _; rw [if_pos hi]
    have cU : cnt k (fun i => if i < k then (S i && !G T i) || A i else S i) = n := by
      rw [cnt_congr hin, cnt_or_not]
      have : cnt k (fun i => A i && !(S i && !G T i)) = cnt k A := cnt_congr fun i hi => by
        cases q : A i with
        | false => rfl
        | true => rw [a1 i hi q]; cases S i <;> rfl
      omega
    refine ⟨_, open_reach t hS ?_ (fun i hi g => ?_) hout, cU⟩
    · by_cases z : n = T
      · exact .inl ⟨by omega, fun m x y => by omega⟩
      · refine .inr ⟨by omega, fun s x y => ?_⟩
        rw [cU] at y
        have sk : s < k := by
          have := cnt_le k (fun i => if i < k then (S i && !G T i) || A i else S i)
          omega
        have q := h2 s x sk
        have e1 : cnt k (fun i => (fun i => if i < k then (S i && !G T i) || A i else S i) i && !G s i) ≤ cnt k (fun i => S i && !G T i) + cnt k (fun i => A i && !G s i) := by
          have e : cnt k (fun i => (fun i => if i < k then (S i && !G T i) || A i else S i) i && !G s i) ≤ cnt k (fun i => (S i && !G T i) || (A i && !G s i)) := cnt_mono fun i hi w => by
            rw [hin i hi] at w
            show ((S i && !G T i) || (A i && !G s i)) = true
            revert w
            cases S i <;> cases G T i <;> cases A i <;> cases G s i <;> simp
          have e2 := cnt_or_not (k := k) (fun i => S i && !G T i) (fun i => A i && !G s i)
          have e3 := cnt_mono (k := k) (S := fun i => (A i && !G s i) && !(S i && !G T i)) (U := fun i => A i && !G s i) fun i _ w => by revert w; cases (A i && !G s i) <;> simp
          omega
        rcases a4 s ⟨x, sk⟩ with w | w
        · have e3 : cnt k (fun i => A i && !G s i) = 0 := cnt_none fun i hi => by
            cases q : A i with
            | false => rfl
            | true => rw [w i hi q]; rfl
          omega
        · have e3 := cnt_diff w
          omega
    · show (if i < k then S i && !G T i || A i else S i) = S i
      rw [if_pos hi, g]
      cases q : A i with
      | true => rw [a1 i hi q] at g; cases g
      | false => cases S i <;> rfl
end
end Th

namespace Sh
open PySem PySem.Spec PyProof.Rows L2
def spRight : Sp := fun vs H Q _ => ∃ b : Addr, vs = [.ref b] ∧ BoxAt H b 100000 ∧ ∀ H', But b H H' → Q (.bl true) H'
end Sh

namespace Sh
open PySem PySem.Spec PyProof.Rows L2
theorem lv_ni {n : Nat} (L : List Nat) (h : L.length ≤ 100000) : Lv (n + 2) (.list ((L.map fun (i : Nat) => (i : Int)).map .int)) := lv_ints _ (by rw [List.length_map]; exact h)
theorem lv_two {n : Nat} {a b : PyData} (ha : Lv n a) (hb : Lv n b) : Lv (n + 1) (.list [a, b]) := ⟨by show 2 ≤ 100000; decide, fun e he => by
  rcases List.mem_cons.mp he with z | z
  · rw [z]; exact ha
  · rw [List.mem_singleton.mp z]; exact hb⟩
end Sh

namespace Sh
open PySem PySem.Spec PyProof.Rows L2
/-! ### windows, goers, seas beside the box -/
theorem may_mk {h t : Int} {ds : List Int} {L : List Nat} {i : Nat} : mayB h t ds L i = decide (ds.getD i 0 ≤ mk h t ds.length (near L i : Int)) := by
  unfold mayB mk
  rw [Bool.eq_iff_iff, Bool.and_eq_true, decide_eq_true_eq, decide_eq_true_eq, decide_eq_true_eq]
  constructor
  · rintro ⟨a, b⟩
    split <;> omega
  · intro a
    split at a <;> omega
theorem in_lets {h t : Int} {ds : List Int} {L : List Nat} {i : Nat} (hi : i < ds.length) : inV (.int (i : Int)) (ni (lets h t ds L ds.length)) = mayB h t ds L i := by
  rw [in_ni, Bool.eq_iff_iff, decide_eq_true_eq]
  unfold lets
  rw [List.mem_filter, List.mem_range]
  exact ⟨fun q => q.2, fun q => ⟨hi, q⟩⟩
theorem in_gs {m : Int} {ds : List Int} {i : Nat} (hi : i < ds.length) : inV (.int (i : Int)) (((gs m ds ds.length).map fun (i : Nat) => (i : Int)).map V.int) = decide (ds.getD i 0 ≤ m) := by
  rw [← ni_ints, in_ni, Bool.eq_iff_iff, decide_eq_true_eq, decide_eq_true_eq]
  unfold gs
  rw [List.mem_filter, List.mem_range, decide_eq_true_eq]
  exact ⟨fun q => q.2, fun q => ⟨hi, q⟩⟩
/-- a sea that is none of the box -/
def SeaB (K : PySem.W.Frag) (H : Hp) (b : Addr) (v : V) (h t : Int) (ds : List Int) : Prop := ∃ p q, v = .ref p ∧ SqA K H p [.int h, .int t, .ref q] ∧ SqA K H q (ds.map V.int) ∧ p ≠ b ∧ q ≠ b
theorem SeaB.but {K : PySem.W.Frag} {H H' : Hp} {b : Addr} {v : V} {h t : Int} {ds : List Int} (s : SeaB K H b v h t ds) (u : But b H H') : SeaB K H' b v h t ds := let ⟨p, q, e, hp, hq, pb, qb⟩ := s; ⟨p, q, e, (Kp.ofB u pb).sa hp, (Kp.ofB u qb).sa hq, pb, qb⟩
theorem SeaB.a {K : PySem.W.Frag} {H : Hp} {b : Addr} {v : V} {h t : Int} {ds : List Int} (s : SeaB K H b v h t ds) : SeaA K H v h t ds := let ⟨p, q, e, hp, hq, _, _⟩ := s; ⟨p, q, e, hp, hq⟩
/-- a window as it is told: None, or a new pair -/
def WinAt (H H' : Hp) (sp : V) (lo hi : Int) : Prop := (lo > hi ∧ sp = .non) ∨ (¬ lo > hi ∧ ∃ a, sp = .ref a ∧ H a = none ∧ H' a = some (.tup [.int lo, .int hi]))
def spWin (K : PySem.W.Frag) : Sp := fun vs H Q _ => ∃ (v : V) (h t d : Int) (j : Nat) (ds : List Int), vs = [v, .int (j : Int)] ∧ SeaA K H v h t ds ∧ ds[j]? = some d ∧ ∀ (sp : V) (H' : Hp), Same H H' → WinAt H H' sp (lowI h d) (highI t ds.length d) → Q sp H'
theorem win_imp {K : PySem.W.Frag} (vs : List V) (H : Hp) (Q : VK) (E : XK) (z : spWin K vs H Q E) : spWindow K vs H Q E := by
  obtain ⟨v, h, t, d, j, ds, rfl, hv, hj, q⟩ := z
  exact ⟨v, h, t, d, j, ds, rfl, hv, hj, fun c => q .non H (Same.refl _) (.inl ⟨c, rfl⟩), fun c p np => q (.ref p) _ (same_new np) (.inr ⟨c, p, rfl, np, upd_same⟩)⟩
end Sh

namespace Sh
open PySem PySem.Spec PyProof.Rows L2
/-! ### lots as sets, crossings of lots -/
def mem (L : List Nat) : Nat → Bool := fun i => decide (i ∈ L)
theorem cnt_mem {c : Nat} {L : List Nat} (h : Lot c L) : Th.cnt c (mem L) = L.length := by
  unfold Th.cnt mem
  rw [List.countP_eq_length_filter]
  exact congrArg List.length h.mem_eq.symm
theorem mem_out {c : Nat} {L : List Nat} (h : Lot c L) {i : Nat} (hi : ¬ i < c) : mem L i = false := decide_eq_false fun z => hi (h.lt i z)
theorem lot_ext {c : Nat} {L M : List Nat} (h : Lot c L) (h' : Lot c M) (e : ∀ i, i < c → mem L i = mem M i) : L = M := by
  rw [h.mem_eq, h'.mem_eq]
  exact List.filter_congr fun i hi => e i (List.mem_range.mp hi)
/-- who goes at a step -/
def Gof (h t : Int) (ds : List Int) : Nat → Nat → Bool := fun s i => decide (ds.getD i 0 ≤ mk h t ds.length (s : Int))
theorem near_cnt {c : Nat} {L : List Nat} (h : Lot c L) {i : Nat} (hi : i < c) : near L i = if i ∈ L then L.length - 1 else L.length := by
  by_cases z : i ∈ L
  · rw [if_pos z, near_in h]
    have e := filter_filter_len (fun j => decide (j ∈ L)) (fun j => decide (j = i)) (List.range c)
    have e1 : ((List.range c).filter fun j => decide (j ∈ L)).length = L.length := congrArg List.length h.mem_eq.symm
    have e2 : ((List.range c).filter fun j => decide (j ∈ L) && decide (j = i)).length = 1 := by
      rw [← one_of hi]
      congr 1
      refine List.filter_congr fun a _ => ?_
      by_cases q : a = i
      · subst q
        rw [decide_eq_true z]
        rfl
      · rw [decide_eq_false q, Bool.and_false]
    omega
  · rw [if_neg z]
    exact near_out z
theorem may_G {h t : Int} {ds : List Int} {L : List Nat} {i : Nat} : mayB h t ds L i = Gof h t ds (near L i) i := may_mk
/-- the standing behind i's going over -/
def gone (L : List Nat) (i : Nat) : List Nat := if i ∈ L then L.filter (fun j => !decide (j = i)) else L.filter (fun j => decide (j < i)) ++ i :: L.filter (fun j => decide (i < j))
theorem gone_lot {c : Nat} {L : List Nat} (h : Lot c L) {i : Nat} (hi : i < c) : Lot c (gone L i) := by
  unfold gone
  split
  · exact h.filter _
  · refine ⟨List.pairwise_append.mpr ⟨h.up.filter _, List.pairwise_cons.mpr ⟨fun a ha => ?_, h.up.filter _⟩, fun a ha b hb => ?_⟩, fun a ha => ?_⟩
    · simpa using (List.mem_filter.mp ha).2
    · have h1 : a < i := by simpa using (List.mem_filter.mp ha).2
      rcases List.mem_cons.mp hb with q | q
      · omega
      · have : i < b := by simpa using (List.mem_filter.mp q).2
        omega
    · rcases List.mem_append.mp ha with q | q
      · exact h.lt a (List.mem_filter.mp q).1
      · rcases List.mem_cons.mp q with q | q
        · omega
        · exact h.lt a (List.mem_filter.mp q).1
theorem gone_mem {L : List Nat} {i : Nat} : mem (gone L i) = Th.flip (mem L) i := by
  funext j
  unfold mem gone
  by_cases z : i ∈ L
  · rw [if_pos z]
    by_cases e : j = i
    · subst e
      rw [Th.flip_self]
      simp [z]
    · rw [Th.flip_ne _ e]
      simp [e]
  · rw [if_neg z]
    by_cases e : j = i
    · subst e
      rw [Th.flip_self]
      simp [z]
    · rw [Th.flip_ne _ e]
      by_cases q : j < i
      · simp [e, q]
        omega
      · have : i < j := by omega
        simp [e, q, this]
/-- one comes to the other -/
def Rl (h t : Int) (ds : List Int) (L M : List Nat) : Prop := Th.Reach ds.length (Gof h t ds) (mem L) (mem M)
theorem rl_one {h t : Int} {ds : List Int} {L : List Nat} {i : Nat} (hL : Lot ds.length L) (hi : i < ds.length) (m : mayB h t ds L i = true) : Rl h t ds L (gone L i) := by
  unfold Rl
  rw [gone_mem]
  rw [may_G, near_cnt hL hi] at m
  refine .one ?_
  by_cases z : i ∈ L
  · rw [if_pos z] at m
    exact .dn hi (decide_eq_true z) (by rw [cnt_mem hL]; exact m)
  · rw [if_neg z] at m
    exact .up hi (decide_eq_false z) (by rw [cnt_mem hL]; exact m)
/-- behind its going over it may go back -/
theorem may_back {h t : Int} {ds : List Int} {L : List Nat} {i : Nat} (hL : Lot ds.length L) (hi : i < ds.length) : near (gone L i) i = near L i := by
  rw [near_cnt (gone_lot hL hi) hi, near_cnt hL hi]
  have m : mem (gone L i) i = !mem L i := by rw [gone_mem, Th.flip_self]
  have c1 := cnt_mem hL
  have c2 := cnt_mem (gone_lot hL hi)
  rw [gone_mem] at c2
  by_cases z : i ∈ L
  · have z2 : ¬ i ∈ gone L i := fun q => by
      have : mem (gone L i) i = true := decide_eq_true q
      rw [m, show mem L i = true from decide_eq_true z] at this
      cases this
    have := Th.cnt_flip_dn (k := ds.length) (S := mem L) hi (decide_eq_true z)
    rw [if_pos z, if_neg z2]
    omega
  · have z2 : i ∈ gone L i := by
      have : mem (gone L i) i = true := by rw [m, show mem L i = false from decide_eq_false z]; rfl
      exact of_decide_eq_true this
    have := Th.cnt_flip_up (k := ds.length) (S := mem L) hi (decide_eq_false z)
    rw [if_neg z, if_pos z2]
    omega
theorem top_of (h t : Int) (ds : List Int) (hk : 0 < ds.length) : Th.Top ds.length (Gof h t ds) (topI h t ds.length).toNat := by
  have t0 := top_lo h t ds.length
  have t1 := top_hi h t hk
  refine ⟨by omega, fun s s' i a b g => ?_, fun s s' i a b c g => ?_⟩
  · have g' : ds.getD i 0 ≤ mk h t ds.length (s : Int) := of_decide_eq_true g
    refine decide_eq_true (Int.le_trans g' ?_)
    have b' : (s' : Int) ≤ topI h t ds.length := by omega
    clear g g' t0 t1
    unfold mk topI at *
    repeat' split
    all_goals (repeat' split at b')
    all_goals omega
  · have g' : ds.getD i 0 ≤ mk h t ds.length (s' : Int) := of_decide_eq_true g
    refine decide_eq_true (Int.le_trans g' ?_)
    have b' : topI h t ds.length ≤ (s : Int) := by omega
    clear g g' t0 t1
    unfold mk topI at *
    repeat' split
    all_goals (repeat' split at b')
    all_goals omega
/-! ### what is told of it -/
def IsMost (h t : Int) (ds : List Int) (L : List Nat) (m : Nat) : Prop := (∃ M, Lot ds.length M ∧ Rl h t ds L M ∧ M.length = m) ∧ ∀ M, Lot ds.length M → Rl h t ds L M → M.length ≤ m
def IsLeast (h t : Int) (ds : List Int) (L : List Nat) (m : Nat) : Prop := (∃ M, Lot ds.length M ∧ Rl h t ds L M ∧ M.length = m) ∧ ∀ M, Lot ds.length M → Rl h t ds L M → m ≤ M.length
def IsMovers (h t : Int) (ds : List Int) (L ms : List Nat) : Prop := Lot ds.length ms ∧ ∀ i, i < ds.length → (i ∈ ms ↔ ∃ M, Lot ds.length M ∧ Rl h t ds L M ∧ mayB h t ds M i = true)
theorem IsMost.uniq {h t : Int} {ds : List Int} {L L' : List Nat} {m m' : Nat} (r : Rl h t ds L L') (a : IsMost h t ds L m) (b : IsMost h t ds L' m') : m = m' := by
  obtain ⟨⟨M, l1, r1, e1⟩, h1⟩ := a
  obtain ⟨⟨M', l2, r2, e2⟩, h2⟩ := b
  have := h1 M' l2 (r.trans r2)
  have := h2 M l1 (r.symm.trans r1)
  omega
theorem IsLeast.uniq {h t : Int} {ds : List Int} {L L' : List Nat} {m m' : Nat} (r : Rl h t ds L L') (a : IsLeast h t ds L m) (b : IsLeast h t ds L' m') : m = m' := by
  obtain ⟨⟨M, l1, r1, e1⟩, h1⟩ := a
  obtain ⟨⟨M', l2, r2, e2⟩, h2⟩ := b
  have := h1 M' l2 (r.trans r2)
  have := h2 M l1 (r.symm.trans r1)
  omega
theorem IsMovers.uniq {h t : Int} {ds : List Int} {L L' ms ms' : List Nat} (r : Rl h t ds L L') (a : IsMovers h t ds L ms) (b : IsMovers h t ds L' ms') : ms = ms' := by
  refine lot_ext a.1 b.1 fun i hi => ?_
  unfold mem
  rw [decide_eq_decide, a.2 i hi, b.2 i hi]
  exact ⟨fun ⟨M, l, q, m⟩ => ⟨M, l, r.symm.trans q, m⟩, fun ⟨M, l, q, m⟩ => ⟨M, l, r.trans q, m⟩⟩
/-- a sea whose draughts are a tuple is handed in -/
def SeaD (K : PySem.W.Frag) (H : Hp) (v : V) (h t : Int) (ds : List Int) : Prop := ∃ p q, v = .ref p ∧ SqA K H p [.int h, .int t, .ref q] ∧ SqT K H q (ds.map V.int)
theorem SeaD.same {K : PySem.W.Frag} {H H' : Hp} {v : V} {h t : Int} {ds : List Int} (s : SeaD K H v h t ds) (e : Same H H') : SeaD K H' v h t ds := let ⟨p, q, a, b, c⟩ := s; ⟨p, q, a, Same.sqA e b, Same.tup e c⟩
theorem SeaD.a {K : PySem.W.Frag} {H : Hp} {v : V} {h t : Int} {ds : List Int} (s : SeaD K H v h t ds) : SeaA K H v h t ds := let ⟨p, q, a, b, c⟩ := s; ⟨p, q, a, b, .inr c⟩
def spMost (K : PySem.W.Frag) : Sp := fun vs H Q _ => ∃ (v l : V) (h t : Int) (ds : List Int) (L : List Nat), vs = [v, l] ∧ SeaD K H v h t ds ∧ LotA K H l L ∧ ds.length ≤ 60 ∧ 0 < ds.length ∧ Lot ds.length L ∧ ∀ (H' : Hp) (m : Nat), Same H H' → IsMost h t ds L m → Q (.int (m : Int)) H'
def spLeast (K : PySem.W.Frag) : Sp := fun vs H Q _ => ∃ (v l : V) (h t : Int) (ds : List Int) (L : List Nat), vs = [v, l] ∧ SeaD K H v h t ds ∧ LotA K H l L ∧ ds.length ≤ 60 ∧ 0 < ds.length ∧ Lot ds.length L ∧ ∀ (H' : Hp) (m : Nat), Same H H' → IsLeast h t ds L m → Q (.int (m : Int)) H'
def spMovers (K : PySem.W.Frag) : Sp := fun vs H Q _ => ∃ (v l : V) (h t : Int) (ds : List Int) (L : List Nat), vs = [v, l] ∧ SeaD K H v h t ds ∧ LotA K H l L ∧ ds.length ≤ 60 ∧ 0 < ds.length ∧ Lot ds.length L ∧
  ∀ (H' : Hp) (p : Addr) (ms : List Nat), Same H H' → H p = none → H' p = some (.lst (ni ms)) → IsMovers h t ds L ms → Q (.ref p) H'
def spComes (K : PySem.W.Frag) : Sp := fun vs H Q _ => ∃ (v l m : V) (h t : Int) (ds : List Int) (L M : List Nat), vs = [v, l, m] ∧ SeaD K H v h t ds ∧ LotA K H l L ∧ LotA K H m M ∧ ds.length ≤ 60 ∧ 0 < ds.length ∧ Lot ds.length L ∧ Lot ds.length M ∧
  ∀ (H' : Hp) (b : Bool), Same H H' → (b = true ↔ Rl h t ds L M) → Q (.bl b) H'
/-! ### turned about -/
def away (c : Nat) (L : List Nat) : List Nat := (List.range c).filter fun i => !decide (i ∈ L)
theorem away_lot (c : Nat) (L : List Nat) : Lot c (away c L) := (Lot.all c).filter _
theorem mk_turn {h t : Int} {k s : Nat} (hs : s < k) : mk t h k (s : Int) = mk h t k ((k - 1 - s : Nat) : Int) := by
  unfold mk
  split <;> split <;> omega
theorem mem_away {c : Nat} {L : List Nat} {i : Nat} (hi : i < c) : mem (away c L) i = !mem L i := by
  unfold mem away
  rw [Bool.eq_iff_iff, decide_eq_true_eq, List.mem_filter, List.mem_range]
  simp [hi]
end Sh

namespace Sh
/-! ### fleets: sums over sorts, and ships one by one -/
abbrev Srt := Int × Nat × Nat
def mny (ss : List Srt) : Nat := (ss.map fun x => x.2.1 + x.2.2).sum
theorem mny_cons (x : Srt) (l : List Srt) : mny (x :: l) = x.2.1 + x.2.2 + mny l := by
  unfold mny
  rw [List.map_cons, List.sum_cons]
theorem mny_snoc (l : List Srt) (x : Srt) : mny (l ++ [x]) = mny l + (x.2.1 + x.2.2) := by
  unfold mny
  rw [List.map_append, List.sum_append]
  simp
def ourn (ss : List Srt) : Nat := (ss.map fun x => x.2.1).sum
def gmF (ss : List Srt) (m : Int) : Nat := ((ss.filter fun x => decide (x.1 ≤ m)).map fun x => x.2.1 + x.2.2).sum
def filF (ss : List Srt) (m : Int) : Nat := (ss.map fun x => x.2.1 + if x.1 ≤ m then x.2.2 else 0).sum
def fxF (ss : List Srt) (m : Int) : List Nat := (ss.filter fun x => decide (x.1 > m)).map fun x => x.2.1
def turnF (ss : List Srt) : List Srt := ss.map fun x => (x.1, x.2.2, x.2.1)
theorem mny_turn (ss : List Srt) : mny (turnF ss) = mny ss := by
  unfold mny turnF
  rw [List.map_map]
  congr 1
  exact List.map_congr_left fun x _ => Nat.add_comm _ _
theorem turn_turn (ss : List Srt) : turnF (turnF ss) = ss := by
  unfold turnF
  rw [List.map_map]
  exact (List.map_congr_left fun x _ => rfl).trans (List.map_id ss)
/-- the ships of a fleet one by one -/
structure Rp (ss : List Srt) (k : Nat) (D : Nat → Int) (S : Nat → Bool) : Prop where
  here : ∀ P : Int → Bool, ((ss.filter fun x => P x.1).map fun x => x.2.1).sum = Th.cnt k (fun i => P (D i) && S i)
  there : ∀ P : Int → Bool, ((ss.filter fun x => P x.1).map fun x => x.2.2).sum = Th.cnt k (fun i => P (D i) && !S i)
theorem sum_two (f g : Srt → Nat) : ∀ l : List Srt, (l.map fun x => f x + g x).sum = (l.map f).sum + (l.map g).sum
  | [] => rfl
  | a :: l => by
    simp only [List.map_cons, List.sum_cons, sum_two f g l]
    omega
theorem sum_filter (P : Srt → Bool) (f : Srt → Nat) : ∀ l : List Srt, (l.map fun x => if P x = true then f x else 0).sum = ((l.filter P).map f).sum
  | [] => rfl
  | a :: l => by
    cases h : P a <;> simp [h, sum_filter P f l]
section
variable {ss : List Srt} {k : Nat} {D : Nat → Int} {S : Nat → Bool}
theorem Rp.gm (r : Rp ss k D S) (m : Int) : gmF ss m = Th.cnt k (fun i => decide (D i ≤ m)) := by
  unfold gmF
  rw [sum_two (fun x => x.2.1) (fun x => x.2.2), r.here fun d => decide (d ≤ m), r.there fun d => decide (d ≤ m)]
  exact (Th.cnt_split _ S).symm
theorem Rp.ourn (r : Rp ss k D S) : ourn ss = Th.cnt k S := by
  have e := r.here fun _ => true
  rw [List.filter_eq_self.mpr fun _ _ => rfl] at e
  exact e
theorem Rp.mny (r : Rp ss k D S) : mny ss = k := by
  have e := r.there fun _ => true
  rw [List.filter_eq_self.mpr fun _ _ => rfl] at e
  unfold Sh.mny
  rw [sum_two (fun x => x.2.1) (fun x => x.2.2), e]
  have e2 := r.ourn
  unfold Sh.ourn at e2
  rw [e2]
  exact Th.cnt_not S
theorem Rp.fil (r : Rp ss k D S) (m : Int) : filF ss m = Th.cnt k (fun i => S i || decide (D i ≤ m)) := by
  unfold filF
  rw [sum_two (fun x => x.2.1) (fun x => if x.1 ≤ m then x.2.2 else 0)]
  have e1 := r.ourn
  unfold Sh.ourn at e1
  have e2 : (ss.map fun x => if x.1 ≤ m then x.2.2 else 0).sum = Th.cnt k (fun i => decide (D i ≤ m) && !S i) := by
    rw [← r.there fun d => decide (d ≤ m), ← sum_filter]
    congr 1
    refine List.map_congr_left fun x _ => ?_
    by_cases z : x.1 ≤ m
    · rw [if_pos z, if_pos (decide_eq_true z)]
    · rw [if_neg z, if_neg (by simpa using z)]
  rw [e1, e2, Th.cnt_or_not]
theorem Rp.fx (r : Rp ss k D S) (m : Int) : (fxF ss m).sum = Th.cnt k (fun i => S i && !decide (D i ≤ m)) := by
  unfold fxF
  rw [r.here fun d => decide (d > m)]
  refine Th.cnt_congr fun i _ => ?_
  rw [Bool.and_comm]
  congr 1
  by_cases z : D i ≤ m
  · rw [decide_eq_true z, decide_eq_false (by omega)]; rfl
  · rw [decide_eq_false z, decide_eq_true (by omega)]; rfl
theorem Rp.turn (r : Rp ss k D S) : Rp (turnF ss) k D (Th.co S) := by
  refine ⟨fun P => ?_, fun P => ?_⟩
  · have e := r.there P
    unfold turnF
    rw [List.filter_map, List.map_map]
    exact e
  · have e := r.here P
    unfold turnF
    rw [List.filter_map, List.map_map]
    refine Eq.trans e ?_
    refine Th.cnt_congr fun i _ => ?_
    unfold Th.co
    rw [Bool.not_not]
end
/-- who goes at a step -/
def Gd (h t : Int) (k : Nat) (D : Nat → Int) : Nat → Nat → Bool := fun s i => decide (D i ≤ mk h t k (s : Int))
theorem top_lo' (h t : Int) (k : Nat) : 0 ≤ topI h t k := by
  unfold topI
  split <;> omega
theorem top_hi' (h t : Int) {k : Nat} (hk : 0 < k) : topI h t k < (k : Int) := by
  unfold topI
  repeat' split
  all_goals omega
theorem mk_le {h t : Int} {k : Nat} {s s' : Int} (s0 : 0 ≤ s) (a : s ≤ s') (b : s' ≤ topI h t k) : mk h t k s ≤ mk h t k s' := by
  unfold mk topI at *
  repeat' split
  all_goals (repeat' split at b)
  all_goals omega
theorem mk_dn {h t : Int} {k : Nat} {s s' : Int} (c : topI h t k ≤ s) (a : s ≤ s') (d : s' < (k : Int)) : mk h t k s' ≤ mk h t k s := by
  unfold mk topI at *
  repeat' split
  all_goals (repeat' split at c)
  all_goals omega
theorem mk_turn' {h t : Int} {k : Nat} {s : Int} : mk t h k s = mk h t k ((k : Int) - 1 - s) := by
  unfold mk
  split <;> split <;> omega
/-- up to the top the water here bounds -/
theorem mk_low {h t : Int} {k : Nat} {s : Int} (s0 : 0 ≤ s) (b : s < topI h t k) : mk h t k s = h + s := by
  unfold mk topI at *
  repeat' split at b
  all_goals split
  all_goals omega
theorem mk_high {h t : Int} {k : Nat} {s : Int} (s0 : 0 ≤ s) (b : s < (k : Int) - 1 - topI h t k) : mk t h k s = t + s := by
  unfold mk topI at *
  repeat' split at b
  all_goals split
  all_goals omega
theorem top_D (h t : Int) {k : Nat} (D : Nat → Int) (hk : 0 < k) : Th.Top k (Gd h t k D) (topI h t k).toNat := by
  have t0 := top_lo' h t k
  have t1 := top_hi' h t hk
  refine ⟨by omega, fun s s' i a b g => ?_, fun s s' i a b c g => ?_⟩
  · have g' : D i ≤ mk h t k (s : Int) := of_decide_eq_true g
    exact decide_eq_true (Int.le_trans g' (mk_le (by omega) (by omega) (by omega)))
  · have g' : D i ≤ mk h t k (s' : Int) := of_decide_eq_true g
    exact decide_eq_true (Int.le_trans g' (mk_dn (by omega) (by omega) (by omega)))
theorem Gd_turn {h t : Int} {k : Nat} {D : Nat → Int} {s i : Nat} (hs : s < k) : Gd t h k D s i = Th.dual k (Gd h t k D) s i := by
  unfold Gd Th.dual
  rw [mk_turn', show ((k : Int) - 1 - (s : Int)) = ((k - 1 - s : Nat) : Int) by omega]
/-! ### stuck, by sums -/
def StuckF (h t : Int) (ss : List Srt) (N : Nat) : Prop := ourn ss ≤ N ∧ (∀ n : Nat, ourn ss ≤ n → n < N → n < filF ss (mk h t (mny ss) (n : Int))) ∧ filF ss (mk h t (mny ss) (N : Int)) ≤ N
theorem Rp.stuck {ss : List Srt} {k : Nat} {D : Nat → Int} {S : Nat → Bool} (r : Rp ss k D S) (h t : Int) (N : Nat) : StuckF h t ss N ↔ Th.StuckLow k (Gd h t k D) N S := by
  unfold StuckF Th.StuckLow
  rw [r.ourn, r.mny, r.fil]
  have e : ∀ n : Nat, filF ss (Sh.mk h t k (n : Int)) = Th.cnt k (fun i => S i || Gd h t k D n i) := fun n => r.fil _
  simp only [e]
  exact Iff.rfl
end Sh
namespace Th
theorem StuckLow.congr {k : Nat} {G G' : Nat → Nat → Bool} {S : Nat → Bool} {N : Nat} (hN : N < k) (e : ∀ s i, s < k → G s i = G' s i) (h : StuckLow k G N S) : StuckLow k G' N S := by
  have e2 : ∀ n, n < k → cnt k (fun i => S i || G n i) = cnt k (fun i => S i || G' n i) := fun n hn => cnt_congr fun i _ => by rw [e n i hn]
  refine ⟨h.1, fun n a b => ?_, ?_⟩
  · rw [← e2 n (by omega)]
    exact h.2.1 n a b
  · rw [← e2 N hN]
    exact h.2.2
/-- gets to the top's number, and somebody may go there -/
def Open (k : Nat) (G : Nat → Nat → Bool) (T : Nat) (S : Nat → Bool) : Prop := (Rises k G T S ∨ Sinks k G T S) ∧ T < cnt k (fun i => S i || G T i)
theorem Open.congr {k : Nat} {G G' : Nat → Nat → Bool} {T : Nat} {S : Nat → Bool} (hT : T < k) (e : ∀ s i, s < k → G s i = G' s i) (h : Open k G T S) : Open k G' T S := by
  have e2 : ∀ n, n < k → cnt k (fun i => S i || G n i) = cnt k (fun i => S i || G' n i) := fun n hn => cnt_congr fun i _ => by rw [e n i hn]
  have e3 : ∀ n, n < k → cnt k (fun i => S i && !G n i) = cnt k (fun i => S i && !G' n i) := fun n hn => cnt_congr fun i _ => by rw [e n i hn]
  have cl := cnt_le k S
  refine ⟨h.1.imp (fun q => ⟨q.1, fun n a b => ?_⟩) (fun q => ⟨q.1, fun s a b => ?_⟩), ?_⟩
  · rw [← e2 n (by omega)]
    exact q.2 n a b
  · rw [← e3 s (by omega)]
    exact q.2 s a b
  · rw [← e2 T hT]
    exact h.2
theorem cnt_and_or {k : Nat} (S f : Nat → Bool) : cnt k (fun i => S i && !f i) + cnt k f = cnt k (fun i => S i || f i) := by
  have e := cnt_or_not (k := k) f S
  have e1 : (fun i => f i || S i) = (fun i => S i || f i) := funext fun i => Bool.or_comm _ _
  rw [e1] at e
  omega
theorem Open.dual {k : Nat} {G : Nat → Nat → Bool} {T : Nat} {S : Nat → Bool} (t : Top k G T) (h : Open k G T S) : Open k (Th.dual k G) (k - 1 - T) (co S) := by
  have tl := t.lt
  have c0 := cnt_co k S
  have cle := cnt_le k S
  have key : ∀ n, n < k → cnt k (fun i => co S i && !Th.dual k G (k - 1 - n) i) + cnt k (fun i => S i || G n i) = k := fun n hn => by
    have e : (fun i => co S i && !Th.dual k G (k - 1 - n) i) = co (fun i => S i || G n i) := by
      funext i
      have := dual_dual_at (G := G) (k := k) (s := n) hn i
      unfold Th.dual at this
      show (!S i && !G (k - 1 - (k - 1 - n)) i) = !(S i || G n i)
      rw [this]
      cases S i <;> cases G n i <;> rfl
    rw [e, Nat.add_comm]
    exact cnt_co k _
  have key2 : ∀ n, n < k → cnt k (fun i => co S i || Th.dual k G (k - 1 - n) i) + cnt k (fun i => S i && !G n i) = k := fun n hn => by
    have e : (fun i => co S i || Th.dual k G (k - 1 - n) i) = co (fun i => S i && !G n i) := by
      rw [co_or]
      funext i
      have := dual_dual_at (G := G) (k := k) (s := n) hn i
      unfold Th.dual at this
      show (!(S i && !G (k - 1 - (k - 1 - n)) i)) = !(S i && !G n i)
      rw [this]
    rw [e, Nat.add_comm]
    exact cnt_co k _
  obtain ⟨rs, hc⟩ := h
  have hf : cnt k (fun i => S i && !G T i) ≤ T := by
    rcases rs with q | q
    · exact Nat.le_trans (cnt_mono fun i _ w => by revert w; cases S i <;> simp) q.1
    · exact q.2 T (Nat.le_refl _) q.1
  refine ⟨?_, ?_⟩
  · rcases rs with ⟨q1, q2⟩ | ⟨q1, q2⟩
    · refine .inr ⟨by omega, fun s a b => ?_⟩
      have hk := key (k - 1 - s) (by omega)
      rw [show k - 1 - (k - 1 - s) = s by omega] at hk
      have : k - 1 - s < cnt k (fun i => S i || G (k - 1 - s) i) := by
        by_cases z : k - 1 - s = T
        · rw [z]; exact hc
        · exact q2 _ (by omega) (by omega)
      omega
    · refine .inl ⟨by omega, fun n a b => ?_⟩
      have hk := key2 (k - 1 - n) (by omega)
      rw [show k - 1 - (k - 1 - n) = n by omega] at hk
      have := q2 (k - 1 - n) (by omega) (by omega)
      omega
  · have hk := key2 T tl
    omega
/-- how few can come to lie here, of a lot that gets to the top's number -/
theorem open_counts_low {k : Nat} {G : Nat → Nat → Bool} {T n : Nat} {S : Nat → Bool} (t : Top k G T) (h : Open k G T S) (hn : n ≤ T + 1) : (∃ U, Reach k G S U ∧ cnt k U = n) ↔ cnt k (fun i => S i && !G T i) ≤ n ∧ ∀ m, m ≤ T → m + 1 ≤ n + cnt k (G m) := by
  have tl := t.lt
  have hd := h.dual t
  have oc := open_counts (n := k - n) t.dual hd.1 (by omega)
  have e1 : (∃ U, Reach k G S U ∧ cnt k U = n) ↔ ∃ U, Reach k (Th.dual k G) (co S) U ∧ cnt k U = k - n := by
    constructor
    · rintro ⟨U, r, c⟩
      refine ⟨co U, r.dual, ?_⟩
      have := cnt_co k U
      omega
    · rintro ⟨U, r, c⟩
      refine ⟨co U, ?_, ?_⟩
      · refine Reach.codual ?_
        rw [co_co]
        exact r
      · have := cnt_co k U
        omega
  have e2 : cnt k (fun i => co S i || Th.dual k G (k - 1 - T) i) + cnt k (fun i => S i && !G T i) = k := by
    have e : (fun i => co S i || Th.dual k G (k - 1 - T) i) = co (fun i => S i && !G T i) := by
      rw [co_or]
      funext i
      have := dual_dual_at (G := G) (k := k) (s := T) tl i
      unfold Th.dual at this
      show (!(S i && !G (k - 1 - (k - 1 - T)) i)) = !(S i && !G T i)
      rw [this]
    rw [e, Nat.add_comm]
    exact cnt_co k _
  rw [e1, oc]
  constructor
  · rintro ⟨a, b⟩
    refine ⟨by omega, fun m hm => ?_⟩
    have := b (k - 1 - m) (by omega) (by omega)
    unfold Th.dual at this
    rw [show k - 1 - (k - 1 - m) = m by omega] at this
    have this' : k - n ≤ k - 1 - m + cnt k (G m) := this
    omega
  · rintro ⟨a, b⟩
    refine ⟨by omega, fun s hs hk => ?_⟩
    have := b (k - 1 - s) (by omega)
    show k - n ≤ s + cnt k (G (k - 1 - s))
    omega
def IsMin (k : Nat) (G : Nat → Nat → Bool) (S : Nat → Bool) (n : Nat) : Prop := (∃ U, Reach k G S U ∧ cnt k U = n) ∧ ∀ U, Reach k G S U → n ≤ cnt k U
def IsMax (k : Nat) (G : Nat → Nat → Bool) (S : Nat → Bool) (n : Nat) : Prop := (∃ U, Reach k G S U ∧ cnt k U = n) ∧ ∀ U, Reach k G S U → cnt k U ≤ n
theorem IsMin.co {k : Nat} {G : Nat → Nat → Bool} {S : Nat → Bool} {n : Nat} (h : IsMin k (Th.dual k G) (co S) n) : n ≤ k ∧ IsMax k G S (k - n) := by
  obtain ⟨⟨U, r, c⟩, hm⟩ := h
  have cu := cnt_le k U
  refine ⟨by omega, ⟨Th.co U, ?_, ?_⟩, fun W rW => ?_⟩
  · refine Reach.codual ?_
    rw [co_co]
    exact r
  · have := cnt_co k U
    omega
  · have := hm _ rW.dual
    have := cnt_co k W
    omega
theorem IsMin.congr {k : Nat} {G G' : Nat → Nat → Bool} {S : Nat → Bool} {n : Nat} (e : ∀ s i, s < k → G s i = G' s i) (h : IsMin k G S n) : IsMin k G' S n := by
  obtain ⟨⟨U, r, c⟩, hm⟩ := h
  exact ⟨⟨U, r.congr e, c⟩, fun W rW => hm W (rW.congr fun s i hs => (e s i hs).symm)⟩
theorem stuck_min_high {k : Nat} {G : Nat → Nat → Bool} {T N : Nat} {S : Nat → Bool} (t : Top k G T) (hN : N ≤ T) (h : StuckLow k G N S) : IsMax k G S N := by
  obtain ⟨U, r, c, _⟩ := h.full t hN
  exact ⟨⟨U, r, c⟩, fun W rW => (h.under t hN rW).1⟩
end Th
namespace Sh
/-! ### the least number, as it's told -/
/-- m is the greatest of what least_in looks at -/
def LeastI (h t : Int) (ss : List Srt) (step : Int) (m : Int) : Prop :=
  (m = ((fxF ss (mk h t (mny ss) step)).sum : Int) ∨ ∃ e : Int, (e = step ∨ (∃ x ∈ ss, e = x.1 - h ∧ e < step)) ∧ 0 < e ∧ m = e - (gmF ss (mk h t (mny ss) (e - 1)) : Int)) ∧
  ((fxF ss (mk h t (mny ss) step)).sum : Int) ≤ m ∧ ∀ e : Int, (e = step ∨ (∃ x ∈ ss, e = x.1 - h ∧ e < step)) → 0 < e → e - (gmF ss (mk h t (mny ss) (e - 1)) : Int) ≤ m
/-- the ends are enough -/
theorem least_ends {h t : Int} {ss : List Srt} {N : Nat} {m0 : Int} (hm : ∀ m : Nat, m < N → mk h t (mny ss) (m : Int) = h + m)
    (ub : ∀ e : Int, (e = (N : Int) ∨ (∃ x ∈ ss, e = x.1 - h ∧ e < (N : Int))) → 0 < e → e - (gmF ss (mk h t (mny ss) (e - 1)) : Int) ≤ m0) :
    ∀ (j m : Nat), m < N → N - m = j → (m : Int) + 1 - (gmF ss (mk h t (mny ss) (m : Int)) : Int) ≤ m0 := by
  intro j
  induction j with
  | zero => intro m a b; omega
  | succ j ih =>
    intro m a b
    by_cases z : m + 1 = N
    · have := ub N (.inl rfl) (by omega)
      rw [show (N : Int) - 1 = (m : Int) by omega] at this
      omega
    · by_cases q : ∃ x ∈ ss, x.1 - h = (m : Int) + 1
      · obtain ⟨x, hx, e⟩ := q
        have := ub ((m : Int) + 1) (.inr ⟨x, hx, e.symm, by omega⟩) (by omega)
        rw [show (m : Int) + 1 - 1 = (m : Int) by omega] at this
        exact this
      · have i2 := ih (m + 1) (by omega) (by omega)
        rw [hm (m + 1) (by omega)] at i2
        rw [hm m a]
        have e : gmF ss (h + ((m + 1 : Nat) : Int)) = gmF ss (h + (m : Int)) := by
          unfold gmF
          congr 2
          refine List.filter_congr fun x hx => ?_
          rw [decide_eq_decide]
          have : ¬ x.1 - h = (m : Int) + 1 := fun w => q ⟨x, hx, w⟩
          omega
        rw [e] at i2
        omega
section
variable {ss : List Srt} {k : Nat} {D : Nat → Int} {S : Nat → Bool} {h t : Int}
theorem least_low (r : Rp ss k D S) {T N : Nat} (tp : Th.Top k (Gd h t k D) T) (hN : N ≤ T) (sl : Th.StuckLow k (Gd h t k D) N S) (hm : ∀ m : Nat, m < N → mk h t k (m : Int) = h + m) {m0 : Int} (L : LeastI h t ss (N : Int) m0) :
    ∃ n : Nat, m0 = (n : Int) ∧ Th.IsMin k (Gd h t k D) S n := by
  obtain ⟨l1, l2, l3⟩ := L
  have km := r.mny
  have hends := least_ends (h := h) (t := t) (ss := ss) (N := N) (by rw [km]; exact hm) l3
  have efx := r.fx (mk h t (mny ss) (N : Int))
  rw [km] at efx hends l1 l2 l3
  have gme : ∀ m : Nat, gmF ss (mk h t k (m : Int)) = Th.cnt k (Gd h t k D m) := fun m => r.gm _
  have fxle : (fxF ss (mk h t k (N : Int))).sum ≤ Th.cnt k S := by
    rw [efx]
    exact Th.cnt_mono fun i _ w => by revert w; cases S i <;> simp
  have m0N : m0 ≤ (N : Int) := by
    have := sl.1
    rcases l1 with e | ⟨e, he, e0, e1⟩
    · omega
    · rcases he with he | ⟨x, _, _, he⟩ <;> omega
  have cond : ∀ m, m < N → m + 1 ≤ m0.toNat + Th.cnt k (Gd h t k D m) := fun m a => by
    have := hends _ m a rfl
    rw [gme] at this
    omega
  refine ⟨m0.toNat, by omega, (Th.low_counts sl tp hN (by omega)).mpr cond, fun U rU => ?_⟩
  have ur := sl.under tp hN rU
  have lc := (Th.low_counts sl tp hN ur.1).mp ⟨U, rU, rfl⟩
  rcases l1 with e | ⟨e, he, e0, e1⟩
  · have : Th.cnt k (fun i => S i && !Gd h t k D N i) ≤ Th.cnt k U := Th.cnt_mono fun i hi w => by
      have := ur.2 i hi
      revert w this
      cases S i <;> cases U i <;> cases Gd h t k D N i <;> simp
    have e3 : (fxF ss (mk h t k (N : Int))).sum = Th.cnt k (fun i => S i && !Gd h t k D N i) := efx
    omega
  · have eN : e ≤ (N : Int) := by rcases he with he | ⟨x, _, _, he⟩ <;> omega
    have := lc (e - 1).toNat (by omega)
    rw [show e - 1 = (((e - 1).toNat : Nat) : Int) by omega, gme] at e1
    omega
theorem least_open (r : Rp ss k D S) {T : Nat} (tp : Th.Top k (Gd h t k D) T) (op : Th.Open k (Gd h t k D) T S) (hm : ∀ m : Nat, m < T → mk h t k (m : Int) = h + m) {m0 : Int} (L : LeastI h t ss (T : Int) m0) :
    ∃ n : Nat, m0 = (n : Int) ∧ Th.IsMin k (Gd h t k D) S n := by
  obtain ⟨l1, l2, l3⟩ := L
  have km := r.mny
  have hends := least_ends (h := h) (t := t) (ss := ss) (N := T) (by rw [km]; exact hm) l3
  have efx := r.fx (mk h t (mny ss) (T : Int))
  rw [km] at efx hends l1 l2 l3
  have e3 : (fxF ss (mk h t k (T : Int))).sum = Th.cnt k (fun i => S i && !Gd h t k D T i) := efx
  have gme : ∀ m : Nat, gmF ss (mk h t k (m : Int)) = Th.cnt k (Gd h t k D m) := fun m => r.gm _
  have fT : Th.cnt k (fun i => S i && !Gd h t k D T i) ≤ T := by
    rcases op.1 with q | q
    · exact Nat.le_trans (Th.cnt_mono fun i _ w => by revert w; cases S i <;> simp) q.1
    · exact q.2 T (Nat.le_refl _) q.1
  have m0N : m0 ≤ (T : Int) := by
    rcases l1 with e | ⟨e, he, e0, e1⟩
    · omega
    · rcases he with he | ⟨x, _, _, he⟩ <;> omega
  have ca := Th.cnt_and_or (k := k) S (Gd h t k D T)
  have opc := op.2
  refine ⟨m0.toNat, by omega, (Th.open_counts_low tp op (by omega)).mpr ⟨by omega, fun m a => ?_⟩, fun U rU => ?_⟩
  · by_cases z : m = T
    · subst z
      omega
    · have := hends _ m (by omega) rfl
      rw [gme] at this
      omega
  · by_cases z : Th.cnt k U ≤ T + 1
    · have lc := (Th.open_counts_low tp op z).mp ⟨U, rU, rfl⟩
      rcases l1 with e | ⟨e, he, e0, e1⟩
      · have := lc.1
        omega
      · have eN : e ≤ (T : Int) := by rcases he with he | ⟨x, _, _, he⟩ <;> omega
        have := lc.2 (e - 1).toNat (by omega)
        rw [show e - 1 = (((e - 1).toNat : Nat) : Int) by omega, gme] at e1
        omega
    · omega
end
end Sh

namespace Sh
open PySem PySem.Spec PyProof.Rows L2
theorem may_May {h t : Int} {ds : List Int} {L : List Nat} {i : Nat} (hL : Lot ds.length L) (hi : i < ds.length) : mayB h t ds L i = true ↔ Th.May ds.length (Gof h t ds) (mem L) i := by
  rw [may_G, near_cnt hL hi]
  unfold Th.May
  rw [cnt_mem hL]
  unfold mem
  by_cases z : i ∈ L
  · rw [if_pos z, decide_eq_true z, if_pos rfl]
  · rw [if_neg z, decide_eq_false z, if_neg Bool.false_ne_true]
/-- the lot of a set -/
def lotOf (c : Nat) (U : Nat → Bool) : List Nat := (List.range c).filter U
theorem lotOf_lot (c : Nat) (U : Nat → Bool) : Lot c (lotOf c U) := (Lot.all c).filter _
theorem lotOf_mem {c : Nat} {U : Nat → Bool} {i : Nat} (hi : i < c) : mem (lotOf c U) i = U i := by
  unfold mem lotOf
  rw [Bool.eq_iff_iff, decide_eq_true_eq, List.mem_filter, List.mem_range]
  exact ⟨fun q => q.2, fun q => ⟨hi, q⟩⟩
theorem lotOf_eq {h t : Int} {ds : List Int} {L : List Nat} {U : Nat → Bool} (hL : Lot ds.length L) (r : Th.Reach ds.length (Gof h t ds) (mem L) U) : mem (lotOf ds.length U) = U := by
  funext i
  by_cases hi : i < ds.length
  · exact lotOf_mem hi
  · rw [Th.reach_out r i hi, mem_out hL hi, mem_out (lotOf_lot _ _) hi]
/-- to be one of those that ever go, by lots or by sets -/
theorem ex_moves {h t : Int} {ds : List Int} {L : List Nat} (hL : Lot ds.length L) {i : Nat} (hi : i < ds.length) : (∃ M, Lot ds.length M ∧ Rl h t ds L M ∧ mayB h t ds M i = true) ↔ Th.Moves ds.length (Gof h t ds) (mem L) i := by
  constructor
  · rintro ⟨M, l, r, m⟩
    exact ⟨mem M, r, (may_May l hi).mp m⟩
  · rintro ⟨U, r, m⟩
    have e := lotOf_eq hL r
    refine ⟨lotOf ds.length U, lotOf_lot _ _, ?_, ?_⟩
    · unfold Rl
      rw [e]
      exact r
    · rw [may_May (lotOf_lot _ _) hi, e]
      exact m
theorem movers_moves {h t : Int} {ds : List Int} {L ms : List Nat} (hL : Lot ds.length L) (im : IsMovers h t ds L ms) {i : Nat} (hi : i < ds.length) : i ∈ ms ↔ Th.Moves ds.length (Gof h t ds) (mem L) i := by
  rw [im.2 i hi, ex_moves hL hi]
/-- the most, the least, by sets -/
theorem isMost_of {h t : Int} {ds : List Int} {L : List Nat} {n : Nat} (hL : Lot ds.length L) (q : Th.IsMax ds.length (Gof h t ds) (mem L) n) : IsMost h t ds L n := by
  obtain ⟨⟨U, r, c⟩, hm⟩ := q
  have e := lotOf_eq hL r
  refine ⟨⟨lotOf ds.length U, lotOf_lot _ _, ?_, ?_⟩, fun M l rM => ?_⟩
  · unfold Rl
    rw [e]
    exact r
  · rw [← cnt_mem (lotOf_lot _ _), e]
    exact c
  · rw [← cnt_mem l]
    exact hm _ rM
theorem isLeast_of {h t : Int} {ds : List Int} {L : List Nat} {n : Nat} (hL : Lot ds.length L) (q : Th.IsMin ds.length (Gof h t ds) (mem L) n) : IsLeast h t ds L n := by
  obtain ⟨⟨U, r, c⟩, hm⟩ := q
  have e := lotOf_eq hL r
  refine ⟨⟨lotOf ds.length U, lotOf_lot _ _, ?_, ?_⟩, fun M l rM => ?_⟩
  · unfold Rl
    rw [e]
    exact r
  · rw [← cnt_mem (lotOf_lot _ _), e]
    exact c
  · rw [← cnt_mem l]
    exact hm _ rM
end Sh

namespace Sh
open PySem PySem.Spec PyProof.Rows L2
def spGone (K : PySem.W.Frag) : Sp := fun vs H Q _ => ∃ (l : V) (L : List Nat) (c i : Nat), vs = [l, .int (i : Int)] ∧ LotA K H l L ∧ Lot c L ∧ c ≤ 1000 ∧ i < c ∧ ∀ (H' : Hp) (p : Addr), Same H H' → H p = none → H' p = some (.tup (ni (gone L i))) → Q (.ref p) H'
abbrev s__law_gone : Stmt := topS 48
theorem sc__law_gone : FnScope (["_law_lot_here", "_law_whom", "_law_mate"] : List Str) (["_law_lot_here", "_law_whom"] : List Str) (defScope s__law_gone) := ⟨rfl, rfl, rfl, by decide +kernel, rfl, by decide +kernel, by decide +kernel⟩
theorem b__law_gone (kV doc pm : Value) (an : Option Addr) (cdv ct : Value) (us : List Value) (hl : us.length = (["_law_lot_here", "_law_whom"] : List Str).length) : bindArgs (PySem.W.fnOf "_law_gone" "_law_gone" (defArgs s__law_gone) (defBody s__law_gone) (defScope s__law_gone) .none kV doc pm an cdv ct) ⟨us, []⟩ = pure ((["_law_lot_here", "_law_whom"] : List Str).zip us) :=
  match us, hl with | [_, _], _ => rfl
section
variable {P : Program} {w : World} {K : PySem.W.Frag} {mg : Str → Option Value} {base : Heap}
theorem ok_gone {k : Nat} (D : Df K mg "_law_gone" s__law_gone) (T : Bt mg) : Ok P w K mg base (k + 1) "_law_gone" s__law_gone ["_law_lot_here", "_law_whom"] (spGone K) := by
  refine D.ok sc__law_gone b__law_gone (fun vs H Q E h => ?_) (fun f cdv A outer s H vs Q E hr h => ?_)
  · obtain ⟨l, L, c, i, rfl, _⟩ := h
    rfl
  · obtain ⟨l, L, c, i, rfl, ⟨pl, rfl, hl⟩, hL, c1, hi, q⟩ := h
    have ll := hL.len
    refine ⟨_, (pss_cons (ps_if (pt_cmpR op_in_seq (pv 1) (pv 0) (by rfl))
        (pss_one (ps_ret (pe_callTy call_tuple_of (by rfl) T.tuple_ (by decide +kernel) (pa_cons (pe_lc (own := [("_law_mate", 2)]) (g := (gName 2)) (by rfl) sc__law_gone.nd (pi_seq (pv 0)) (blkOk_by (own := [("_law_mate", 2)]) (N := (["_law_lot_here", "_law_whom", "_law_mate"] : List Str)) (sc := defScope s__law_gone) (by decide +kernel)) (fun _ _ _ _ _ => (pg_name (i := 2) sc__law_gone.nd rfl (.inl rfl))) (fun _ _ _ _ _ => (pts_one (pt_cmpR op_ne (pv 2) (pv 1) (nomark _)))) (fun _ _ _ _ _ => (pv 2))) pa_nil))))
        pss_nil)
      (pss_one (ps_ret (pe_callTy call_tuple_of (by rfl) T.tuple_ (by decide +kernel) (pa_cons (pe_callB cr_sortedI (by rfl) T.sorted_ (by decide +kernel) (pa_cons (pe_op op_cat (pe_callTy call_list_of (by rfl) T.list_ (by decide +kernel) (pa_cons (pv 0) pa_nil)) (pe_lst (pa_cons (pv 1) pa_nil))) pa_nil)) pa_nil))))), ?_⟩
    refine ⟨_, rfl, _, rfl, pl, _, rfl, hl, rfl, ni_flat L, _, rfl, ?_⟩
    rw [if_neg Bool.false_ne_true, in_ni]
    by_cases z : i ∈ L
    · rw [decide_eq_true z]
      refine iteT ?_
      refine ⟨_, rfl, pl, _, H, rfl, hl, Kp.refl _ _, fun J hJ C nC => ?_⟩
      obtain ⟨G, g, W⟩ := hJ.walk
      refine lc_it W (fun j H' => Same H H' ∧ H' C = some (.lst (ni ((L.take j).filter fun m => !decide (m = i))))) ⟨same_new nC, upd_same⟩ (fun j H' _ z => g H' (.ofS z.1)) ?_ ?_
      · rintro j x H3 H4 hj ⟨s3, hC⟩ ⟨rfl, gx⟩
        rw [ni_len] at hj
        obtain rfl : .int ((L[j] : Nat) : Int) = x := Option.some.inj ((ni_get hj).symm.trans gx)
        refine ⟨rfl, ?_⟩
        refine ⟨_, rfl, _, rfl, rfl, _, rfl, ite2 (fun c => ?_) (fun c => ?_)⟩
        · have c0 : ¬ L[j] = i := fun e => by
            rw [e] at c
            simp at c
          refine ⟨_, rfl, _, hC, ?_, same_over s3 nC, ?_⟩
          · rw [ni_len]
            have h1 := List.length_filter_le (fun m => !decide (m = i)) (L.take j)
            rw [List.length_take] at h1
            exact small1000 (by omega)
          · rw [upd_same, take_succ_get hj, List.filter_append, ni_app, List.filter_cons_of_pos (by simpa using c0)]
            rfl
        · have c0 : L[j] = i := by
            by_cases e : L[j] = i
            · exact e
            · exfalso
              refine c ?_
              have z2 : ¬ V.int ((L[j] : Nat) : Int) = V.int (i : Int) := fun w => e (by have := V.int.inj w; omega)
              rw [decide_eq_false z2]
              rfl
          refine ⟨s3, ?_⟩
          rw [hC, take_succ_get hj, List.filter_append, List.filter_cons_of_neg (by simpa using c0)]
          simp
      rintro H3 ⟨s3, hC⟩
      rw [ni_len, List.take_length] at hC
      refine ⟨C, _, rfl, .inl ⟨SqL.of hC, fun p np => ?_⟩⟩
      refine q _ p (s3.trans (same_new np)) (s3.free np) ?_
      rw [upd_same, gone, if_pos z]
    · rw [decide_eq_false z]
      refine iteF ?_
      refine ⟨_, rfl, pl, _, rfl, hl, fun a na => ?_⟩
      have s1 : Same H (upd H a (.lst (ni L))) := same_new na
      have e1 : upd H a (.lst (ni L)) a = _ := upd_same
      generalize upd H a (.lst (ni L)) = H1 at s1 e1
      refine ⟨_, rfl, (by show 1 ≤ sizeLine; decide), fun o no => ?_⟩
      have s2 : Same H1 (upd H1 o (.lst [.int (i : Int)])) := same_new no
      have e2 : upd H1 o (.lst [.int (i : Int)]) o = _ := upd_same
      generalize upd H1 o (.lst [.int (i : Int)]) = H2 at s2 e2
      refine ⟨a, o, _, _, rfl, rfl, s2 _ _ e1, e2, ?_, fun ct nct => ?_⟩
      · rw [ni_len]
        show L.length + 1 ≤ sizeLine
        exact Nat.le_trans (show L.length + 1 ≤ 1001 by omega) (by decide)
      have s3 : Same H2 (upd H2 ct (.lst (ni L ++ [.int (i : Int)]))) := same_new nct
      have e3 : upd H2 ct (.lst (ni L ++ [.int (i : Int)])) ct = some (.lst (((L ++ [i]).map fun (i : Nat) => (i : Int)).map V.int)) := by
        rw [upd_same, ← ni_ints, ni_app]
        rfl
      generalize upd H2 ct (.lst (ni L ++ [.int (i : Int)])) = H3 at s3 e3
      refine ⟨ct, _, rfl, SqL.of e3, fun ns2 p2 pm2 up2 np2 => ?_⟩
      obtain ⟨L2, rfl, pL2, hL2⟩ := lot_sorted (c := c) pm2 up2 (List.nodup_append.mpr ⟨hL.up.imp Nat.ne_of_lt, by simp, fun a ha y hy => by rw [List.mem_singleton.mp hy]; exact fun e => z (e ▸ ha)⟩) fun j hj => by
        rcases List.mem_append.mp hj with y | y
        · exact hL.lt j y
        · rw [List.mem_singleton.mp y]
          exact hi
      have eg : L2 = gone L i := by
        refine lot_ext hL2 (gone_lot hL hi) fun j _ => ?_
        rw [gone_mem]
        unfold mem
        by_cases e : j = i
        · subst e
          rw [Th.flip_self]
          simp [z, pL2.mem_iff]
        · rw [Th.flip_ne _ e]
          simp [e, pL2.mem_iff]
      have s4 : Same H3 (upd H3 p2 (.lst ((L2.map fun (i : Nat) => (i : Int)).map V.int))) := same_new np2
      have e4 : upd H3 p2 (.lst ((L2.map fun (i : Nat) => (i : Int)).map V.int)) p2 = some (.lst (ni L2)) := by rw [upd_same, ni_ints]
      generalize upd H3 p2 (.lst ((L2.map fun (i : Nat) => (i : Int)).map V.int)) = H4 at s4 e4
      refine ⟨p2, _, rfl, .inl ⟨SqL.of e4, fun p np => ?_⟩⟩
      have s14 := s1.trans (s2.trans (s3.trans s4))
      refine q _ p (s14.trans (same_new np)) (s14.free np) ?_
      rw [upd_same, eg]
end
end Sh

/-! {t: v} with a tuple as key -/
namespace Sh
open PySem PySem.Spec PyProof.Rows L2
def tDispT (tk tv : TE) : TE := fun σ H Q => ∀ p, H p = none → tk σ (upd H p (.dT [])) fun x H1 => tv σ H1 fun y H2 => ∃ (kk : List Key) (b : Addr), x = .ref b ∧ H2 b = some (.tup (kk.map kV)) ∧ H2 p = some (.dT []) ∧ Q (.ref p) (upd H2 p (.dT [(kk, y)]))
theorem pe_dispT {X : Cx} {k v : Expr} {tk tv : TE} {pos : Pos} (hu : X.A.units + 1 < cLine) (hk : PE X k tk) (hv : PE X v tv) : PE X (.Dict [some k] [v] pos) (tDispT tk tv) := by
  refine ⟨fun pins s σ H Q I q => ?_⟩
  have hn := I.hok.fresh (Nat.le_refl s.heap.objs.size)
  have I1 := I.laid (a := s.heap.objs.size) (o := .dT []) (h' := s.heap.push { cls := .type "dict", data := .dict #[] }) (t' := s.toks) (fun _ _ q => Heap.get?_push_of_some _ q) (Nat.le_refl _) (dt_empty s.heap I.big)
  rw [arm_eval_Dict, zip_pairTrees [some k] [v] X.env pos rfl rfl, dictDisplay_pairs _ (by intro z; cases z) (by show 1 < 17; decide)]
  refine wpAny_bind (wpAny_standAt (wpAny_bind ?_))
  unfold subDict
  refine wpAny_bind (wpAny_alloc (wpAny_bind (wpAny_holding ?_)))
  rw [if_pos (show (pairTrees [some k] [v] X.env pos).length ≤ 15 by show 1 ≤ 15; decide)]
  refine wpAny_bind (pairTrees_cons_walk (thn (hk.run pins _ σ _ _ I1 (q _ hn)) fun u s1 ⟨x, H1, J1, rx, q1⟩ => thn (hv.run pins s1 σ H1 _ J1 q1) fun r s2 ⟨y, H2, I2, ry, q2⟩ => pairTrees_nil_walk ?_))
  obtain ⟨kk, b, rfl, eb, ep, q3⟩ := q2
  obtain rfl : u = Value.ref b := rx
  obtain ⟨z, hd, xs, rel, dd⟩ := dt_of I2.hok ep
  cases rel
  refine wpAny_holding (wpAny_bind ?_)
  rw [List.forIn_cons]
  refine wpAny_bind (wpAny_bind (wpAny_dictSet_heap (hsz := Nat.zero_le _) (show (tupleKind (mixKind X.prog X.w)).room X.A from Nat.lt_of_succ_lt hu) (key_of I2.hok eb) dd fun h' dd' hs => wpAny_pure ?_))
  show wpAny _ _ (forIn [] PUnit.unit _) _ _ _
  rw [List.forIn_nil]
  refine wpAny_pure (wpAny_pure (wpAny_pure (wpAny_pure ⟨.ref s.heap.objs.size, _, ?_, rfl, q3⟩)))
  obtain ⟨o, es, ep2, ho, h2, h3, h4, _, h5⟩ := dd'
  refine d_write I2 (by rw [ep]; exact True.intro) hs ⟨o, ho⟩ ⟨(by show 1 ≤ sizeLine; decide), hd, _, .cons ⟨rfl, ?_, ry⟩ .nil, o, es, ep2, ho, h2, h3, h4, h5⟩
  rw [upd_ne (ne_of eb ep (fun z => nomatch z))]
  exact eb
end Sh

namespace Sh
open PySem PySem.Spec PyProof.Rows L2
/-! ### all that a standing comes to, layer by layer: the mathematics -/
def kL (L : List Nat) : List Key := L.map fun (i : Nat) => Sum.inl (i : Int)
theorem kL_ni (L : List Nat) : (kL L).map kV = ni L := by
  unfold kL ni
  rw [List.map_map]
  rfl
theorem kL_inj {L M : List Nat} (h : kL L = kL M) : L = M := by
  have e := congrArg (List.map fun k : Key => match k with | .inl i => i.toNat | .inr _ => 0) h
  unfold kL at e
  rw [List.map_map, List.map_map] at e
  have id' : ((fun k : Key => match k with | .inl i => i.toNat | .inr _ => 0) ∘ fun (i : Nat) => (Sum.inl (i : Int) : Key)) = id := by
    funext i
    exact Int.toNat_natCast i
  rw [id', List.map_id, List.map_id] at e
  exact e
/-- an entry: a standing, how far -/
def ent (p : List Nat × Nat) : List Key × V := (kL p.1, .int (p.2 : Int))
theorem val_none {F : List (List Nat × Nat)} {M : List Nat} : valV (F.map ent) (kL M) = none ↔ ¬ M ∈ F.map (·.1) := by
  induction F with
  | nil => exact ⟨fun _ h => (by cases h), fun _ => rfl⟩
  | cons p F ih =>
    rw [List.map_cons, List.map_cons]
    by_cases e : kL p.1 = kL M
    · rw [valV_pos e]
      exact ⟨fun h => (by cases h), fun h => absurd (by rw [kL_inj e]; exact List.mem_cons_self) h⟩
    · rw [valV_neg e, ih]
      have ne : M ≠ p.1 := fun z => e (by rw [z])
      rw [List.mem_cons]
      exact ⟨fun h z => z.elim ne h, fun h z => h (.inr z)⟩
theorem val_some {F : List (List Nat × Nat)} {M : List Nat} (h : M ∈ F.map (·.1)) : ∃ n : Nat, valV (F.map ent) (kL M) = some (.int (n : Int)) := by
  induction F with
  | nil => cases h
  | cons p F ih =>
    rw [List.map_cons]
    by_cases e : kL p.1 = kL M
    · exact ⟨p.2, by rw [valV_pos e]; rfl⟩
    · rw [valV_neg e]
      rcases List.mem_cons.mp h with z | z
      · exact absurd (by rw [z]) e
      · exact ih z
/-- all lots of so many ships -/
def allLots : Nat → List (List Nat)
  | 0 => [[]]
  | c + 1 => allLots c ++ (allLots c).map fun L => L ++ [c]
theorem allLots_len : ∀ c, (allLots c).length = 2 ^ c
  | 0 => rfl
  | c + 1 => by
    show (allLots c ++ (allLots c).map fun L => L ++ [c]).length = 2 ^ (c + 1)
    rw [List.length_append, List.length_map, allLots_len c, Nat.pow_succ]
    omega
theorem lot_all : ∀ {c : Nat} {L : List Nat}, Lot c L → L ∈ allLots c
  | 0, L, h => by
    cases L with
    | nil => exact List.mem_cons_self
    | cons a r => exact absurd (h.lt a List.mem_cons_self) (by omega)
  | c + 1, L, h => by
    show L ∈ allLots c ++ (allLots c).map fun L => L ++ [c]
    by_cases z : c ∈ L
    · refine List.mem_append.mpr (.inr (List.mem_map.mpr ⟨L.filter (fun i => decide (i < c)), lot_all ⟨h.up.filter _, fun i hi => of_decide_eq_true (List.mem_filter.mp hi).2⟩, ?_⟩))
      refine lot_ext (c := c + 1) ⟨List.pairwise_append.mpr ⟨h.up.filter _, List.pairwise_singleton _ _, fun a ha b hb => ?_⟩, fun i hi => ?_⟩ h fun i hi => ?_
      · rw [List.mem_singleton.mp hb]
        exact of_decide_eq_true (List.mem_filter.mp ha).2
      · rcases List.mem_append.mp hi with q | q
        · exact h.lt i (List.mem_filter.mp q).1
        · rw [List.mem_singleton.mp q]
          omega
      · unfold mem
        rw [decide_eq_decide, List.mem_append, List.mem_filter, List.mem_singleton, decide_eq_true_eq]
        constructor
        · rintro (q | q)
          · exact q.1
          · rw [q]; exact z
        · intro q
          by_cases e : i = c
          · exact .inr e
          · exact .inl ⟨q, by omega⟩
    · refine List.mem_append.mpr (.inl (lot_all ⟨h.up, fun i hi => ?_⟩))
      have := h.lt i hi
      have : i ≠ c := fun e => z (e ▸ hi)
      omega
theorem nodup_len {α : Type} [DecidableEq α] : ∀ {l m : List α}, l.Nodup → (∀ x ∈ l, x ∈ m) → l.length ≤ m.length
  | [], _, _, _ => Nat.zero_le _
  | a :: l, m, nd, h => by
    obtain ⟨n1, n2⟩ := List.nodup_cons.mp nd
    have ha := h a List.mem_cons_self
    have e := nodup_len (l := l) (m := m.erase a) n2 fun x hx => (List.mem_erase_of_ne (fun e : x = a => n1 (e ▸ hx))).mpr (h x (List.mem_cons_of_mem _ hx))
    rw [List.length_erase_of_mem ha] at e
    have : 0 < m.length := List.length_pos_iff.mpr (List.ne_nil_of_mem ha)
    rw [List.length_cons]
    omega
/-- what has been found so far -/
structure Lay (h t : Int) (ds : List Int) (L : List Nat) (F : List (List Nat × Nat)) : Prop where
  lot : ∀ M ∈ F.map (·.1), Lot ds.length M ∧ Rl h t ds L M
  nd : (F.map (·.1)).Nodup
  beg : L ∈ F.map (·.1)
theorem Lay.len {h t : Int} {ds : List Int} {L : List Nat} {F : List (List Nat × Nat)} (y : Lay h t ds L F) : F.length ≤ 2 ^ ds.length := by
  have := nodup_len y.nd (m := allLots ds.length) fun M hM => lot_all (y.lot M hM).1
  rw [List.length_map, allLots_len] at this
  exact this
theorem Lay.one {h t : Int} {ds : List Int} {L : List Nat} (hL : Lot ds.length L) : Lay h t ds L [(L, 0)] := ⟨fun M hM => by
  obtain rfl : M = L := List.mem_singleton.mp hM
  exact ⟨hL, .refl _⟩, by simp, List.mem_cons_self⟩
theorem Lay.add {h t : Int} {ds : List Int} {L : List Nat} {F : List (List Nat × Nat)} (y : Lay h t ds L F) {M : List Nat} {n : Nat} (a : Lot ds.length M) (b : Rl h t ds L M) (c : ¬ M ∈ F.map (·.1)) : Lay h t ds L (F ++ [(M, n)]) := by
  refine ⟨fun X hX => ?_, ?_, ?_⟩
  · rw [List.map_append] at hX
    rcases List.mem_append.mp hX with z | z
    · exact y.lot X z
    · obtain rfl : X = M := List.mem_singleton.mp z
      exact ⟨a, b⟩
  · rw [List.map_append]
    refine List.nodup_append.mpr ⟨y.nd, by simp, fun x hx z hz => ?_⟩
    have e : z = M := List.mem_singleton.mp hz
    exact fun q => c (by rw [← e, ← q]; exact hx)
  · rw [List.map_append]
    exact List.mem_append.mpr (.inl y.beg)
/-- closed under all crossings -/
def Closed (h t : Int) (ds : List Int) (X : List (List Nat)) : Prop := ∀ M ∈ X, ∀ i, i < ds.length → mayB h t ds M i = true → gone M i ∈ X
theorem Lay.all {h t : Int} {ds : List Int} {L : List Nat} {F : List (List Nat × Nat)} (y : Lay h t ds L F) (hL : Lot ds.length L) (c : Closed h t ds (F.map (·.1))) {M : List Nat} (hM : Lot ds.length M) : M ∈ F.map (·.1) ↔ Rl h t ds L M := by
  constructor
  · exact fun h => (y.lot M h).2
  · intro r
    have key : ∀ {U : Nat → Bool}, Th.Reach ds.length (Gof h t ds) (mem L) U → lotOf ds.length U ∈ F.map (·.1) := fun {U} r => by
      induction r with
      | refl =>
        rw [show lotOf ds.length (mem L) = L from lot_ext (lotOf_lot _ _) hL fun i hi => lotOf_mem hi]
        exact y.beg
      | @step B W rB st ih =>
        have eB := lotOf_eq hL rB
        have lB := lotOf_lot ds.length B
        have cB := cnt_mem lB
        rw [eB] at cB
        have fin : ∀ i, i < ds.length → Gof h t ds (if B i = true then Th.cnt ds.length B - 1 else Th.cnt ds.length B) i = true → lotOf ds.length (Th.flip B i) ∈ F.map (·.1) := fun i hi g => by
          have mb : mayB h t ds (lotOf ds.length B) i = true := by
            rw [may_May lB hi, eB]
            exact g
          have e : lotOf ds.length (Th.flip B i) = gone (lotOf ds.length B) i := lot_ext (lotOf_lot _ _) (gone_lot lB hi) fun j hj => by
            rw [lotOf_mem hj, gone_mem, eB]
          rw [e]
          exact c _ ih i hi mb
        cases st with
        | @up i hi hs hg => exact fin i hi (by rw [hs, if_neg Bool.false_ne_true]; exact hg)
        | @dn i hi hs hg => exact fin i hi (by rw [hs, if_pos rfl]; exact hg)
    have := key r
    rw [show lotOf ds.length (mem M) = M from lot_ext (lotOf_lot _ _) hM fun i hi => lotOf_mem hi] at this
    exact this
theorem shaped_lots (Ls : List (List Nat)) : SeqAt.shaped (.list (Ls.map fun M => .tuple ((M.map fun (i : Nat) => (i : Int)).map .int))) = true := by
  have a : PyData.canLayAll0 (Ls.map fun M => .tuple ((M.map fun (i : Nat) => (i : Int)).map .int)) = true ∧ PyData.depthAll (Ls.map fun M => .tuple ((M.map fun (i : Nat) => (i : Int)).map .int)) ≤ 1 := by
    induction Ls with
    | nil => exact ⟨rfl, Nat.zero_le _⟩
    | cons M Ls ih =>
      obtain ⟨l1, l2⟩ := lay_ints (M.map fun (i : Nat) => (i : Int))
      constructor
      · show (PyData.canLayAll0 ((M.map fun (i : Nat) => (i : Int)).map .int) && _) = true
        rw [l1, ih.1]
        rfl
      · show max (PyData.depthAll ((M.map fun (i : Nat) => (i : Int)).map .int) + 1) _ ≤ 1
        rw [l2]
        exact Nat.max_le.mpr ⟨Nat.le_refl _, ih.2⟩
  unfold SeqAt.shaped
  rw [show PyData.canLay0 (.list (Ls.map fun M => .tuple ((M.map fun (i : Nat) => (i : Int)).map .int))) = _ from a.1, show PyData.depth (.list (Ls.map fun M => .tuple ((M.map fun (i : Nat) => (i : Int)).map .int))) = PyData.depthAll (Ls.map fun M => .tuple ((M.map fun (i : Nat) => (i : Int)).map .int)) + 1 from rfl]
  have : PyData.depthAll (Ls.map fun M => .tuple ((M.map fun (i : Nat) => (i : Int)).map .int)) + 1 ≤ 64 := by omega
  simpa using this
theorem dp_lots {K : PySem.W.Frag} {H : Hp} : ∀ {Ls : List (Addr × List Nat)}, (∀ p ∈ Ls, H p.1 = some (.tup (ni p.2))) → DpAll K H (Ls.map fun p => V.ref p.1) ((Ls.map (·.2)).map fun M => .tuple ((M.map fun (i : Nat) => (i : Int)).map .int))
  | [], _ => .nil
  | p :: Ls, h => by
    refine .cons ?_ (dp_lots fun q hq => h q (List.mem_cons_of_mem _ hq))
    have e := h p List.mem_cons_self
    rw [ni_ints] at e
    exact .tup (SqT.of e) (DpAll.ints _)
theorem eqv_lnil (Ls : List PyData) : PyData.eqv (.list Ls) (.list []) = Ls.isEmpty := by cases Ls <;> rfl
end Sh

namespace Sh
open PySem PySem.Spec PyProof.Rows L2
/-! ### all that a standing comes to, layer by layer: the law's own going -/
def spLayers (K : PySem.W.Frag) : Sp := fun vs H Q _ => ∃ (v : V) (pb : Addr) (h t : Int) (ds : List Int) (L : List Nat), vs = [v, .ref pb] ∧ SeaA K H v h t ds ∧ H pb = some (.tup (ni L)) ∧ ds.length ≤ 9 ∧ Lot ds.length L ∧
  ∀ (H' : Hp) (d : Addr) (F : List (List Nat × Nat)), Same H H' → H d = none → H' d = some (.dT (F.map ent)) → Lay h t ds L F → Closed h t ds (F.map (·.1)) → Q (.ref d) H'
abbrev s__law_layers : Stmt := topS 49
theorem sc__law_layers : FnScope (["_law_sea_here", "_law_begin", "_law_found", "_law_layer", "_law_later", "_law_lot_here", "_law_whom", "_law_there"] : List Str) (["_law_sea_here", "_law_begin"] : List Str) (defScope s__law_layers) := ⟨rfl, rfl, rfl, by decide +kernel, rfl, by decide +kernel, by decide +kernel⟩
theorem b__law_layers (kV doc pm : Value) (an : Option Addr) (cdv ct : Value) (us : List Value) (hl : us.length = (["_law_sea_here", "_law_begin"] : List Str).length) : bindArgs (PySem.W.fnOf "_law_layers" "_law_layers" (defArgs s__law_layers) (defBody s__law_layers) (defScope s__law_layers) .none kV doc pm an cdv ct) ⟨us, []⟩ = pure ((["_law_sea_here", "_law_begin"] : List Str).zip us) :=
  match us, hl with | [_, _], _ => rfl
/-- those of the list stand as tuples, and have been found -/
def Front (H : Hp) (F : List (List Nat × Nat)) (Ls : List (Addr × List Nat)) : Prop := ∀ p ∈ Ls, H p.1 = some (.tup (ni p.2)) ∧ p.2 ∈ F.map (·.1)
theorem Front.same {H H' : Hp} {F : List (List Nat × Nat)} {Ls : List (Addr × List Nat)} (f : Front H F Ls) (e : Same H H') : Front H' F Ls := fun p hp => ⟨e _ _ (f p hp).1, (f p hp).2⟩
theorem Front.putL {H : Hp} {F : List (List Nat × Nat)} {Ls : List (Addr × List Nat)} {a : Addr} {xs ys : List V} (f : Front H F Ls) (e : H a = some (.lst xs)) : Front (upd H a (.lst ys)) F Ls := fun p hp => ⟨by
  have q := (f p hp).1
  rw [upd_ne (ne_of q e (by intro z; cases z))]
  exact q, (f p hp).2⟩
theorem Front.putD {H : Hp} {F : List (List Nat × Nat)} {Ls : List (Addr × List Nat)} {a : Addr} {xs ys : List (List Key × V)} (f : Front H F Ls) (e : H a = some (.dT xs)) : Front (upd H a (.dT ys)) F Ls := fun p hp => ⟨by
  have q := (f p hp).1
  rw [upd_ne (ne_of q e (by intro z; cases z))]
  exact q, (f p hp).2⟩
theorem Front.mono {H : Hp} {F F' : List (List Nat × Nat)} {Ls : List (Addr × List Nat)} (f : Front H F Ls) (m : ∀ M ∈ F.map (·.1), M ∈ F'.map (·.1)) : Front H F' Ls := fun p hp => ⟨(f p hp).1, m _ (f p hp).2⟩
/-- how it stands in a turn: what was found in it is in the later layer -/
structure Turn (h t : Int) (ds : List Int) (L : List Nat) (F F' : List (List Nat × Nat)) (Lt : List (Addr × List Nat)) : Prop where
  lay : Lay h t ds L F'
  sub : ∀ M ∈ F.map (·.1), M ∈ F'.map (·.1)
  len : F'.length = F.length + Lt.length
  new : ∀ M ∈ F'.map (·.1), M ∈ F.map (·.1) ∨ M ∈ Lt.map (·.2)
section
variable {P : Program} {w : World} {K : PySem.W.Frag} {mg : Str → Option Value} {base : Heap}
set_option maxHeartbeats 8000000 in
theorem ok_layers {k : Nat} (D : Df K mg "_law_layers" s__law_layers) (T : Bt mg) (O__law_lets : Ok P w K mg base k "_law_lets" s__law_lets ["_law_sea_here", "_law_lot_here"] (spLets K)) (O__law_gone : Ok P w K mg base k "_law_gone" s__law_gone ["_law_lot_here", "_law_whom"] (spGone K)) :
    Ok P w K mg base (k + 1) "_law_layers" s__law_layers ["_law_sea_here", "_law_begin"] (spLayers K) := by
  refine D.ok sc__law_layers b__law_layers (fun vs H Q E h => ?_) (fun f cdv A outer s H vs Q E hr h => ?_)
  · obtain ⟨v, pb, h, t, ds, L, rfl, _⟩ := h
    rfl
  · obtain ⟨v, pb, h, t, ds, L, rfl, hv, hb, d9, hL, q⟩ := h
    have p9 : 2 ^ ds.length ≤ 512 := Nat.le_trans (Nat.pow_le_pow_right (by decide) d9) (by decide)
    refine ⟨_, (pss_cons (ps_par (i := 2) (j := 3) (by rfl) sc__law_layers.nd rfl rfl (by decide) rfl rfl (pa_cons (pe_dispT (hu_of hr) (pv 1) pe_int) (pa_cons (pe_lst (pa_cons (pv 1) pa_nil)) pa_nil)) (by rfl))
      (pss_cons (ps_while PassesOwn.never (pt_cmpR (op_neD hr.units) (pv 3) (pe_lst pa_nil) (nomark _))
        (pss_cons (ps_set (i := 4) sc__law_layers.nd rfl (.inl rfl) (pe_lst pa_nil))
          (pss_cons (ps_for PassesOwn.never rfl (pi_seq (pv 3)) (pg_name (i := 5) sc__law_layers.nd rfl (.inl rfl))
            (pss_one (ps_for PassesOwn.never rfl (pi_seq (pe_fn O__law_lets (hr.mono (by omega)) (pa_cons (pv 0) (pa_cons (pv 5) pa_nil)))) (pg_name (i := 6) sc__law_layers.nd rfl (.inl rfl))
                (pss_cons (ps_set (i := 7) sc__law_layers.nd rfl (.inl rfl) (pe_fn O__law_gone (hr.mono (by omega)) (pa_cons (pv 5) (pa_cons (pv 6) pa_nil))))
                  (pss_one (ps_if (pt_cmp (pc_dnotin (hu_of hr) (pv 7) (pv 2)))
                    (pss_cons (ps_dput (hu_of hr) (pv 2) (pv 7) (pe_op op_add (pe_dget (hu_of hr) (pv 2) (pv 5) (fun _ _ => rfl)) pe_int) rfl)
                      (pss_one (ps_expr (pe_bm PySem.F.plainAttrs_list PySem.F.slot_list_append PySem.F.type_list_append mt_append (pv 4) (pa_cons (pv 7) pa_nil)))))
                    pss_nil))))))
          (pss_one (ps_set (i := 3) sc__law_layers.nd rfl (.inl rfl) (pv 4))))))
      (pss_one (ps_ret (pv 2))))), ?_⟩
    -- {begin: 0}
    intro d nd
    have bd : pb ≠ d := ne_of_none hb nd
    refine ⟨_, rfl, kL L, pb, rfl, by rw [upd_ne bd, kL_ni]; exact hb, upd_same, ?_⟩
    have s1 : Same H (upd (upd H d (.dT [])) d (.dT [(kL L, .int 0)])) := fun a o e => by
      rw [upd_ne (ne_of_none e nd), upd_ne (ne_of_none e nd)]
      exact e
    have e1 : upd (upd H d (.dT [])) d (.dT [(kL L, .int 0)]) d = some (.dT ([(L, 0)].map ent)) := upd_same
    generalize upd (upd H d (.dT [])) d (.dT [(kL L, .int 0)]) = H1 at s1 e1
    refine ⟨_, rfl, (by show 1 ≤ sizeLine; decide), fun lay nlay => ⟨_, _, rfl, ?_⟩⟩
    have s2 : Same H1 (upd H1 lay (.lst [.ref pb])) := same_new nlay
    have e2 : upd H1 lay (.lst [.ref pb]) lay = some (.lst ([(pb, L)].map fun p => V.ref p.1)) := upd_same
    generalize upd H1 lay (.lst [.ref pb]) = H2 at s2 e2
    have s02 := s1.trans s2
    -- the loop
    refine ⟨fun m σ H' => ∃ (lay : Addr) (y4 y5 y6 y7 : Option V) (F : List (List Nat × Nat)) (Ls : List (Addr × List Nat)), σ = [some v, some (.ref pb), some (.ref d), some (.ref lay), y4, y5, y6, y7] ∧ Same H H' ∧ H' d = some (.dT (F.map ent)) ∧ H' lay = some (.lst (Ls.map fun p => V.ref p.1)) ∧ Front H' F Ls ∧ Lay h t ds L F ∧
        (∀ M ∈ F.map (·.1), M ∈ Ls.map (·.2) ∨ ∀ i, i < ds.length → mayB h t ds M i = true → gone M i ∈ F.map (·.1)) ∧ m = 2 * (512 - F.length) + (if Ls = [] then 0 else 1) ∧ H lay = none,
      ⟨_, lay, none, none, none, none, [(L, 0)], [(pb, L)], rfl, s02, s2 _ _ e1, e2, ?_, Lay.one hL, ?_, rfl, s1.free nlay⟩, ?_⟩
    · intro p hp
      obtain rfl : p = (pb, L) := List.mem_singleton.mp hp
      exact ⟨s02 _ _ hb, List.mem_cons_self⟩
    · intro M hM
      exact .inl (show M ∈ [L] from hM)
    rintro m σ H3 ⟨lay, y4, y5, y6, y7, F, Ls, rfl, s3, hd, hlay, fr, ly, cl, rfl, nlay⟩
    refine ⟨_, rfl, Nat.zero_le _, fun z nz => ?_⟩
    have s4 : Same H3 (upd H3 z (.lst [])) := same_new nz
    have e4 : upd H3 z (.lst []) z = some (.lst []) := upd_same
    generalize upd H3 z (.lst []) = H4 at s4 e4
    have fr4 := fr.same s4
    have hd4 := s4 _ _ hd
    have hlay4 := s4 _ _ hlay
    have s04 := s3.trans s4
    refine ⟨_, .list [], .lst (SqL.of hlay4) (dp_lots fun p hp => (fr4 p hp).1), .lst (SqL.of e4) .nil, shaped_lots _, rfl, _, rfl, ?_⟩
    rw [eqv_lnil]
    cases Ls with
    | nil =>
      refine iteF ⟨_, rfl, q H4 d F s04 nd hd4 ly fun M hM i hi mb => ?_⟩
      rcases cl M hM with w | w
      · cases w
      · exact w i hi mb
    | cons p0 Ls0 =>
      refine iteT ⟨fun σ' H' => ∃ (lay : Addr) (y4 y5 y6 y7 : Option V) (F' : List (List Nat × Nat)) (Ls : List (Addr × List Nat)), σ' = [some v, some (.ref pb), some (.ref d), some (.ref lay), y4, y5, y6, y7] ∧ Same H H' ∧ H' d = some (.dT (F'.map ent)) ∧ H' lay = some (.lst (Ls.map fun p => V.ref p.1)) ∧ Front H' F' Ls ∧ Lay h t ds L F' ∧
        (∀ M ∈ F'.map (·.1), M ∈ Ls.map (·.2) ∨ ∀ i, i < ds.length → mayB h t ds M i = true → gone M i ∈ F'.map (·.1)) ∧ 2 * (512 - F'.length) + (if Ls = [] then 0 else 1) < 2 * (512 - F.length) + (if p0 :: Ls0 = [] then 0 else 1) ∧ H lay = none,
        fun σ' H' ⟨lay', y4', y5', y6', y7', F', Ls', z1, z2, z3, z4, z5, z6, z7, z8, z9⟩ => ⟨_, z8, lay', y4', y5', y6', y7', F', Ls', z1, z2, z3, z4, z5, z6, z7, rfl, z9⟩, ?_⟩
      generalize hLs : p0 :: Ls0 = Ls at fr4 cl hlay4
      -- later
      refine ⟨Nat.zero_le _, fun lt nlt => ?_⟩
      have s5 : Same H4 (upd H4 lt (.lst [])) := same_new nlt
      have e5 : upd H4 lt (.lst []) lt = some (.lst (([] : List (Addr × List Nat)).map fun p => V.ref p.1)) := upd_same
      generalize upd H4 lt (.lst []) = H5 at s5 e5
      have s05 := s04.trans s5
      have nlt0 : H lt = none := s04.free nlt
      have layd : lay ≠ d := ne_of hlay4 hd4 (by intro z; cases z)
      have layt : lay ≠ lt := ne_of_none hlay4 nlt
      refine ⟨_, rfl, lay, _, H5, rfl, SqA.l (s5 _ _ hlay4), Kp.refl _ _, fun J hJ => ?_⟩
      obtain ⟨G, g, W⟩ := hJ.walk
      refine for_it W (fun i σ H' => ∃ (y5 y6 y7 : Option V) (F' : List (List Nat × Nat)) (Lt : List (Addr × List Nat)), σ = [some v, some (.ref pb), some (.ref d), some (.ref lay), some (.ref lt), y5, y6, y7] ∧ Same H H' ∧ H' d = some (.dT (F'.map ent)) ∧ H' lay = some (.lst (Ls.map fun p => V.ref p.1)) ∧ H' lt = some (.lst (Lt.map fun p => V.ref p.1)) ∧ Front H' F' Ls ∧ Front H' F' Lt ∧ Turn h t ds L F F' Lt ∧
          (∀ p ∈ Ls.take i, ∀ x, x < ds.length → mayB h t ds p.2 x = true → gone p.2 x ∈ F'.map (·.1)))
        ⟨_, _, _, F, [], rfl, s05, s5 _ _ hd4, s5 _ _ hlay4, e5, fr4.same s5, fun p hp => (by cases hp), ⟨ly, fun M hM => hM, rfl, fun M hM => .inl hM⟩, fun p hp => (by simp at hp)⟩
        (fun i σ H' _ ⟨_, _, _, _, _, _, _, _, z, _⟩ => g H' fun o e => by rw [s5 _ _ hlay4] at e; cases e; exact z) ?_ ?_
      · rintro i x σ H6' H6 hi ⟨y5, y6, y7, F', Lt, rfl, s6, hd6, hlay6, hlt6, fr6, ft6, tu, cl6⟩ ⟨rfl, gx⟩
        rw [List.length_map] at hi
        obtain rfl : .ref Ls[i].1 = x := by
          have g3 : (Ls.map fun p => V.ref p.1)[i]? = some (.ref Ls[i].1) := by rw [List.getElem?_map, List.getElem?_eq_getElem hi]; rfl
          exact Option.some.inj (g3.symm.trans gx)
        obtain ⟨hM, kM⟩ := fr6 Ls[i] (List.getElem_mem hi)
        have lM := (tu.lay.lot _ kM).1
        have rM := (tu.lay.lot _ kM).2
        have lenM := lM.len
        -- lets
        refine ⟨_, rfl, _, rfl, v, .ref Ls[i].1, h, t, ds, Ls[i].2, rfl, hv.same s6, ⟨Ls[i].1, rfl, SqA.t hM⟩, by omega, by omega, fun H7 lp s7 nlp hlp => ?_⟩
        refine ⟨lp, _, H7, rfl, SqA.l hlp, Kp.refl _ _, fun J2 hJ2 => ?_⟩
        obtain ⟨G2, g2, W2⟩ := hJ2.walk
        have s07 := s6.trans s7
        have lpd : lp ≠ d := fun e => by rw [e, hd6] at nlp; cases nlp
        have lpt : lp ≠ lt := fun e => by rw [e, hlt6] at nlp; cases nlp
        refine for_it W2 (fun j σ H' => ∃ (y6 y7 : Option V) (F' : List (List Nat × Nat)) (Lt : List (Addr × List Nat)), σ = [some v, some (.ref pb), some (.ref d), some (.ref lay), some (.ref lt), some (.ref Ls[i].1), y6, y7] ∧ Same H H' ∧ H' d = some (.dT (F'.map ent)) ∧ H' lay = some (.lst (Ls.map fun p => V.ref p.1)) ∧ H' lt = some (.lst (Lt.map fun p => V.ref p.1)) ∧ H' lp = some (.lst (ni (lets h t ds Ls[i].2 ds.length))) ∧ Front H' F' Ls ∧ Front H' F' Lt ∧ Turn h t ds L F F' Lt ∧
            (∀ p ∈ Ls.take i, ∀ x, x < ds.length → mayB h t ds p.2 x = true → gone p.2 x ∈ F'.map (·.1)) ∧ (∀ x ∈ (lets h t ds Ls[i].2 ds.length).take j, gone Ls[i].2 x ∈ F'.map (·.1)))
          ⟨_, _, F', Lt, rfl, s07, s7 _ _ hd6, s7 _ _ hlay6, s7 _ _ hlt6, hlp, fr6.same s7, ft6.same s7, tu, cl6, fun x hx => (by simp at hx)⟩
          (fun j σ H' _ ⟨_, _, _, _, _, _, _, _, _, z, _⟩ => g2 H' fun o e => by rw [hlp] at e; cases e; exact z) ?_ ?_
        · rintro j x σ H8' H8 hj ⟨y6, y7, F8, Lt8, rfl, s8, hd8, hlay8, hlt8, hlp8, fr8, ft8, tu8, cl8, in8⟩ ⟨rfl, gx⟩
          rw [ni_len] at hj
          generalize hX : lets h t ds Ls[i].2 ds.length = X at hj in8 hlp8 gx
          obtain rfl : .int ((X[j] : Nat) : Int) = x := Option.some.inj ((ni_get hj).symm.trans gx)
          have xm : X[j] ∈ lets h t ds Ls[i].2 ds.length := by rw [hX]; exact List.getElem_mem hj
          have xk : X[j] < ds.length := List.mem_range.mp (List.mem_filter.mp xm).1
          have xmay : mayB h t ds Ls[i].2 X[j] = true := (List.mem_filter.mp xm).2
          obtain ⟨hM8, kM8⟩ := fr8 Ls[i] (List.getElem_mem hi)
          -- gone
          refine ⟨_, rfl, _, rfl, .ref Ls[i].1, Ls[i].2, ds.length, X[j], rfl, ⟨Ls[i].1, rfl, SqA.t hM8⟩, lM, by omega, xk, fun H9 th s9 nth hth => ?_⟩
          have lg := gone_lot lM xk
          have rg : Rl h t ds L (gone Ls[i].2 X[j]) := rM.trans (rl_one lM xk xmay)
          have s09 := s8.trans s9
          have hd9 := s9 _ _ hd8
          refine ⟨_, rfl, _, rfl, d, _, rfl, DGet.t (k := kL (gone Ls[i].2 X[j])) hd9 (by rw [kL_ni]; exact hth), _, rfl, ?_⟩
          by_cases c : gone Ls[i].2 X[j] ∈ F8.map (·.1)
          · obtain ⟨n, en⟩ := val_some c
            rw [en]
            refine iteF ⟨_, _, F8, Lt8, rfl, s09, hd9, s9 _ _ hlay8, s9 _ _ hlt8, s9 _ _ hlp8, fr8.same s9, ft8.same s9, tu8, cl8, fun x hx => ?_⟩
            rw [take_succ_get hj] at hx
            rcases List.mem_append.mp hx with w | w
            · exact in8 x w
            · rw [List.mem_singleton.mp w]
              exact c
          · rw [val_none.mpr c]
            refine iteT ?_
            obtain ⟨n, en⟩ := val_some kM8
            have len8 := tu8.lay.len
            refine ⟨_, rfl, _, rfl, d, _, rfl, (by rw [← en]; exact DGet.t hd9 (by rw [kL_ni]; exact s9 _ _ hM8)), _, 1, rfl, rfl, ?_⟩
            refine ⟨_, rfl, _, rfl, d, _, rfl, DPut.t (k := kL (gone Ls[i].2 X[j])) hd9 (by rw [kL_ni]; exact hth) ?_, ?_⟩
            · rw [List.length_map]
              exact small1000 (by omega)
            rw [putK_new _ (val_none.mpr c)]
            have ye := tu8.lay.add (n := n + 1) lg rg c
            have sub10 : ∀ M ∈ F8.map (·.1), M ∈ (F8 ++ [(gone Ls[i].2 X[j], n + 1)]).map (·.1) := fun M hM => by
              rw [List.map_append]
              exact List.mem_append.mpr (.inl hM)
            have in10 : gone Ls[i].2 X[j] ∈ (F8 ++ [(gone Ls[i].2 X[j], n + 1)]).map (·.1) := by
              rw [List.map_append]
              exact List.mem_append.mpr (.inr List.mem_cons_self)
            have hlt9 := s9 _ _ hlt8
            have ltd : lt ≠ d := ne_of hlt9 hd9 (by intro z; cases z)
            have thd : th ≠ d := ne_of hth hd9 (by intro z; cases z)
            have tht : th ≠ lt := ne_of hth hlt9 (by intro z; cases z)
            have e10 : upd H9 d (.dT (F8.map ent ++ [(kL (gone Ls[i].2 X[j]), .int ((n : Int) + 1))])) d = some (.dT ((F8 ++ [(gone Ls[i].2 X[j], n + 1)]).map ent)) := by
              rw [upd_same, List.map_append]
              rfl
            have f10 : upd H9 d (.dT (F8.map ent ++ [(kL (gone Ls[i].2 X[j]), .int ((n : Int) + 1))])) lt = some (.lst (Lt8.map fun p => V.ref p.1)) := by rw [upd_ne ltd]; exact hlt9
            have g10 : upd H9 d (.dT (F8.map ent ++ [(kL (gone Ls[i].2 X[j]), .int ((n : Int) + 1))])) lay = some (.lst (Ls.map fun p => V.ref p.1)) := by rw [upd_ne layd]; exact s9 _ _ hlay8
            have h10 : upd H9 d (.dT (F8.map ent ++ [(kL (gone Ls[i].2 X[j]), .int ((n : Int) + 1))])) lp = some (.lst (ni X)) := by rw [upd_ne lpd]; exact s9 _ _ hlp8
            have t10 : upd H9 d (.dT (F8.map ent ++ [(kL (gone Ls[i].2 X[j]), .int ((n : Int) + 1))])) th = some (.tup (ni (gone Ls[i].2 X[j]))) := by rw [upd_ne thd]; exact hth
            have fr10 := ((fr8.same s9).mono sub10).putD (ys := F8.map ent ++ [(kL (gone Ls[i].2 X[j]), .int ((n : Int) + 1))]) hd9
            have ft10 := ((ft8.same s9).mono sub10).putD (ys := F8.map ent ++ [(kL (gone Ls[i].2 X[j]), .int ((n : Int) + 1))]) hd9
            have s010 : Same H (upd H9 d (.dT (F8.map ent ++ [(kL (gone Ls[i].2 X[j]), .int ((n : Int) + 1))]))) := same_over s09 nd
            generalize upd H9 d (.dT (F8.map ent ++ [(kL (gone Ls[i].2 X[j]), .int ((n : Int) + 1))])) = H10 at e10 f10 g10 h10 t10 fr10 ft10 s010
            -- later.append
            refine ⟨_, rfl, .inl ⟨rfl, _, SqL.of f10⟩, _, rfl, lt, _, _, rfl, rfl, f10, ?_, ?_⟩
            · rw [List.length_map]
              have := tu8.len
              exact small1000 (by omega)
            refine ⟨_, _, F8 ++ [(gone Ls[i].2 X[j], n + 1)], Lt8 ++ [(th, gone Ls[i].2 X[j])], rfl, same_over s010 nlt0, ?_, ?_, ?_, ?_, fr10.putL f10, ?_, ⟨ye, fun M hM => sub10 M (tu8.sub M hM), ?_, ?_⟩, ?_, ?_⟩
            · rw [upd_ne ltd.symm]
              exact e10
            · rw [upd_ne layt]
              exact g10
            · rw [upd_same, List.map_append]
              rfl
            · rw [upd_ne lpt]
              exact h10
            · intro p hp
              rcases List.mem_append.mp hp with w | w
              · exact (ft10.putL f10) p w
              · rw [List.mem_singleton.mp w]
                exact ⟨by rw [upd_ne tht]; exact t10, in10⟩
            · rw [List.length_append, List.length_append, tu8.len]
              show F.length + Lt8.length + 1 = F.length + (Lt8.length + 1)
              omega
            · intro M hM
              rw [List.map_append] at hM
              rw [List.map_append]
              rcases List.mem_append.mp hM with w | w
              · rcases tu8.new M w with w | w
                · exact .inl w
                · exact .inr (List.mem_append.mpr (.inl w))
              · exact .inr (List.mem_append.mpr (.inr w))
            · exact fun p hp x hx mb => sub10 _ (cl8 p hp x hx mb)
            · intro x hx
              rw [take_succ_get hj] at hx
              rcases List.mem_append.mp hx with w | w
              · exact sub10 _ (in8 x w)
              · rw [List.mem_singleton.mp w]
                exact in10
        · rintro σ H8 ⟨y6, y7, F8, Lt8, rfl, s8, hd8, hlay8, hlt8, hlp8, fr8, ft8, tu8, cl8, in8⟩
          rw [ni_len, List.take_length] at in8
          refine ⟨_, _, _, F8, Lt8, rfl, s8, hd8, hlay8, hlt8, fr8, ft8, tu8, fun p hp x hx mb => ?_⟩
          rw [take_succ_get hi] at hp
          rcases List.mem_append.mp hp with w | w
          · exact cl8 p w x hx mb
          · rw [List.mem_singleton.mp w] at mb ⊢
            exact in8 x (List.mem_filter.mpr ⟨List.mem_range.mpr hx, mb⟩)
      · rintro σ H6 ⟨y5, y6, y7, F', Lt, rfl, s6, hd6, hlay6, hlt6, fr6, ft6, tu, cl6⟩
        rw [List.length_map, List.take_length] at cl6
        refine ⟨_, rfl, lt, _, _, _, _, F', Lt, rfl, s6, hd6, hlt6, ft6, tu.lay, fun M hM => ?_, ?_, nlt0⟩
        · rcases tu.new M hM with w | w
          · rcases cl M w with w2 | w2
            · obtain ⟨p, hp, rfl⟩ := List.mem_map.mp w2
              exact .inr fun x hx mb => cl6 p hp x hx mb
            · exact .inr fun x hx mb => tu.sub _ (w2 x hx mb)
          · exact .inl w
        · have l1 := tu.len
          have l2 := tu.lay.len
          have ne : Ls ≠ [] := by rw [← hLs]; intro z; cases z
          rw [if_neg ne]
          cases Lt with
          | nil =>
            rw [if_pos rfl]
            have : ([] : List (Addr × List Nat)).length = 0 := rfl
            omega
          | cons a b =>
            rw [if_neg (by intro z; cases z)]
            have : (a :: b).length = b.length + 1 := rfl
            omega
end
end Sh

/-! set(xs) of a list of ints, by the walk of the list -/
namespace Sh
open PySem PySem.Spec PyProof.Rows L2
section
variable {P : Program} {w : World} {A : Around} {E : Value → Shared → Prop} {s : Shared}
/-- a set as it is born -/
abbrev Bare (w : World) : Obj := { cls := .type "set", dict := none, data := .set #[] 0 (.fresh 0 0 (!w.params.followText "set-order")) }
/-- what is left: a set of the ints; all that stood stands -/
def Made (w : World) (s : Shared) (ns : List Int) (t : Shared) : Prop := ∃ (h' : Heap) (tk c : Nat), t = { s with heap := h', toks := tk } ∧ SetR w h' s.heap.objs.size (fun j => decide (j ∈ ns)) c ∧ c ≤ ns.length ∧ ∀ b o, s.heap.get? b = some o → h'.get? b = some o
/-- the ints of the list, one by one, into the set that was born at the end of the heap -/
theorem fill_lst {A3 : Around} {l : Addr} {items : Array Value} {ns : List Int} {R : Result → Shared → Prop} (hh : A3.in1.handled = none) (hl : s.heap.IsList l items) (hit : IntsAre items.toList ns) (hb : ns.length + 1 < scanBound)
    (hR : ∀ t, Made w s ns t → R (.ok (.ret .none)) t) :
    codeAny (model P w) A3 (.builtin "set.update.loop" ⟨[.ref s.heap.objs.size, .ref (s.heap.push (Bare w)).objs.size], []⟩) R { s with heap := (s.heap.push (Bare w)).push { cls := .type "list_iterator", data := .fields #[.ref l, .int 0 0] } } := by
  have n1 : items.size = ns.length := by rw [← Array.length_toList]; exact hit.length
  obtain ⟨ol, e1, e2, e3⟩ := id hl
  have l1 : l < s.heap.objs.size := Heap.lt_size e1
  have z1 : (s.heap.push (Bare w)).objs.size = s.heap.objs.size + 1 := Heap.size_push ..
  have l2 : l ≠ (s.heap.push (Bare w)).objs.size := by rw [z1]; exact Nat.ne_of_lt (Nat.lt_succ_of_lt l1)
  have vals : ∀ (i : Nat) (v : Value), items[i]? = some v → ∃ k t, ns[i]? = some k ∧ v = .int k t := by
    intro i v hv
    have hi : i < ns.length := n1 ▸ (Array.getElem?_eq_some_iff.mp hv).1
    obtain ⟨t, e⟩ := IntsAre.int_at hit i v (by rw [Array.getElem?_toList]; exact hv)
    exact ⟨ns[i], t, List.getElem?_eq_getElem hi, by rw [e, List.getD_eq_getElem?_getD, List.getElem?_eq_getElem hi]; rfl⟩
  have born : ((s.heap.push (Bare w)).push { cls := .type "list_iterator", data := .fields #[.ref l, .int 0 0] }).get? s.heap.objs.size = some (Bare w) := Heap.get?_push_of_some _ (Heap.get?_push_size _ rfl)
  refine set_update_ints ((Walks.list hh _ l l2 items).toS) s.heap.objs.size (by rw [z1]; simp only [List.mem_cons, List.not_mem_nil, or_false, not_or]; exact ⟨Nat.ne_of_lt (Nat.lt_succ_self _), Nat.ne_of_gt l1⟩) ns n1 hb vals (items.size - 0) 0 _ (by omega) (Nat.zero_le _) ⟨⟨_, Heap.get?_push_size _ rfl, rfl, rfl⟩, (hl.push _).push _⟩ ⟨0, Nat.le_refl 0, setR_new_at born⟩ ?_
  rintro ⟨h', g2, d', tk', os'⟩ c' mv hc' hS'
  obtain rfl : g2 = s.gens := mv.gens
  obtain rfl : d' = s.drawn := mv.drawn
  obtain rfl : os' = s.os := mv.os
  refine hR _ ⟨h', tk', c', rfl, hS', by omega, fun b o e => ?_⟩
  have b0 := Heap.lt_size e
  exact mv.heap b o (by rw [z1]; simp only [List.mem_cons, List.not_mem_nil, or_false, not_or]; exact ⟨Nat.ne_of_lt b0, Nat.ne_of_lt (Nat.lt_succ_of_lt b0)⟩) (Heap.get?_push_of_some _ (Heap.get?_push_of_some _ e))
set_option maxHeartbeats 4000000 in
/-- set(xs) -/
theorem call_set_lst {l : Addr} {items : Array Value} {ns : List Int} {Q : Value → Shared → Prop} (hh : A.handled = none) (hl : s.heap.IsList l items) (hit : IntsAre items.toList ns) (hb : ns.length + 1 < scanBound)
    (h : ∀ t, Made w s ns t → Q (.ref s.heap.objs.size) t) : wpAny (model P w) A (call (.type "set") [.ref l]) Q E s := by
  have ⟨_, _, m1⟩ := F.called_set.mro; have m2 := F.called_set.made; have m3 := F.called_set.sub; have m4 := F.called_set.notType; have m5 := F.called_set.canCreate; have m6 := F.typeCall_set_1 (.ref l)
  refine wpAny_call (codeAny_of_tree (show wpAny _ _ (callAny (.type "set") _) _ _ _ from wpAny_pure ⟨Code.quiet_builtin _ (by decide +kernel), codeAny_builtin F.entry_type_call ?_⟩))
  rw [Around.under_plain (weight_type_call_type "set" [.ref l] []) rfl]
  repeat (any_goals (first | assumption | wp_step))
  refine codeAny_mono (code_set_led1 (.ref l) (E := E) (Q₁ := fun x t => x = .ref s.heap.objs.size ∧ t = { s with heap := s.heap.push (Bare w) }) ⟨rfl, rfl⟩) fun r t hr => ?_
  rcases r with e | fl
  · exact hr
  · rcases fl with x | _ | _ | _
    all_goals try exact hr.elim
    obtain ⟨rfl, rfl⟩ := hr
    have born : (s.heap.push (Bare w)).get? s.heap.objs.size = some (Bare w) := Heap.get?_push_size _ rfl
    have ty : Shared.TypeIs { s with heap := s.heap.push (Bare w) } (.ref s.heap.objs.size) "set" := ⟨_, born, rfl⟩
    have i1 := F.called_set.init.lookup; have i2 := F.called_set.init.bind (.ref s.heap.objs.size)
    repeat (any_goals (first | assumption | wp_step))
    refine codeAny_mono (codeAny_call_builtin (R := wants (fun x t => x = .none ∧ Made w s ns t) E) F.called_set.init.plain F.entry_set_init (check_set_init_1 ty ?_)) fun r2 t2 hr2 => ?_
    · obtain ⟨⟨ocls, odict, odata, oslots⟩, e1, e2, nl, e3⟩ := id hl
      simp only at e2 e3
      subst e2 e3
      have l1 : (s.heap.push (Bare w)).IsList l items := hl.push _
      have e4 : (s.heap.push (Bare w)).get? l = some { cls := .type "list", dict := odict, data := .seq items nl, slots := oslots } := Heap.get?_push_of_some _ e1
      have f1 := F.sub_list_set; have f2 := F.sub_list_frozenset; have f3 : (Value.type "list" == Value.type "dict") = false := by decide
      unfold Builtin.«set.__init__» noKeywords Builtin.Frozenset.updateFrom
      generalize eI : pyIter = it; wp_walk; subst eI
      refine wpAny_pyIter_list l1 (wpAny_bind (wpAny_runValue (fill_lst (by simp [hh]) hl hit hb fun t m => ?_)))
      exact wpAny_pure (wpAny_pure ⟨rfl, m⟩)
    · rcases r2 with e | fl
      · exact hr2
      · rcases fl with x | _ | _ | _
        all_goals try exact hr2.elim
        obtain ⟨rfl, m⟩ := hr2
        repeat (any_goals (first | assumption | wp_step))
        exact h _ m
/-- the members, each once -/
theorem SetR.keys {h : Heap} {a : Addr} {ns : List Int} {c : Nat} (R : SetR w h a (fun j => decide (j ∈ ns)) c) : ∃ ks : List Int, ks.Nodup ∧ (∀ k, k ∈ ks ↔ k ∈ ns) ∧ c = ks.length := by
  obtain ⟨o, es, ep, t, _, _, _, _, nd, hm, _, _, hn, _⟩ := R
  refine ⟨es.toList.map keyOf, nd, fun k => ?_, ?_⟩
  · rw [← hm k, decide_eq_true_eq]
  · rw [List.length_map, Array.length_toList, hn]
/-- set(xs) of a list or a tuple of ints, as a thing that stands -/
def rSetA (K : PySem.W.Frag) (w : World) : List V → Hp → VK → Prop := fun xs H Q => ∃ (q : Addr) (ns : List Int), xs = [.ref q] ∧ SqA K H q (ns.map V.int) ∧ ns.length ≤ 1000 ∧ ∀ (a : Addr) (ks : List Int), H a = none → ks.Nodup → (∀ k, k ∈ ks ↔ k ∈ ns) → Q (.ref a) (upd H a (SetO w a (fun j => decide (j ∈ ns)) ks.length))
theorem cr_setA {X : Cx} (hc : X.calm = true) : CallR X (.type "set") (rSetA X.K X.w) := by
  intro pins s σ H xs us Q I r h
  obtain ⟨q, ns, rfl, hq | hq, hl, k⟩ := h
  · rw [Vals.ref1 r]
    obtain ⟨its, rv, pl, hz⟩ := I.list hq
    refine call_set_lst (ns := ns) (I.ok.hd hc) pl.isList (ints_of_vals rv) (by unfold scanBound; omega) ?_
    rintro t ⟨h', tk, c, rfl, R1, hcn, kk⟩
    obtain ⟨ks, k1, k2, rfl⟩ := SetR.keys R1
    exact ⟨.ref _, upd H s.heap.objs.size (SetO X.w s.heap.objs.size _ ks.length), I.laid (t' := tk) kk (Nat.le_refl _) (setO_new R1), rfl, k _ _ (I.hok.fresh (Nat.le_refl _)) k1 k2⟩
  · rw [Vals.ref1 r]
    obtain ⟨its, rv, pt, hz⟩ := I.tuple hq
    refine call_set_tupI ns (I.ok.hd hc) (show s.heap.IsTuple q its.toArray from pt) (ints_of_vals rv) (by unfold scanBound; omega) fun h' tk c R1 hcn kk => ?_
    obtain ⟨ks, k1, k2, rfl⟩ := SetR.keys R1
    exact ⟨.ref _, upd H s.heap.objs.size (SetO X.w s.heap.objs.size _ ks.length), I.laid (t' := tk) kk (Nat.le_refl _) (setO_new R1), rfl, k _ _ (I.hok.fresh (Nat.le_refl _)) k1 k2⟩
theorem cr_setAw {X : Cx} (w : World) (hc : X.calm = true) (hw : X.w = w := by rfl) : CallR X (.type "set") (rSetA X.K w) := hw ▸ cr_setA hc
end
end Sh

namespace Sh
open PySem PySem.Spec PyProof.Rows L2
/-! ### the program: water -/
def spMarkOf : Sp := fun vs H Q _ => ∃ (h t s : Int) (n : Nat), vs = [.int h, .int t, .int (n : Int), .int s] ∧ Q (.int (mk h t n s)) H
def spTopOf : Sp := fun vs H Q _ => ∃ (h t : Int) (n : Nat), vs = [.int h, .int t, .int (n : Int)] ∧ Q (.int (topI h t n)) H
abbrev s_mark_of : Stmt := topS 5
theorem sc_mark_of : FnScope (["here", "there", "many", "step"] : List Str) (["here", "there", "many", "step"] : List Str) (defScope s_mark_of) := ⟨rfl, rfl, rfl, by decide +kernel, rfl, by decide +kernel, by decide +kernel⟩
theorem b_mark_of (kV doc pm : Value) (an : Option Addr) (cdv ct : Value) (us : List Value) (hl : us.length = (["here", "there", "many", "step"] : List Str).length) : bindArgs (PySem.W.fnOf "mark_of" "mark_of" (defArgs s_mark_of) (defBody s_mark_of) (defScope s_mark_of) .none kV doc pm an cdv ct) ⟨us, []⟩ = pure ((["here", "there", "many", "step"] : List Str).zip us) :=
  match us, hl with | [_, _, _, _], _ => rfl
abbrev s_top_of : Stmt := topS 6
theorem sc_top_of : FnScope (["here", "there", "many", "last", "meeting"] : List Str) (["here", "there", "many"] : List Str) (defScope s_top_of) := ⟨rfl, rfl, rfl, by decide +kernel, rfl, by decide +kernel, by decide +kernel⟩
theorem b_top_of (kV doc pm : Value) (an : Option Addr) (cdv ct : Value) (us : List Value) (hl : us.length = (["here", "there", "many"] : List Str).length) : bindArgs (PySem.W.fnOf "top_of" "top_of" (defArgs s_top_of) (defBody s_top_of) (defScope s_top_of) .none kV doc pm an cdv ct) ⟨us, []⟩ = pure ((["here", "there", "many"] : List Str).zip us) :=
  match us, hl with | [_, _, _], _ => rfl
section
variable {P : Program} {w : World} {K : PySem.W.Frag} {mg : Str → Option Value} {base : Heap}
theorem ok_mark_of {k : Nat} (D : Df K mg "mark_of" s_mark_of) (T : Bt mg) : Ok P w K mg base (k + 1) "mark_of" s_mark_of ["here", "there", "many", "step"] spMarkOf := by
  refine D.ok sc_mark_of b_mark_of (fun vs H Q E h => ?_) (fun f cdv A outer s H vs Q E hr h => ?_)
  · obtain ⟨h, t, s, n, rfl, _⟩ := h
    rfl
  · obtain ⟨h, t, s, n, rfl, k⟩ := h
    refine ⟨_, (pss_one (ps_ret (pe_callB (call_min2 rfl) (by rfl) T.min_ (by decide +kernel) (pa_cons (pe_op op_add (pv 0) (pv 3)) (pa_cons (pe_op op_sub (pe_op op_sub (pe_op op_add (pv 1) (pv 2)) pe_int) (pv 3)) pa_nil))))), ?_⟩
    refine ⟨_, rfl, _, rfl, h, s, rfl, rfl, _, rfl, _, rfl, t, _, rfl, rfl, _, 1, rfl, rfl, _, rfl, _, s, rfl, rfl, _, _, rfl, ?_⟩
    rw [← mk_alt] at k
    exact k
theorem ok_top_of {k : Nat} (D : Df K mg "top_of" s_top_of) (T : Bt mg) : Ok P w K mg base (k + 1) "top_of" s_top_of ["here", "there", "many"] spTopOf := by
  refine D.ok sc_top_of b_top_of (fun vs H Q E h => ?_) (fun f cdv A outer s H vs Q E hr h => ?_)
  · obtain ⟨h, t, n, rfl, _⟩ := h
    rfl
  · obtain ⟨h, t, n, rfl, k⟩ := h
    refine ⟨_, (pss_cons (ps_set (i := 3) sc_top_of.nd rfl (.inl rfl) (pe_op op_sub (pv 2) pe_int))
      (pss_cons (ps_set (i := 4) sc_top_of.nd rfl (.inl rfl) (pe_op op_fdiv (pe_op op_sub (pe_op op_add (pv 1) (pv 3)) (pv 0)) pe_int))
      (pss_one (ps_ret (pe_callB (call_max2 rfl) (by rfl) T.max_ (by decide +kernel) (pa_cons pe_int (pa_cons (pe_callB (call_min2 rfl) (by rfl) T.min_ (by decide +kernel) (pa_cons (pv 3) (pa_cons (pv 4) pa_nil))) pa_nil))))))), ?_⟩
    refine ⟨_, rfl, _, 1, rfl, rfl, ?_⟩
    refine ⟨_, rfl, _, rfl, t, _, rfl, rfl, _, rfl, _, h, rfl, rfl, _, 2, rfl, rfl, ⟨by decide, by decide⟩, ?_⟩
    refine ⟨_, rfl, _, rfl, _, _, rfl, 0, _, rfl, ?_⟩
    exact k
end
end Sh

namespace Sh
open PySem PySem.Spec PyProof.Rows L2
/-! ### the program: steps -/
abbrev s_mark_at : Stmt := topS 20
theorem sc_mark_at : FnScope (["sea", "step", "here", "there", "draughts"] : List Str) (["sea", "step"] : List Str) (defScope s_mark_at) := ⟨rfl, rfl, rfl, by decide +kernel, rfl, by decide +kernel, by decide +kernel⟩
theorem b_mark_at (kV doc pm : Value) (an : Option Addr) (cdv ct : Value) (us : List Value) (hl : us.length = (["sea", "step"] : List Str).length) : bindArgs (PySem.W.fnOf "mark_at" "mark_at" (defArgs s_mark_at) (defBody s_mark_at) (defScope s_mark_at) .none kV doc pm an cdv ct) ⟨us, []⟩ = pure ((["sea", "step"] : List Str).zip us) :=
  match us, hl with | [_, _], _ => rfl
abbrev s_goers_at : Stmt := topS 21
theorem sc_goers_at : FnScope (["sea", "step", "draughts", "mark", "ship", "draught"] : List Str) (["sea", "step"] : List Str) (defScope s_goers_at) := ⟨rfl, rfl, rfl, by decide +kernel, rfl, by decide +kernel, by decide +kernel⟩
theorem b_goers_at (kV doc pm : Value) (an : Option Addr) (cdv ct : Value) (us : List Value) (hl : us.length = (["sea", "step"] : List Str).length) : bindArgs (PySem.W.fnOf "goers_at" "goers_at" (defArgs s_goers_at) (defBody s_goers_at) (defScope s_goers_at) .none kV doc pm an cdv ct) ⟨us, []⟩ = pure ((["sea", "step"] : List Str).zip us) :=
  match us, hl with | [_, _], _ => rfl
abbrev s_top_step : Stmt := topS 22
theorem sc_top_step : FnScope (["sea", "here", "there", "draughts"] : List Str) (["sea"] : List Str) (defScope s_top_step) := ⟨rfl, rfl, rfl, by decide +kernel, rfl, by decide +kernel, by decide +kernel⟩
theorem b_top_step (kV doc pm : Value) (an : Option Addr) (cdv ct : Value) (us : List Value) (hl : us.length = (["sea"] : List Str).length) : bindArgs (PySem.W.fnOf "top_step" "top_step" (defArgs s_top_step) (defBody s_top_step) (defScope s_top_step) .none kV doc pm an cdv ct) ⟨us, []⟩ = pure ((["sea"] : List Str).zip us) :=
  match us, hl with | [_], _ => rfl
section
variable {P : Program} {w : World} {K : PySem.W.Frag} {mg : Str → Option Value} {base : Heap}
theorem ok_mark {k : Nat} (D : Df K mg "mark_at" s_mark_at) (T : Bt mg) (O_mark_of : Ok P w K mg base k "mark_of" s_mark_of ["here", "there", "many", "step"] spMarkOf) : Ok P w K mg base (k + 1) "mark_at" s_mark_at ["sea", "step"] (spMark K) := by
  refine D.ok sc_mark_at b_mark_at (fun vs H Q E h => ?_) (fun f cdv A outer s H vs Q E hr h => ?_)
  · obtain ⟨v, h, t, s, ds, rfl, _⟩ := h
    rfl
  · obtain ⟨v, h, t, s, ds, rfl, ⟨p, q, rfl, hp, hq⟩, k⟩ := h
    refine ⟨_, (pss_cons (ps_asg (pv 0) (pg_seq rfl (pgs_cons (pg_name (i := 2) sc_mark_at.nd rfl (.inl rfl)) (pgs_cons (pg_name (i := 3) sc_mark_at.nd rfl (.inl rfl)) (pgs_cons (pg_name (i := 4) sc_mark_at.nd rfl (.inl rfl)) pgs_nil)))))
      (pss_one (ps_ret (pe_fn O_mark_of (hr.mono (by omega)) (pa_cons (pv 2) (pa_cons (pv 3) (pa_cons (pe_callB call_len_seq (by rfl) T.len_ PySem.boot_len (pa_cons (pv 4) pa_nil)) (pa_cons (pv 1) pa_nil)))))))), ?_⟩
    refine ⟨_, rfl, p, _, rfl, hp, rfl, _, _, rfl, _, _, rfl, _, _, rfl, rfl, ?_⟩
    refine ⟨_, rfl, _, rfl, _, rfl, q, _, rfl, hq, _, rfl, h, t, s, ds.length, ?_, k⟩
    rw [List.length_map]
    rfl
theorem ok_goers {k : Nat} (D : Df K mg "goers_at" s_goers_at) (T : Bt mg) (O_mark_at : Ok P w K mg base k "mark_at" s_mark_at ["sea", "step"] (spMark K)) : Ok P w K mg base (k + 1) "goers_at" s_goers_at ["sea", "step"] (spGoers K) := by
  refine D.ok sc_goers_at b_goers_at (fun vs H Q E h => ?_) (fun f cdv A outer s H vs Q E hr h => ?_)
  · obtain ⟨v, h, t, s, ds, rfl, _⟩ := h
    rfl
  · obtain ⟨v, h, t, s, ds, rfl, hv, hl, k⟩ := h
    obtain ⟨p, q, rfl, hp, hq⟩ := id hv
    refine ⟨_, (pss_cons (ps_set (i := 2) sc_goers_at.nd rfl (.inl rfl) (pe_ix ix_lt (pv 0) pe_int (fun _ _ => rfl)))
      (pss_cons (ps_set (i := 3) sc_goers_at.nd rfl (.inr rfl) (pe_fn O_mark_at (hr.mono (by omega)) (pa_cons (pv 0) (pa_cons (pv 1) pa_nil))))
      (pss_one (ps_ret (pe_lc (own := [("ship", 4), ("draught", 5)]) (g := (gSeq K 2 (gCons (gName 4) (gCons (gName 5) gNil)))) (by rfl) sc_goers_at.nd (pi_enumA (by rfl) T.enumerate_ (pa_cons (pv 2) pa_nil)) (blkOk_by (own := [("ship", 4), ("draught", 5)]) (N := (["sea", "step", "draughts", "mark", "ship", "draught"] : List Str)) (sc := defScope s_goers_at) (by decide +kernel)) (fun _ _ _ _ _ => (pg_seq rfl (pgs_cons (pg_name (i := 4) sc_goers_at.nd rfl (.inl rfl)) (pgs_cons (pg_name (i := 5) sc_goers_at.nd rfl (.inl rfl)) pgs_nil)))) (fun _ _ _ _ _ => (pts_one (pt_cmpR op_le (pv 5) (pv 3) (nomark _)))) (fun _ _ _ _ _ => (pv 4))))))), ?_⟩
    refine ⟨_, rfl, p, _, 2, .ref q, rfl, rfl, hp, rfl, ?_⟩
    refine ⟨_, rfl, _, rfl, .ref p, h, t, s, ds, rfl, hv, ?_⟩
    generalize mk h t ds.length s = m at k
    refine ⟨_, rfl, q, _, H, rfl, hq, Kp.refl _ _, fun J hJ C nC => ?_⟩
    obtain ⟨G, g, W⟩ := hJ.walk
    refine lc_it W (fun i H' => Same H H' ∧ H' C = some (.lst (((gs m ds i).map fun (i : Nat) => (i : Int)).map V.int))) ⟨same_new nC, upd_same⟩ (fun i H' _ z => g H' (.ofS z.1)) ?_ ?_
    · rintro i x H1 H2 hi ⟨sm, hC⟩ ⟨u, x1, x2, rfl, nu, rfl, g1, g2⟩
      rw [List.length_map] at hi
      obtain rfl : .int (i : Nat) = x1 := Option.some.inj g1
      obtain rfl : .int ds[i] = x2 := by
        have g3 : (ds.map V.int)[i]? = some (.int ds[i]) := by simp [hi]
        exact Option.some.inj (g3.symm.trans g2)
      have ed : ds.getD i 0 = ds[i] := by simp [hi]
      have nuC : C ≠ u := ne_of_none hC nu
      have hC' : upd H1 u (.tup [.int (i : Nat), .int ds[i]]) C = some (.lst (((gs m ds i).map fun (i : Nat) => (i : Int)).map V.int)) := by rw [upd_ne nuC]; exact hC
      refine ⟨u, _, rfl, SqA.t upd_same, rfl, _, _, rfl, _, _, rfl, rfl, rfl, ?_⟩
      refine ⟨_, rfl, _, rfl, ds[i], m, rfl, rfl, _, rfl, ite2 (fun c => ?_) (fun c => ?_)⟩
      · have c0 : ds[i] ≤ m := of_decide_eq_true c
        refine ⟨_, rfl, _, hC', ?_, fun a o e => ?_, ?_⟩
        · rw [List.length_map, List.length_map]
          exact Nat.lt_of_le_of_lt gs_len (small1000 (by omega))
        · rw [upd_ne (ne_of_none e nC)]
          exact same_new nu _ _ (sm _ _ e)
        · rw [upd_same, gs_succ, ed, if_pos c0, List.map_append, List.map_append]
          rfl
      · have c0 : ¬ ds[i] ≤ m := fun z => c (decide_eq_true z)
        refine ⟨fun a o e => same_new nu _ _ (sm _ _ e), ?_⟩
        rw [hC', gs_succ, ed, if_neg c0, List.append_nil]
    · rintro H1 ⟨sm, hC⟩
      rw [List.length_map] at hC
      exact k H1 C sm nC hC
theorem ok_top {k : Nat} (D : Df K mg "top_step" s_top_step) (T : Bt mg) (O_top_of : Ok P w K mg base k "top_of" s_top_of ["here", "there", "many"] spTopOf) : Ok P w K mg base (k + 1) "top_step" s_top_step ["sea"] (spTop K) := by
  refine D.ok sc_top_step b_top_step (fun vs H Q E h => ?_) (fun f cdv A outer s H vs Q E hr h => ?_)
  · obtain ⟨v, h, t, ds, rfl, _⟩ := h
    rfl
  · obtain ⟨v, h, t, ds, rfl, ⟨p, q, rfl, hp, hq⟩, k⟩ := h
    refine ⟨_, (pss_cons (ps_asg (pv 0) (pg_seq rfl (pgs_cons (pg_name (i := 1) sc_top_step.nd rfl (.inl rfl)) (pgs_cons (pg_name (i := 2) sc_top_step.nd rfl (.inl rfl)) (pgs_cons (pg_name (i := 3) sc_top_step.nd rfl (.inl rfl)) pgs_nil)))))
      (pss_one (ps_ret (pe_fn O_top_of (hr.mono (by omega)) (pa_cons (pv 1) (pa_cons (pv 2) (pa_cons (pe_callB call_len_seq (by rfl) T.len_ PySem.boot_len (pa_cons (pv 3) pa_nil)) pa_nil))))))), ?_⟩
    refine ⟨_, rfl, p, _, rfl, hp, rfl, _, _, rfl, _, _, rfl, _, _, rfl, rfl, ?_⟩
    refine ⟨_, rfl, _, rfl, _, rfl, q, _, rfl, hq, h, t, ds.length, ?_, k⟩
    rw [List.length_map]
    rfl
end
end Sh

namespace Sh
open PySem PySem.Spec PyProof.Rows L2
/-! ### fleets as they are handed in -/
def SrtV (x : Srt) : List V := [.int x.1, .int (x.2.1 : Int), .int (x.2.2 : Int)]
def SrtsA (K : PySem.W.Frag) (H : Hp) (rs : List Addr) (ss : List Srt) : Prop := rs.length = ss.length ∧ ∀ (i : Nat) (r : Addr) (x : Srt), rs[i]? = some r → ss[i]? = some x → SqA K H r (SrtV x)
theorem SrtsA.same {K : PySem.W.Frag} {H H' : Hp} {rs : List Addr} {ss : List Srt} (w : SrtsA K H rs ss) (e : Same H H') : SrtsA K H' rs ss := ⟨w.1, fun i r x a b => Same.sqA e (w.2 i r x a b)⟩
theorem srt_at {K : PySem.W.Frag} {H : Hp} {rs : List Addr} {ss : List Srt} {i : Nat} {v : V} (w : SrtsA K H rs ss) (g : (rs.map V.ref)[i]? = some v) : ∃ (r : Addr) (hi : i < ss.length), v = .ref r ∧ SqA K H r (SrtV ss[i]) := by
  rw [List.getElem?_map] at g
  cases e : rs[i]? with
  | none => rw [e] at g; cases g
  | some r =>
    rw [e] at g
    have hi : i < rs.length := (List.getElem?_eq_some_iff.mp e).1
    have hi2 : i < ss.length := w.1 ▸ hi
    exact ⟨r, hi2, (Option.some.inj g).symm, w.2 i r _ e (List.getElem?_eq_getElem hi2)⟩
/-- a fleet (lists or tuples) is handed in -/
def FltA (K : PySem.W.Frag) (H : Hp) (v : V) (h t : Int) (ss : List Srt) : Prop := ∃ (p q : Addr) (rs : List Addr), v = .ref p ∧ SqA K H p [.int h, .int t, .ref q] ∧ SqA K H q (rs.map V.ref) ∧ SrtsA K H rs ss
theorem FltA.same {K : PySem.W.Frag} {H H' : Hp} {v : V} {h t : Int} {ss : List Srt} (s : FltA K H v h t ss) (e : Same H H') : FltA K H' v h t ss := let ⟨p, q, rs, a, b, c, d⟩ := s; ⟨p, q, rs, a, Same.sqA e b, Same.sqA e c, d.same e⟩
/-- new sorts, as tuples -/
def SrtsN (H : Hp) (rs : List Addr) (ss : List Srt) : Prop := rs.length = ss.length ∧ ∀ (i : Nat) (r : Addr) (x : Srt), rs[i]? = some r → ss[i]? = some x → H r = some (.tup (SrtV x))
theorem SrtsN.a {K : PySem.W.Frag} {H : Hp} {rs : List Addr} {ss : List Srt} (w : SrtsN H rs ss) : SrtsA K H rs ss := ⟨w.1, fun i r x a b => SqA.t (w.2 i r x a b)⟩
theorem SrtsN.same {H H' : Hp} {rs : List Addr} {ss : List Srt} (w : SrtsN H rs ss) (e : Same H H') : SrtsN H' rs ss := ⟨w.1, fun i r x a b => e _ _ (w.2 i r x a b)⟩
theorem SrtsN.put {H : Hp} {rs : List Addr} {ss : List Srt} {C : Addr} {xs ys : List V} (w : SrtsN H rs ss) (h : H C = some (.lst xs)) : SrtsN (upd H C (.lst ys)) rs ss := ⟨w.1, fun i r x a b => by
  have q := w.2 i r x a b
  rw [upd_ne (ne_of q h (by intro z; cases z))]
  exact q⟩
theorem SrtsN.push {H : Hp} {rs : List Addr} {ss : List Srt} {u : Addr} {x : Srt} (w : SrtsN H rs ss) (n : H u = none) : SrtsN (upd H u (.tup (SrtV x))) (rs ++ [u]) (ss ++ [x]) := by
  refine ⟨by rw [List.length_append, List.length_append, w.1]; rfl, fun i r y a b => ?_⟩
  by_cases z : i < rs.length
  · rw [List.getElem?_append_left z] at a
    rw [List.getElem?_append_left (by rw [← w.1]; exact z)] at b
    exact same_new n _ _ (w.2 i r y a b)
  · have e : i = rs.length := by
      have := (List.getElem?_eq_some_iff.mp a).1
      rw [List.length_append] at this
      simp at this
      omega
    subst e
    rw [List.getElem?_append_right (Nat.le_refl _), Nat.sub_self] at a
    rw [List.getElem?_append_right (by rw [w.1]; exact Nat.le_refl _), w.1, Nat.sub_self] at b
    obtain rfl : u = r := Option.some.inj a
    obtain rfl : x = y := Option.some.inj b
    exact upd_same
theorem SrtsN.push' {H : Hp} {rs : List Addr} {ss : List Srt} {u : Addr} {x : Srt} {o : HO} (w : SrtsN H rs ss) (n : H u = none) (e : o = .tup (SrtV x)) : SrtsN (upd H u o) (rs ++ [u]) (ss ++ [x]) := by
  subst e
  exact w.push n
end Sh

namespace Sh
open PySem PySem.Spec PyProof.Rows L2
/-! ### the program: lots, of fleets as they are handed in -/
theorem isum (f : Srt → Nat) : ∀ l : List Srt, (l.map fun x => (f x : Int)).sum = ((l.map f).sum : Int)
  | [] => rfl
  | a :: l => by
    rw [List.map_cons, List.sum_cons, isum f l, List.map_cons, List.sum_cons]
    rfl
theorem tm {β : Type} (f : Srt → β) {ss : List Srt} {i : Nat} (hi : i < ss.length) : (ss.take (i + 1)).map f = (ss.take i).map f ++ [f ss[i]] := by rw [take_succ_get hi, List.map_append]; rfl
theorem tfm {β : Type} (p : Srt → Bool) (f : Srt → β) {ss : List Srt} {i : Nat} (hi : i < ss.length) : ((ss.take (i + 1)).filter p).map f = ((ss.take i).filter p).map f ++ (if p ss[i] = true then [f ss[i]] else []) := by
  rw [take_succ_get hi, List.filter_append, List.map_append]
  congr 1
  by_cases c : p ss[i] = true
  · rw [if_pos c, List.filter_cons_of_pos c]; rfl
  · rw [if_neg c, List.filter_cons_of_neg c]; rfl
theorem take_le {ss : List Srt} {i : Nat} (hi : i < ss.length) : (ss.take i).length < ss.length := by rw [List.length_take]; omega
theorem tf_le {p : Srt → Bool} {ss : List Srt} {i : Nat} (hi : i < ss.length) : ((ss.take i).filter p).length < ss.length := Nat.lt_of_le_of_lt (List.length_filter_le _ _) (take_le hi)
def spShips (K : PySem.W.Frag) : Sp := fun vs H Q _ => ∃ (v : V) (h t : Int) (ss : List Srt), vs = [v] ∧ FltA K H v h t ss ∧ ss.length ≤ 1000 ∧ ∀ H', Same H H' → Q (.int (mny ss : Int)) H'
def spMarkIn (K : PySem.W.Frag) : Sp := fun vs H Q _ => ∃ (v : V) (h t s : Int) (ss : List Srt), vs = [v, .int s] ∧ FltA K H v h t ss ∧ ss.length ≤ 1000 ∧ ∀ H', Same H H' → Q (.int (mk h t (mny ss) s)) H'
def spGoersMany (K : PySem.W.Frag) : Sp := fun vs H Q _ => ∃ (v : V) (h t s : Int) (ss : List Srt), vs = [v, .int s] ∧ FltA K H v h t ss ∧ ss.length ≤ 1000 ∧ ∀ H', Same H H' → Q (.int (gmF ss (mk h t (mny ss) s) : Int)) H'
def spTopIn (K : PySem.W.Frag) : Sp := fun vs H Q _ => ∃ (v : V) (h t : Int) (ss : List Srt), vs = [v] ∧ FltA K H v h t ss ∧ ss.length ≤ 1000 ∧ ∀ H', Same H H' → Q (.int (topI h t (mny ss))) H'
def spFilled (K : PySem.W.Frag) : Sp := fun vs H Q _ => ∃ (v : V) (h t s : Int) (ss : List Srt), vs = [v, .int s] ∧ FltA K H v h t ss ∧ ss.length ≤ 1000 ∧ ∀ H', Same H H' → Q (.int (filF ss (mk h t (mny ss) s) : Int)) H'
/-- marks rise up to top -/
def Rise (h t : Int) (n : Nat) (top : Int) : Prop := ∀ s s' : Int, 0 ≤ s → s ≤ s' → s' ≤ top → mk h t n s ≤ mk h t n s'
def spLowStop (K : PySem.W.Frag) : Sp := fun vs H Q _ => ∃ (v : V) (h t top : Int) (ss : List Srt), vs = [v, .int top] ∧ FltA K H v h t ss ∧ ss.length ≤ 1000 ∧ Rise h t (mny ss) top ∧
  (∀ (H' : Hp) (N : Nat), Same H H' → (N : Int) ≤ top → StuckF h t ss N → Q (.int (N : Int)) H') ∧ (∀ H', Same H H' → (∀ N : Nat, (N : Int) ≤ top → ¬ StuckF h t ss N) → Q .non H')
def spTurnedF (K : PySem.W.Frag) : Sp := fun vs H Q _ => ∃ (v : V) (h t : Int) (ss : List Srt), vs = [v] ∧ FltA K H v h t ss ∧ ss.length ≤ 1000 ∧ ∀ (H' : Hp) (z : V), Same H H' → FltA K H' z t h (turnF ss) → Q z H'
theorem fil_mono {ss : List Srt} {m m' : Int} (e : m ≤ m') : filF ss m ≤ filF ss m' := by
  unfold filF
  induction ss with
  | nil => exact Nat.le_refl _
  | cons a l ih =>
    simp only [List.map_cons, List.sum_cons]
    have : (if a.1 ≤ m then a.2.2 else 0) ≤ (if a.1 ≤ m' then a.2.2 else 0) := by
      by_cases z : a.1 ≤ m
      · rw [if_pos z, if_pos (by omega)]
        exact Nat.le_refl _
      · rw [if_neg z]
        exact Nat.zero_le _
    omega
theorem fil_ge {ss : List Srt} {m : Int} : ourn ss ≤ filF ss m := by
  unfold filF ourn
  induction ss with
  | nil => exact Nat.le_refl _
  | cons a l ih =>
    simp only [List.map_cons, List.sum_cons]
    omega
theorem fil_le {ss : List Srt} {m : Int} : filF ss m ≤ mny ss := by
  unfold filF mny
  induction ss with
  | nil => exact Nat.le_refl _
  | cons a l ih =>
    simp only [List.map_cons, List.sum_cons]
    have : (if a.1 ≤ m then a.2.2 else 0) ≤ a.2.2 := by split <;> omega
    omega
abbrev s_ships_many : Stmt := topS 13
theorem sc_ships_many : FnScope (["fleet", "draught", "ours", "theirs"] : List Str) (["fleet"] : List Str) (defScope s_ships_many) := ⟨rfl, rfl, rfl, by decide +kernel, rfl, by decide +kernel, by decide +kernel⟩
theorem b_ships_many (kV doc pm : Value) (an : Option Addr) (cdv ct : Value) (us : List Value) (hl : us.length = (["fleet"] : List Str).length) : bindArgs (PySem.W.fnOf "ships_many" "ships_many" (defArgs s_ships_many) (defBody s_ships_many) (defScope s_ships_many) .none kV doc pm an cdv ct) ⟨us, []⟩ = pure ((["fleet"] : List Str).zip us) :=
  match us, hl with | [_], _ => rfl
abbrev s_mark_in : Stmt := topS 14
theorem sc_mark_in : FnScope (["fleet", "step", "here", "there", "sorts"] : List Str) (["fleet", "step"] : List Str) (defScope s_mark_in) := ⟨rfl, rfl, rfl, by decide +kernel, rfl, by decide +kernel, by decide +kernel⟩
theorem b_mark_in (kV doc pm : Value) (an : Option Addr) (cdv ct : Value) (us : List Value) (hl : us.length = (["fleet", "step"] : List Str).length) : bindArgs (PySem.W.fnOf "mark_in" "mark_in" (defArgs s_mark_in) (defBody s_mark_in) (defScope s_mark_in) .none kV doc pm an cdv ct) ⟨us, []⟩ = pure ((["fleet", "step"] : List Str).zip us) :=
  match us, hl with | [_, _], _ => rfl
abbrev s_top_in : Stmt := topS 15
theorem sc_top_in : FnScope (["fleet", "here", "there", "sorts"] : List Str) (["fleet"] : List Str) (defScope s_top_in) := ⟨rfl, rfl, rfl, by decide +kernel, rfl, by decide +kernel, by decide +kernel⟩
theorem b_top_in (kV doc pm : Value) (an : Option Addr) (cdv ct : Value) (us : List Value) (hl : us.length = (["fleet"] : List Str).length) : bindArgs (PySem.W.fnOf "top_in" "top_in" (defArgs s_top_in) (defBody s_top_in) (defScope s_top_in) .none kV doc pm an cdv ct) ⟨us, []⟩ = pure ((["fleet"] : List Str).zip us) :=
  match us, hl with | [_], _ => rfl
abbrev s_filled_at : Stmt := topS 16
theorem sc_filled_at : FnScope (["fleet", "step", "mark", "draught", "ours", "theirs"] : List Str) (["fleet", "step"] : List Str) (defScope s_filled_at) := ⟨rfl, rfl, rfl, by decide +kernel, rfl, by decide +kernel, by decide +kernel⟩
theorem b_filled_at (kV doc pm : Value) (an : Option Addr) (cdv ct : Value) (us : List Value) (hl : us.length = (["fleet", "step"] : List Str).length) : bindArgs (PySem.W.fnOf "filled_at" "filled_at" (defArgs s_filled_at) (defBody s_filled_at) (defScope s_filled_at) .none kV doc pm an cdv ct) ⟨us, []⟩ = pure ((["fleet", "step"] : List Str).zip us) :=
  match us, hl with | [_, _], _ => rfl
abbrev s_low_stop : Stmt := topS 17
theorem sc_low_stop : FnScope (["fleet", "top", "step", "filled", "draught", "ours", "theirs"] : List Str) (["fleet", "top"] : List Str) (defScope s_low_stop) := ⟨rfl, rfl, rfl, by decide +kernel, rfl, by decide +kernel, by decide +kernel⟩
theorem b_low_stop (kV doc pm : Value) (an : Option Addr) (cdv ct : Value) (us : List Value) (hl : us.length = (["fleet", "top"] : List Str).length) : bindArgs (PySem.W.fnOf "low_stop" "low_stop" (defArgs s_low_stop) (defBody s_low_stop) (defScope s_low_stop) .none kV doc pm an cdv ct) ⟨us, []⟩ = pure ((["fleet", "top"] : List Str).zip us) :=
  match us, hl with | [_, _], _ => rfl
abbrev s_turned_fleet : Stmt := topS 12
theorem sc_turned_fleet : FnScope (["fleet", "here", "there", "sorts", "draught", "ours", "theirs"] : List Str) (["fleet"] : List Str) (defScope s_turned_fleet) := ⟨rfl, rfl, rfl, by decide +kernel, rfl, by decide +kernel, by decide +kernel⟩
theorem b_turned_fleet (kV doc pm : Value) (an : Option Addr) (cdv ct : Value) (us : List Value) (hl : us.length = (["fleet"] : List Str).length) : bindArgs (PySem.W.fnOf "turned_fleet" "turned_fleet" (defArgs s_turned_fleet) (defBody s_turned_fleet) (defScope s_turned_fleet) .none kV doc pm an cdv ct) ⟨us, []⟩ = pure ((["fleet"] : List Str).zip us) :=
  match us, hl with | [_], _ => rfl
section
variable {P : Program} {w : World} {K : PySem.W.Frag} {mg : Str → Option Value} {base : Heap}
theorem ok_ships {k : Nat} (D : Df K mg "ships_many" s_ships_many) (T : Bt mg) : Ok P w K mg base (k + 1) "ships_many" s_ships_many ["fleet"] (spShips K) := by
  refine D.ok sc_ships_many b_ships_many (fun vs H Q E h => ?_) (fun f cdv A outer s H vs Q E hr h => ?_)
  · obtain ⟨v, h, t, ss, rfl, _⟩ := h
    rfl
  · obtain ⟨v, h, t, ss, rfl, ⟨p, q, rs, rfl, hp, hq, hs⟩, l1, k⟩ := h
    refine ⟨_, (pss_one (ps_ret (pe_callB (cr_sum rfl) (by rfl) T.sum_ (by decide +kernel) (pa_cons (pe_lc (own := [("draught", 1), ("ours", 2), ("theirs", 3)]) (g := (gSeq K 3 (gCons (gName 1) (gCons (gName 2) (gCons (gName 3) gNil))))) (tt := tYes) (by rfl) sc_ships_many.nd (pi_seq (pe_ix ix_lt (pv 0) pe_int (fun _ _ => rfl))) (blkOk_by (own := [("draught", 1), ("ours", 2), ("theirs", 3)]) (N := (["fleet", "draught", "ours", "theirs"] : List Str)) (sc := defScope s_ships_many) (by decide +kernel)) (fun _ _ _ _ _ => (pg_seq rfl (pgs_cons (pg_name (i := 1) sc_ships_many.nd rfl (.inl rfl)) (pgs_cons (pg_name (i := 2) sc_ships_many.nd rfl (.inl rfl)) (pgs_cons (pg_name (i := 3) sc_ships_many.nd rfl (.inl rfl)) pgs_nil))))) (fun _ _ _ _ _ => pts_nil) (fun _ _ _ _ _ => (pe_op op_add (pv 2) (pv 3)))) pa_nil)))), ?_⟩
    refine ⟨_, rfl, p, _, 2, .ref q, rfl, rfl, hp, rfl, q, _, H, rfl, hq, Kp.refl _ _, fun J hJ C nC => ?_⟩
    obtain ⟨G, g, W⟩ := hJ.walk
    refine lc_it W (fun i H' => Same H H' ∧ H' C = some (.lst (((ss.take i).map fun x => ((x.2.1 + x.2.2 : Nat) : Int)).map V.int))) ⟨same_new nC, upd_same⟩ (fun i H' _ z => g H' (.ofS z.1)) ?_ ?_
    · rintro i x H1 H2 _ ⟨sm, hC⟩ ⟨rfl, gx⟩
      obtain ⟨r, hi, rfl, hr1⟩ := srt_at (hs.same sm) gx
      refine ⟨r, _, rfl, hr1, rfl, _, _, rfl, _, _, rfl, _, _, rfl, rfl, rfl, tyes (iteT ⟨_, rfl, _, rfl, _, _, rfl, rfl, _, hC, ?_, same_over sm nC, ?_⟩)⟩
      · rw [List.length_map, List.length_map]
        exact Nat.lt_of_lt_of_le (take_le hi) (Nat.le_trans l1 (by decide))
      · rw [upd_same, tm _ hi, List.map_append]
        rfl
    · rintro H1 ⟨sm, hC⟩
      rw [List.length_map, hs.1, List.take_length] at hC
      refine ⟨C, _, rfl, SqL.of hC, ?_⟩
      rw [isum]
      exact k H1 sm
theorem ok_mark_in {k : Nat} (D : Df K mg "mark_in" s_mark_in) (T : Bt mg) (O_mark_of : Ok P w K mg base k "mark_of" s_mark_of ["here", "there", "many", "step"] spMarkOf) (O_ships_many : Ok P w K mg base k "ships_many" s_ships_many ["fleet"] (spShips K)) :
    Ok P w K mg base (k + 1) "mark_in" s_mark_in ["fleet", "step"] (spMarkIn K) := by
  refine D.ok sc_mark_in b_mark_in (fun vs H Q E h => ?_) (fun f cdv A outer s H vs Q E hr h => ?_)
  · obtain ⟨v, h, t, s, ss, rfl, _⟩ := h
    rfl
  · obtain ⟨v, h, t, s, ss, rfl, hv, l1, k⟩ := h
    obtain ⟨p, q, rs, rfl, hp, hq, hs⟩ := id hv
    refine ⟨_, (pss_cons (ps_asg (pv 0) (pg_seq rfl (pgs_cons (pg_name (i := 2) sc_mark_in.nd rfl (.inl rfl)) (pgs_cons (pg_name (i := 3) sc_mark_in.nd rfl (.inl rfl)) (pgs_cons (pg_name (i := 4) sc_mark_in.nd rfl (.inl rfl)) pgs_nil)))))
      (pss_one (ps_ret (pe_fn O_mark_of (hr.mono (by omega)) (pa_cons (pv 2) (pa_cons (pv 3) (pa_cons (pe_fn O_ships_many (hr.mono (by omega)) (pa_cons (pv 0) pa_nil)) (pa_cons (pv 1) pa_nil)))))))), ?_⟩
    refine ⟨_, rfl, p, _, rfl, hp, rfl, _, _, rfl, _, _, rfl, _, _, rfl, rfl, ?_⟩
    exact ⟨_, rfl, _, rfl, _, rfl, .ref p, h, t, ss, rfl, hv, l1, fun H' s1 => ⟨_, rfl, h, t, s, mny ss, rfl, k H' s1⟩⟩
theorem ok_top_in {k : Nat} (D : Df K mg "top_in" s_top_in) (T : Bt mg) (O_top_of : Ok P w K mg base k "top_of" s_top_of ["here", "there", "many"] spTopOf) (O_ships_many : Ok P w K mg base k "ships_many" s_ships_many ["fleet"] (spShips K)) :
    Ok P w K mg base (k + 1) "top_in" s_top_in ["fleet"] (spTopIn K) := by
  refine D.ok sc_top_in b_top_in (fun vs H Q E h => ?_) (fun f cdv A outer s H vs Q E hr h => ?_)
  · obtain ⟨v, h, t, ss, rfl, _⟩ := h
    rfl
  · obtain ⟨v, h, t, ss, rfl, hv, l1, k⟩ := h
    obtain ⟨p, q, rs, rfl, hp, hq, hs⟩ := id hv
    refine ⟨_, (pss_cons (ps_asg (pv 0) (pg_seq rfl (pgs_cons (pg_name (i := 1) sc_top_in.nd rfl (.inl rfl)) (pgs_cons (pg_name (i := 2) sc_top_in.nd rfl (.inl rfl)) (pgs_cons (pg_name (i := 3) sc_top_in.nd rfl (.inl rfl)) pgs_nil)))))
      (pss_one (ps_ret (pe_fn O_top_of (hr.mono (by omega)) (pa_cons (pv 1) (pa_cons (pv 2) (pa_cons (pe_fn O_ships_many (hr.mono (by omega)) (pa_cons (pv 0) pa_nil)) pa_nil))))))), ?_⟩
    refine ⟨_, rfl, p, _, rfl, hp, rfl, _, _, rfl, _, _, rfl, _, _, rfl, rfl, ?_⟩
    exact ⟨_, rfl, _, rfl, _, rfl, .ref p, h, t, ss, rfl, hv, l1, fun H' s1 => ⟨h, t, mny ss, rfl, k H' s1⟩⟩
theorem ok_filled {k : Nat} (D : Df K mg "filled_at" s_filled_at) (T : Bt mg) (O_mark_in : Ok P w K mg base k "mark_in" s_mark_in ["fleet", "step"] (spMarkIn K)) :
    Ok P w K mg base (k + 1) "filled_at" s_filled_at ["fleet", "step"] (spFilled K) := by
  refine D.ok sc_filled_at b_filled_at (fun vs H Q E h => ?_) (fun f cdv A outer s H vs Q E hr h => ?_)
  · obtain ⟨v, h, t, s, ss, rfl, _⟩ := h
    rfl
  · obtain ⟨v, h, t, s, ss, rfl, hv, l1, k⟩ := h
    refine ⟨_, (pss_cons (ps_set (i := 2) sc_filled_at.nd rfl (.inr rfl) (pe_fn O_mark_in (hr.mono (by omega)) (pa_cons (pv 0) (pa_cons (pv 1) pa_nil))))
      (pss_one (ps_ret (pe_callB (cr_sum rfl) (by rfl) T.sum_ (by decide +kernel) (pa_cons (pe_lc (own := [("draught", 3), ("ours", 4), ("theirs", 5)]) (g := (gSeq K 3 (gCons (gName 3) (gCons (gName 4) (gCons (gName 5) gNil))))) (tt := tYes) (by rfl) sc_filled_at.nd (pi_seq (pe_ix ix_lt (pv 0) pe_int (fun _ _ => rfl))) (blkOk_by (own := [("draught", 3), ("ours", 4), ("theirs", 5)]) (N := (["fleet", "step", "mark", "draught", "ours", "theirs"] : List Str)) (sc := defScope s_filled_at) (by decide +kernel)) (fun _ _ _ _ _ => (pg_seq rfl (pgs_cons (pg_name (i := 3) sc_filled_at.nd rfl (.inl rfl)) (pgs_cons (pg_name (i := 4) sc_filled_at.nd rfl (.inl rfl)) (pgs_cons (pg_name (i := 5) sc_filled_at.nd rfl (.inl rfl)) pgs_nil))))) (fun _ _ _ _ _ => pts_nil) (fun _ _ _ _ _ => (pe_op op_add (pv 4) (pe_ifExp (pt_cmpR op_le (pv 3) (pv 2) (nomark _)) (pv 5) pe_int)))) pa_nil))))), ?_⟩
    refine ⟨_, rfl, _, rfl, v, h, t, s, ss, rfl, hv, l1, fun H0 s0 => ?_⟩
    obtain ⟨p, q, rs, rfl, hp, hq, hs⟩ := hv.same s0
    generalize mk h t (mny ss) s = m at k
    refine ⟨_, rfl, p, _, 2, .ref q, rfl, rfl, hp, rfl, q, _, H0, rfl, hq, Kp.refl _ _, fun J hJ C nC => ?_⟩
    obtain ⟨G, g, W⟩ := hJ.walk
    refine lc_it W (fun i H' => Same H0 H' ∧ H' C = some (.lst (((ss.take i).map fun x => ((x.2.1 + if x.1 ≤ m then x.2.2 else 0 : Nat) : Int)).map V.int))) ⟨same_new nC, upd_same⟩ (fun i H' _ z => g H' (.ofS z.1)) ?_ ?_
    · rintro i x H1 H2 _ ⟨sm, hC⟩ ⟨rfl, gx⟩
      obtain ⟨r, hi, rfl, hr1⟩ := srt_at (hs.same sm) gx
      have len : (((ss.take i).map fun x => ((x.2.1 + if x.1 ≤ m then x.2.2 else 0 : Nat) : Int)).map V.int).length < sizeLine := by
        rw [List.length_map, List.length_map]
        exact Nat.lt_of_lt_of_le (take_le hi) (Nat.le_trans l1 (by decide))
      refine ⟨r, _, rfl, hr1, rfl, _, _, rfl, _, _, rfl, _, _, rfl, rfl, rfl, tyes (iteT ⟨_, rfl, _, rfl, _, rfl, _, _, rfl, rfl, _, rfl, ite2 (fun c => ⟨_, rfl, _, _, rfl, rfl, _, hC, len, same_over sm nC, ?_⟩) (fun c => ⟨_, _, rfl, rfl, _, hC, len, same_over sm nC, ?_⟩)⟩)⟩
      · have c0 : ss[i].1 ≤ m := of_decide_eq_true c
        rw [upd_same, tm _ hi, List.map_append, if_pos c0]
        rfl
      · have c0 : ¬ ss[i].1 ≤ m := fun z => c (decide_eq_true z)
        rw [upd_same, tm _ hi, List.map_append, if_neg c0]
        rfl
    · rintro H1 ⟨sm, hC⟩
      rw [List.length_map, hs.1, List.take_length] at hC
      refine ⟨C, _, rfl, SqL.of hC, ?_⟩
      rw [isum]
      exact k H1 (s0.trans sm)
theorem ok_low_stop {k : Nat} (D : Df K mg "low_stop" s_low_stop) (T : Bt mg) (O_filled_at : Ok P w K mg base k "filled_at" s_filled_at ["fleet", "step"] (spFilled K)) :
    Ok P w K mg base (k + 1) "low_stop" s_low_stop ["fleet", "top"] (spLowStop K) := by
  refine D.ok sc_low_stop b_low_stop (fun vs H Q E h => ?_) (fun f cdv A outer s H vs Q E hr h => ?_)
  · obtain ⟨v, h, t, top, ss, rfl, _⟩ := h
    rfl
  · obtain ⟨v, h, t, top, ss, rfl, hv, l1, ris, k1, k2⟩ := h
    refine ⟨_, (pss_cons (ps_set (i := 2) sc_low_stop.nd rfl (.inl rfl) (pe_callB (cr_sum rfl) (by rfl) T.sum_ (by decide +kernel) (pa_cons (pe_lc (own := [("draught", 4), ("ours", 5), ("theirs", 6)]) (g := (gSeq K 3 (gCons (gName 4) (gCons (gName 5) (gCons (gName 6) gNil))))) (tt := tYes) (by rfl) sc_low_stop.nd (pi_seq (pe_ix ix_lt (pv 0) pe_int (fun _ _ => rfl))) (blkOk_by (own := [("draught", 4), ("ours", 5), ("theirs", 6)]) (N := (["fleet", "top", "step", "filled", "draught", "ours", "theirs"] : List Str)) (sc := defScope s_low_stop) (by decide +kernel)) (fun _ _ _ _ _ => (pg_seq rfl (pgs_cons (pg_name (i := 4) sc_low_stop.nd rfl (.inl rfl)) (pgs_cons (pg_name (i := 5) sc_low_stop.nd rfl (.inl rfl)) (pgs_cons (pg_name (i := 6) sc_low_stop.nd rfl (.inl rfl)) pgs_nil))))) (fun _ _ _ _ _ => pts_nil) (fun _ _ _ _ _ => (pv 5))) pa_nil)))
      (pss_cons (ps_while PassesOwn.never (pt_cmpR op_le (pv 2) (pv 1) (nomark _))
        (pss_cons (ps_set (i := 3) sc_low_stop.nd rfl (.inl rfl) (pe_fn O_filled_at (hr.mono (by omega)) (pa_cons (pv 0) (pa_cons (pv 2) pa_nil))))
          (pss_cons (ps_if (pt_cmpR op_eq (pv 3) (pv 2) (nomark _))
            (pss_one (ps_ret (pv 2)))
            pss_nil)
          (pss_one (ps_set (i := 2) sc_low_stop.nd rfl (.inl rfl) (pv 3))))))
      (pss_one (ps_ret pe_non)))), ?_⟩
    obtain ⟨p, q, rs, rfl, hp, hq, hs⟩ := id hv
    refine ⟨_, rfl, p, _, 2, .ref q, rfl, rfl, hp, rfl, q, _, H, rfl, hq, Kp.refl _ _, fun J hJ C nC => ?_⟩
    obtain ⟨G, g, W⟩ := hJ.walk
    refine lc_it W (fun i H' => Same H H' ∧ H' C = some (.lst (((ss.take i).map fun x => ((x.2.1 : Nat) : Int)).map V.int))) ⟨same_new nC, upd_same⟩ (fun i H' _ z => g H' (.ofS z.1)) ?_ ?_
    · rintro i x H1 H2 _ ⟨sm, hC⟩ ⟨rfl, gx⟩
      obtain ⟨r, hi, rfl, hr1⟩ := srt_at (hs.same sm) gx
      refine ⟨r, _, rfl, hr1, rfl, _, _, rfl, _, _, rfl, _, _, rfl, rfl, rfl, tyes (iteT ⟨_, rfl, _, hC, ?_, same_over sm nC, ?_⟩)⟩
      · rw [List.length_map, List.length_map]
        exact Nat.lt_of_lt_of_le (take_le hi) (Nat.le_trans l1 (by decide))
      · rw [upd_same, tm _ hi, List.map_append]
        rfl
    rintro H1 ⟨sm, hC⟩
    rw [List.length_map, hs.1, List.take_length] at hC
    refine ⟨C, _, rfl, SqL.of hC, ?_⟩
    rw [isum]
    -- the loop: step is no less than those here; at no step between is it stuck
    refine ⟨fun m σ H' => ∃ (y : Option V) (n : Nat), σ = [some (.ref p), some (.int top), some (.int (n : Int)), y, none, none, none] ∧ Same H H' ∧ ourn ss ≤ n ∧ n ≤ mny ss ∧ mny ss - n = m ∧ (∀ j : Nat, ourn ss ≤ j → j < n → (j : Int) ≤ top → j < filF ss (mk h t (mny ss) (j : Int))) ∧ ((n : Int) ≤ top → n ≤ filF ss (mk h t (mny ss) (n : Int))),
      ⟨_, none, ourn ss, rfl, sm, Nat.le_refl _, ?_, rfl, fun j a b => by omega, fun _ => fil_ge⟩, ?_⟩
    · exact Nat.le_trans (fil_ge (m := 0)) fil_le
    rintro m σ H2 ⟨y, n, rfl, s2, n0, n1, rfl, hj, hn⟩
    refine ⟨_, rfl, _, rfl, _, _, rfl, rfl, _, rfl, ite2 (fun c => ?_) (fun c => ?_)⟩
    · have c0 : (n : Int) ≤ top := of_decide_eq_true c
      refine ⟨fun σ' H' => ∃ (y : Option V) (n' : Nat), σ' = [some (.ref p), some (.int top), some (.int (n' : Int)), y, none, none, none] ∧ Same H H' ∧ ourn ss ≤ n' ∧ n' ≤ mny ss ∧ n < n' ∧ (∀ j : Nat, ourn ss ≤ j → j < n' → (j : Int) ≤ top → j < filF ss (mk h t (mny ss) (j : Int))) ∧ ((n' : Int) ≤ top → n' ≤ filF ss (mk h t (mny ss) (n' : Int))),
        fun σ' H' ⟨y', n', z1, z2, z3, z4, z5, z6, z7⟩ => ⟨_, by omega, y', n', z1, z2, z3, z4, rfl, z6, z7⟩, ?_⟩
      refine ⟨_, rfl, _, rfl, .ref p, h, t, (n : Int), ss, rfl, hv.same s2, l1, fun H3 s3 => ?_⟩
      have s23 := s2.trans s3
      refine ⟨_, rfl, _, rfl, rfl, _, rfl, ite2 (fun c2 => ?_) (fun c2 => ?_)⟩
      · have e : (filF ss (mk h t (mny ss) (n : Int)) : Int) = (n : Int) := V.int.inj (of_decide_eq_true c2)
        exact ⟨_, rfl, k1 H3 n s23 c0 ⟨n0, fun j a b => hj j a b (by omega), by omega⟩⟩
      · have e : ¬ (filF ss (mk h t (mny ss) (n : Int)) : Int) = (n : Int) := fun z => c2 (decide_eq_true (by rw [z]))
        have hn' := hn c0
        refine ⟨_, rfl, _, filF ss (mk h t (mny ss) (n : Int)), rfl, s23, fil_ge, fil_le, by omega, fun j a b d => ?_, fun d => ?_⟩
        · by_cases z : j < n
          · exact hj j a z d
          · have := fil_mono (ss := ss) (ris (n : Int) (j : Int) (by omega) (by omega) d)
            omega
        · exact fil_mono (ris _ _ (by omega) (by omega) d)
    · have c0 : ¬ (n : Int) ≤ top := fun z => c (decide_eq_true z)
      refine k2 H2 s2 fun N a ⟨b1, b2, b3⟩ => ?_
      have := hj N b1 (by omega) a
      omega
theorem ok_turned_fleet {k : Nat} (D : Df K mg "turned_fleet" s_turned_fleet) (T : Bt mg) : Ok P w K mg base (k + 1) "turned_fleet" s_turned_fleet ["fleet"] (spTurnedF K) := by
  refine D.ok sc_turned_fleet b_turned_fleet (fun vs H Q E h => ?_) (fun f cdv A outer s H vs Q E hr h => ?_)
  · obtain ⟨v, h, t, ss, rfl, _⟩ := h
    rfl
  · obtain ⟨v, h, t, ss, rfl, hv, l1, k⟩ := h
    obtain ⟨p, q, rs, rfl, hp, hq, hs⟩ := id hv
    refine ⟨_, (pss_cons (ps_asg (pv 0) (pg_seq rfl (pgs_cons (pg_name (i := 1) sc_turned_fleet.nd rfl (.inl rfl)) (pgs_cons (pg_name (i := 2) sc_turned_fleet.nd rfl (.inl rfl)) (pgs_cons (pg_name (i := 3) sc_turned_fleet.nd rfl (.inl rfl)) pgs_nil)))))
      (pss_one (ps_ret (pe_tup (pa_cons (pv 2) (pa_cons (pv 1) (pa_cons (pe_callTy call_tuple_of (by rfl) T.tuple_ (by decide +kernel) (pa_cons (pe_lc (own := [("draught", 4), ("ours", 5), ("theirs", 6)]) (g := (gSeq K 3 (gCons (gName 4) (gCons (gName 5) (gCons (gName 6) gNil))))) (tt := tYes) (by rfl) sc_turned_fleet.nd (pi_seq (pv 3)) (blkOk_by (own := [("draught", 4), ("ours", 5), ("theirs", 6)]) (N := (["fleet", "here", "there", "sorts", "draught", "ours", "theirs"] : List Str)) (sc := defScope s_turned_fleet) (by decide +kernel)) (fun _ _ _ _ _ => (pg_seq rfl (pgs_cons (pg_name (i := 4) sc_turned_fleet.nd rfl (.inl rfl)) (pgs_cons (pg_name (i := 5) sc_turned_fleet.nd rfl (.inl rfl)) (pgs_cons (pg_name (i := 6) sc_turned_fleet.nd rfl (.inl rfl)) pgs_nil))))) (fun _ _ _ _ _ => pts_nil) (fun _ _ _ _ _ => (pe_tup (pa_cons (pv 4) (pa_cons (pv 6) (pa_cons (pv 5) pa_nil)))))) pa_nil)) pa_nil))))))), ?_⟩
    refine ⟨_, rfl, p, _, rfl, hp, rfl, _, _, rfl, _, _, rfl, _, _, rfl, rfl, ?_⟩
    refine ⟨_, rfl, _, rfl, _, rfl, q, _, H, rfl, hq, Kp.refl _ _, fun J hJ C nC => ?_⟩
    obtain ⟨G, g, W⟩ := hJ.walk
    refine lc_it W (fun i H' => Same H H' ∧ ∃ us : List Addr, H' C = some (.lst (us.map V.ref)) ∧ SrtsN H' us (turnF (ss.take i))) ⟨same_new nC, [], upd_same, ?_⟩ (fun i H' _ z => g H' (.ofS z.1)) ?_ ?_
    · exact ⟨rfl, fun i r x a _ => by simp at a⟩
    · rintro i x H1 H2 _ ⟨sm, us, hC, hu⟩ ⟨rfl, gx⟩
      obtain ⟨r, hi, rfl, hr1⟩ := srt_at (hs.same sm) gx
      have lu : us.length = i := by
        rw [hu.1]
        unfold turnF
        rw [List.length_map, List.length_take]
        omega
      refine ⟨r, _, rfl, hr1, rfl, _, _, rfl, _, _, rfl, _, _, rfl, rfl, rfl, tyes (iteT ⟨_, rfl, _, rfl, _, rfl, (by show 3 ≤ sizeLine; decide), fun u nu => ⟨_, same_new nu _ _ hC, ?_, ?_, us ++ [u], ?_, ?_⟩⟩)⟩
      · rw [List.length_map, lu]
        exact Nat.lt_of_lt_of_le hi (Nat.le_trans l1 (by decide))
      · exact same_over (sm.trans (same_new nu)) nC
      · rw [upd_same, List.map_append]
        rfl
      · have e : turnF (ss.take (i + 1)) = turnF (ss.take i) ++ [(ss[i].1, ss[i].2.2, ss[i].2.1)] := tm _ hi
        rw [e]
        exact (hu.push (x := (ss[i].1, ss[i].2.2, ss[i].2.1)) nu).put (same_new nu _ _ hC)
    · rintro H1 ⟨sm, us, hC, hu⟩
      rw [List.length_map, hs.1, List.take_length] at hu
      refine ⟨C, _, rfl, .inl ⟨SqL.of hC, fun a na => ⟨(by show 3 ≤ sizeLine; decide), fun b nb => ?_⟩⟩⟩
      have s1 : Same H1 (upd H1 a (.tup (us.map V.ref))) := same_new na
      have s2 := s1.trans (same_new nb (o := .tup [.int t, .int h, .ref a]))
      exact k _ _ (sm.trans s2) ⟨b, a, us, rfl, SqA.t upd_same, SqA.t (same_new nb _ _ upd_same), (hu.same s2).a⟩
end
end Sh

namespace Sh
open PySem PySem.Spec PyProof.Rows L2
/-! ### which lot: its kind and its step -/
/-- constants of the top -/
structure Cn (mg : Str → Option Value) : Prop where
  low : ∃ t, mg "LOW" = some (.str "low" t)
  high : ∃ t, mg "HIGH" = some (.str "high" t)
  top : ∃ t, mg "TOP" = some (.str "top" t)
structure Ck (mg : Str → Option Value) (K : PySem.W.Frag) (w : World) : Prop where
  kinds : ∃ a, mg "TURNED_KINDS" = some (.ref a) ∧ KDct K w a "low" (.str "high") ∧ KDct K w a "high" (.str "low") ∧ KDct K w a "top" (.str "top")
section
variable {K : PySem.W.Frag} {mg : Str → Option Value} {w : World}
theorem with_cn {R : Prop} {h : Heap} {t1 t2 t3 : Tok} (X : K.In h) (G : h.Ns mainGlobals mg) (a : PySem.W.nsIn K mainGlobals "LOW" = some (some (.str "low" t1))) (b : PySem.W.nsIn K mainGlobals "HIGH" = some (some (.str "high" t2)))
    (c : PySem.W.nsIn K mainGlobals "TOP" = some (some (.str "top" t3))) (r : Cn mg → R) : R := r ⟨⟨_, PySem.W.mg_of X G a⟩, ⟨_, PySem.W.mg_of X G b⟩, ⟨_, PySem.W.mg_of X G c⟩⟩
theorem with_ck {R : Prop} {h : Heap} {p : Addr} {es : Array DictEntry} {n : Nat} {t1 t2 t3 : Tok} (X : K.In h) (G : h.Ns mainGlobals mg) (a : PySem.W.nsIn K mainGlobals "TURNED_KINDS" = some (some (.ref p))) (l : K.lookup p = some ⟨.type "dict", none, .dict es n, #[]⟩)
    (k : PySem.W.KeysLit w.params es.toList) (d1 : PySem.W.nsIn K p "low" = some (some (.str "high" t1))) (d2 : PySem.W.nsIn K p "high" = some (some (.str "low" t2))) (d3 : PySem.W.nsIn K p "top" = some (some (.str "top" t3))) (r : Ck mg K w → R) : R :=
  r ⟨⟨p, PySem.W.mg_of X G a, ⟨es, n, _, l, k, d1, _, rfl⟩, ⟨es, n, _, l, k, d2, _, rfl⟩, ⟨es, n, _, l, k, d3, _, rfl⟩⟩⟩
end
inductive Kd where
  | low | high | top
def Kd.str : Kd → Str
  | .low => "low"
  | .high => "high"
  | .top => "top"
def Kd.turn : Kd → Kd
  | .low => .high
  | .high => .low
  | .top => .top
theorem Kd.str_inj {a b : Kd} (h : a.str = b.str) : a = b := by
  cases a <;> cases b <;> first | rfl | (exfalso; revert h; decide)
/-- the lot of a fleet -/
def LotF (h t : Int) (ss : List Srt) : Kd → Int → Prop
  | .low, s => ∃ N : Nat, s = (N : Int) ∧ (N : Int) ≤ topI h t (mny ss) ∧ StuckF h t ss N
  | .high, s => ∃ N : Nat, s = (mny ss : Int) - 1 - (N : Int) ∧ (N : Int) ≤ (mny ss : Int) - 1 - topI h t (mny ss) ∧ StuckF t h (turnF ss) N
  | .top, s => s = topI h t (mny ss) ∧ (∀ N : Nat, (N : Int) ≤ topI h t (mny ss) → ¬ StuckF h t ss N) ∧ ∀ N : Nat, (N : Int) ≤ (mny ss : Int) - 1 - topI h t (mny ss) → ¬ StuckF t h (turnF ss) N
/-- a lot told or handed in -/
def LtA (K : PySem.W.Frag) (H : Hp) (v : V) (kd : Kd) (s : Int) : Prop := ∃ p, v = .ref p ∧ SqA K H p [.str kd.str, .int s]
theorem LtA.same {K : PySem.W.Frag} {H H' : Hp} {v : V} {kd : Kd} {s : Int} (l : LtA K H v kd s) (e : Same H H') : LtA K H' v kd s := let ⟨p, a, b⟩ := l; ⟨p, a, Same.sqA e b⟩
theorem rise_top (h t : Int) (n : Nat) : Rise h t n (topI h t n) := fun _ _ a b c => mk_le a b c
theorem rise_turn (h t : Int) (n : Nat) : Rise t h n ((n : Int) - 1 - topI h t n) := fun s s' a b c => by
  rw [mk_turn' (h := h) (t := t), mk_turn' (h := h) (t := t)]
  exact mk_dn (by omega) (by omega) (by omega)
theorem isumN : ∀ l : List Nat, (l.map fun (n : Nat) => (n : Int)).sum = (l.sum : Int)
  | [] => rfl
  | a :: l => by
    rw [List.map_cons, List.sum_cons, isumN l, List.sum_cons]
    rfl
def spLotOf (K : PySem.W.Frag) : Sp := fun vs H Q _ => ∃ (v : V) (h t : Int) (ss : List Srt), vs = [v] ∧ FltA K H v h t ss ∧ ss.length ≤ 1000 ∧
  ∀ (H' : Hp) (p : Addr) (kd : Kd) (s : Int), Same H H' → H p = none → H' p = some (.tup [.str kd.str, .int s]) → LotF h t ss kd s → Q (.ref p) H'
def spTurnedLot (K : PySem.W.Frag) : Sp := fun vs H Q _ => ∃ (v l : V) (h t s : Int) (ss : List Srt) (kd : Kd), vs = [v, l] ∧ FltA K H v h t ss ∧ ss.length ≤ 1000 ∧ LtA K H l kd s ∧
  ∀ (H' : Hp) (z : V), Same H H' → LtA K H' z kd.turn ((mny ss : Int) - 1 - s) → Q z H'
def spFixed (K : PySem.W.Frag) : Sp := fun vs H Q _ => ∃ (v l : V) (h t s : Int) (ss : List Srt) (kd : Kd), vs = [v, l] ∧ FltA K H v h t ss ∧ ss.length ≤ 1000 ∧ LtA K H l kd s ∧
  ∀ (H' : Hp) (p : Addr), Same H H' → H p = none → H' p = some (.lst (((fxF ss (mk h t (mny ss) s)).map fun (n : Nat) => (n : Int)).map V.int)) → Q (.ref p) H'
def spLeastIn (K : PySem.W.Frag) : Sp := fun vs H Q _ => ∃ (v l : V) (h t s : Int) (ss : List Srt) (kd : Kd), vs = [v, l] ∧ FltA K H v h t ss ∧ ss.length ≤ 1000 ∧ LtA K H l kd s ∧
  (kd = .high → ∀ H', Same H H' → Q (.int (s + 1)) H') ∧ (kd ≠ .high → ∀ (H' : Hp) (m : Int), Same H H' → LeastI h t ss s m → Q (.int m) H')
def spMostIn (K : PySem.W.Frag) : Sp := fun vs H Q _ => ∃ (v l : V) (h t s : Int) (ss : List Srt) (kd : Kd), vs = [v, l] ∧ FltA K H v h t ss ∧ ss.length ≤ 1000 ∧ LtA K H l kd s ∧
  (kd = .low → ∀ H', Same H H' → Q (.int s) H') ∧ (kd ≠ .low → ∀ (H' : Hp) (m : Int), Same H H' → LeastI t h (turnF ss) ((mny ss : Int) - 1 - s) m → Q (.int ((mny ss : Int) - m)) H')
/-- the step next to which one goes -/
def nextS : Kd → Int → Int
  | .low, s => s - 1
  | .high, s => s + 1
  | .top, s => s
def spMoving (K : PySem.W.Frag) : Sp := fun vs H Q _ => ∃ (v l : V) (h t s : Int) (ss : List Srt) (kd : Kd), vs = [v, l] ∧ FltA K H v h t ss ∧ ss.length ≤ 1000 ∧ LtA K H l kd s ∧
  ((nextS kd s < 0 ∨ (mny ss : Int) ≤ nextS kd s) → ∀ H', Same H H' → Q .non H') ∧ (0 ≤ nextS kd s → nextS kd s < (mny ss : Int) → ∀ H', Same H H' → Q (.int (mk h t (mny ss) (nextS kd s))) H')
abbrev s_lot_of : Stmt := topS 18
theorem sc_lot_of : FnScope (["fleet", "last", "top", "stop"] : List Str) (["fleet"] : List Str) (defScope s_lot_of) := ⟨rfl, rfl, rfl, by decide +kernel, rfl, by decide +kernel, by decide +kernel⟩
theorem b_lot_of (kV doc pm : Value) (an : Option Addr) (cdv ct : Value) (us : List Value) (hl : us.length = (["fleet"] : List Str).length) : bindArgs (PySem.W.fnOf "lot_of" "lot_of" (defArgs s_lot_of) (defBody s_lot_of) (defScope s_lot_of) .none kV doc pm an cdv ct) ⟨us, []⟩ = pure ((["fleet"] : List Str).zip us) :=
  match us, hl with | [_], _ => rfl
section
variable {P : Program} {w : World} {K : PySem.W.Frag} {mg : Str → Option Value} {base : Heap}
theorem ok_lot_of {k : Nat} (D : Df K mg "lot_of" s_lot_of) (T : Bt mg) (C : Cn mg) (O_ships_many : Ok P w K mg base k "ships_many" s_ships_many ["fleet"] (spShips K)) (O_top_in : Ok P w K mg base k "top_in" s_top_in ["fleet"] (spTopIn K))
    (O_low_stop : Ok P w K mg base k "low_stop" s_low_stop ["fleet", "top"] (spLowStop K)) (O_turned_fleet : Ok P w K mg base k "turned_fleet" s_turned_fleet ["fleet"] (spTurnedF K)) : Ok P w K mg base (k + 1) "lot_of" s_lot_of ["fleet"] (spLotOf K) := by
  obtain ⟨_, g_LOW⟩ := C.low
  obtain ⟨_, g_HIGH⟩ := C.high
  obtain ⟨_, g_TOP⟩ := C.top
  refine D.ok sc_lot_of b_lot_of (fun vs H Q E h => ?_) (fun f cdv A outer s H vs Q E hr h => ?_)
  · obtain ⟨v, h, t, ss, rfl, _⟩ := h
    rfl
  · obtain ⟨v, h, t, ss, rfl, hv, l1, k⟩ := h
    refine ⟨_, (pss_cons (ps_set (i := 1) sc_lot_of.nd rfl (.inl rfl) (pe_op op_sub (pe_fn O_ships_many (hr.mono (by omega)) (pa_cons (pv 0) pa_nil)) pe_int))
      (pss_cons (ps_set (i := 2) sc_lot_of.nd rfl (.inl rfl) (pe_fn O_top_in (hr.mono (by omega)) (pa_cons (pv 0) pa_nil)))
      (pss_cons (ps_set (i := 3) sc_lot_of.nd rfl (.inl rfl) (pe_fn O_low_stop (hr.mono (by omega)) (pa_cons (pv 0) (pa_cons (pv 2) pa_nil))))
      (pss_cons (ps_if (pt_cmpR op_notN (pv 3) pe_non (nomark _))
        (pss_one (ps_ret (pe_tup (pa_cons (pe_glob (v := .str "low") (by rfl) g_LOW ⟨_, rfl⟩) (pa_cons (pv 3) pa_nil)))))
        pss_nil)
      (pss_cons (ps_set (i := 3) sc_lot_of.nd rfl (.inl rfl) (pe_fn O_low_stop (hr.mono (by omega)) (pa_cons (pe_fn O_turned_fleet (hr.mono (by omega)) (pa_cons (pv 0) pa_nil)) (pa_cons (pe_op op_sub (pv 1) (pv 2)) pa_nil))))
      (pss_cons (ps_if (pt_cmpR op_notN (pv 3) pe_non (nomark _))
        (pss_one (ps_ret (pe_tup (pa_cons (pe_glob (v := .str "high") (by rfl) g_HIGH ⟨_, rfl⟩) (pa_cons (pe_op op_sub (pv 1) (pv 3)) pa_nil)))))
        pss_nil)
      (pss_one (ps_ret (pe_tup (pa_cons (pe_glob (v := .str "top") (by rfl) g_TOP ⟨_, rfl⟩) (pa_cons (pv 2) pa_nil))))))))))), ?_⟩
    refine ⟨_, rfl, v, h, t, ss, rfl, hv, l1, fun H1 s1 => ⟨_, 1, rfl, rfl, ?_⟩⟩
    refine ⟨_, rfl, v, h, t, ss, rfl, hv.same s1, l1, fun H2 s2 => ?_⟩
    have s02 := s1.trans s2
    refine ⟨_, rfl, _, rfl, v, h, t, topI h t (mny ss), ss, rfl, hv.same s02, l1, rise_top _ _ _, fun H3 N s3 a b => ?_, fun H3 s3 no => ?_⟩
    · refine ⟨_, rfl, rfl, _, rfl, iteT ⟨_, rfl, (by show 2 ≤ sizeLine; decide), fun p np => ?_⟩⟩
      have s03 := s02.trans s3
      exact k _ p .low (N : Int) (s03.trans (same_new np)) (s03.free np) upd_same ⟨N, rfl, a, b⟩
    · have s03 := s02.trans s3
      refine ⟨_, rfl, rfl, _, rfl, iteF ?_⟩
      refine ⟨_, rfl, v, h, t, ss, rfl, hv.same s03, l1, fun H4 z s4 hz => ?_⟩
      have s04 := s03.trans s4
      refine ⟨_, rfl, _, rfl, _, _, rfl, rfl, z, t, h, (mny ss : Int) - 1 - topI h t (mny ss), turnF ss, rfl, hz, ?_, ?_, fun H5 N s5 a b => ?_, fun H5 s5 no2 => ?_⟩
      · unfold turnF
        rw [List.length_map]
        exact l1
      · rw [mny_turn]
        exact rise_turn h t _
      · refine ⟨_, rfl, rfl, _, rfl, iteT ⟨_, rfl, _, rfl, _, _, rfl, rfl, (by show 2 ≤ sizeLine; decide), fun p np => ?_⟩⟩
        have s05 := s04.trans s5
        exact k _ p .high _ (s05.trans (same_new np)) (s05.free np) upd_same ⟨N, rfl, a, b⟩
      · refine ⟨_, rfl, rfl, _, rfl, iteF ⟨_, rfl, (by show 2 ≤ sizeLine; decide), fun p np => ?_⟩⟩
        have s05 := s04.trans s5
        exact k _ p .top _ (s05.trans (same_new np)) (s05.free np) upd_same ⟨rfl, no, no2⟩
end
end Sh

namespace Sh
open PySem PySem.Spec PyProof.Rows L2
/-! ### a sea's fleet -/
theorem len_os {k : Nat} {L : List Nat} (hL : Lot k L) (D : Nat → Int) (d : Int) : ((L.map D).filter fun o => decide (o = d)).length = Th.cnt k (fun i => mem L i && decide (D i = d)) := by
  rw [List.filter_map, List.length_map]
  conv => lhs; rw [hL.mem_eq]
  rw [List.filter_filter]
  unfold Th.cnt
  rw [List.countP_eq_length_filter]
  congr 1
  refine List.filter_congr fun a _ => ?_
  show (decide (D a = d) && decide (a ∈ L)) = (mem L a && decide (D a = d))
  rw [Bool.and_comm]
  rfl
theorem ds_map (ds : List Int) : ds = (List.range ds.length).map fun i => ds.getD i 0 := by
  refine List.ext_getElem (by simp) fun i h1 h2 => ?_
  simp [h1]
theorem len_ds (ds : List Int) (d : Int) : (ds.filter fun o => decide (o = d)).length = Th.cnt ds.length (fun i => decide (ds.getD i 0 = d)) := by
  conv => lhs; rw [ds_map ds]
  rw [List.filter_map, List.length_map]
  unfold Th.cnt
  rw [List.countP_eq_length_filter]
  rfl
theorem sum_if (P : Int → Bool) (x : Int) (b : Bool) : ∀ {ns : List Int}, ns.Nodup → x ∈ ns → ((ns.filter P).map fun d => if (b && decide (x = d)) = true then 1 else 0).sum = if (P x && b) = true then 1 else 0 := by
  have none : ∀ {ns : List Int}, ¬ x ∈ ns → ((ns.filter P).map fun d => if (b && decide (x = d)) = true then 1 else 0).sum = 0 := by
    intro ns
    induction ns with
    | nil => intro _; rfl
    | cons a l ih =>
      intro h
      have h1 : ¬ x = a := fun e => h (e ▸ List.mem_cons_self)
      have h2 := ih fun q => h (List.mem_cons_of_mem _ q)
      by_cases c : P a = true
      · rw [List.filter_cons_of_pos c, List.map_cons, List.sum_cons, h2, decide_eq_false h1, Bool.and_false]
        rfl
      · rw [List.filter_cons_of_neg c]
        exact h2
  intro ns
  induction ns with
  | nil => intro _ h; cases h
  | cons a l ih =>
    intro nd h
    obtain ⟨n1, n2⟩ := List.nodup_cons.mp nd
    by_cases e : x = a
    · subst e
      have h0 := none n1
      by_cases c : P x = true
      · rw [List.filter_cons_of_pos c, List.map_cons, List.sum_cons, h0, decide_eq_true rfl, Bool.and_true, c, Bool.true_and, Nat.add_zero]
      · rw [List.filter_cons_of_neg c, h0]
        have c' : P x = false := by simpa using c
        rw [c', Bool.false_and]
        rfl
    · have hx : x ∈ l := by
        rcases List.mem_cons.mp h with q | q
        · exact absurd q e
        · exact q
      have h2 := ih n2 hx
      by_cases c : P a = true
      · rw [List.filter_cons_of_pos c, List.map_cons, List.sum_cons, h2, decide_eq_false e, Bool.and_false]
        show 0 + _ = _
        rw [Nat.zero_add]
      · rw [List.filter_cons_of_neg c]
        exact h2
theorem sum_two' {α : Type} (f g : α → Nat) : ∀ l : List α, (l.map fun x => f x + g x).sum = (l.map f).sum + (l.map g).sum
  | [] => rfl
  | a :: l => by
    simp only [List.map_cons, List.sum_cons, sum_two' f g l]
    omega
theorem sum_zero {α : Type} : ∀ l : List α, (l.map fun _ => 0).sum = 0
  | [] => rfl
  | a :: l => by rw [List.map_cons, List.sum_cons, sum_zero l]
theorem sum_cnt (P : Int → Bool) (D : Nat → Int) (R : Nat → Bool) {ns : List Int} (nd : ns.Nodup) : ∀ k : Nat, (∀ i, i < k → D i ∈ ns) → ((ns.filter P).map fun d => Th.cnt k (fun i => R i && decide (D i = d))).sum = Th.cnt k (fun i => P (D i) && R i)
  | 0, _ => sum_zero _
  | k + 1, h => by
    have ih := sum_cnt P D R nd k fun i hi => h i (by omega)
    have e : ((ns.filter P).map fun d => Th.cnt (k + 1) (fun i => R i && decide (D i = d))).sum = ((ns.filter P).map fun d => Th.cnt k (fun i => R i && decide (D i = d)) + if (R k && decide (D k = d)) = true then 1 else 0).sum := by
      congr 1
      exact List.map_congr_left fun d _ => Th.cnt_succ _ _
    rw [e, sum_two', ih, sum_if P (D k) (R k) nd (h k (by omega)), Th.cnt_succ]
/-- the sorts of a sea's ships -/
def sortsOf (ds : List Int) (L : List Nat) (ns : List Int) : List Srt := ns.map fun d => (d, ((L.map fun i => ds.getD i 0).filter fun o => decide (o = d)).length, (ds.filter fun o => decide (o = d)).length - ((L.map fun i => ds.getD i 0).filter fun o => decide (o = d)).length)
theorem sorts_rp {ds : List Int} {L : List Nat} {ns : List Int} (hL : Lot ds.length L) (nd : ns.Nodup) (hm : ∀ d : Int, d ∈ ds → d ∈ ns) : Rp (sortsOf ds L ns) ds.length (fun i => ds.getD i 0) (mem L) := by
  have hD : ∀ i, i < ds.length → ds.getD i 0 ∈ ns := fun i hi => hm _ (by
    have : ds.getD i 0 = ds[i] := by simp [hi]
    rw [this]
    exact List.getElem_mem hi)
  refine ⟨fun P => ?_, fun P => ?_⟩
  · unfold sortsOf
    rw [List.filter_map, List.map_map, ← sum_cnt P (fun i => ds.getD i 0) (mem L) nd ds.length hD]
    congr 1
    exact List.map_congr_left fun d _ => len_os hL _ d
  · unfold sortsOf
    rw [List.filter_map, List.map_map, ← sum_cnt P (fun i => ds.getD i 0) (fun i => !mem L i) nd ds.length hD]
    congr 1
    refine List.map_congr_left fun d _ => ?_
    show (ds.filter fun o => decide (o = d)).length - ((L.map fun i => ds.getD i 0).filter fun o => decide (o = d)).length = _
    rw [len_os hL, len_ds]
    have e := Th.cnt_split (k := ds.length) (fun i => decide (ds.getD i 0 = d)) (mem L)
    have e1 : Th.cnt ds.length (fun i => decide (ds.getD i 0 = d) && mem L i) = Th.cnt ds.length (fun i => mem L i && decide (ds.getD i 0 = d)) := Th.cnt_congr fun i _ => Bool.and_comm _ _
    have e2 : Th.cnt ds.length (fun i => decide (ds.getD i 0 = d) && !mem L i) = Th.cnt ds.length (fun i => !mem L i && decide (ds.getD i 0 = d)) := Th.cnt_congr fun i _ => Bool.and_comm _ _
    omega
theorem lying_le {ds : List Int} {L : List Nat} (hL : Lot ds.length L) (d : Int) : ((L.map fun i => ds.getD i 0).filter fun o => decide (o = d)).length ≤ (ds.filter fun o => decide (o = d)).length := by
  rw [len_os hL, len_ds]
  exact Th.cnt_mono fun i _ h => by
    revert h
    cases mem L i <;> simp
/-! ### what a lot tells of its standings -/
section
variable {ss : List Srt} {k : Nat} {D : Nat → Int} {S : Nat → Bool} {h t : Int}
theorem low_low (r : Rp ss k D S) {N : Nat} (st : StuckF h t ss N) : Th.StuckLow k (Gd h t k D) N S := (r.stuck h t N).mp st
theorem high_high (r : Rp ss k D S) (hk : 0 < k) {N : Nat} (hN : (N : Int) ≤ (k : Int) - 1 - topI h t k) (st : StuckF t h (turnF ss) N) : Th.StuckLow k (Th.dual k (Gd h t k D)) N (Th.co S) := by
  have t0 := top_lo' h t k
  exact Th.StuckLow.congr (by omega) (fun s i hs => Gd_turn hs) ((r.turn.stuck t h N).mp st)
theorem high_back (r : Rp ss k D S) (hk : 0 < k) {N : Nat} (hN : (N : Int) ≤ (k : Int) - 1 - topI h t k) (st : Th.StuckLow k (Th.dual k (Gd h t k D)) N (Th.co S)) : StuckF t h (turnF ss) N := by
  have t0 := top_lo' h t k
  exact (r.turn.stuck t h N).mpr (Th.StuckLow.congr (by omega) (fun s i hs => (Gd_turn hs).symm) st)
/-- a lot by its kind, in terms of ships -/
def LotS (h t : Int) (k : Nat) (D : Nat → Int) (S : Nat → Bool) : Kd → Int → Prop
  | .low, s => ∃ N : Nat, s = (N : Int) ∧ N ≤ (topI h t k).toNat ∧ Th.StuckLow k (Gd h t k D) N S
  | .high, s => ∃ N : Nat, s = (k : Int) - 1 - (N : Int) ∧ N ≤ k - 1 - (topI h t k).toNat ∧ Th.StuckLow k (Th.dual k (Gd h t k D)) N (Th.co S)
  | .top, s => s = topI h t k ∧ Th.Open k (Gd h t k D) (topI h t k).toNat S
theorem LotF.ships (r : Rp ss k D S) (hk : 0 < k) {kd : Kd} {s : Int} (l : LotF h t ss kd s) : LotS h t k D S kd s := by
  have t0 := top_lo' h t k
  have t1 := top_hi' h t hk
  have tp := top_D h t D hk
  unfold LotF at l
  cases kd with
  | low =>
    obtain ⟨N, e, a, b⟩ := l
    rw [r.mny] at a
    exact ⟨N, e, by omega, low_low r b⟩
  | high =>
    obtain ⟨N, e, a, b⟩ := l
    rw [r.mny] at a e
    exact ⟨N, e, by omega, high_high r hk a b⟩
  | top =>
    obtain ⟨e, a, b⟩ := l
    rw [r.mny] at a e b
    refine ⟨e, ?_⟩
    rcases Th.sorts (S := S) tp with ⟨N, hN, sl⟩ | ⟨N, hN, sl⟩ | q
    · exact absurd ((r.stuck h t N).mpr sl) (a N (by omega))
    · exact absurd (high_back r hk (by omega) sl) (b N (by omega))
    · exact q
end
end Sh
namespace Th
section
variable {k : Nat} {G : Nat → Nat → Bool} {S U : Nat → Bool} {T : Nat}
/-- where one stops tells from the other -/
theorem low_uniq {N N' : Nat} (a : StuckLow k G N S) (b : StuckLow k G N' S) : N = N' := by
  obtain ⟨a1, a2, a3⟩ := a
  obtain ⟨b1, b2, b3⟩ := b
  by_cases z : N < N'
  · have := b2 N a1 z
    omega
  · by_cases z2 : N' < N
    · have := a2 N' b1 z2
      omega
    · omega
theorem low_high {N N' : Nat} (t : Top k G T) (hN : N ≤ T) (a : StuckLow k G N S) (hN' : N' ≤ k - 1 - T) (b : StuckLow k (Th.dual k G) N' (co S)) : False := by
  have := a.1
  have := b.1
  have := cnt_co k S
  have := t.lt
  omega
theorem low_open {N : Nat} (t : Top k G T) (hN : N ≤ T) (a : StuckLow k G N S) (b : Open k G T S) : False := by
  obtain ⟨rs, c⟩ := b
  rcases rs with q | q
  · by_cases z : N = T
    · subst z
      have := a.2.2
      omega
    · have := q.2 N a.1 (by omega)
      have := a.2.2
      omega
  · have := a.1
    have := q.1
    omega
theorem high_open {N : Nat} (t : Top k G T) (hN : N ≤ k - 1 - T) (a : StuckLow k (Th.dual k G) N (co S)) (b : Open k G T S) : False := low_open t.dual hN a (b.dual t)
theorem Reach.out (r : Reach k G S U) : ∀ i, ¬ i < k → U i = S i := reach_out r
/-- the lot of an open one is kept -/
theorem Open.same (t : Top k G T) (a : Open k G T S) (r : Reach k G S U) : Open k G T U := by
  rcases sorts (S := U) t with ⟨N, hN, sl⟩ | ⟨N, hN, sl⟩ | q
  · exact absurd a fun a => low_open t hN (sl.same t hN r.symm) a
  · exact absurd a fun a => high_open t hN (sl.same t.dual hN r.symm.dual) a
  · exact q
theorem high_iff {N : Nat} (t : Top k G T) (hN : N ≤ k - 1 - T) (h : StuckLow k (Th.dual k G) N (co S)) (ho : ∀ i, ¬ i < k → U i = S i) : Reach k G S U ↔ StuckLow k (Th.dual k G) N (co U) ∧ ∀ i, i < k → (co U i || Th.dual k G N i) = (co S i || Th.dual k G N i) := by
  rw [← h.iff (U := co U) t.dual hN fun i hi => by unfold co; rw [ho i hi]]
  exact ⟨fun r => r.dual, fun r => r.codual⟩
end
end Th
namespace Sh
open PySem PySem.Spec PyProof.Rows L2
section
variable {ss : List Srt} {k : Nat} {D : Nat → Int} {S U : Nat → Bool} {h t : Int}
/-- a lot's kind and step are kept by crossings -/
theorem LotS.same (hk : 0 < k) {kd : Kd} {s : Int} (l : LotS h t k D S kd s) (r : Th.Reach k (Gd h t k D) S U) : LotS h t k D U kd s := by
  have tp := top_D h t D hk
  cases kd with
  | low =>
    obtain ⟨N, e, a, b⟩ := l
    exact ⟨N, e, a, b.same tp a r⟩
  | high =>
    obtain ⟨N, e, a, b⟩ := l
    exact ⟨N, e, a, b.same tp.dual a r.dual⟩
  | top =>
    obtain ⟨e, a⟩ := l
    exact ⟨e, a.same tp r⟩
theorem LotS.uniq (hk : 0 < k) {kd kd' : Kd} {s s' : Int} (l : LotS h t k D S kd s) (l' : LotS h t k D S kd' s') : kd = kd' ∧ s = s' := by
  have tp := top_D h t D hk
  cases kd with
  | low =>
    obtain ⟨N, e, a, b⟩ := l
    cases kd' with
    | low =>
      obtain ⟨N', e', a', b'⟩ := l'
      have := Th.low_uniq b b'
      exact ⟨rfl, by omega⟩
    | high =>
      obtain ⟨N', e', a', b'⟩ := l'
      exact (Th.low_high tp a b a' b').elim
    | top => exact (Th.low_open tp a b l'.2).elim
  | high =>
    obtain ⟨N, e, a, b⟩ := l
    cases kd' with
    | low =>
      obtain ⟨N', e', a', b'⟩ := l'
      exact (Th.low_high tp a' b' a b).elim
    | high =>
      obtain ⟨N', e', a', b'⟩ := l'
      have := Th.low_uniq b b'
      exact ⟨rfl, by omega⟩
    | top => exact (Th.high_open tp a b l'.2).elim
  | top =>
    obtain ⟨e, a⟩ := l
    cases kd' with
    | low =>
      obtain ⟨N', e', a', b'⟩ := l'
      exact (Th.low_open tp a' b' a).elim
    | high =>
      obtain ⟨N', e', a', b'⟩ := l'
      exact (Th.high_open tp a' b' a).elim
    | top => exact ⟨rfl, by rw [e, l'.1]⟩
/-- one comes to the other just where the lots' words are the same and those that don't go lie alike -/
theorem LotS.reach (hk : 0 < k) {kd : Kd} {s : Int} (l : LotS h t k D S kd s) (l' : LotS h t k D U kd s) (ho : ∀ i, ¬ i < k → U i = S i) : Th.Reach k (Gd h t k D) S U ↔ ∀ i, i < k → ¬ D i ≤ mk h t k s → U i = S i := by
  have tp := top_D h t D hk
  have t0 := top_lo' h t k
  have t1 := top_hi' h t hk
  cases kd with
  | low =>
    obtain ⟨N, e, a, b⟩ := l
    obtain ⟨N', e', a', b'⟩ := l'
    obtain rfl : N = N' := by omega
    rw [b.iff tp a ho]
    have key : ∀ i, ((U i || Gd h t k D N i) = (S i || Gd h t k D N i)) ↔ (¬ D i ≤ mk h t k s → U i = S i) := fun i => by
      unfold Gd
      rw [← e]
      by_cases z : D i ≤ mk h t k s
      · rw [decide_eq_true z, Bool.or_true, Bool.or_true]
        exact ⟨fun _ w => absurd z w, fun _ => rfl⟩
      · rw [decide_eq_false z, Bool.or_false, Bool.or_false]
        exact ⟨fun q _ => q, fun q => q z⟩
    exact ⟨fun q i hi => (key i).mp (q.2 i hi), fun q => ⟨b', fun i hi => (key i).mpr (q i hi)⟩⟩
  | high =>
    obtain ⟨N, e, a, b⟩ := l
    obtain ⟨N', e', a', b'⟩ := l'
    obtain rfl : N = N' := by omega
    rw [Th.high_iff tp a b ho]
    have key : ∀ i, ((Th.co U i || Th.dual k (Gd h t k D) N i) = (Th.co S i || Th.dual k (Gd h t k D) N i)) ↔ (¬ D i ≤ mk h t k s → U i = S i) := fun i => by
      show ((!U i || decide (D i ≤ mk h t k ((k - 1 - N : Nat) : Int))) = (!S i || decide (D i ≤ mk h t k ((k - 1 - N : Nat) : Int)))) ↔ _
      rw [show ((k - 1 - N : Nat) : Int) = s by omega]
      by_cases z : D i ≤ mk h t k s
      · rw [decide_eq_true z, Bool.or_true, Bool.or_true]
        exact ⟨fun _ w => absurd z w, fun _ => rfl⟩
      · rw [decide_eq_false z, Bool.or_false, Bool.or_false]
        refine ⟨fun q _ => ?_, fun q => by rw [q z]⟩
        revert q
        cases U i <;> cases S i <;> simp
    exact ⟨fun q i hi => (key i).mp (q.2 i hi), fun q => ⟨b', fun i hi => (key i).mpr (q i hi)⟩⟩
  | top =>
    obtain ⟨e, a⟩ := l
    obtain ⟨_, a'⟩ := l'
    have key : ∀ i, (Gd h t k D (topI h t k).toNat i = false) ↔ ¬ D i ≤ mk h t k s := fun i => by
      unfold Gd
      rw [show (((topI h t k).toNat : Nat) : Int) = s by omega, decide_eq_false_iff_not]
    exact ⟨fun r i hi z => Th.fast_inv tp r i hi ((key i).mpr z), fun q => Th.open_reach tp a.1 a'.1 (fun i hi g => q i hi ((key i).mp g)) ho⟩
theorem LotS.comes (hk : 0 < k) {kd kd' : Kd} {s s' : Int} (l : LotS h t k D S kd s) (l' : LotS h t k D U kd' s') (ho : ∀ i, ¬ i < k → U i = S i) : Th.Reach k (Gd h t k D) S U ↔ (kd = kd' ∧ s = s') ∧ ∀ i, i < k → ¬ D i ≤ mk h t k s → U i = S i := by
  constructor
  · intro r
    obtain ⟨e1, e2⟩ := (l.same hk r).uniq hk l'
    subst e1
    subst e2
    exact ⟨⟨rfl, rfl⟩, (l.reach hk l' ho).mp r⟩
  · rintro ⟨⟨e1, e2⟩, q⟩
    subst e1
    subst e2
    exact (l.reach hk l' ho).mpr q
/-- who ever goes -/
theorem LotS.moves (hk : 0 < k) {kd : Kd} {s : Int} (l : LotS h t k D S kd s) {i : Nat} (hi : i < k) : Th.Moves k (Gd h t k D) S i ↔ 0 ≤ nextS kd s ∧ nextS kd s < (k : Int) ∧ D i ≤ mk h t k (nextS kd s) := by
  have tp := top_D h t D hk
  have t0 := top_lo' h t k
  have t1 := top_hi' h t hk
  cases kd with
  | low =>
    obtain ⟨N, e, a, b⟩ := l
    rw [Th.moves_low b tp a hi]
    show (0 < N ∧ decide (D i ≤ mk h t k ((N - 1 : Nat) : Int)) = true) ↔ 0 ≤ s - 1 ∧ s - 1 < (k : Int) ∧ D i ≤ mk h t k (s - 1)
    rw [decide_eq_true_eq]
    constructor
    · rintro ⟨n0, g⟩
      rw [show ((N - 1 : Nat) : Int) = s - 1 by omega] at g
      exact ⟨by omega, by omega, g⟩
    · rintro ⟨n0, n1, g⟩
      refine ⟨by omega, ?_⟩
      rw [show ((N - 1 : Nat) : Int) = s - 1 by omega]
      exact g
  | high =>
    obtain ⟨N, e, a, b⟩ := l
    rw [Th.moves_high b tp a hi]
    show (0 < N ∧ decide (D i ≤ mk h t k ((k - N : Nat) : Int)) = true) ↔ 0 ≤ s + 1 ∧ s + 1 < (k : Int) ∧ D i ≤ mk h t k (s + 1)
    rw [decide_eq_true_eq]
    constructor
    · rintro ⟨n0, g⟩
      rw [show ((k - N : Nat) : Int) = s + 1 by omega] at g
      exact ⟨by omega, by omega, g⟩
    · rintro ⟨n0, n1, g⟩
      refine ⟨by omega, ?_⟩
      rw [show ((k - N : Nat) : Int) = s + 1 by omega]
      exact g
  | top =>
    obtain ⟨e, a⟩ := l
    rw [Th.moves_open tp a.1 a.2 hi]
    show decide (D i ≤ mk h t k (((topI h t k).toNat : Nat) : Int)) = true ↔ 0 ≤ s ∧ s < (k : Int) ∧ D i ≤ mk h t k s
    rw [decide_eq_true_eq, show (((topI h t k).toNat : Nat) : Int) = s by omega]
    exact ⟨fun g => ⟨by omega, by omega, g⟩, fun g => g.2.2⟩
/-- how few -/
theorem LotS.min (r : Rp ss k D S) (hk : 0 < k) {kd : Kd} {s m : Int} (l : LotS h t k D S kd s) (hm : (kd = .high ∧ m = s + 1) ∨ (kd ≠ .high ∧ LeastI h t ss s m)) : ∃ n : Nat, m = (n : Int) ∧ Th.IsMin k (Gd h t k D) S n := by
  have tp := top_D h t D hk
  have t0 := top_lo' h t k
  have t1 := top_hi' h t hk
  cases kd with
  | low =>
    obtain ⟨N, e, a, b⟩ := l
    rcases hm with ⟨z, _⟩ | ⟨_, L⟩
    · cases z
    · rw [e] at L
      exact least_low r tp a b (fun m' hm' => mk_low (by omega) (by omega)) L
  | high =>
    obtain ⟨N, e, a, b⟩ := l
    rcases hm with ⟨_, z⟩ | ⟨z, _⟩
    · have mx := Th.stuck_min_high tp.dual a b
      refine ⟨k - N, by omega, ?_⟩
      obtain ⟨⟨U, rU, cU⟩, hU⟩ := mx
      refine ⟨⟨Th.co U, ?_, ?_⟩, fun W rW => ?_⟩
      · refine Th.Reach.codual ?_
        rw [Th.co_co]
        exact rU
      · have := Th.cnt_co k U
        omega
      · have := hU _ rW.dual
        have := Th.cnt_co k W
        omega
    · exact absurd rfl z
  | top =>
    obtain ⟨e, a⟩ := l
    rcases hm with ⟨z, _⟩ | ⟨_, L⟩
    · cases z
    · rw [show s = (((topI h t k).toNat : Nat) : Int) by omega] at L
      exact least_open r tp a (fun m' hm' => mk_low (by omega) (by omega)) L
/-- how many, by the turned one -/
theorem LotS.max (r : Rp ss k D S) (hk : 0 < k) {kd : Kd} {s m : Int} (l : LotS h t k D S kd s) (hm : (kd = .low ∧ m = s) ∨ (kd ≠ .low ∧ ∃ m', LeastI t h (turnF ss) ((k : Int) - 1 - s) m' ∧ m = (k : Int) - m')) : ∃ n : Nat, m = (n : Int) ∧ Th.IsMax k (Gd h t k D) S n := by
  have tp := top_D h t D hk
  have t0 := top_lo' h t k
  have t1 := top_hi' h t hk
  have gt : ∀ s i, s < k → Gd t h k D s i = Th.dual k (Gd h t k D) s i := fun s i hs => Gd_turn hs
  have gt' : ∀ s i, s < k → Th.dual k (Gd h t k D) s i = Gd t h k D s i := fun s i hs => (Gd_turn hs).symm
  have tpd : Th.Top k (Gd t h k D) (k - 1 - (topI h t k).toNat) := by
    have q := tp.dual
    refine ⟨q.lt, fun s s' i a b g => ?_, fun s s' i a b c g => ?_⟩
    · rw [gt _ _ (by omega)]
      exact q.up s s' i a b (by rw [← gt _ _ (by omega)]; exact g)
    · rw [gt _ _ (by omega)]
      exact q.dn s s' i a b c (by rw [← gt _ _ (by omega)]; exact g)
  cases kd with
  | low =>
    obtain ⟨N, e, a, b⟩ := l
    rcases hm with ⟨_, z⟩ | ⟨z, _⟩
    · exact ⟨N, by omega, Th.stuck_min_high tp a b⟩
    · exact absurd rfl z
  | high =>
    obtain ⟨N, e, a, b⟩ := l
    rcases hm with ⟨z, _⟩ | ⟨_, m', L, em⟩
    · cases z
    · rw [show (k : Int) - 1 - s = (N : Int) by omega] at L
      obtain ⟨n, en, q⟩ := least_low r.turn tpd a (b.congr (by omega) gt') (fun m' hm' => mk_high (h := h) (t := t) (k := k) (by omega) (by omega)) L
      obtain ⟨q1, q2⟩ := (q.congr gt).co
      exact ⟨k - n, by omega, q2⟩
  | top =>
    obtain ⟨e, a⟩ := l
    rcases hm with ⟨z, _⟩ | ⟨_, m', L, em⟩
    · cases z
    · rw [show (k : Int) - 1 - s = ((k - 1 - (topI h t k).toNat : Nat) : Int) by omega] at L
      have od : Th.Open k (Gd t h k D) (k - 1 - (topI h t k).toNat) (Th.co S) := (a.dual tp).congr tp.dual.lt gt'
      obtain ⟨n, en, q⟩ := least_open r.turn tpd od (fun m' hm' => mk_high (h := h) (t := t) (k := k) (by omega) (by omega)) L
      obtain ⟨q1, q2⟩ := (q.congr gt).co
      exact ⟨k - n, by omega, q2⟩
end
end Sh

namespace Sh
open PySem PySem.Spec PyProof.Rows L2
/-! ### the program: fleets of seas, reach -/
theorem eqv_ints : ∀ ns ms : List Int, PyData.eqv (.list (ns.map .int)) (.list (ms.map .int)) = decide (ns = ms)
  | [], [] => rfl
  | [], _ :: _ => rfl
  | _ :: _, [] => rfl
  | a :: l, b :: m => by
    have e := eqv_ints l m
    show (PyData.eqv (.int a) (.int b) && PyData.eqv (.list (l.map .int)) (.list (m.map .int))) = _
    rw [e]
    show ((a == b) && decide (l = m)) = _
    rw [Bool.eq_iff_iff, Bool.and_eq_true, beq_iff_eq, decide_eq_true_eq, decide_eq_true_eq, List.cons.injEq]
theorem eqv_lot (a b : Str) (i j : Int) : PyData.eqv (.tuple [.str a, .int i]) (.tuple [.str b, .int j]) = (decide (a = b) && decide (i = j)) := by
  show ((a == b) && ((i == j) && true)) = _
  rw [Bool.and_true, Bool.eq_iff_iff, Bool.and_eq_true, Bool.and_eq_true, beq_iff_eq, beq_iff_eq, decide_eq_true_eq, decide_eq_true_eq]
theorem shaped_lot (kd : Kd) (s : Int) : SeqAt.shaped (.tuple [.str kd.str, .int s]) = true := by
  have a : PyData.canLay0 (.str kd.str) = true := by cases kd <;> decide +kernel
  have b : PyData.canLay0 (.tuple [.str kd.str, .int s]) = true := by
    show (PyData.canLay0 (.str kd.str) && (PyData.canLay0 (.int s) && true)) = true
    rw [a]
    rfl
  unfold SeqAt.shaped
  rw [b]
  rfl
def spFleetOf (K : PySem.W.Frag) : Sp := fun vs H Q _ => ∃ (v l : V) (h t : Int) (ds : List Int) (L : List Nat), vs = [v, l] ∧ SeaD K H v h t ds ∧ LotA K H l L ∧ ds.length ≤ 60 ∧ Lot ds.length L ∧
  ∀ (H' : Hp) (z : V) (ss : List Srt), Same H H' → FltA K H' z h t ss → ss.length ≤ 1000 → Rp ss ds.length (fun i => ds.getD i 0) (mem L) → Q z H'
def MaxF (h t : Int) (ss : List Srt) (m : Int) : Prop := ∃ kd s, LotF h t ss kd s ∧ ((kd = .low ∧ m = s) ∨ (kd ≠ .low ∧ ∃ m', LeastI t h (turnF ss) ((mny ss : Int) - 1 - s) m' ∧ m = (mny ss : Int) - m'))
def MinF (h t : Int) (ss : List Srt) (m : Int) : Prop := ∃ kd s, LotF h t ss kd s ∧ ((kd = .high ∧ m = s + 1) ∨ (kd ≠ .high ∧ LeastI h t ss s m))
def spFleetMost (K : PySem.W.Frag) : Sp := fun vs H Q _ => ∃ (v : V) (h t : Int) (ss : List Srt), vs = [v] ∧ FltA K H v h t ss ∧ ss.length ≤ 1000 ∧ ∀ (H' : Hp) (m : Int), Same H H' → MaxF h t ss m → Q (.int m) H'
def spFleetLeast (K : PySem.W.Frag) : Sp := fun vs H Q _ => ∃ (v : V) (h t : Int) (ss : List Srt), vs = [v] ∧ FltA K H v h t ss ∧ ss.length ≤ 1000 ∧ ∀ (H' : Hp) (m : Int), Same H H' → MinF h t ss m → Q (.int m) H'
abbrev s_fleet_of : Stmt := topS 11
theorem sc_fleet_of : FnScope (["sea", "standing", "here", "there", "draughts", "ours", "sorts", "draught", "many", "lying", "ship", "other"] : List Str) (["sea", "standing"] : List Str) (defScope s_fleet_of) := ⟨rfl, rfl, rfl, by decide +kernel, rfl, by decide +kernel, by decide +kernel⟩
theorem b_fleet_of (kV doc pm : Value) (an : Option Addr) (cdv ct : Value) (us : List Value) (hl : us.length = (["sea", "standing"] : List Str).length) : bindArgs (PySem.W.fnOf "fleet_of" "fleet_of" (defArgs s_fleet_of) (defBody s_fleet_of) (defScope s_fleet_of) .none kV doc pm an cdv ct) ⟨us, []⟩ = pure ((["sea", "standing"] : List Str).zip us) :=
  match us, hl with | [_, _], _ => rfl
abbrev s_comes_to : Stmt := topS 24
theorem sc_comes_to : FnScope (["sea", "one", "other", "lot", "mark"] : List Str) (["sea", "one", "other"] : List Str) (defScope s_comes_to) := ⟨rfl, rfl, rfl, by decide +kernel, rfl, by decide +kernel, by decide +kernel⟩
theorem b_comes_to (kV doc pm : Value) (an : Option Addr) (cdv ct : Value) (us : List Value) (hl : us.length = (["sea", "one", "other"] : List Str).length) : bindArgs (PySem.W.fnOf "comes_to" "comes_to" (defArgs s_comes_to) (defBody s_comes_to) (defScope s_comes_to) .none kV doc pm an cdv ct) ⟨us, []⟩ = pure ((["sea", "one", "other"] : List Str).zip us) :=
  match us, hl with | [_, _, _], _ => rfl
abbrev s_fast_ones : Stmt := topS 25
theorem sc_fast_ones : FnScope (["sea", "standing", "mark", "draughts", "ship"] : List Str) (["sea", "standing", "mark"] : List Str) (defScope s_fast_ones) := ⟨rfl, rfl, rfl, by decide +kernel, rfl, by decide +kernel, by decide +kernel⟩
theorem b_fast_ones (kV doc pm : Value) (an : Option Addr) (cdv ct : Value) (us : List Value) (hl : us.length = (["sea", "standing", "mark"] : List Str).length) : bindArgs (PySem.W.fnOf "fast_ones" "fast_ones" (defArgs s_fast_ones) (defBody s_fast_ones) (defScope s_fast_ones) .none kV doc pm an cdv ct) ⟨us, []⟩ = pure ((["sea", "standing", "mark"] : List Str).zip us) :=
  match us, hl with | [_, _, _], _ => rfl
section
variable {P : Program} {w : World} {K : PySem.W.Frag} {mg : Str → Option Value} {base : Heap}
set_option maxHeartbeats 8000000 in
theorem ok_fleet_of {k : Nat} (D : Df K mg "fleet_of" s_fleet_of) (T : Bt mg) : Ok P w K mg base (k + 1) "fleet_of" s_fleet_of ["sea", "standing"] (spFleetOf K) := by
  refine D.ok sc_fleet_of b_fleet_of (fun vs H Q E h => ?_) (fun f cdv A outer s H vs Q E hr h => ?_)
  · obtain ⟨v, l, h, t, ds, L, rfl, _⟩ := h
    rfl
  · obtain ⟨v, l, h, t, ds, L, rfl, ⟨p, q, rfl, hp, hq⟩, ⟨pl, rfl, hl⟩, d1, hL, k⟩ := h
    have ll := hL.len
    refine ⟨_, (pss_cons (ps_asg (pv 0) (pg_seq rfl (pgs_cons (pg_name (i := 2) sc_fleet_of.nd rfl (.inl rfl)) (pgs_cons (pg_name (i := 3) sc_fleet_of.nd rfl (.inl rfl)) (pgs_cons (pg_name (i := 4) sc_fleet_of.nd rfl (.inr rfl)) pgs_nil)))))
      (pss_cons (ps_setLc (i := 5) (own := [("ship", 10)]) (g := (gName 10)) (tt := tYes) (by rfl) sc_fleet_of.nd rfl rfl (sw_true rfl rfl rfl (by decide +kernel)) (pi_seq (pv 1)) (blkOk_by (own := [("ship", 10)]) (N := (["sea", "standing", "here", "there", "draughts", "ours", "sorts", "draught", "many", "lying", "ship", "other"] : List Str)) (sc := defScope s_fleet_of) (by decide +kernel)) (fun _ _ _ _ _ => (pg_name (i := 10) sc_fleet_of.nd rfl (.inl rfl))) (fun _ _ _ _ _ => pts_nil) (fun _ _ _ _ _ => (pe_ix (ix_ltK K) (pv 4) (pv 10) (fun _ _ => rfl))))
      (pss_cons (ps_set (i := 6) sc_fleet_of.nd rfl (.inl rfl) (pe_lst pa_nil))
      (pss_cons (ps_for PassesOwn.never rfl (pi_seq (pe_callB (cr_sortedSetw w rfl) (by rfl) T.sorted_ (by decide +kernel) (pa_cons (pe_callTy (cr_setTw w rfl) (by rfl) T.set_ (by decide +kernel) (pa_cons (pv 4) pa_nil)) pa_nil))) (pg_name (i := 7) sc_fleet_of.nd rfl (.inr rfl))
        (pss_cons (ps_set (i := 8) sc_fleet_of.nd rfl (.inl rfl) (pe_callB call_len_seq (by rfl) T.len_ PySem.boot_len (pa_cons (pe_lc (own := [("other", 11)]) (g := (gName 11)) (by rfl) sc_fleet_of.nd (pi_seq (pv 4)) (blkOk_by (own := [("other", 11)]) (N := (["sea", "standing", "here", "there", "draughts", "ours", "sorts", "draught", "many", "lying", "ship", "other"] : List Str)) (sc := defScope s_fleet_of) (by decide +kernel)) (fun _ _ _ _ _ => (pg_name (i := 11) sc_fleet_of.nd rfl (.inl rfl))) (fun _ _ _ _ _ => (pts_one (pt_cmpR op_eq (pv 11) (pv 7) (nomark _)))) (fun _ _ _ _ _ => (pv 11))) pa_nil)))
          (pss_cons (ps_set (i := 9) sc_fleet_of.nd rfl (.inl rfl) (pe_callB call_len_seq (by rfl) T.len_ PySem.boot_len (pa_cons (pe_lc (own := [("other", 11)]) (g := (gName 11)) (by rfl) sc_fleet_of.nd (pi_seq (pv 5)) (blkOk_by (own := [("other", 11)]) (N := (["sea", "standing", "here", "there", "draughts", "ours", "sorts", "draught", "many", "lying", "ship", "other"] : List Str)) (sc := defScope s_fleet_of) (by decide +kernel)) (fun _ _ _ _ _ => (pg_name (i := 11) sc_fleet_of.nd rfl (.inl rfl))) (fun _ _ _ _ _ => (pts_one (pt_cmpR op_eq (pv 11) (pv 7) (nomark _)))) (fun _ _ _ _ _ => (pv 11))) pa_nil)))
          (pss_one (ps_expr (pe_bm PySem.F.plainAttrs_list PySem.F.slot_list_append PySem.F.type_list_append mt_append (pv 6) (pa_cons (pe_tup (pa_cons (pv 7) (pa_cons (pv 9) (pa_cons (pe_op op_sub (pv 8) (pv 9)) pa_nil)))) pa_nil)))))))
      (pss_one (ps_ret (pe_tup (pa_cons (pv 2) (pa_cons (pv 3) (pa_cons (pe_callTy call_tuple_of (by rfl) T.tuple_ (by decide +kernel) (pa_cons (pv 6) pa_nil)) pa_nil)))))))))), ?_⟩
    refine ⟨_, rfl, p, _, rfl, hp, rfl, _, _, rfl, _, _, rfl, _, _, rfl, rfl, ?_⟩
    -- ours
    refine ⟨_, rfl, pl, _, H, rfl, hl, Kp.refl _ _, fun J hJ C nC => ?_⟩
    obtain ⟨G, g, W⟩ := hJ.walk
    refine lc_it W (fun i H' => Same H H' ∧ H' C = some (.lst (((L.take i).map fun j => ds.getD j 0).map V.int))) ⟨same_new nC, upd_same⟩ (fun i H' _ z => g H' (.ofS z.1)) ?_ ?_
    · rintro i x H1 H2 hi ⟨sm, hC⟩ ⟨rfl, gx⟩
      rw [ni_len] at hi
      obtain rfl : .int ((L[i] : Nat) : Int) = x := Option.some.inj ((ni_get hi).symm.trans gx)
      have hlt := hL.lt L[i] (List.getElem_mem hi)
      refine ⟨rfl, tyes (iteT ⟨_, rfl, _, rfl, q, _, _, .int (ds.getD L[i] 0), rfl, rfl, .inr (Same.tup sm hq), at_nat rfl (by simp [hlt]), _, hC, ?_, same_over sm nC, ?_⟩)⟩
      · rw [List.length_map, List.length_map, List.length_take]
        exact small1000 (by omega)
      · rw [upd_same, take_succ_get hi, List.map_append, List.map_append]
        rfl
    rintro H1 ⟨s1, hC⟩
    rw [ni_len, List.take_length] at hC
    -- sorts
    refine ⟨Nat.zero_le _, fun F nF => ?_⟩
    have s2 : Same H1 (upd H1 F (.lst [])) := same_new nF
    have e2 : upd H1 F (.lst []) F = some (.lst []) := upd_same
    have nF0 : H F = none := s1.free nF
    have CF : C ≠ F := ne_of_none hC nF
    generalize upd H1 F (.lst []) = H2 at s2 e2
    have s02 := s1.trans s2
    refine ⟨_, rfl, q, ds, rfl, Same.tup s02 hq, by omega, fun a c na hc => ?_⟩
    refine ⟨a, _, c, rfl, upd_same, by omega, fun ns b up hm hlen nb => ?_⟩
    have sA : Same H2 (upd H2 a (SetO w a (fun j => decide (j ∈ ds)) c)) := same_new na
    have sB := sA.trans (same_new nb (o := .lst (ns.map V.int)))
    have eb : upd (upd H2 a (SetO w a (fun j => decide (j ∈ ds)) c)) b (.lst (ns.map V.int)) b = some (.lst (ns.map V.int)) := upd_same
    generalize upd (upd H2 a (SetO w a (fun j => decide (j ∈ ds)) c)) b (.lst (ns.map V.int)) = H3 at sB eb
    have s03 := s02.trans sB
    have hC3 := sB _ _ (s2 _ _ hC)
    have hF3 := sB _ _ e2
    have bF : b ≠ F := fun e => by
      subst e
      rw [sA _ _ e2] at nb
      cases nb
    have nn : ns.Nodup := up.imp fun z => by omega
    refine ⟨b, _, H3, rfl, SqA.l eb, Kp.refl _ _, fun J2 hJ2 => ?_⟩
    obtain ⟨G2, g2, W2⟩ := hJ2.walk
    refine for_it W2 (fun i σ H' => ∃ (y7 y8 y9 : Option V) (us : List Addr), σ = [some (.ref p), some (.ref pl), some (.int h), some (.int t), some (.ref q), some (.ref C), some (.ref F), y7, y8, y9, none, none] ∧ Same H H' ∧ H' C = some (.lst ((L.map fun j => ds.getD j 0).map V.int)) ∧ H' b = some (.lst (ns.map V.int)) ∧ H' F = some (.lst (us.map V.ref)) ∧ SrtsN H' us (sortsOf ds L (ns.take i)))
      ⟨none, none, none, [], rfl, s03, hC3, eb, hF3, rfl, fun i r x a _ => by simp at a⟩ (fun i σ H' _ ⟨_, _, _, _, _, _, _, z, _⟩ => g2 H' fun o e => by rw [eb] at e; cases e; exact z) ?_ ?_
    · rintro i x σ H5' H4 hi ⟨y7, y8, y9, us, rfl, s4, hC4, hb4, hF4, hu4⟩ ⟨rfl, gx⟩
      rw [List.length_map] at hi
      obtain rfl : .int ns[i] = x := by
        have g3 : (ns.map V.int)[i]? = some (.int ns[i]) := by simp [hi]
        exact Option.some.inj (g3.symm.trans gx)
      have f : ∀ (xs : List Int) (j : Nat) (hj : j < xs.length), ((xs.take (j + 1)).filter fun o => decide (o = ns[i])) = ((xs.take j).filter fun o => decide (o = ns[i])) ++ (if xs[j] = ns[i] then [xs[j]] else []) := fun xs j hj => by
        rw [take_succ_get hj, List.filter_append]
        congr 1
        by_cases c : xs[j] = ns[i]
        · rw [if_pos c, List.filter_cons_of_pos (by simpa using c)]; rfl
        · rw [if_neg c, List.filter_cons_of_neg (by simpa using c)]; rfl
      have fl : ∀ (xs : List Int) (j : Nat), xs.length ≤ 60 → (((xs.take j).filter fun o => decide (o = ns[i])).map V.int).length < sizeLine := fun xs j hx => by
        have h1 := List.length_filter_le (fun o => decide (o = ns[i])) (xs.take j)
        rw [List.length_take] at h1
        rw [List.length_map]
        exact small1000 (by omega)
      -- many
      refine ⟨_, rfl, q, _, H4, rfl, .inr (Same.tup s4 hq), Kp.refl _ _, fun J3 hJ3 M nM => ?_⟩
      obtain ⟨G3, g3, W3⟩ := hJ3.walk
      refine lc_it W3 (fun j H' => Same H4 H' ∧ H' M = some (.lst (((ds.take j).filter fun o => decide (o = ns[i])).map V.int))) ⟨same_new nM, upd_same⟩ (fun j H' _ z => g3 H' (.ofS z.1)) ?_ ?_
      · rintro j x H5 H6 hj ⟨sm, hM⟩ ⟨rfl, gx2⟩
        rw [List.length_map] at hj
        obtain rfl : .int ds[j] = x := by
          have g4 : (ds.map V.int)[j]? = some (.int ds[j]) := by simp [hj]
          exact Option.some.inj (g4.symm.trans gx2)
        refine ⟨rfl, _, rfl, _, rfl, rfl, _, rfl, ite2 (fun c => ?_) (fun c => ?_)⟩
        · have c0 : ds[j] = ns[i] := V.int.inj (of_decide_eq_true c)
          refine ⟨_, rfl, _, hM, fl ds j d1, same_over sm nM, ?_⟩
          rw [upd_same, f ds j hj, if_pos c0, List.map_append]
          rfl
        · have c0 : ¬ ds[j] = ns[i] := fun z => c (decide_eq_true (by rw [z]))
          refine ⟨sm, ?_⟩
          rw [hM, f ds j hj, if_neg c0, List.append_nil]
      rintro H5 ⟨s5, hM⟩
      rw [List.length_map, List.take_length] at hM
      refine ⟨M, _, rfl, .inl (SqL.of hM), ?_⟩
      -- lying
      refine ⟨_, rfl, C, _, H5, rfl, SqA.l (s5 _ _ hC4), Kp.refl _ _, fun J4 hJ4 N nN => ?_⟩
      obtain ⟨G4, g4, W4⟩ := hJ4.walk
      have lo : (L.map fun j => ds.getD j 0).length ≤ 60 := by rw [List.length_map]; omega
      refine lc_it W4 (fun j H' => Same H5 H' ∧ H' N = some (.lst ((((L.map fun j => ds.getD j 0).take j).filter fun o => decide (o = ns[i])).map V.int))) ⟨same_new nN, upd_same⟩ (fun j H' _ z => g4 H' (.ofS z.1)) ?_ ?_
      · rintro j x H6 H7 hj ⟨sm, hN⟩ ⟨rfl, gx2⟩
        rw [List.length_map] at hj
        obtain rfl : .int (L.map fun j => ds.getD j 0)[j] = x := by
          have g5 : ((L.map fun j => ds.getD j 0).map V.int)[j]? = some (.int (L.map fun j => ds.getD j 0)[j]) := by rw [List.getElem?_map, List.getElem?_eq_getElem hj]; rfl
          exact Option.some.inj (g5.symm.trans gx2)
        refine ⟨rfl, _, rfl, _, rfl, rfl, _, rfl, ite2 (fun c => ?_) (fun c => ?_)⟩
        · have c0 : (L.map fun j => ds.getD j 0)[j] = ns[i] := V.int.inj (of_decide_eq_true c)
          refine ⟨_, rfl, _, hN, fl _ j lo, same_over sm nN, ?_⟩
          rw [upd_same, f _ j hj, if_pos c0, List.map_append]
          rfl
        · have c0 : ¬ (L.map fun j => ds.getD j 0)[j] = ns[i] := fun z => c (decide_eq_true (by rw [z]))
          refine ⟨sm, ?_⟩
          rw [hN, f _ j hj, if_neg c0, List.append_nil]
      rintro H6 ⟨s6, hN⟩
      rw [List.length_map, List.take_length] at hN
      refine ⟨N, _, rfl, .inl (SqL.of hN), ?_⟩
      have s46 := s5.trans s6
      have hF6 := s46 _ _ hF4
      -- sorts.append
      refine ⟨_, rfl, .inl ⟨rfl, _, SqL.of hF6⟩, _, rfl, _, rfl, _, rfl, _, rfl, _, _, rfl, rfl, (by show 3 ≤ sizeLine; decide), fun u nu => ?_⟩
      have lu : us.length = i := by
        rw [hu4.1]
        unfold sortsOf
        rw [List.length_map, List.length_take]
        omega
      refine ⟨F, _, _, rfl, rfl, same_new nu _ _ hF6, ?_, _, _, _, us ++ [u], rfl, same_over ((s4.trans s46).trans (same_new nu)) nF0, ?_, ?_, ?_, ?_⟩
      · rw [List.length_map, lu]
        exact small1000 (by omega)
      · rw [upd_ne CF]
        exact same_new nu _ _ (s46 _ _ hC4)
      · rw [upd_ne bF]
        exact same_new nu _ _ (s46 _ _ hb4)
      · rw [upd_same, List.map_append]
        rfl
      · have e : sortsOf ds L (ns.take (i + 1)) = sortsOf ds L (ns.take i) ++ [(ns[i], ((L.map fun i => ds.getD i 0).filter fun o => decide (o = ns[i])).length, (ds.filter fun o => decide (o = ns[i])).length - ((L.map fun i => ds.getD i 0).filter fun o => decide (o = ns[i])).length)] := by
          unfold sortsOf
          rw [take_succ_get hi, List.map_append]
          rfl
        rw [e]
        refine ((hu4.same s46).push' (x := (ns[i], ((L.map fun i => ds.getD i 0).filter fun o => decide (o = ns[i])).length, (ds.filter fun o => decide (o = ns[i])).length - ((L.map fun i => ds.getD i 0).filter fun o => decide (o = ns[i])).length)) nu ?_).put (same_new nu _ _ hF6)
        have le := lying_le hL ns[i]
        unfold SrtV
        rw [List.length_map, List.length_map]
        dsimp only
        rw [show (((ds.filter fun o => decide (o = ns[i])).length - ((L.map fun i => ds.getD i 0).filter fun o => decide (o = ns[i])).length : Nat) : Int) = ((ds.filter fun o => decide (o = ns[i])).length : Int) - (((L.map fun i => ds.getD i 0).filter fun o => decide (o = ns[i])).length : Int) by omega]
    · rintro σ H4 ⟨y7, y8, y9, us, rfl, s4, hC4, hb4, hF4, hu4⟩
      rw [List.length_map, List.take_length] at hu4
      refine ⟨_, rfl, _, rfl, _, rfl, F, _, rfl, .inl ⟨SqL.of hF4, fun a2 na2 => ⟨(by show 3 ≤ sizeLine; decide), fun b2 nb2 => ?_⟩⟩⟩
      have sa2 : Same H4 (upd H4 a2 (.tup (us.map V.ref))) := same_new na2
      have sb2 := sa2.trans (same_new nb2 (o := .tup [.int h, .int t, .ref a2]))
      refine k _ _ (sortsOf ds L ns) (s4.trans sb2) ⟨b2, a2, us, rfl, SqA.t upd_same, SqA.t (same_new nb2 _ _ upd_same), (hu4.same sb2).a⟩ ?_ (sorts_rp hL nn fun d hd => (hm d).mpr (decide_eq_true hd))
      unfold sortsOf
      rw [List.length_map, hlen]
      omega
def spFast (K : PySem.W.Frag) : Sp := fun vs H Q _ => ∃ (v l : V) (h t m : Int) (ds : List Int) (L : List Nat), vs = [v, l, .int m] ∧ SeaA K H v h t ds ∧ LotA K H l L ∧ ds.length ≤ 1000 ∧ Lot ds.length L ∧ ∀ (H' : Hp) (p : Addr), Same H H' → H p = none → H' p = some (.lst (ni (L.filter fun i => decide (ds.getD i 0 > m)))) → Q (.ref p) H'
theorem ok_fast {k : Nat} (D : Df K mg "fast_ones" s_fast_ones) (T : Bt mg) : Ok P w K mg base (k + 1) "fast_ones" s_fast_ones ["sea", "standing", "mark"] (spFast K) := by
  refine D.ok sc_fast_ones b_fast_ones (fun vs H Q E h => ?_) (fun f cdv A outer s H vs Q E hr h => ?_)
  · obtain ⟨v, l, h, t, m, ds, L, rfl, _⟩ := h
    rfl
  · obtain ⟨v, l, h, t, m, ds, L, rfl, ⟨p, q, rfl, hp, hq⟩, ⟨pl, rfl, hl⟩, d1, hL, k⟩ := h
    have ll := hL.len
    refine ⟨_, (pss_cons (ps_set (i := 3) sc_fast_ones.nd rfl (.inr rfl) (pe_ix ix_lt (pv 0) pe_int (fun _ _ => rfl)))
      (pss_one (ps_ret (pe_lc (own := [("ship", 4)]) (g := (gName 4)) (by rfl) sc_fast_ones.nd (pi_seq (pv 1)) (blkOk_by (own := [("ship", 4)]) (N := (["sea", "standing", "mark", "draughts", "ship"] : List Str)) (sc := defScope s_fast_ones) (by decide +kernel)) (fun _ _ _ _ _ => (pg_name (i := 4) sc_fast_ones.nd rfl (.inl rfl))) (fun _ _ _ _ _ => (pts_one (pt_cmpR op_gt (pe_ix (ix_ltK K) (pv 3) (pv 4) (fun _ _ => rfl)) (pv 2) (nomark _)))) (fun _ _ _ _ _ => (pv 4)))))), ?_⟩
    refine ⟨_, rfl, p, _, 2, .ref q, rfl, rfl, hp, rfl, ?_⟩
    refine ⟨_, rfl, pl, _, H, rfl, hl, Kp.refl _ _, fun J hJ C nC => ?_⟩
    obtain ⟨G, g, W⟩ := hJ.walk
    refine lc_it W (fun j H' => Same H H' ∧ H' C = some (.lst (ni ((L.take j).filter fun i => decide (ds.getD i 0 > m))))) ⟨same_new nC, upd_same⟩ (fun j H' _ z => g H' (.ofS z.1)) ?_ ?_
    · rintro j x H1 H2 hj ⟨sm, hC⟩ ⟨rfl, gx⟩
      rw [ni_len] at hj
      obtain rfl : .int ((L[j] : Nat) : Int) = x := Option.some.inj ((ni_get hj).symm.trans gx)
      have hlt := hL.lt L[j] (List.getElem_mem hj)
      refine ⟨rfl, _, rfl, _, rfl, q, _, _, .int (ds.getD L[j] 0), rfl, rfl, Same.sqA sm hq, at_nat rfl (by simp [hlt]), _, rfl, _, _, rfl, rfl, _, rfl, ite2 (fun c => ?_) (fun c => ?_)⟩
      · refine ⟨_, rfl, _, hC, ?_, same_over sm nC, ?_⟩
        · rw [ni_len]
          have h1 := List.length_filter_le (fun i => decide (ds.getD i 0 > m)) (L.take j)
          rw [List.length_take] at h1
          exact small1000 (by omega)
        · rw [upd_same, take_succ_get hj, List.filter_append, ni_app, List.filter_cons_of_pos (p := fun i => decide (ds.getD i 0 > m)) c]
          rfl
      · refine ⟨sm, ?_⟩
        rw [hC, take_succ_get hj, List.filter_append, List.filter_cons_of_neg (p := fun i => decide (ds.getD i 0 > m)) c]
        simp
    · rintro H1 ⟨sm, hC⟩
      rw [ni_len, List.take_length] at hC
      exact k H1 C sm nC hC
theorem fast_eq {c : Nat} {L M : List Nat} (hL : Lot c L) (hM : Lot c M) (f : Nat → Bool) : (L.filter f).map (fun (i : Nat) => (i : Int)) = (M.filter f).map (fun (i : Nat) => (i : Int)) ↔ ∀ i, i < c → f i = true → mem M i = mem L i := by
  have fm : ∀ (X : List Nat) i, mem (X.filter f) i = (mem X i && f i) := fun X i => by
    unfold mem
    rw [Bool.eq_iff_iff, decide_eq_true_eq, List.mem_filter, Bool.and_eq_true, decide_eq_true_eq]
  constructor
  · intro e i hi hf
    have e2 := congrArg (List.map Int.toNat) e
    rw [List.map_map, List.map_map] at e2
    have e3 : (Int.toNat ∘ fun (i : Nat) => (i : Int)) = id := by
      funext i
      exact Int.toNat_natCast i
    rw [e3, List.map_id, List.map_id] at e2
    have a := fm L i
    have b := fm M i
    rw [e2, b, hf, Bool.and_true, Bool.and_true] at a
    exact a
  · intro q
    congr 1
    refine lot_ext (hL.filter _) (hM.filter _) fun i hi => ?_
    rw [fm, fm]
    cases e : f i with
    | false => rw [Bool.and_false, Bool.and_false]
    | true => rw [q i hi e]
theorem ok_comes {k : Nat} (D : Df K mg "comes_to" s_comes_to) (T : Bt mg) (O_lot_of : Ok P w K mg base k "lot_of" s_lot_of ["fleet"] (spLotOf K)) (O_fleet_of : Ok P w K mg base k "fleet_of" s_fleet_of ["sea", "standing"] (spFleetOf K))
    (O_mark_at : Ok P w K mg base k "mark_at" s_mark_at ["sea", "step"] (spMark K)) (O_fast_ones : Ok P w K mg base k "fast_ones" s_fast_ones ["sea", "standing", "mark"] (spFast K)) : Ok P w K mg base (k + 1) "comes_to" s_comes_to ["sea", "one", "other"] (spComes K) := by
  refine D.ok sc_comes_to b_comes_to (fun vs H Q E h => ?_) (fun f cdv A outer s H vs Q E hr h => ?_)
  · obtain ⟨v, l, m, h, t, ds, L, M, rfl, _⟩ := h
    rfl
  · obtain ⟨v, l, m, h, t, ds, L, M, rfl, hv, hl, hm, d1, d0, hL, hM, k⟩ := h
    have ho : ∀ i, ¬ i < ds.length → mem M i = mem L i := fun i hi => by rw [mem_out hL hi, mem_out hM hi]
    refine ⟨_, (pss_cons (ps_set (i := 3) sc_comes_to.nd rfl (.inl rfl) (pe_fn O_lot_of (hr.mono (by omega)) (pa_cons (pe_fn O_fleet_of (hr.mono (by omega)) (pa_cons (pv 0) (pa_cons (pv 1) pa_nil))) pa_nil)))
      (pss_cons (ps_if (pt_cmpR (op_neD hr.units) (pe_fn O_lot_of (hr.mono (by omega)) (pa_cons (pe_fn O_fleet_of (hr.mono (by omega)) (pa_cons (pv 0) (pa_cons (pv 2) pa_nil))) pa_nil)) (pv 3) (nomark _))
        (pss_one (ps_ret pe_bl))
        pss_nil)
      (pss_cons (ps_set (i := 4) sc_comes_to.nd rfl (.inl rfl) (pe_fn O_mark_at (hr.mono (by omega)) (pa_cons (pv 0) (pa_cons (pe_ix ix_lt (pv 3) pe_int (fun _ _ => rfl)) pa_nil))))
      (pss_one (ps_ret (pe_cmpR (op_eqD hr.units) (pe_fn O_fast_ones (hr.mono (by omega)) (pa_cons (pv 0) (pa_cons (pv 1) (pa_cons (pv 4) pa_nil)))) (pe_fn O_fast_ones (hr.mono (by omega)) (pa_cons (pv 0) (pa_cons (pv 2) (pa_cons (pv 4) pa_nil)))) (nomark _))))))), ?_⟩
    refine ⟨_, rfl, _, rfl, v, l, h, t, ds, L, rfl, hv, hl, d1, hL, fun H1 z ss s1 hz l1 r => ⟨z, h, t, ss, rfl, hz, l1, fun H2 p kd s s2 np hp lf => ?_⟩⟩
    have s02 := s1.trans s2
    have ls := lf.ships r d0
    refine ⟨_, rfl, _, rfl, v, m, h, t, ds, M, rfl, hv.same s02, hm.same s02, d1, hM, fun H3 z' ss' s3 hz' l1' r' => ⟨z', h, t, ss', rfl, hz', l1', fun H4 p' kd' s' s4 np' hp' lf' => ?_⟩⟩
    have s24 := s3.trans s4
    have s04 := s02.trans s24
    have ls' := lf'.ships r' d0
    have cm := ls.comes d0 ls' ho
    refine ⟨_, rfl, .tuple [.str kd'.str, .int s'], .tuple [.str kd.str, .int s], .tup (SqT.of hp') (.cons (.str _) (.cons (.int _) .nil)), .tup (SqT.of (s24 _ _ hp)) (.cons (.str _) (.cons (.int _) .nil)), shaped_lot _ _, shaped_lot _ _, _, rfl, ?_⟩
    rw [eqv_lot]
    by_cases e : kd = kd' ∧ s = s'
    · obtain ⟨e1, e2⟩ := e
      subst e1
      subst e2
      rw [decide_eq_true rfl, decide_eq_true rfl]
      refine iteF ?_
      refine ⟨_, rfl, _, rfl, p, _, 1, .int s, rfl, rfl, SqA.t (s24 _ _ hp), rfl, v, h, t, s, ds, rfl, (hv.same s04).a, ?_⟩
      refine ⟨_, rfl, _, rfl, _, rfl, v, l, h, t, _, ds, L, rfl, (hv.same s04).a, hl.same s04, by omega, hL, fun H5 a1 s5 na1 ha1 => ?_⟩
      have s05 := s04.trans s5
      refine ⟨_, rfl, _, rfl, _, rfl, v, m, h, t, _, ds, M, rfl, (hv.same s05).a, hm.same s05, by omega, hM, fun H6 a2 s6 na2 ha2 => ?_⟩
      refine ⟨_, _, dp_ni (s6 _ _ ha1), dp_ni ha2, shaped_ints _, shaped_ints _, ?_⟩
      rw [eqv_ints]
      refine k H6 _ (s05.trans s6) ?_
      rw [decide_eq_true_eq, fast_eq hL hM]
      refine Iff.trans ?_ cm.symm
      constructor
      · intro q
        exact ⟨⟨rfl, rfl⟩, fun i hi z => q i hi (decide_eq_true (by omega))⟩
      · rintro ⟨_, q⟩ i hi z
        have z' : ds.getD i 0 > mk h t ds.length s := of_decide_eq_true z
        exact q i hi (by show ¬ ds.getD i 0 ≤ _; omega)
    · have no : (decide (kd'.str = kd.str) && decide (s' = s)) = false := by
        rw [Bool.and_eq_false_iff, decide_eq_false_iff_not, decide_eq_false_iff_not]
        by_cases e1 : kd'.str = kd.str
        · exact .inr fun e2 => e ⟨(Kd.str_inj e1).symm, e2.symm⟩
        · exact .inl e1
      rw [no]
      refine iteT (k H4 false s04 ?_)
      exact ⟨fun z => (by cases z), fun z => absurd (cm.mp z).1 e⟩
end
end Sh

namespace Sh
open PySem PySem.Spec PyProof.Rows L2
theorem eqv_tup : ∀ ns ms : List Int, PyData.eqv (.tuple (ns.map .int)) (.tuple (ms.map .int)) = decide (ns = ms)
  | [], [] => rfl
  | [], _ :: _ => rfl
  | _ :: _, [] => rfl
  | n :: ns, m :: ms => by
    show ((n == m) && PyData.eqv (.tuple (ns.map .int)) (.tuple (ms.map .int))) = _
    rw [eqv_tup ns ms, Bool.eq_iff_iff, Bool.and_eq_true, beq_iff_eq, decide_eq_true_eq, decide_eq_true_eq]
    exact ⟨fun ⟨a, b⟩ => by rw [a, b], fun e => by injection e with a b; exact ⟨a, b⟩⟩
theorem shaped_tup (ns : List Int) : SeqAt.shaped (.tuple (ns.map .int)) = true := by
  have := shaped_ints ns
  exact this
theorem dp_niT {K : PySem.W.Frag} {H : Hp} {a : Addr} {L : List Nat} (h : SqT K H a (ni L)) : Dp K H (.ref a) (.tuple ((L.map fun (i : Nat) => (i : Int)).map .int)) := .tup h (by rw [ni_ints]; exact DpAll.ints _)
theorem ni_map_inj {L M : List Nat} : (L.map fun (i : Nat) => (i : Int)) = (M.map fun (i : Nat) => (i : Int)) ↔ L = M := by
  constructor
  · intro e
    have := congrArg (List.map Int.toNat) e
    rw [List.map_map, List.map_map, show (Int.toNat ∘ fun (i : Nat) => (i : Int)) = id from rfl, List.map_id, List.map_id] at this
    exact this
  · intro e
    rw [e]
theorem eqv_niT (L M : List Nat) : PyData.eqv (.tuple ((L.map fun (i : Nat) => (i : Int)).map .int)) (.tuple ((M.map fun (i : Nat) => (i : Int)).map .int)) = decide (L = M) := by
  rw [eqv_tup, Bool.eq_iff_iff, decide_eq_true_eq, decide_eq_true_eq]
  exact ni_map_inj
end Sh

namespace Sh
open PySem PySem.Spec PyProof.Rows L2
/-! ### comprehensions in short -/
/-- [x for x in xs if test], xs ships: those of whom the test says p -/
theorem lc_filter {σ : L2.St} {H : Hp} {C : Addr} {vs : List Nat} {i : Nat} {tt : TT} {Qd : Hp → Prop} {X : List Nat} {J : It} {G : Hp → Prop} (p : Nat → Bool) (W : Walk J (ni X).length G (YAt (ni X))) (g : ∀ H', Same H H' → G H') (nC : H C = none) (lX : X.length ≤ 1000)
    (hw : ∀ v, wipe ((wipe σ vs).set i (some v)) vs = wipe σ vs) (hv : ∀ v : V, ((wipe σ vs).set i (some v))[i]? = some (some v))
    (ht : ∀ x ∈ X, ∀ H', Same H H' → ∀ Q : Bool → Hp → Prop, Q (p x) H' → tt ((wipe σ vs).set i (some (.int (x : Int)))) H' Q) (hd : ∀ H', Same H H' → H' C = some (.lst (ni (X.filter p))) → Qd H') :
    ∃ W : Nat → Nat → Hp → Prop, (∃ m, W 0 m (upd H C (.lst []))) ∧ ∀ j m H, W j m H →
      (J.stop j H ∧ Qd H) ∨ (J.go j H ∧ ∃ Nx : Hp → Prop, (∀ H', Nx H' → ∃ m', m' < m ∧ W (j + 1) m' H') ∧ ∀ x H', J.yld j H x H' → gName i x (wipe σ vs) H' fun σ2 H2 => wipe σ2 vs = wipe σ vs ∧ tt σ2 H2 fun b H3 =>
        if b = true then tVar i σ2 H3 fun y H4 => ∃ acc, H4 C = some (.lst acc) ∧ acc.length < sizeLine ∧ Nx (upd H4 C (.lst (acc ++ [y]))) else Nx H3) := by
  refine lc_it W (fun j H' => Same H H' ∧ H' C = some (.lst (ni ((X.take j).filter p)))) ⟨same_new nC, upd_same⟩ (fun j H' _ z => g H' z.1) ?_ ?_
  · rintro j x H3 H4 hj ⟨s3, hC⟩ ⟨rfl, gx⟩
    rw [ni_len] at hj
    obtain rfl : .int ((X[j] : Nat) : Int) = x := Option.some.inj ((ni_get hj).symm.trans gx)
    refine ⟨hw _, ht X[j] (List.getElem_mem hj) _ s3 _ ?_⟩
    cases e : p X[j] with
    | true =>
      rw [if_pos rfl]
      refine ⟨_, hv _, _, hC, ?_, same_over s3 nC, ?_⟩
      · rw [ni_len]
        have h1 := List.length_filter_le p (X.take j)
        rw [List.length_take] at h1
        exact small1000 (by omega)
      · rw [upd_same, take_succ_get hj, List.filter_append, ni_app, List.filter_cons_of_pos e]
        rfl
    | false =>
      rw [if_neg Bool.false_ne_true]
      refine ⟨s3, ?_⟩
      rw [hC, take_succ_get hj, List.filter_append, List.filter_cons_of_neg (by rw [e]; exact Bool.false_ne_true)]
      simp
  · rintro H3 ⟨s3, hC⟩
    rw [ni_len, List.take_length] at hC
    exact hd H3 s3 hC
/-- all ships below n, as range walks them -/
theorem walk_rg (n : Nat) : Walk (Itr 0 n) (ni (List.range n)).length (fun _ => True) (YAt (ni (List.range n))) := by
  have e : (ni (List.range n)).length = n := by rw [ni_len, List.length_range]
  rw [e]
  refine ⟨fun _ _ hi _ => hi, fun _ _ => Nat.le_refl _, fun i H x H' hi _ y => ⟨y.1, ?_⟩⟩
  rw [ni_get (by rw [List.length_range]; exact hi), y.2, List.getElem_range, Int.zero_add]
/-- truths, one a ship: all([..]) -/
theorem lc_truths {σ : L2.St} {H : Hp} {C : Addr} {vs : List Nat} {i : Nat} {te : TE} {Qd : Hp → Prop} {X : List Nat} {J : It} {G : Hp → Prop} (W : Walk J (ni X).length G (YAt (ni X))) (g : ∀ H', Same H H' → G H') (nC : H C = none) (lX : X.length ≤ 1000)
    (hw : ∀ v, wipe ((wipe σ vs).set i (some v)) vs = wipe σ vs)
    (ht : ∀ x ∈ X, ∀ H', Same H H' → ∀ Q : V → Hp → Prop, (∀ H2, Same H' H2 → Q (.bl true) H2) → te ((wipe σ vs).set i (some (.int (x : Int)))) H' Q) (hd : ∀ H', Same H H' → H' C = some (.lst ((List.replicate X.length true).map V.bl)) → Qd H') :
    ∃ W : Nat → Nat → Hp → Prop, (∃ m, W 0 m (upd H C (.lst []))) ∧ ∀ j m H, W j m H →
      (J.stop j H ∧ Qd H) ∨ (J.go j H ∧ ∃ Nx : Hp → Prop, (∀ H', Nx H' → ∃ m', m' < m ∧ W (j + 1) m' H') ∧ ∀ x H', J.yld j H x H' → gName i x (wipe σ vs) H' fun σ2 H2 => wipe σ2 vs = wipe σ vs ∧ tYes σ2 H2 fun b H3 =>
        if b = true then te σ2 H3 fun y H4 => ∃ acc, H4 C = some (.lst acc) ∧ acc.length < sizeLine ∧ Nx (upd H4 C (.lst (acc ++ [y]))) else Nx H3) := by
  refine lc_it W (fun j H' => Same H H' ∧ H' C = some (.lst ((List.replicate j true).map V.bl))) ⟨same_new nC, upd_same⟩ (fun j H' _ z => g H' z.1) ?_ ?_
  · rintro j x H3 H4 hj ⟨s3, hC⟩ ⟨rfl, gx⟩
    rw [ni_len] at hj
    obtain rfl : .int ((X[j] : Nat) : Int) = x := Option.some.inj ((ni_get hj).symm.trans gx)
    refine ⟨hw _, tyes (iteT (ht X[j] (List.getElem_mem hj) _ s3 _ fun H5 s5 => ?_))⟩
    refine ⟨_, s5 _ _ hC, ?_, same_over (s3.trans s5) nC, ?_⟩
    · rw [List.length_map, List.length_replicate]
      exact small1000 (by omega)
    · rw [upd_same, List.replicate_succ', List.map_append]
      rfl
  · rintro H3 ⟨s3, hC⟩
    rw [ni_len] at hC
    exact hd H3 s3 hC
theorem all_true (n : Nat) : (List.replicate n true).all id = true := by simp
end Sh

namespace Sh
open PySem PySem.Spec PyProof.Rows L2
/-! ### what is told: seas and standings -/
/-- a standing told: a tuple that is read -/
def LotT (K : PySem.W.Frag) (H : Hp) (v : V) (L : List Nat) : Prop := ∃ p, v = .ref p ∧ SqT K H p (ni L)
theorem LotT.a {K : PySem.W.Frag} {H : Hp} {v : V} {L : List Nat} (h : LotT K H v L) : LotA K H v L := let ⟨p, e, q⟩ := h; ⟨p, e, .inr q⟩
theorem LotT.same {K : PySem.W.Frag} {H H' : Hp} {v : V} {L : List Nat} (h : LotT K H v L) (s : Same H H') : LotT K H' v L := let ⟨p, e, q⟩ := h; ⟨p, e, Same.tup s q⟩
theorem tup_but {K : PySem.W.Frag} {H H' : Hp} {b p : Addr} {n : Nat} {xs : List V} (q : SqT K H p xs) (x : BoxAt H b n) (u : But b H H') : SqT K H' p xs := by
  obtain ⟨ys, hb, _⟩ := x
  rcases q with (q | ⟨o, q⟩) | q
  · exact .inl (.inl (u _ _ (ne_of q hb (by intro z; cases z)) q))
  · exact .inl (.inr ⟨o, u _ _ (ne_of q hb (by intro z; cases z)) q⟩)
  · exact .inr q
theorem LotT.but {K : PySem.W.Frag} {H H' : Hp} {b : Addr} {n : Nat} {v : V} {L : List Nat} (h : LotT K H v L) (x : BoxAt H b n) (u : But b H H') : LotT K H' v L := let ⟨p, e, q⟩ := h; ⟨p, e, tup_but q x u⟩
theorem LotT.dp {K : PySem.W.Frag} {H : Hp} {v : V} {L : List Nat} (h : LotT K H v L) : Dp K H v (.tuple ((L.map fun (i : Nat) => (i : Int)).map .int)) := by
  obtain ⟨p, e, q⟩ := h
  rw [e]
  rw [ni_ints] at q
  exact .tup q (DpAll.ints _)
/-- a sea told -/
def SeaT (K : PySem.W.Frag) (H : Hp) (v : V) (h t : Int) (ds : List Int) : Prop := ∃ p q, v = .ref p ∧ SqT K H p [.int h, .int t, .ref q] ∧ SqT K H q (ds.map V.int)
theorem SeaT.a {K : PySem.W.Frag} {H : Hp} {v : V} {h t : Int} {ds : List Int} (s : SeaT K H v h t ds) : SeaA K H v h t ds := let ⟨p, q, e, a, b⟩ := s; ⟨p, q, e, .inr a, .inr b⟩
theorem SeaT.same {K : PySem.W.Frag} {H H' : Hp} {v : V} {h t : Int} {ds : List Int} (s : SeaT K H v h t ds) (e : Same H H') : SeaT K H' v h t ds := let ⟨p, q, e1, a, b⟩ := s; ⟨p, q, e1, Same.tup e a, Same.tup e b⟩
theorem SeaT.but {K : PySem.W.Frag} {H H' : Hp} {b : Addr} {n : Nat} {v : V} {h t : Int} {ds : List Int} (s : SeaT K H v h t ds) (x : BoxAt H b n) (u : But b H H') : SeaT K H' v h t ds := let ⟨p, q, e1, a, c⟩ := s; ⟨p, q, e1, tup_but a x u, tup_but c x u⟩
theorem SeaT.dp {K : PySem.W.Frag} {H : Hp} {v : V} {h t : Int} {ds : List Int} (s : SeaT K H v h t ds) : Dp K H v (.tuple [.int h, .int t, .tuple (ds.map .int)]) := by
  obtain ⟨p, q, e, a, b⟩ := s
  rw [e]
  exact .tup a (.cons (.int _) (.cons (.int _) (.cons (.tup b (DpAll.ints _)) .nil)))
end Sh

namespace Th
/-! ### bars -/
section
variable {k : Nat} {G : Nat → Nat → Bool} {S U : Nat → Bool}
theorem under_stuck {N : Nat} (h0 : cnt k S ≤ N) (h1 : cnt k (fun i => S i || G N i) ≤ N) : ∃ n, n ≤ N ∧ StuckLow k G n S := by
  rcases stuck_or (k := k) (G := G) (S := S) (N + 1) with ⟨n, hn, st⟩ | no
  · exact ⟨n, by omega, st⟩
  · have := no N h0 (by omega)
    omega
/-- it lies under the bar that S is stuck at -/
def Under (k : Nat) (G : Nat → Nat → Bool) (N : Nat) (S U : Nat → Bool) : Prop := cnt k U ≤ N ∧ ∀ i, i < k → (U i || G N i) = (S i || G N i)
theorem Under.cnt {N : Nat} (u : Under k G N S U) : cnt k (fun i => U i || G N i) = cnt k (fun i => S i || G N i) := cnt_congr u.2
theorem low_part {N T : Nat} (t : Top k G T) (hN : N ≤ T) (st : StuckLow k G N S) (ho : ∀ i, ¬ i < k → U i = S i) (no : ¬ Reach k G S U) (u : Under k G N S U) : ∃ n, n < N ∧ StuckLow k G n U ∧ ¬ Under k G n U S := by
  have c := u.cnt
  obtain ⟨n, hn, su⟩ := under_stuck u.1 (by rw [c]; exact st.2.2)
  by_cases e : n = N
  · subst e
    exact absurd ((st.iff t hN ho).mpr ⟨su, u.2⟩) no
  · refine ⟨n, by omega, su, fun v => ?_⟩
    have c2 := v.cnt
    have := st.2.1 n v.1 (by omega)
    have := su.2.2
    omega
theorem StuckLow.self {N : Nat} (st : StuckLow k G N S) : Under k G N S S := ⟨st.1, fun _ _ => rfl⟩
end
end Th
namespace Sh
open PySem PySem.Spec PyProof.Rows L2
def goB (h t : Int) (ds : List Int) (s : Int) (i : Nat) : Bool := decide (ds.getD i 0 ≤ mk h t ds.length s)
def fillL (h t : Int) (ds : List Int) (X : List Nat) (s : Int) : List Nat := lotOf ds.length fun i => mem X i || goB h t ds s i
def emptL (h t : Int) (ds : List Int) (X : List Nat) (s : Int) : List Nat := lotOf ds.length fun i => mem X i && !goB h t ds s i
def underB (h t : Int) (ds : List Int) (s : Int) (F L : List Nat) : Bool := decide ((L.length : Int) ≤ s) && decide (fillL h t ds L s = F)
def aboveB (h t : Int) (ds : List Int) (s : Int) (F L : List Nat) : Bool := decide (s < (L.length : Int)) && decide (emptL h t ds L s = F)
def lowSB (h t : Int) (ds : List Int) (s : Int) (F L M : List Nat) : Bool := (List.range ds.length).all (fun e => !(decide ((e : Int) < s) && decide (mk h t ds.length (e : Int) > mk h t ds.length s))) && (decide ((F.length : Int) = s) && (decide (fillL h t ds F s = F) && (underB h t ds s F L != underB h t ds s F M)))
def highSB (h t : Int) (ds : List Int) (s : Int) (F L M : List Nat) : Bool := (List.range ds.length).all (fun e => !(decide (s < (e : Int)) && decide (mk h t ds.length (e : Int) > mk h t ds.length s))) && (decide ((F.length : Int) = s + 1) && (decide (emptL h t ds F s = F) && (aboveB h t ds s F L != aboveB h t ds s F M)))
def fastSB (h t : Int) (ds : List Int) (g : Nat) (L M : List Nat) : Bool := decide (ds.getD g 0 > mk h t ds.length (topI h t ds.length)) && (mem L g != mem M g)
/-- a bar, as it is told -/
inductive BarV where
  | low (s : Nat) (F : List Nat)
  | high (s : Nat) (F : List Nat)
  | fast (g : Nat)
def BarV.ok (h t : Int) (ds : List Int) (L M : List Nat) : BarV → Bool
  | .low s F => lowSB h t ds s F L M
  | .high s F => highSB h t ds s F L M
  | .fast g => fastSB h t ds g L M
/-- the bars that part a standing's lot from others -/
def barsOf (h t : Int) (ds : List Int) (L : List Nat) : Kd → Int → List BarV
  | .low, s => [.low s.toNat (fillL h t ds L s)]
  | .high, s => [.high s.toNat (emptL h t ds L s)]
  | .top, s => ((List.range ds.length).filter fun g => !goB h t ds s g).map .fast
section
variable {h t : Int} {ds : List Int} {L M F : List Nat}
theorem fill_lot (X : List Nat) (s : Int) : Lot ds.length (fillL h t ds X s) := lotOf_lot _ _
theorem empt_lot (X : List Nat) (s : Int) : Lot ds.length (emptL h t ds X s) := lotOf_lot _ _
theorem fill_mem {X : List Nat} {s : Int} {i : Nat} (hi : i < ds.length) : mem (fillL h t ds X s) i = (mem X i || goB h t ds s i) := lotOf_mem hi
theorem empt_mem {X : List Nat} {s : Int} {i : Nat} (hi : i < ds.length) : mem (emptL h t ds X s) i = (mem X i && !goB h t ds s i) := lotOf_mem hi
theorem fill_eq {X Y : List Nat} {s : Int} : fillL h t ds X s = fillL h t ds Y s ↔ ∀ i, i < ds.length → (mem X i || goB h t ds s i) = (mem Y i || goB h t ds s i) := by
  constructor
  · intro e i hi
    rw [← fill_mem (X := X) hi, ← fill_mem (X := Y) hi, e]
  · intro e
    refine lot_ext (fill_lot _ _) (fill_lot _ _) fun i hi => ?_
    rw [fill_mem hi, fill_mem hi, e i hi]
theorem empt_eq {X Y : List Nat} {s : Int} : emptL h t ds X s = emptL h t ds Y s ↔ ∀ i, i < ds.length → (mem X i && !goB h t ds s i) = (mem Y i && !goB h t ds s i) := by
  constructor
  · intro e i hi
    rw [← empt_mem (X := X) hi, ← empt_mem (X := Y) hi, e]
  · intro e
    refine lot_ext (empt_lot _ _) (empt_lot _ _) fun i hi => ?_
    rw [empt_mem hi, empt_mem hi, e i hi]
theorem fill_len (X : List Nat) (s : Int) : (fillL h t ds X s).length = Th.cnt ds.length (fun i => mem X i || goB h t ds s i) := by
  rw [← cnt_mem (fill_lot X s)]
  exact Th.cnt_congr fun i hi => fill_mem hi
theorem empt_len (X : List Nat) (s : Int) : (emptL h t ds X s).length = Th.cnt ds.length (fun i => mem X i && !goB h t ds s i) := by
  rw [← cnt_mem (empt_lot X s)]
  exact Th.cnt_congr fun i hi => empt_mem hi
theorem fill_fill (X : List Nat) (s : Int) : fillL h t ds (fillL h t ds X s) s = fillL h t ds X s := by
  rw [fill_eq]
  intro i hi
  rw [fill_mem hi]
  cases mem X i <;> cases goB h t ds s i <;> rfl
theorem empt_empt (X : List Nat) (s : Int) : emptL h t ds (emptL h t ds X s) s = emptL h t ds X s := by
  rw [empt_eq]
  intro i hi
  rw [empt_mem hi]
  cases mem X i <;> cases goB h t ds s i <;> rfl
theorem goB_G {N : Nat} : goB h t ds (N : Int) = Gof h t ds N := rfl
theorem under_iff {N : Nat} {X Y : List Nat} (hY : Lot ds.length Y) : underB h t ds (N : Int) (fillL h t ds X N) Y = true ↔ Th.Under ds.length (Gof h t ds) N (mem X) (mem Y) := by
  unfold underB Th.Under
  rw [Bool.and_eq_true, decide_eq_true_eq, decide_eq_true_eq, fill_eq, cnt_mem hY]
  exact ⟨fun z => ⟨by omega, z.2⟩, fun z => ⟨by omega, z.2⟩⟩
theorem above_iff {N : Nat} {X Y : List Nat} (hN : N < ds.length) (hY : Lot ds.length Y) : aboveB h t ds ((ds.length - 1 - N : Nat) : Int) (emptL h t ds X ((ds.length - 1 - N : Nat) : Int)) Y = true ↔ Th.Under ds.length (Th.dual ds.length (Gof h t ds)) N (Th.co (mem X)) (Th.co (mem Y)) := by
  unfold aboveB Th.Under
  rw [Bool.and_eq_true, decide_eq_true_eq, decide_eq_true_eq, empt_eq]
  have c := Th.cnt_co ds.length (mem Y)
  rw [cnt_mem hY] at c
  have e : (∀ i, i < ds.length → (mem Y i && !goB h t ds ((ds.length - 1 - N : Nat) : Int) i) = (mem X i && !goB h t ds ((ds.length - 1 - N : Nat) : Int) i)) ↔ ∀ i, i < ds.length → (Th.co (mem Y) i || Th.dual ds.length (Gof h t ds) N i) = (Th.co (mem X) i || Th.dual ds.length (Gof h t ds) N i) := by
    refine forall_congr' fun i => forall_congr' fun _ => ?_
    show _ ↔ ((!mem Y i) || goB h t ds ((ds.length - 1 - N : Nat) : Int) i) = ((!mem X i) || goB h t ds ((ds.length - 1 - N : Nat) : Int) i)
    cases mem Y i <;> cases mem X i <;> cases goB h t ds ((ds.length - 1 - N : Nat) : Int) i <;> simp
  rw [e]
  exact ⟨fun z => ⟨by omega, z.2⟩, fun z => ⟨by omega, z.2⟩⟩
theorem low_shown {N : Nat} {X : List Nat} (d0 : 0 < ds.length) (st : Th.StuckLow ds.length (Gof h t ds) N (mem X)) (hN : N ≤ (topI h t ds.length).toNat) : lowSB h t ds (N : Int) (fillL h t ds X N) L M = (underB h t ds (N : Int) (fillL h t ds X N) L != underB h t ds (N : Int) (fillL h t ds X N) M) := by
  have t0 := top_lo' h t ds.length
  unfold lowSB
  have e1 : (List.range ds.length).all (fun e => !(decide ((e : Int) < (N : Int)) && decide (mk h t ds.length (e : Int) > mk h t ds.length (N : Int)))) = true := by
    refine List.all_eq_true.mpr fun e he => ?_
    rw [Bool.not_eq_true', Bool.and_eq_false_iff, decide_eq_false_iff_not, decide_eq_false_iff_not]
    by_cases c : (e : Int) < (N : Int)
    · exact .inr (by have := mk_le (h := h) (t := t) (k := ds.length) (s := (e : Int)) (s' := (N : Int)) (by omega) (by omega) (by omega); omega)
    · exact .inl c
  have e2 : ((fillL h t ds X N).length : Int) = (N : Int) := by
    rw [fill_len]
    exact congrArg _ (st.cnt_full (top_of h t ds d0) hN)
  rw [e1, e2, fill_fill, decide_eq_true rfl, decide_eq_true rfl, Bool.true_and, Bool.true_and, Bool.true_and]
theorem high_shown {N : Nat} {X : List Nat} (d0 : 0 < ds.length) (hX : Lot ds.length X) (st : Th.StuckLow ds.length (Th.dual ds.length (Gof h t ds)) N (Th.co (mem X))) (hN : N ≤ ds.length - 1 - (topI h t ds.length).toNat) :
    highSB h t ds ((ds.length - 1 - N : Nat) : Int) (emptL h t ds X ((ds.length - 1 - N : Nat) : Int)) L M = (aboveB h t ds ((ds.length - 1 - N : Nat) : Int) (emptL h t ds X ((ds.length - 1 - N : Nat) : Int)) L != aboveB h t ds ((ds.length - 1 - N : Nat) : Int) (emptL h t ds X ((ds.length - 1 - N : Nat) : Int)) M) := by
  have t0 := top_lo' h t ds.length
  have t1 := top_hi' h t d0
  unfold highSB
  have e1 : (List.range ds.length).all (fun e => !(decide (((ds.length - 1 - N : Nat) : Int) < (e : Int)) && decide (mk h t ds.length (e : Int) > mk h t ds.length ((ds.length - 1 - N : Nat) : Int)))) = true := by
    refine List.all_eq_true.mpr fun e he => ?_
    have he' := List.mem_range.mp he
    rw [Bool.not_eq_true', Bool.and_eq_false_iff, decide_eq_false_iff_not, decide_eq_false_iff_not]
    by_cases c : ((ds.length - 1 - N : Nat) : Int) < (e : Int)
    · exact .inr (by have := mk_dn (h := h) (t := t) (k := ds.length) (s := ((ds.length - 1 - N : Nat) : Int)) (s' := (e : Int)) (by omega) (by omega) (by omega); omega)
    · exact .inl c
  have e2 : ((emptL h t ds X ((ds.length - 1 - N : Nat) : Int)).length : Int) = ((ds.length - 1 - N : Nat) : Int) + 1 := by
    rw [empt_len]
    have f := st.cnt_full (top_of h t ds d0).dual hN
    have e : (fun i => Th.co (mem X) i || Th.dual ds.length (Gof h t ds) N i) = Th.co (fun i => mem X i && !goB h t ds ((ds.length - 1 - N : Nat) : Int) i) := by
      funext i
      show ((!mem X i) || goB h t ds ((ds.length - 1 - N : Nat) : Int) i) = !(mem X i && !goB h t ds ((ds.length - 1 - N : Nat) : Int) i)
      cases mem X i <;> cases goB h t ds ((ds.length - 1 - N : Nat) : Int) i <;> rfl
    rw [e] at f
    have c := Th.cnt_co ds.length (fun i => mem X i && !goB h t ds ((ds.length - 1 - N : Nat) : Int) i)
    omega
  rw [e1, e2, empt_empt, decide_eq_true rfl, decide_eq_true rfl, Bool.true_and, Bool.true_and, Bool.true_and]
theorem gd_gof : Gd h t ds.length (fun i => ds.getD i 0) = Gof h t ds := rfl
/-- where none comes to the other a bar round either is shown -/
theorem bars_ex (d0 : 0 < ds.length) (hL : Lot ds.length L) (hM : Lot ds.length M) {kd kd' : Kd} {s s' : Int} (l : LotS h t ds.length (fun i => ds.getD i 0) (mem L) kd s) (l' : LotS h t ds.length (fun i => ds.getD i 0) (mem M) kd' s') (no : ¬ Rl h t ds L M) :
    ∃ b ∈ barsOf h t ds L kd s ++ barsOf h t ds M kd' s', b.ok h t ds L M = true := by
  have tp := top_of h t ds d0
  have t0 := top_lo' h t ds.length
  have t1 := top_hi' h t d0
  have ho : ∀ i, ¬ i < ds.length → mem M i = mem L i := fun i hi => by rw [mem_out hL hi, mem_out hM hi]
  have neB : ∀ {a b : Bool}, a = true → ¬ b = true → (a != b) = true := fun {a b} x y => by
    subst x
    cases b
    · rfl
    · exact absurd rfl y
  have neB' : ∀ {a b : Bool}, ¬ a = true → b = true → (a != b) = true := fun {a b} x y => by
    subst y
    cases a
    · rfl
    · exact absurd rfl x
  -- a low one of M's that L doesn't lie under, a high one
  have lowM : ∀ {N : Nat}, N ≤ (topI h t ds.length).toNat → Th.StuckLow ds.length (Gof h t ds) N (mem M) → ¬ Th.Under ds.length (Gof h t ds) N (mem M) (mem L) → kd' = .low → s' = (N : Int) → ∃ b ∈ barsOf h t ds L kd s ++ barsOf h t ds M kd' s', b.ok h t ds L M = true := fun {N} hN st nu e1 e2 => by
    subst e1 e2
    refine ⟨.low N (fillL h t ds M N), List.mem_append_right _ (by show _ ∈ [BarV.low ((N : Int)).toNat (fillL h t ds M N)]; rw [Int.toNat_natCast]; exact List.mem_singleton.mpr rfl), ?_⟩
    show lowSB h t ds (N : Int) (fillL h t ds M N) L M = true
    rw [low_shown d0 st hN]
    exact neB' (fun z => nu ((under_iff hL).mp z)) ((under_iff hM).mpr st.self)
  have highM : ∀ {N : Nat}, N ≤ ds.length - 1 - (topI h t ds.length).toNat → Th.StuckLow ds.length (Th.dual ds.length (Gof h t ds)) N (Th.co (mem M)) → ¬ Th.Under ds.length (Th.dual ds.length (Gof h t ds)) N (Th.co (mem M)) (Th.co (mem L)) → kd' = .high → s' = (ds.length : Int) - 1 - (N : Int) → ∃ b ∈ barsOf h t ds L kd s ++ barsOf h t ds M kd' s', b.ok h t ds L M = true := fun {N} hN st nu e1 e2 => by
    have e3 : s' = ((ds.length - 1 - N : Nat) : Int) := by omega
    subst e1 e3
    refine ⟨.high (ds.length - 1 - N) (emptL h t ds M ((ds.length - 1 - N : Nat) : Int)), List.mem_append_right _ (by show _ ∈ [BarV.high (((ds.length - 1 - N : Nat) : Int)).toNat _]; rw [Int.toNat_natCast]; exact List.mem_singleton.mpr rfl), ?_⟩
    show highSB h t ds ((ds.length - 1 - N : Nat) : Int) _ L M = true
    rw [high_shown d0 hM st hN]
    exact neB' (fun z => nu ((above_iff (by omega) hL).mp z)) ((above_iff (by omega) hM).mpr st.self)
  cases kd with
  | low =>
    obtain ⟨N, e, hN, st⟩ := l
    subst e
    by_cases u : Th.Under ds.length (Gof h t ds) N (mem L) (mem M)
    · obtain ⟨n, hn, su, nu⟩ := Th.low_part tp hN st ho no u
      obtain ⟨e1, e2⟩ := LotS.uniq d0 l' (show LotS h t ds.length (fun i => ds.getD i 0) (mem M) .low (n : Int) from ⟨n, rfl, by omega, su⟩)
      exact lowM (by omega) su nu e1 e2
    · refine ⟨.low N (fillL h t ds L N), List.mem_append_left _ (by show _ ∈ [BarV.low ((N : Int)).toNat (fillL h t ds L N)]; rw [Int.toNat_natCast]; exact List.mem_singleton.mpr rfl), ?_⟩
      show lowSB h t ds (N : Int) (fillL h t ds L N) L M = true
      rw [low_shown d0 st hN]
      exact neB ((under_iff hL).mpr st.self) (fun z => u ((under_iff hM).mp z))
  | high =>
    obtain ⟨N, e, hN, st⟩ := l
    have e3 : s = ((ds.length - 1 - N : Nat) : Int) := by omega
    subst e3
    by_cases u : Th.Under ds.length (Th.dual ds.length (Gof h t ds)) N (Th.co (mem L)) (Th.co (mem M))
    · obtain ⟨n, hn, su, nu⟩ := Th.low_part tp.dual hN st (fun i hi => by show (!mem M i) = !mem L i; rw [ho i hi]) (fun z => no (Th.Reach.codual z)) u
      obtain ⟨e1, e2⟩ := LotS.uniq d0 l' (show LotS h t ds.length (fun i => ds.getD i 0) (mem M) .high ((ds.length : Int) - 1 - (n : Int)) from ⟨n, rfl, by omega, su⟩)
      exact highM (by omega) su nu e1 e2
    · refine ⟨.high (ds.length - 1 - N) (emptL h t ds L ((ds.length - 1 - N : Nat) : Int)), List.mem_append_left _ (by show _ ∈ [BarV.high (((ds.length - 1 - N : Nat) : Int)).toNat _]; rw [Int.toNat_natCast]; exact List.mem_singleton.mpr rfl), ?_⟩
      show highSB h t ds ((ds.length - 1 - N : Nat) : Int) _ L M = true
      rw [high_shown d0 hL st hN]
      exact neB ((above_iff (by omega) hL).mpr st.self) (fun z => u ((above_iff (by omega) hM).mp z))
  | top =>
    cases kd' with
    | low =>
      obtain ⟨N, e, hN, st⟩ := id l'
      refine lowM hN st (fun u => ?_) rfl e
      obtain ⟨n, hn, su⟩ := Th.under_stuck u.1 (by rw [u.cnt]; exact st.2.2)
      obtain ⟨e1, _⟩ := LotS.uniq d0 l (show LotS h t ds.length (fun i => ds.getD i 0) (mem L) .low (n : Int) from ⟨n, rfl, by omega, su⟩)
      cases e1
    | high =>
      obtain ⟨N, e, hN, st⟩ := id l'
      refine highM hN st (fun u => ?_) rfl e
      obtain ⟨n, hn, su⟩ := Th.under_stuck u.1 (by rw [u.cnt]; exact st.2.2)
      obtain ⟨e1, _⟩ := LotS.uniq d0 l (show LotS h t ds.length (fun i => ds.getD i 0) (mem L) .high ((ds.length : Int) - 1 - (n : Int)) from ⟨n, rfl, by omega, su⟩)
      cases e1
    | top =>
      have e1 := l.1
      have e2 := l'.1
      subst e1 e2
      have cm := l.comes d0 l' ho
      obtain ⟨g, hg, ng, ne⟩ : ∃ g, g < ds.length ∧ ¬ ds.getD g 0 ≤ mk h t ds.length (topI h t ds.length) ∧ mem M g ≠ mem L g := by
        refine Classical.byContradiction fun z => no (cm.mpr ⟨⟨rfl, rfl⟩, fun i hi c => ?_⟩)
        exact Classical.byContradiction fun y => z ⟨i, hi, c, y⟩
      refine ⟨.fast g, List.mem_append_left _ (List.mem_map.mpr ⟨g, List.mem_filter.mpr ⟨List.mem_range.mpr hg, ?_⟩, rfl⟩), ?_⟩
      · show (!goB h t ds (topI h t ds.length) g) = true
        unfold goB
        rw [decide_eq_false ng]
        rfl
      · show fastSB h t ds g L M = true
        unfold fastSB
        rw [decide_eq_true (by omega), Bool.true_and, bne_iff_ne]
        exact fun z => ne z.symm
end
end Sh

namespace Sh
open PySem PySem.Spec PyProof.Rows L2
/-! ### bars: the program -/
theorem rise_lot {c : Nat} {ns : List Int} {U : Nat → Bool} (up : ns.Pairwise (· < ·)) (lt : ∀ k ∈ ns, 0 ≤ k ∧ k < (c : Int)) (m : ∀ i : Nat, i < c → ((i : Int) ∈ ns ↔ U i = true)) : ns = (lotOf c U).map fun (i : Nat) => (i : Int) := by
  obtain ⟨L, rfl, hL⟩ := nat_list (c := c) (ns := ns) fun z hz => ⟨(lt z hz).1, (lt z hz).2⟩
  have pl : Lot c L := ⟨(List.pairwise_map.mp up).imp fun {a b} z => by omega, hL⟩
  congr 1
  refine lot_ext pl (lotOf_lot _ _) fun i hi => ?_
  rw [lotOf_mem hi, Bool.eq_iff_iff, ← m i hi]
  show decide (i ∈ L) = true ↔ _
  rw [decide_eq_true_eq, List.mem_map]
  exact ⟨fun z => ⟨i, z, rfl⟩, fun ⟨j, hj, e⟩ => by
    have : j = i := by omega
    exact this ▸ hj⟩
def spFillB (K : PySem.W.Frag) : Sp := fun vs H Q _ => ∃ (v l : V) (h t s : Int) (ds : List Int) (L : List Nat), vs = [v, l, .int s] ∧ SeaA K H v h t ds ∧ LotA K H l L ∧ ds.length ≤ 24 ∧ Lot ds.length L ∧
  ∀ (H' : Hp) (p : Addr), Same H H' → H p = none → H' p = some (.tup (ni (fillL h t ds L s))) → Q (.ref p) H'
def spEmptB (K : PySem.W.Frag) : Sp := fun vs H Q _ => ∃ (v l : V) (h t s : Int) (ds : List Int) (L : List Nat), vs = [v, l, .int s] ∧ SeaA K H v h t ds ∧ LotA K H l L ∧ ds.length ≤ 24 ∧ Lot ds.length L ∧
  ∀ (H' : Hp) (p : Addr), Same H H' → H p = none → H' p = some (.tup (ni (emptL h t ds L s))) → Q (.ref p) H'
theorem keys_few {c : Nat} {ks ns : List Int} {X : List Nat} (e : ns = X.map fun (i : Nat) => (i : Int)) (lt : ∀ i ∈ X, i < c) (nd : ks.Nodup) (m : ∀ k, k ∈ ks ↔ k ∈ ns) (hc : c ≤ 24) : ks.length ≤ 24 := by
  have := nodup_len nd (m := (List.range c).map fun (i : Nat) => (i : Int)) fun k hk => by
    obtain ⟨i, hi, e2⟩ := List.mem_map.mp (e ▸ (m k).mp hk)
    exact List.mem_map.mpr ⟨i, List.mem_range.mpr (lt i hi), e2⟩
  rw [List.length_map, List.length_range] at this
  omega
theorem small_keys {c : Nat} {ns : List Int} {X : List Nat} (e : ns = X.map fun (i : Nat) => (i : Int)) (lt : ∀ i ∈ X, i < c) (hc : c ≤ 24) : ∀ k : Int, decide (k ∈ ns) = true → 0 ≤ k ∧ k < 32 := fun k hk => by
  rw [decide_eq_true_eq, e] at hk
  obtain ⟨i, hi, rfl⟩ := List.mem_map.mp hk
  have := lt i hi
  omega
theorem gs_mem {m : Int} {ds : List Int} {i : Nat} (hi : i < ds.length) : i ∈ gs m ds ds.length ↔ ds.getD i 0 ≤ m := by
  unfold gs
  rw [List.mem_filter, List.mem_range, decide_eq_true_eq]
  exact ⟨fun z => z.2, fun z => ⟨hi, z⟩⟩
theorem gs_lt {m : Int} {ds : List Int} : ∀ i ∈ gs m ds ds.length, i < ds.length := fun i hi => by
  unfold gs at hi
  exact List.mem_range.mp (List.mem_filter.mp hi).1
theorem in_map {X : List Nat} {i : Nat} : ((i : Int) ∈ X.map fun (j : Nat) => (j : Int)) ↔ i ∈ X := by
  rw [List.mem_map]
  exact ⟨fun ⟨j, hj, e⟩ => by
    have : j = i := by omega
    exact this ▸ hj, fun z => ⟨i, z, rfl⟩⟩
abbrev s_filled : Stmt := topS 30
theorem sc_filled : FnScope (["sea", "standing", "step"] : List Str) (["sea", "standing", "step"] : List Str) (defScope s_filled) := ⟨rfl, rfl, rfl, by decide +kernel, rfl, by decide +kernel, by decide +kernel⟩
theorem b_filled (kV doc pm : Value) (an : Option Addr) (cdv ct : Value) (us : List Value) (hl : us.length = (["sea", "standing", "step"] : List Str).length) : bindArgs (PySem.W.fnOf "filled" "filled" (defArgs s_filled) (defBody s_filled) (defScope s_filled) .none kV doc pm an cdv ct) ⟨us, []⟩ = pure ((["sea", "standing", "step"] : List Str).zip us) :=
  match us, hl with | [_, _, _], _ => rfl
abbrev s_emptied : Stmt := topS 31
theorem sc_emptied : FnScope (["sea", "standing", "step"] : List Str) (["sea", "standing", "step"] : List Str) (defScope s_emptied) := ⟨rfl, rfl, rfl, by decide +kernel, rfl, by decide +kernel, by decide +kernel⟩
theorem b_emptied (kV doc pm : Value) (an : Option Addr) (cdv ct : Value) (us : List Value) (hl : us.length = (["sea", "standing", "step"] : List Str).length) : bindArgs (PySem.W.fnOf "emptied" "emptied" (defArgs s_emptied) (defBody s_emptied) (defScope s_emptied) .none kV doc pm an cdv ct) ⟨us, []⟩ = pure ((["sea", "standing", "step"] : List Str).zip us) :=
  match us, hl with | [_, _, _], _ => rfl
section
variable {P : Program} {w : World} {K : PySem.W.Frag} {mg : Str → Option Value} {base : Heap}
theorem ok_filled_s {k : Nat} (D : Df K mg "filled" s_filled) (T : Bt mg) (O_goers_at : Ok P w K mg base k "goers_at" s_goers_at ["sea", "step"] (spGoers K)) : Ok P w K mg base (k + 1) "filled" s_filled ["sea", "standing", "step"] (spFillB K) := by
  refine D.ok sc_filled b_filled (fun vs H Q E h => ?_) (fun f cdv A outer s H vs Q E hr h => ?_)
  · obtain ⟨v, l, h, t, s, ds, L, rfl, _⟩ := h
    rfl
  · obtain ⟨v, l, h, t, st, ds, L, rfl, hv, ⟨pl, rfl, hl⟩, d24, hL, q⟩ := h
    refine ⟨_, (pss_one (ps_ret (pe_callTy call_tuple_of (by rfl) T.tuple_ (by decide +kernel) (pa_cons (pe_callB (cr_sortedSetw w rfl) (by rfl) T.sorted_ (by decide +kernel) (pa_cons (pe_op (op_orS w rfl) (pe_callTy (cr_setAw w rfl) (by rfl) T.set_ (by decide +kernel) (pa_cons (pv 1) pa_nil)) (pe_callTy (cr_setAw w rfl) (by rfl) T.set_ (by decide +kernel) (pa_cons (pe_fn O_goers_at (hr.mono (by omega)) (pa_cons (pv 0) (pa_cons (pv 2) pa_nil))) pa_nil))) pa_nil)) pa_nil)))), ?_⟩
    refine ⟨_, rfl, pl, L.map fun (i : Nat) => (i : Int), rfl, by rw [← ni_ints]; exact hl, by rw [List.length_map]; have := hL.len; omega, fun a ks na nd kk => ?_⟩
    have s1 : Same H (upd H a (SetO w a (fun j => decide (j ∈ L.map fun (i : Nat) => (i : Int))) ks.length)) := same_new na
    have e1 : upd H a (SetO w a (fun j => decide (j ∈ L.map fun (i : Nat) => (i : Int))) ks.length) a = some (SetO w a (fun j => decide (j ∈ L.map fun (i : Nat) => (i : Int))) ks.length) := upd_same
    generalize upd H a (SetO w a (fun j => decide (j ∈ L.map fun (i : Nat) => (i : Int))) ks.length) = H1 at s1 e1
    refine ⟨_, rfl, _, rfl, v, h, t, st, ds, rfl, hv.same s1, by omega, fun H2 g s2 ng hg => ?_⟩
    refine ⟨g, (gs (mk h t ds.length st) ds ds.length).map fun (i : Nat) => (i : Int), rfl, SqA.l hg, by rw [List.length_map]; have := gs_len (m := mk h t ds.length st) (ds := ds) (n := ds.length); omega, fun a2 ks2 na2 nd2 kk2 => ?_⟩
    have e2 := s2 _ _ e1
    have ne : a ≠ a2 := ne_of_none e2 na2
    refine ⟨a, a2, _, _, _, _, rfl, rfl, ne, by rw [upd_ne ne]; exact e2, upd_same, keys_few rfl hL.lt nd kk d24, keys_few rfl gs_lt nd2 kk2 d24, small_keys rfl hL.lt d24, small_keys rfl gs_lt d24, fun p n np ln => ?_⟩
    have s3 := (s1.trans s2).trans (same_new (o := SetO w a2 (fun j => decide (j ∈ (gs (mk h t ds.length st) ds ds.length).map fun (i : Nat) => (i : Int))) ks2.length) na2)
    refine ⟨p, _, n, rfl, upd_same, by omega, fun ns3 p3 up3 m3 l3 np3 => ?_⟩
    have e3 : ns3 = (fillL h t ds L st).map fun (i : Nat) => (i : Int) := rise_lot up3 (fun z hz => ?_) (fun i hi => ?_)
    · subst e3
      refine ⟨p3, _, rfl, .inl ⟨SqL.of upd_same, fun r nr => ?_⟩⟩
      refine q _ r (s3.trans ((same_new np).trans ((same_new np3).trans (same_new nr)))) ?_ ?_
      · exact (s3.trans ((same_new np).trans (same_new np3))).free nr
      · rw [upd_same, ni_ints]
    · have z1 := (m3 z).mp hz
      rw [Bool.or_eq_true] at z1
      rcases z1 with y | y
      · obtain ⟨i, hi, rfl⟩ := List.mem_map.mp (of_decide_eq_true y)
        have := hL.lt i hi
        omega
      · obtain ⟨i, hi, rfl⟩ := List.mem_map.mp (of_decide_eq_true y)
        have := gs_lt i hi
        omega
    · rw [m3, Bool.or_eq_true, decide_eq_true_eq, decide_eq_true_eq, in_map, in_map, gs_mem hi]
      show _ ↔ (mem L i || goB h t ds st i) = true
      unfold mem goB
      rw [Bool.or_eq_true, decide_eq_true_eq, decide_eq_true_eq]
theorem ok_emptied_s {k : Nat} (D : Df K mg "emptied" s_emptied) (T : Bt mg) (O_goers_at : Ok P w K mg base k "goers_at" s_goers_at ["sea", "step"] (spGoers K)) : Ok P w K mg base (k + 1) "emptied" s_emptied ["sea", "standing", "step"] (spEmptB K) := by
  refine D.ok sc_emptied b_emptied (fun vs H Q E h => ?_) (fun f cdv A outer s H vs Q E hr h => ?_)
  · obtain ⟨v, l, h, t, s, ds, L, rfl, _⟩ := h
    rfl
  · obtain ⟨v, l, h, t, st, ds, L, rfl, hv, ⟨pl, rfl, hl⟩, d24, hL, q⟩ := h
    refine ⟨_, (pss_one (ps_ret (pe_callTy call_tuple_of (by rfl) T.tuple_ (by decide +kernel) (pa_cons (pe_callB (cr_sortedSetw w rfl) (by rfl) T.sorted_ (by decide +kernel) (pa_cons (pe_op (op_subS w rfl) (pe_callTy (cr_setAw w rfl) (by rfl) T.set_ (by decide +kernel) (pa_cons (pv 1) pa_nil)) (pe_callTy (cr_setAw w rfl) (by rfl) T.set_ (by decide +kernel) (pa_cons (pe_fn O_goers_at (hr.mono (by omega)) (pa_cons (pv 0) (pa_cons (pv 2) pa_nil))) pa_nil))) pa_nil)) pa_nil)))), ?_⟩
    refine ⟨_, rfl, pl, L.map fun (i : Nat) => (i : Int), rfl, by rw [← ni_ints]; exact hl, by rw [List.length_map]; have := hL.len; omega, fun a ks na nd kk => ?_⟩
    have s1 : Same H (upd H a (SetO w a (fun j => decide (j ∈ L.map fun (i : Nat) => (i : Int))) ks.length)) := same_new na
    have e1 : upd H a (SetO w a (fun j => decide (j ∈ L.map fun (i : Nat) => (i : Int))) ks.length) a = some (SetO w a (fun j => decide (j ∈ L.map fun (i : Nat) => (i : Int))) ks.length) := upd_same
    generalize upd H a (SetO w a (fun j => decide (j ∈ L.map fun (i : Nat) => (i : Int))) ks.length) = H1 at s1 e1
    refine ⟨_, rfl, _, rfl, v, h, t, st, ds, rfl, hv.same s1, by omega, fun H2 g s2 ng hg => ?_⟩
    refine ⟨g, (gs (mk h t ds.length st) ds ds.length).map fun (i : Nat) => (i : Int), rfl, SqA.l hg, by rw [List.length_map]; have := gs_len (m := mk h t ds.length st) (ds := ds) (n := ds.length); omega, fun a2 ks2 na2 nd2 kk2 => ?_⟩
    have e2 := s2 _ _ e1
    have ne : a ≠ a2 := ne_of_none e2 na2
    refine ⟨a, a2, _, _, _, _, rfl, rfl, ne, by rw [upd_ne ne]; exact e2, upd_same, keys_few rfl hL.lt nd kk d24, keys_few rfl gs_lt nd2 kk2 d24, small_keys rfl hL.lt d24, small_keys rfl gs_lt d24, fun p n np ln => ?_⟩
    have s3 := (s1.trans s2).trans (same_new (o := SetO w a2 (fun j => decide (j ∈ (gs (mk h t ds.length st) ds ds.length).map fun (i : Nat) => (i : Int))) ks2.length) na2)
    refine ⟨p, _, n, rfl, upd_same, by omega, fun ns3 p3 up3 m3 l3 np3 => ?_⟩
    have e3 : ns3 = (emptL h t ds L st).map fun (i : Nat) => (i : Int) := rise_lot up3 (fun z hz => ?_) (fun i hi => ?_)
    · subst e3
      refine ⟨p3, _, rfl, .inl ⟨SqL.of upd_same, fun r nr => ?_⟩⟩
      refine q _ r (s3.trans ((same_new np).trans ((same_new np3).trans (same_new nr)))) ?_ ?_
      · exact (s3.trans ((same_new np).trans (same_new np3))).free nr
      · rw [upd_same, ni_ints]
    · have z1 := (m3 z).mp hz
      rw [Bool.and_eq_true] at z1
      obtain ⟨i, hi, rfl⟩ := List.mem_map.mp (of_decide_eq_true z1.1)
      have := hL.lt i hi
      omega
    · rw [m3, Bool.and_eq_true, Bool.not_eq_true', decide_eq_true_eq, decide_eq_false_iff_not, in_map, in_map, gs_mem hi]
      show _ ↔ (mem L i && !goB h t ds st i) = true
      unfold mem goB
      rw [Bool.and_eq_true, Bool.not_eq_true', decide_eq_true_eq, decide_eq_false_iff_not]
end
end Sh

namespace Sh
open PySem PySem.Spec PyProof.Rows L2
def spUnder (K : PySem.W.Frag) : Sp := fun vs H Q _ => ∃ (v l : V) (pf : Addr) (h t s : Int) (ds : List Int) (L F : List Nat), vs = [v, l, .int s, .ref pf] ∧ SeaA K H v h t ds ∧ LotA K H l L ∧ ds.length ≤ 24 ∧ Lot ds.length L ∧ SqT K H pf (ni F) ∧
  ∀ H' : Hp, Same H H' → Q (.bl (underB h t ds s F L)) H'
def spAbove (K : PySem.W.Frag) : Sp := fun vs H Q _ => ∃ (v l : V) (pf : Addr) (h t s : Int) (ds : List Int) (L F : List Nat), vs = [v, l, .int s, .ref pf] ∧ SeaA K H v h t ds ∧ LotA K H l L ∧ ds.length ≤ 24 ∧ Lot ds.length L ∧ SqT K H pf (ni F) ∧
  ∀ H' : Hp, Same H H' → Q (.bl (aboveB h t ds s F L)) H'
abbrev s_lies_under : Stmt := topS 32
theorem sc_lies_under : FnScope (["sea", "standing", "step", "full"] : List Str) (["sea", "standing", "step", "full"] : List Str) (defScope s_lies_under) := ⟨rfl, rfl, rfl, by decide +kernel, rfl, by decide +kernel, by decide +kernel⟩
theorem b_lies_under (kV doc pm : Value) (an : Option Addr) (cdv ct : Value) (us : List Value) (hl : us.length = (["sea", "standing", "step", "full"] : List Str).length) : bindArgs (PySem.W.fnOf "lies_under" "lies_under" (defArgs s_lies_under) (defBody s_lies_under) (defScope s_lies_under) .none kV doc pm an cdv ct) ⟨us, []⟩ = pure ((["sea", "standing", "step", "full"] : List Str).zip us) :=
  match us, hl with | [_, _, _, _], _ => rfl
abbrev s_lies_above : Stmt := topS 33
theorem sc_lies_above : FnScope (["sea", "standing", "step", "left"] : List Str) (["sea", "standing", "step", "left"] : List Str) (defScope s_lies_above) := ⟨rfl, rfl, rfl, by decide +kernel, rfl, by decide +kernel, by decide +kernel⟩
theorem b_lies_above (kV doc pm : Value) (an : Option Addr) (cdv ct : Value) (us : List Value) (hl : us.length = (["sea", "standing", "step", "left"] : List Str).length) : bindArgs (PySem.W.fnOf "lies_above" "lies_above" (defArgs s_lies_above) (defBody s_lies_above) (defScope s_lies_above) .none kV doc pm an cdv ct) ⟨us, []⟩ = pure ((["sea", "standing", "step", "left"] : List Str).zip us) :=
  match us, hl with | [_, _, _, _], _ => rfl
section
variable {P : Program} {w : World} {K : PySem.W.Frag} {mg : Str → Option Value} {base : Heap}
theorem ok_under {k : Nat} (D : Df K mg "lies_under" s_lies_under) (T : Bt mg) (O_filled : Ok P w K mg base k "filled" s_filled ["sea", "standing", "step"] (spFillB K)) : Ok P w K mg base (k + 1) "lies_under" s_lies_under ["sea", "standing", "step", "full"] (spUnder K) := by
  refine D.ok sc_lies_under b_lies_under (fun vs H Q E h => ?_) (fun f cdv A outer s H vs Q E hr h => ?_)
  · obtain ⟨v, l, pf, h, t, s, ds, L, F, rfl, _⟩ := h
    rfl
  · obtain ⟨v, l, pf, h, t, st, ds, L, F, rfl, hv, ⟨pl, rfl, hl⟩, d24, hL, hf, q⟩ := h
    refine ⟨_, (pss_one (ps_ret (pe_and (pe_cmpR op_le (pe_callB call_len_seq (by rfl) T.len_ PySem.boot_len (pa_cons (pv 1) pa_nil)) (pv 2) (nomark _)) (pe_one (pe_cmpR (op_eqD hr.units) (pe_fn O_filled (hr.mono (by omega)) (pa_cons (pv 0) (pa_cons (pv 1) (pa_cons (pv 2) pa_nil)))) (pv 3) (nomark _)))))), ?_⟩
    refine ⟨_, rfl, pl, _, rfl, hl, _, rfl, _, st, rfl, rfl, _, rfl, ?_⟩
    rw [ni_len]
    unfold underB at q
    cases c : decide ((L.length : Int) ≤ st) with
    | false =>
      rw [c] at q
      exact q H (Same.refl _)
    | true =>
      rw [c] at q
      refine ⟨_, rfl, _, rfl, _, rfl, v, .ref pl, h, t, st, ds, L, rfl, hv, ⟨pl, rfl, hl⟩, d24, hL, fun H1 p s1 np hp => ?_⟩
      refine ⟨_, rfl, _, _, dp_niT (SqT.of hp), dp_niT (Same.tup s1 hf), shaped_tup _, shaped_tup _, ?_⟩
      rw [eqv_niT]
      exact q H1 s1
theorem ok_above {k : Nat} (D : Df K mg "lies_above" s_lies_above) (T : Bt mg) (O_emptied : Ok P w K mg base k "emptied" s_emptied ["sea", "standing", "step"] (spEmptB K)) : Ok P w K mg base (k + 1) "lies_above" s_lies_above ["sea", "standing", "step", "left"] (spAbove K) := by
  refine D.ok sc_lies_above b_lies_above (fun vs H Q E h => ?_) (fun f cdv A outer s H vs Q E hr h => ?_)
  · obtain ⟨v, l, pf, h, t, s, ds, L, F, rfl, _⟩ := h
    rfl
  · obtain ⟨v, l, pf, h, t, st, ds, L, F, rfl, hv, ⟨pl, rfl, hl⟩, d24, hL, hf, q⟩ := h
    refine ⟨_, (pss_one (ps_ret (pe_and (pe_cmpR op_gt (pe_callB call_len_seq (by rfl) T.len_ PySem.boot_len (pa_cons (pv 1) pa_nil)) (pv 2) (nomark _)) (pe_one (pe_cmpR (op_eqD hr.units) (pe_fn O_emptied (hr.mono (by omega)) (pa_cons (pv 0) (pa_cons (pv 1) (pa_cons (pv 2) pa_nil)))) (pv 3) (nomark _)))))), ?_⟩
    refine ⟨_, rfl, pl, _, rfl, hl, _, rfl, _, st, rfl, rfl, _, rfl, ?_⟩
    rw [ni_len]
    unfold aboveB at q
    cases c : decide ((L.length : Int) > st) with
    | false =>
      rw [show decide (st < (L.length : Int)) = false from c] at q
      exact q H (Same.refl _)
    | true =>
      rw [show decide (st < (L.length : Int)) = true from c] at q
      refine ⟨_, rfl, _, rfl, _, rfl, v, .ref pl, h, t, st, ds, L, rfl, hv, ⟨pl, rfl, hl⟩, d24, hL, fun H1 p s1 np hp => ?_⟩
      refine ⟨_, rfl, _, _, dp_niT (SqT.of hp), dp_niT (Same.tup s1 hf), shaped_tup _, shaped_tup _, ?_⟩
      rw [eqv_niT]
      exact q H1 s1
end
end Sh

namespace Sh
open PySem PySem.Spec PyProof.Rows L2
/-! ### the program: kinds of things, of any data -/
def isNumD : PyData → Bool
  | .int i => decide (0 ≤ i)
  | _ => false
def isTupD (n : Nat) : PyData → Bool
  | .tuple ds => decide (ds.length = n)
  | _ => false
def spIsNum (K : PySem.W.Frag) : Sp := fun vs H Q _ => ∃ (v : V) (d : PyData), vs = [v] ∧ Dp K H v d ∧ Q (.bl (isNumD d)) H
def spIsTup (K : PySem.W.Frag) : Sp := fun vs H Q _ => ∃ (v : V) (d : PyData) (n : Nat), vs = [v, .int (n : Int)] ∧ Dp K H v d ∧ Q (.bl (isTupD n d)) H
theorem dec_int (a b : Nat) : decide (V.int (a : Int) = V.int (b : Int)) = decide (a = b) := by
  by_cases z : a = b
  · rw [z, decide_eq_true rfl, decide_eq_true rfl]
  · rw [decide_eq_false z, decide_eq_false fun e => z (by have := V.int.inj e; omega)]
abbrev s_is_number : Stmt := topS 1
theorem sc_is_number : FnScope (["thing"] : List Str) (["thing"] : List Str) (defScope s_is_number) := ⟨rfl, rfl, rfl, by decide +kernel, rfl, by decide +kernel, by decide +kernel⟩
theorem b_is_number (kV doc pm : Value) (an : Option Addr) (cdv ct : Value) (us : List Value) (hl : us.length = (["thing"] : List Str).length) : bindArgs (PySem.W.fnOf "is_number" "is_number" (defArgs s_is_number) (defBody s_is_number) (defScope s_is_number) .none kV doc pm an cdv ct) ⟨us, []⟩ = pure ((["thing"] : List Str).zip us) :=
  match us, hl with | [_], _ => rfl
abbrev s_is_tuple_of : Stmt := topS 2
theorem sc_is_tuple_of : FnScope (["thing", "many"] : List Str) (["thing", "many"] : List Str) (defScope s_is_tuple_of) := ⟨rfl, rfl, rfl, by decide +kernel, rfl, by decide +kernel, by decide +kernel⟩
theorem b_is_tuple_of (kV doc pm : Value) (an : Option Addr) (cdv ct : Value) (us : List Value) (hl : us.length = (["thing", "many"] : List Str).length) : bindArgs (PySem.W.fnOf "is_tuple_of" "is_tuple_of" (defArgs s_is_tuple_of) (defBody s_is_tuple_of) (defScope s_is_tuple_of) .none kV doc pm an cdv ct) ⟨us, []⟩ = pure ((["thing", "many"] : List Str).zip us) :=
  match us, hl with | [_, _], _ => rfl
section
variable {P : Program} {w : World} {K : PySem.W.Frag} {mg : Str → Option Value} {base : Heap}
theorem ok_is_number {k : Nat} (D : Df K mg "is_number" s_is_number) (T : Bt mg) : Ok P w K mg base (k + 1) "is_number" s_is_number ["thing"] (spIsNum K) := by
  refine D.ok sc_is_number b_is_number (fun vs H Q E h => ?_) (fun f cdv A outer s H vs Q E hr h => ?_)
  · obtain ⟨v, d, rfl, _⟩ := h
    rfl
  · obtain ⟨v, d, rfl, hv, q⟩ := h
    refine ⟨_, (pss_one (ps_ret (pe_and (pe_callB call_isi (by rfl) T.isinstance_ (by decide +kernel) (pa_cons (pv 0) (pa_cons (pe_bltn (v := .ty "int") (by rfl) T.int_ (by decide +kernel) rfl) pa_nil))) (pe_and (pe_not (pe_callB call_isi (by rfl) T.isinstance_ (by decide +kernel) (pa_cons (pv 0) (pa_cons (pe_bltn (v := .ty "bool") (by rfl) T.bool_ (by decide +kernel) rfl) pa_nil)))) (pe_one (pe_cmpR op_ge (pv 0) pe_int (nomark _))))))), ?_⟩
    have ht := ty_of hv
    cases hv with
    | non => exact ⟨_, rfl, _, .ty "int", .type "NoneType", .type "int", false, rfl, .ty _, ht, kit_ty (by decide +kernel), _, rfl, q⟩
    | bl b =>
      refine ⟨_, rfl, _, .ty "int", .type "bool", .type "int", true, rfl, .ty _, ht, kit_ty (by decide +kernel), _, rfl, ?_⟩
      refine ⟨_, rfl, _, .ty "bool", .type "bool", .type "bool", true, rfl, .ty _, ht, kit_ty (by decide +kernel), _, rfl, _, rfl, ?_⟩
      exact q
    | int i =>
      refine ⟨_, rfl, _, .ty "int", .type "int", .type "int", true, rfl, .ty _, ht, kit_ty (by decide +kernel), _, rfl, ?_⟩
      refine ⟨_, rfl, _, .ty "bool", .type "int", .type "bool", false, rfl, .ty _, ht, kit_ty (by decide +kernel), _, rfl, _, rfl, ?_⟩
      exact ⟨_, rfl, i, 0, rfl, rfl, q⟩
    | str x => exact ⟨_, rfl, _, .ty "int", .type "str", .type "int", false, rfl, .ty _, ht, kit_ty (by decide +kernel), _, rfl, q⟩
    | lst h a => exact ⟨_, rfl, _, .ty "int", .type "list", .type "int", false, rfl, .ty _, ht, kit_ty (by decide +kernel), _, rfl, q⟩
    | tup h a => exact ⟨_, rfl, _, .ty "int", .type "tuple", .type "int", false, rfl, .ty _, ht, kit_ty (by decide +kernel), _, rfl, q⟩
theorem ok_is_tuple {k : Nat} (D : Df K mg "is_tuple_of" s_is_tuple_of) (T : Bt mg) : Ok P w K mg base (k + 1) "is_tuple_of" s_is_tuple_of ["thing", "many"] (spIsTup K) := by
  refine D.ok sc_is_tuple_of b_is_tuple_of (fun vs H Q E h => ?_) (fun f cdv A outer s H vs Q E hr h => ?_)
  · obtain ⟨v, d, n, rfl, _⟩ := h
    rfl
  · obtain ⟨v, d, n, rfl, hv, q⟩ := h
    refine ⟨_, (pss_one (ps_ret (pe_and (pe_callB call_isi (by rfl) T.isinstance_ (by decide +kernel) (pa_cons (pv 0) (pa_cons (pe_bltn (v := .ty "tuple") (by rfl) T.tuple_ (by decide +kernel) rfl) pa_nil))) (pe_one (pe_cmpR op_eq (pe_callB call_len_seq (by rfl) T.len_ PySem.boot_len (pa_cons (pv 0) pa_nil)) (pv 1) (nomark _)))))), ?_⟩
    have ht := ty_of hv
    cases hv with
    | non => exact ⟨_, rfl, _, .ty "tuple", .type "NoneType", .type "tuple", false, rfl, .ty _, ht, kit_ty (by decide +kernel), _, rfl, q⟩
    | bl b => exact ⟨_, rfl, _, .ty "tuple", .type "bool", .type "tuple", false, rfl, .ty _, ht, kit_ty (by decide +kernel), _, rfl, q⟩
    | int i => exact ⟨_, rfl, _, .ty "tuple", .type "int", .type "tuple", false, rfl, .ty _, ht, kit_ty (by decide +kernel), _, rfl, q⟩
    | str x => exact ⟨_, rfl, _, .ty "tuple", .type "str", .type "tuple", false, rfl, .ty _, ht, kit_ty (by decide +kernel), _, rfl, q⟩
    | lst h a => exact ⟨_, rfl, _, .ty "tuple", .type "list", .type "tuple", false, rfl, .ty _, ht, kit_ty (by decide +kernel), _, rfl, q⟩
    | tup h a =>
      refine ⟨_, rfl, _, .ty "tuple", .type "tuple", .type "tuple", true, rfl, .ty _, ht, kit_ty (by decide +kernel), _, rfl, ?_⟩
      refine ⟨_, rfl, _, _, rfl, .inr h, _, rfl, rfl, ?_⟩
      have l := DpAll.len a
      rw [dec_int, l]
      exact q
end
end Sh

namespace Sh
open PySem PySem.Spec PyProof.Rows L2
/-! ### rising numbers, seas, places, standings: of any data -/
def risesAt (ns : List Int) (i : Nat) : Bool := decide (ns.getD i 0 < ns.getD (i + 1) 0)
theorem getD_ix {ns : List Int} {i : Nat} (h : i < ns.length) : ns.getD i 0 = ns[i] := by
  rw [List.getD_eq_getElem?_getD, List.getElem?_eq_getElem h]
  rfl
theorem rises_lt {ns : List Int} {i : Nat} (h : i + 1 < ns.length) : risesAt ns i = decide (ns[i] < ns[i + 1]) := by
  unfold risesAt
  rw [getD_ix h, getD_ix (Nat.lt_of_succ_lt h)]
theorem rises_step : ∀ (ns : List Int), (∀ i, i + 1 < ns.length → risesAt ns i = true) ↔ ns.Pairwise (· < ·)
  | [] => ⟨fun _ => List.Pairwise.nil, fun _ i hi => absurd hi (Nat.not_lt_zero _)⟩
  | [a] => ⟨fun _ => List.pairwise_singleton _ _, fun _ i hi => by simp at hi⟩
  | a :: b :: ns => by
    have ih := rises_step (b :: ns)
    constructor
    · intro h
      have h2 : (b :: ns).Pairwise (· < ·) := ih.mp fun i hi => h (i + 1) (by simpa using hi)
      refine List.pairwise_cons.mpr ⟨fun x hx => ?_, h2⟩
      have ab : a < b := of_decide_eq_true (h 0 (by simp))
      rcases List.mem_cons.mp hx with z | z
      · rw [z]; exact ab
      · exact Int.lt_trans ab ((List.pairwise_cons.mp h2).1 x z)
    · intro h i hi
      obtain ⟨h1, h2⟩ := List.pairwise_cons.mp h
      cases i with
      | zero => exact decide_eq_true (h1 b List.mem_cons_self)
      | succ i => exact ih.mpr h2 i (by simpa using hi)
def risingB (ns : List Int) : Bool := decide (ns.Pairwise (· < ·))
theorem rises_all {ns : List Int} : ((List.range (ns.length - 1)).map (risesAt ns)).all id = risingB ns := by
  unfold risingB
  rw [Bool.eq_iff_iff, List.all_eq_true, decide_eq_true_eq, ← rises_step]
  constructor
  · intro h i hi
    exact h _ (List.mem_map.mpr ⟨i, List.mem_range.mpr (by omega), rfl⟩)
  · intro h x hx
    obtain ⟨i, hi, rfl⟩ := List.mem_map.mp hx
    exact h i (by have := List.mem_range.mp hi; omega)
theorem cut_one (ns : List Int) : cutV (ns.map V.int) (some 1) none = (ns.drop 1).map V.int := by
  unfold cutV
  rw [HT.sIx_none, show (1 : Int) = ((1 : Nat) : Int) from rfl, HT.sIx_nat, List.length_map]
  by_cases c : 1 ≤ ns.length
  · rw [Nat.min_eq_left c, List.map_drop, List.take_of_length_le]
    rw [List.length_drop, List.length_map]
    exact Nat.le_refl _
  · have e : ns = [] := List.length_eq_zero_iff.mp (by omega)
    subst e
    rfl
def spRising (K : PySem.W.Frag) : Sp := fun vs H Q _ => ∃ (p : Addr) (ns : List Int), vs = [.ref p] ∧ SqA K H p (ns.map V.int) ∧ ns.length ≤ 100000 ∧ ∀ H' : Hp, Same H H' → Q (.bl (risingB ns)) H'
abbrev s_are_rising : Stmt := topS 3
theorem sc_are_rising : FnScope (["numbers", "low", "high"] : List Str) (["numbers"] : List Str) (defScope s_are_rising) := ⟨rfl, rfl, rfl, by decide +kernel, rfl, by decide +kernel, by decide +kernel⟩
theorem b_are_rising (kV doc pm : Value) (an : Option Addr) (cdv ct : Value) (us : List Value) (hl : us.length = (["numbers"] : List Str).length) : bindArgs (PySem.W.fnOf "are_rising" "are_rising" (defArgs s_are_rising) (defBody s_are_rising) (defScope s_are_rising) .none kV doc pm an cdv ct) ⟨us, []⟩ = pure ((["numbers"] : List Str).zip us) :=
  match us, hl with | [_], _ => rfl
section
variable {P : Program} {w : World} {K : PySem.W.Frag} {mg : Str → Option Value} {base : Heap}
set_option maxHeartbeats 4000000 in
theorem ok_rising {k : Nat} (D : Df K mg "are_rising" s_are_rising) (T : Bt mg) : Ok P w K mg base (k + 1) "are_rising" s_are_rising ["numbers"] (spRising K) := by
  refine D.ok sc_are_rising b_are_rising (fun vs H Q E h => ?_) (fun f cdv A outer s H vs Q E hr h => ?_)
  · obtain ⟨p, ns, rfl, _⟩ := h
    rfl
  · obtain ⟨p, ns, rfl, hp, l0, q⟩ := h
    refine ⟨_, (pss_one (ps_ret (pe_callB (cr_all rfl) (by rfl) T.all_ (by decide +kernel) (pa_cons (pe_lc (own := [("low", 1), ("high", 2)]) (g := (gSeq K 2 (gCons (gName 1) (gCons (gName 2) gNil)))) (tt := tYes) (by rfl) sc_are_rising.nd (RZ.pi_zipA (by rfl) T.zip_ (pa_cons (pv 0) (pa_cons (pe_slice (SlR.or sl_list sl_tupA) (pv 0) (po_some pe_int) po_none) pa_nil))) (blkOk_by (own := [("low", 1), ("high", 2)]) (N := (["numbers", "low", "high"] : List Str)) (sc := defScope s_are_rising) (by decide +kernel)) (fun _ _ _ _ _ => (pg_seq rfl (pgs_cons (pg_name (i := 1) sc_are_rising.nd rfl (.inl rfl)) (pgs_cons (pg_name (i := 2) sc_are_rising.nd rfl (.inl rfl)) pgs_nil)))) (fun _ _ _ _ _ => pts_nil) (fun _ _ _ _ _ => (pe_cmpR op_lt (pv 1) (pv 2) (nomark _)))) pa_nil)))), ?_⟩
    rcases hp with hp | hp
    · refine ⟨_, rfl, _, rfl, 1, rfl, .inl ⟨p, _, rfl, hp, fun b nb => ?_⟩⟩
      rw [cut_one]
      have s1 : Same H (upd H b (.lst ((ns.drop 1).map V.int))) := same_new nb
      have e1 : upd H b (.lst ((ns.drop 1).map V.int)) b = some (.lst ((ns.drop 1).map V.int)) := upd_same
      generalize upd H b (.lst ((ns.drop 1).map V.int)) = H1 at s1 e1
      replace hp := s1.seq hp
      refine ⟨p, b, _, _, rfl, .inl ⟨hp, SqL.of e1, fun C nC => ?_⟩⟩
      refine lc_it (walk_zip (n := ns.length - 1) (by rw [List.length_map, List.length_map, List.length_drop]; omega)) (fun i H' => Same H1 H' ∧ H' C = some (.lst (((List.range i).map (risesAt ns)).map V.bl))) ⟨same_new nC, upd_same⟩ (fun i H' _ p => ⟨p.1.seq hp, SqL.of (p.1 _ _ e1)⟩) ?_ ?_
      · rintro i z H2 H3 hi ⟨sm, hC⟩ ⟨t, u, v, rfl, nt, rfl, gu, gv⟩
        obtain ⟨a1, rfl⟩ : ∃ a1, u = .int ns[i] := ⟨0, by
          have g3 : (ns.map V.int)[i]? = some (.int ns[i]) := by rw [List.getElem?_map, List.getElem?_eq_getElem (by omega)]; rfl
          exact Option.some.inj (gu.symm.trans g3)⟩
        obtain ⟨a2, rfl⟩ : ∃ a2, v = .int ns[i + 1] := ⟨0, by
          have g3 : ((ns.drop 1).map V.int)[i]? = some (.int ns[i + 1]) := by
            rw [List.getElem?_map, List.getElem?_drop, Nat.add_comm 1 i, List.getElem?_eq_getElem (by omega)]
            rfl
          exact Option.some.inj (gv.symm.trans g3)⟩
        have sm2 : Same H1 (upd H2 t (.tup [.int ns[i], .int ns[i + 1]])) := sm.trans (same_new nt)
        have hC2 : upd H2 t (.tup [.int ns[i], .int ns[i + 1]]) C = _ := same_new nt _ _ hC
        refine ⟨t, _, rfl, SqA.t upd_same, rfl, _, _, rfl, _, _, rfl, rfl, rfl, tyes (iteT ?_)⟩
        refine ⟨_, rfl, _, rfl, _, _, rfl, rfl, _, hC2, ?_, same_over sm2 nC, ?_⟩
        · rw [List.length_map, List.length_map, List.length_range]
          exact Nat.lt_of_lt_of_le (show i < 100000 by omega) (by decide)
        · rw [upd_same, List.range_succ, List.map_append, List.map_append]
          show _ = some (HO.lst (_ ++ [V.bl (risesAt ns i)]))
          rw [rises_lt (by omega)]
      · rintro H2 ⟨sm, hC⟩
        refine ⟨C, _, rfl, SqL.of hC, ?_⟩
        rw [rises_all]
        exact q _ (s1.trans sm)
    · refine ⟨_, rfl, _, rfl, 1, rfl, .inr ⟨p, _, rfl, hp, fun whole => ?_, fun _ b nb => ?_⟩⟩
      · have e : ns = [] := by
          have := whole.1
          rw [show (some (1 : Int)) = some ((1 : Nat) : Int) from rfl, HT.sIx_nat, List.length_map] at this
          exact List.length_eq_zero_iff.mp (by omega)
        subst e
        refine ⟨p, p, _, _, rfl, .inr ⟨hp, hp, fun C nC => ?_⟩⟩
        refine lc_it (walk_zipT (n := 0) rfl) (fun i H' => Same H H' ∧ H' C = some (.lst [])) ⟨same_new nC, upd_same⟩ (fun i H' _ p => ⟨Same.tup p.1 hp, Same.tup p.1 hp⟩) ?_ ?_
        · intro i z H2 H3 hi
          exact absurd hi (Nat.not_lt_zero _)
        · rintro H2 ⟨sm, hC⟩
          refine ⟨C, [], rfl, SqL.of hC, ?_⟩
          exact q _ sm
      rw [cut_one]
      have s1 : Same H (upd H b (.tup ((ns.drop 1).map V.int))) := same_new nb
      have e1 : upd H b (.tup ((ns.drop 1).map V.int)) b = some (.tup ((ns.drop 1).map V.int)) := upd_same
      generalize upd H b (.tup ((ns.drop 1).map V.int)) = H1 at s1 e1
      replace hp := Same.tup s1 hp
      refine ⟨p, b, _, _, rfl, .inr ⟨hp, SqT.of e1, fun C nC => ?_⟩⟩
      refine lc_it (walk_zipT (n := ns.length - 1) (by rw [List.length_map, List.length_map, List.length_drop]; omega)) (fun i H' => Same H1 H' ∧ H' C = some (.lst (((List.range i).map (risesAt ns)).map V.bl))) ⟨same_new nC, upd_same⟩ (fun i H' _ p => ⟨Same.tup p.1 hp, SqT.of (p.1 _ _ e1)⟩) ?_ ?_
      · rintro i z H2 H3 hi ⟨sm, hC⟩ ⟨t, u, v, rfl, nt, rfl, gu, gv⟩
        obtain ⟨a1, rfl⟩ : ∃ a1, u = .int ns[i] := ⟨0, by
          have g3 : (ns.map V.int)[i]? = some (.int ns[i]) := by rw [List.getElem?_map, List.getElem?_eq_getElem (by omega)]; rfl
          exact Option.some.inj (gu.symm.trans g3)⟩
        obtain ⟨a2, rfl⟩ : ∃ a2, v = .int ns[i + 1] := ⟨0, by
          have g3 : ((ns.drop 1).map V.int)[i]? = some (.int ns[i + 1]) := by
            rw [List.getElem?_map, List.getElem?_drop, Nat.add_comm 1 i, List.getElem?_eq_getElem (by omega)]
            rfl
          exact Option.some.inj (gv.symm.trans g3)⟩
        have sm2 : Same H1 (upd H2 t (.tup [.int ns[i], .int ns[i + 1]])) := sm.trans (same_new nt)
        have hC2 : upd H2 t (.tup [.int ns[i], .int ns[i + 1]]) C = _ := same_new nt _ _ hC
        refine ⟨t, _, rfl, SqA.t upd_same, rfl, _, _, rfl, _, _, rfl, rfl, rfl, tyes (iteT ?_)⟩
        refine ⟨_, rfl, _, rfl, _, _, rfl, rfl, _, hC2, ?_, same_over sm2 nC, ?_⟩
        · rw [List.length_map, List.length_map, List.length_range]
          exact Nat.lt_of_lt_of_le (show i < 100000 by omega) (by decide)
        · rw [upd_same, List.range_succ, List.map_append, List.map_append]
          show _ = some (HO.lst (_ ++ [V.bl (risesAt ns i)]))
          rw [rises_lt (by omega)]
      · rintro H2 ⟨sm, hC⟩
        refine ⟨C, _, rfl, SqL.of hC, ?_⟩
        rw [rises_all]
        exact q _ (s1.trans sm)
end
end Sh

namespace Sh
open PySem PySem.Spec PyProof.Rows L2
/-! ### places, seas, standings: of any data -/
def isPlD (c : Nat) : PyData → Bool
  | .int i => decide (0 ≤ i) && decide (i < (c : Int))
  | _ => false
def isTuD : PyData → Bool
  | .tuple _ => true
  | _ => false
def drD : PyData → Bool
  | .tuple ds => decide (0 < ds.length) && ds.all isNumD
  | _ => false
def isSea3 : List PyData → Bool
  | [a, b, c] => isNumD a && (isNumD b && (isTuD c && drD c))
  | _ => false
def isSeaD : PyData → Bool
  | .tuple ds => isSea3 ds
  | _ => false
def intD : PyData → Int
  | .int i => i
  | _ => 0
def isStD (c : Nat) : PyData → Bool
  | .tuple ds => ds.all (isPlD c) && risingB (ds.map intD)
  | _ => false
theorem dp_num {K : PySem.W.Frag} {H : Hp} {v : V} {d : PyData} (h : Dp K H v d) (n : isNumD d = true) : ∃ i : Int, v = .int i ∧ d = .int i ∧ 0 ≤ i := by
  cases h with
  | int i => exact ⟨i, rfl, rfl, of_decide_eq_true n⟩
  | _ => cases n
theorem pl_num {c : Nat} {d : PyData} (n : isNumD d = false) : isPlD c d = false := by
  cases d with
  | int i =>
    show (decide (0 ≤ i) && _) = false
    rw [show decide (0 ≤ i) = false from n, Bool.false_and]
  | _ => rfl
theorem dps_ints {K : PySem.W.Frag} {H : Hp} {c : Nat} : ∀ {vs : List V} {ds : List PyData}, DpAll K H vs ds → ds.all (isPlD c) = true → vs = (ds.map intD).map V.int
  | _, _, .nil, _ => rfl
  | _, _, .cons x a, h => by
    rw [List.all_cons, Bool.and_eq_true] at h
    have ih := dps_ints a h.2
    cases x with
    | int i => rw [List.map_cons, List.map_cons, ← ih]; rfl
    | _ => cases h.1
theorem three_of {α : Type} {l : List α} (h : l.length = 3) : ∃ a b c, l = [a, b, c] := by
  match l, h with
  | [a, b, c], _ => exact ⟨a, b, c, rfl⟩
theorem sea_tup {d : PyData} (n : isTupD 3 d = false) : isSeaD d = false := by
  cases d with
  | tuple ds =>
    have h : ds.length ≠ 3 := of_decide_eq_false n
    show isSea3 ds = false
    match ds, h with
    | [], _ => rfl
    | [_], _ => rfl
    | [_, _], _ => rfl
    | [_, _, _], h => exact absurd rfl h
    | _ :: _ :: _ :: _ :: _, _ => rfl
  | _ => rfl
theorem dp_three {K : PySem.W.Frag} {H : Hp} {v : V} {d : PyData} (h : Dp K H v d) (n : isTupD 3 d = true) : ∃ (p : Addr) (x y z : V) (a b c : PyData), v = .ref p ∧ d = .tuple [a, b, c] ∧ SqT K H p [x, y, z] ∧ Dp K H x a ∧ Dp K H y b ∧ Dp K H z c := by
  cases h with
  | tup h all =>
    rename_i p xs ds
    have l : ds.length = 3 := of_decide_eq_true n
    obtain ⟨a, b, c, rfl⟩ := three_of l
    cases all with
    | cons x all =>
      cases all with
      | cons y all =>
        cases all with
        | cons z all =>
          cases all
          exact ⟨p, _, _, _, a, b, c, rfl, rfl, h, x, y, z⟩
  | non => cases n
  | bl b => cases n
  | int i => cases n
  | str x => cases n
  | lst h a => cases n
theorem dp_tup {K : PySem.W.Frag} {H : Hp} {v : V} {d : PyData} (h : Dp K H v d) (n : isTuD d = true) : ∃ (p : Addr) (xs : List V) (ds : List PyData), v = .ref p ∧ d = .tuple ds ∧ SqT K H p xs ∧ DpAll K H xs ds := by
  cases h with
  | tup h all => exact ⟨_, _, _, rfl, rfl, h, all⟩
  | _ => cases n
theorem kit_tup {d : PyData} : kitB (tyS d) "tuple" = some (isTuD d) := by
  cases d with
  | none => exact (by decide +kernel : kitB "NoneType" "tuple" = some false)
  | bool b => exact (by decide +kernel : kitB "bool" "tuple" = some false)
  | int i => exact (by decide +kernel : kitB "int" "tuple" = some false)
  | str s => exact (by decide +kernel : kitB "str" "tuple" = some false)
  | list xs => exact (by decide +kernel : kitB "list" "tuple" = some false)
  | tuple xs => exact (by decide +kernel : kitB "tuple" "tuple" = some true)
  | dict kvs => exact (by decide +kernel : kitB "dict" "tuple" = some false)
theorem sea_three (a b c : PyData) : isSeaD (.tuple [a, b, c]) = (isNumD a && (isNumD b && (isTuD c && drD c))) := rfl
def spIsPlace (K : PySem.W.Frag) : Sp := fun vs H Q _ => ∃ (v z : V) (h t : Int) (ds : List Int) (d : PyData), vs = [v, z] ∧ SeaA K H v h t ds ∧ Dp K H z d ∧ Q (.bl (isPlD ds.length d)) H
def spIsSea (K : PySem.W.Frag) : Sp := fun vs H Q _ => ∃ (n : Nat) (v : V) (d : PyData), vs = [v] ∧ Dp K H v d ∧ Lv n d ∧ ∀ H', Same H H' → Q (.bl (isSeaD d)) H'
def spIsStand (K : PySem.W.Frag) : Sp := fun vs H Q _ => ∃ (n : Nat) (v z : V) (h t : Int) (ds : List Int) (d : PyData), vs = [v, z] ∧ SeaA K H v h t ds ∧ Dp K H z d ∧ Lv n d ∧ ∀ H', Same H H' → Q (.bl (isStD ds.length d)) H'
abbrev s_is_place : Stmt := topS 27
theorem sc_is_place : FnScope (["sea", "thing"] : List Str) (["sea", "thing"] : List Str) (defScope s_is_place) := ⟨rfl, rfl, rfl, by decide +kernel, rfl, by decide +kernel, by decide +kernel⟩
theorem b_is_place (kV doc pm : Value) (an : Option Addr) (cdv ct : Value) (us : List Value) (hl : us.length = (["sea", "thing"] : List Str).length) : bindArgs (PySem.W.fnOf "is_place" "is_place" (defArgs s_is_place) (defBody s_is_place) (defScope s_is_place) .none kV doc pm an cdv ct) ⟨us, []⟩ = pure ((["sea", "thing"] : List Str).zip us) :=
  match us, hl with | [_, _], _ => rfl
abbrev s_is_standing : Stmt := topS 28
theorem sc_is_standing : FnScope (["sea", "thing", "ship"] : List Str) (["sea", "thing"] : List Str) (defScope s_is_standing) := ⟨rfl, rfl, rfl, by decide +kernel, rfl, by decide +kernel, by decide +kernel⟩
theorem b_is_standing (kV doc pm : Value) (an : Option Addr) (cdv ct : Value) (us : List Value) (hl : us.length = (["sea", "thing"] : List Str).length) : bindArgs (PySem.W.fnOf "is_standing" "is_standing" (defArgs s_is_standing) (defBody s_is_standing) (defScope s_is_standing) .none kV doc pm an cdv ct) ⟨us, []⟩ = pure ((["sea", "thing"] : List Str).zip us) :=
  match us, hl with | [_, _], _ => rfl
section
variable {P : Program} {w : World} {K : PySem.W.Frag} {mg : Str → Option Value} {base : Heap}
theorem ok_is_place {k : Nat} (D : Df K mg "is_place" s_is_place) (T : Bt mg) (O_is_number : Ok P w K mg base k "is_number" s_is_number ["thing"] (spIsNum K)) : Ok P w K mg base (k + 1) "is_place" s_is_place ["sea", "thing"] (spIsPlace K) := by
  refine D.ok sc_is_place b_is_place (fun vs H Q E h => ?_) (fun f cdv A outer s H vs Q E hr h => ?_)
  · obtain ⟨v, z, h, t, ds, d, rfl, _⟩ := h
    rfl
  · obtain ⟨v, z, h, t, ds, d, rfl, ⟨p, q', rfl, hp, hq⟩, hz, q⟩ := h
    refine ⟨_, (pss_one (ps_ret (pe_and (pe_fn O_is_number (hr.mono (by omega)) (pa_cons (pv 1) pa_nil)) (pe_one (pe_cmpR op_lt (pv 1) (pe_callB call_len_seq (by rfl) T.len_ PySem.boot_len (pa_cons (pe_ix ix_lt (pv 0) pe_int (fun _ _ => rfl)) pa_nil)) (nomark _)))))), ?_⟩
    refine ⟨_, rfl, z, d, rfl, hz, _, rfl, ?_⟩
    cases e : isNumD d with
    | false =>
      rw [pl_num e] at q
      exact q
    | true =>
      obtain ⟨i, rfl, rfl, i0⟩ := dp_num hz e
      refine ⟨_, rfl, _, rfl, p, _, 2, .ref q', rfl, rfl, hp, rfl, q', _, rfl, hq, _, _, rfl, rfl, ?_⟩
      rw [List.length_map]
      have : isPlD ds.length (.int i) = decide (i < (ds.length : Int)) := by
        show (decide (0 ≤ i) && _) = _
        rw [decide_eq_true i0, Bool.true_and]
      rw [this] at q
      exact q
set_option maxHeartbeats 4000000 in
theorem ok_is_stand {k : Nat} (D : Df K mg "is_standing" s_is_standing) (T : Bt mg) (O_is_place : Ok P w K mg base k "is_place" s_is_place ["sea", "thing"] (spIsPlace K)) (O_are_rising : Ok P w K mg base k "are_rising" s_are_rising ["numbers"] (spRising K)) : Ok P w K mg base (k + 1) "is_standing" s_is_standing ["sea", "thing"] (spIsStand K) := by
  refine D.ok sc_is_standing b_is_standing (fun vs H Q E h => ?_) (fun f cdv A outer s H vs Q E hr h => ?_)
  · obtain ⟨n, v, z, h, t, ds, d, rfl, _⟩ := h
    rfl
  · obtain ⟨n, v, z, h, t, ds, d, rfl, hv, hz, lv, q⟩ := h
    refine ⟨_, (pss_cons (ps_if (pt_not (pt_val (pe_callB call_isi (by rfl) T.isinstance_ (by decide +kernel) (pa_cons (pv 1) (pa_cons (pe_bltn (v := .ty "tuple") (by rfl) T.tuple_ (by decide +kernel) rfl) pa_nil)))))
        (pss_one (ps_ret pe_bl))
        pss_nil)
      (pss_one (ps_ret (pe_and (pe_callB (cr_all rfl) (by rfl) T.all_ (by decide +kernel) (pa_cons (pe_lc (own := [("ship", 2)]) (g := (gName 2)) (tt := tYes) (by rfl) sc_is_standing.nd (pi_seq (pv 1)) (blkOk_by (own := [("ship", 2)]) (N := (["sea", "thing", "ship"] : List Str)) (sc := defScope s_is_standing) (by decide +kernel)) (fun _ _ _ _ _ => (pg_name (i := 2) sc_is_standing.nd rfl (.inl rfl))) (fun _ _ _ _ _ => pts_nil) (fun _ _ _ _ _ => (pe_fn O_is_place (hr.mono (by omega)) (pa_cons (pv 0) (pa_cons (pv 2) pa_nil))))) pa_nil)) (pe_one (pe_fn O_are_rising (hr.mono (by omega)) (pa_cons (pv 1) pa_nil))))))), ?_⟩
    refine ⟨_, rfl, z, .ty "tuple", _, .type "tuple", isTuD d, rfl, .ty _, ty_of hz, kit_ty kit_tup, _, rfl, ?_⟩
    cases ec : isTuD d with
    | false =>
      have : isStD ds.length d = false := by cases d <;> first | rfl | cases ec
      rw [this] at q
      exact iteT (q _ (Same.refl _))
    | true =>
      obtain ⟨pc, xs, cs, rfl, rfl, hc, al⟩ := dp_tup hz ec
      have lx := DpAll.len al
      have lc : cs.length ≤ 100000 := by
        cases n with
        | zero => exact lv.elim
        | succ n => exact lv.1
      refine iteF ?_
      refine ⟨_, rfl, pc, _, H, rfl, .inr hc, Kp.refl _ _, fun J hJ C nC => ?_⟩
      obtain ⟨G, g, W⟩ := hJ.walk
      refine lc_it W (fun i H' => Same H H' ∧ H' C = some (.lst (((cs.take i).map (isPlD ds.length)).map V.bl))) ⟨same_new nC, upd_same⟩ (fun i H' _ z => g H' (.ofS z.1)) ?_ ?_
      · rintro i x' Ha Hb hi ⟨sm, hC⟩ ⟨rfl, gx⟩
        rw [lx] at hi
        obtain ⟨d, gd, hd⟩ := DpAll.get al gx
        obtain rfl : cs[i] = d := by
          rw [List.getElem?_eq_getElem hi] at gd
          exact Option.some.inj gd
        refine ⟨rfl, tyes (iteT ?_)⟩
        refine ⟨_, rfl, _, rfl, v, x', h, t, ds, cs[i], rfl, hv.same sm, Dp.same sm hd, _, hC, ?_, same_over sm nC, ?_⟩
        · rw [List.length_map, List.length_map, List.length_take]
          exact Nat.lt_of_lt_of_le (show min i cs.length < 100000 by omega) (by decide)
        · rw [upd_same, take_succ_get hi, List.map_append, List.map_append]
          rfl
      · rintro Ha ⟨sm, hC⟩
        rw [lx, List.take_length] at hC
        refine ⟨C, _, rfl, SqL.of hC, _, rfl, ?_⟩
        have : (cs.map (isPlD ds.length)).all id = cs.all (isPlD ds.length) := by rw [List.all_map]; rfl
        rw [this]
        have eq : isStD ds.length (.tuple cs) = (cs.all (isPlD ds.length) && risingB (cs.map intD)) := rfl
        rw [eq] at q
        cases ea : cs.all (isPlD ds.length) with
        | false =>
          rw [ea] at q
          exact q _ sm
        | true =>
          rw [ea, Bool.true_and] at q
          have xe := dps_ints al ea
          rw [xe] at hc
          exact ⟨_, rfl, pc, cs.map intD, rfl, .inr (Same.tup sm hc), by rw [List.length_map]; exact lc, fun H' s' => q _ (sm.trans s')⟩
end
end Sh

namespace Sh
open PySem PySem.Spec PyProof.Rows L2
theorem iteNN {c A B : Prop} [Decidable c] (hc : ¬ c) (h : A) : if (!decide c) = true then A else B := by
  rw [decide_eq_false hc]
  exact iteT h
theorem bl_ne (a b : Bool) : (!decide (V.bl a = V.bl b)) = (a != b) := by cases a <;> cases b <;> rfl
def lotD : PyData → List Nat
  | .tuple ds => ds.map fun d => (intD d).toNat
  | _ => []
def lowD (h t : Int) (ds : List Int) (L M : List Nat) (dS dF : PyData) : Bool := isPlD ds.length dS && (isStD ds.length dF && lowSB h t ds (intD dS) (lotD dF) L M)
def highD (h t : Int) (ds : List Int) (L M : List Nat) (dS dF : PyData) : Bool := isPlD ds.length dS && (isStD ds.length dF && highSB h t ds (intD dS) (lotD dF) L M)
def fastD (h t : Int) (ds : List Int) (L M : List Nat) (dS : PyData) : Bool := isPlD ds.length dS && fastSB h t ds (intD dS).toNat L M
theorem pl_nat {K : PySem.W.Frag} {H : Hp} {c : Nat} {v : V} {d : PyData} (h : Dp K H v d) (p : isPlD c d = true) : ∃ s : Nat, v = .int (s : Int) ∧ d = .int (s : Int) ∧ s < c := by
  cases h with
  | int i =>
    have p' : (decide (0 ≤ i) && decide (i < (c : Int))) = true := p
    rw [Bool.and_eq_true, decide_eq_true_eq, decide_eq_true_eq] at p'
    have e : i = ((i.toNat : Nat) : Int) := by omega
    exact ⟨i.toNat, congrArg V.int e, congrArg PyData.int e, by omega⟩
  | _ => cases p
theorem st_lot {K : PySem.W.Frag} {H : Hp} {c : Nat} {v : V} {d : PyData} (h : Dp K H v d) (p : isStD c d = true) : ∃ (a : Addr) (F : List Nat), v = .ref a ∧ lotD d = F ∧ SqT K H a (ni F) ∧ Lot c F := by
  cases h with
  | tup h all =>
    rename_i a vs ds
    have p' : (ds.all (isPlD c) && risingB (ds.map intD)) = true := p
    rw [Bool.and_eq_true] at p'
    have e := dps_ints all p'.1
    have up : (ds.map intD).Pairwise (· < ·) := of_decide_eq_true p'.2
    obtain ⟨F, e2, hF⟩ := nat_list (c := c) (ns := ds.map intD) fun z hz => by
      obtain ⟨d, hd, rfl⟩ := List.mem_map.mp hz
      have := List.all_eq_true.mp p'.1 d hd
      cases d with
      | int i =>
        have q : (decide (0 ≤ i) && decide (i < (c : Int))) = true := this
        rw [Bool.and_eq_true, decide_eq_true_eq, decide_eq_true_eq] at q
        exact q
      | _ => cases this
    refine ⟨a, F, rfl, ?_, ?_, ⟨?_, hF⟩⟩
    · show ds.map (fun d => (intD d).toNat) = F
      have := congrArg (List.map Int.toNat) e2
      rw [List.map_map, List.map_map] at this
      rw [show (fun d => (intD d).toNat) = Int.toNat ∘ intD from rfl, this, show (Int.toNat ∘ fun (i : Nat) => (i : Int)) = id from rfl, List.map_id]
    · rw [ni_ints, ← e2, ← e]
      exact h
    · rw [e2] at up
      exact (List.pairwise_map.mp up).imp fun {a b} z => by omega
  | _ => cases p
theorem any_low {k : Nat} {s : Nat} (hs : s < k) (f : Nat → Bool) : (List.range k).all (fun e => !(decide ((e : Int) < (s : Int)) && f e)) = !((List.range s).map f).any id := by
  rw [Bool.eq_iff_iff, Bool.not_eq_true', List.all_eq_true, ← Bool.not_eq_true, List.any_eq_true]
  constructor
  · rintro a ⟨x, hx, e⟩
    obtain ⟨i, hi, rfl⟩ := List.mem_map.mp hx
    have hi := List.mem_range.mp hi
    have := a i (List.mem_range.mpr (by omega))
    rw [decide_eq_true (by omega : (i : Int) < (s : Int)), show f i = true from e] at this
    cases this
  · intro a i hi
    rw [Bool.not_eq_true', Bool.and_eq_false_iff, decide_eq_false_iff_not]
    by_cases c : (i : Int) < (s : Int)
    · right
      cases e : f i with
      | false => rfl
      | true => exact absurd ⟨true, List.mem_map.mpr ⟨i, List.mem_range.mpr (by omega), e⟩, rfl⟩ a
    · exact .inl c
theorem any_high {k : Nat} {s : Nat} (hs : s < k) (f : Nat → Bool) : (List.range k).all (fun e => !(decide ((s : Int) < (e : Int)) && f e)) = !((List.range (k - (s + 1))).map fun i => f (s + 1 + i)).any id := by
  rw [Bool.eq_iff_iff, Bool.not_eq_true', List.all_eq_true, ← Bool.not_eq_true, List.any_eq_true]
  constructor
  · rintro a ⟨x, hx, e⟩
    obtain ⟨i, hi, rfl⟩ := List.mem_map.mp hx
    have hi := List.mem_range.mp hi
    have := a (s + 1 + i) (List.mem_range.mpr (by omega))
    rw [decide_eq_true (by omega : (s : Int) < ((s + 1 + i : Nat) : Int)), show f (s + 1 + i) = true from e] at this
    cases this
  · intro a i hi
    have hi := List.mem_range.mp hi
    rw [Bool.not_eq_true', Bool.and_eq_false_iff, decide_eq_false_iff_not]
    by_cases c : (s : Int) < (i : Int)
    · right
      cases e : f i with
      | false => rfl
      | true => exact absurd ⟨true, List.mem_map.mpr ⟨i - (s + 1), List.mem_range.mpr (by omega), by rw [show s + 1 + (i - (s + 1)) = i by omega]; exact e⟩, rfl⟩ a
    · exact .inl c
def spShowsLow (K : PySem.W.Frag) : Sp := fun vs H Q _ => ∃ (n : Nat) (v l m x y : V) (h t : Int) (ds : List Int) (L M : List Nat) (dS dF : PyData), vs = [v, l, m, x, y] ∧ SeaA K H v h t ds ∧ LotA K H l L ∧ LotA K H m M ∧ ds.length ≤ 24 ∧ 0 < ds.length ∧ Lot ds.length L ∧ Lot ds.length M ∧ Dp K H x dS ∧ Dp K H y dF ∧ Lv n dF ∧
  ∀ H' : Hp, Same H H' → Q (.bl (lowD h t ds L M dS dF)) H'
def spShowsHigh (K : PySem.W.Frag) : Sp := fun vs H Q _ => ∃ (n : Nat) (v l m x y : V) (h t : Int) (ds : List Int) (L M : List Nat) (dS dF : PyData), vs = [v, l, m, x, y] ∧ SeaA K H v h t ds ∧ LotA K H l L ∧ LotA K H m M ∧ ds.length ≤ 24 ∧ 0 < ds.length ∧ Lot ds.length L ∧ Lot ds.length M ∧ Dp K H x dS ∧ Dp K H y dF ∧ Lv n dF ∧
  ∀ H' : Hp, Same H H' → Q (.bl (highD h t ds L M dS dF)) H'
def spShowsFast (K : PySem.W.Frag) : Sp := fun vs H Q _ => ∃ (v l m x : V) (h t : Int) (ds : List Int) (L M : List Nat) (dS : PyData), vs = [v, l, m, x] ∧ SeaA K H v h t ds ∧ LotA K H l L ∧ LotA K H m M ∧ ds.length ≤ 24 ∧ 0 < ds.length ∧ Lot ds.length L ∧ Lot ds.length M ∧ Dp K H x dS ∧
  ∀ H' : Hp, Same H H' → Q (.bl (fastD h t ds L M dS)) H'
abbrev s_shows_low : Stmt := topS 34
theorem sc_shows_low : FnScope (["sea", "one", "other", "step", "full", "mark", "earlier"] : List Str) (["sea", "one", "other", "step", "full"] : List Str) (defScope s_shows_low) := ⟨rfl, rfl, rfl, by decide +kernel, rfl, by decide +kernel, by decide +kernel⟩
theorem b_shows_low (kV doc pm : Value) (an : Option Addr) (cdv ct : Value) (us : List Value) (hl : us.length = (["sea", "one", "other", "step", "full"] : List Str).length) : bindArgs (PySem.W.fnOf "shows_low" "shows_low" (defArgs s_shows_low) (defBody s_shows_low) (defScope s_shows_low) .none kV doc pm an cdv ct) ⟨us, []⟩ = pure ((["sea", "one", "other", "step", "full"] : List Str).zip us) :=
  match us, hl with | [_, _, _, _, _], _ => rfl
abbrev s_shows_high : Stmt := topS 35
theorem sc_shows_high : FnScope (["sea", "one", "other", "step", "left", "mark", "later"] : List Str) (["sea", "one", "other", "step", "left"] : List Str) (defScope s_shows_high) := ⟨rfl, rfl, rfl, by decide +kernel, rfl, by decide +kernel, by decide +kernel⟩
theorem b_shows_high (kV doc pm : Value) (an : Option Addr) (cdv ct : Value) (us : List Value) (hl : us.length = (["sea", "one", "other", "step", "left"] : List Str).length) : bindArgs (PySem.W.fnOf "shows_high" "shows_high" (defArgs s_shows_high) (defBody s_shows_high) (defScope s_shows_high) .none kV doc pm an cdv ct) ⟨us, []⟩ = pure ((["sea", "one", "other", "step", "left"] : List Str).zip us) :=
  match us, hl with | [_, _, _, _, _], _ => rfl
abbrev s_shows_fast : Stmt := topS 36
theorem sc_shows_fast : FnScope (["sea", "one", "other", "ship", "too_deep"] : List Str) (["sea", "one", "other", "ship"] : List Str) (defScope s_shows_fast) := ⟨rfl, rfl, rfl, by decide +kernel, rfl, by decide +kernel, by decide +kernel⟩
theorem b_shows_fast (kV doc pm : Value) (an : Option Addr) (cdv ct : Value) (us : List Value) (hl : us.length = (["sea", "one", "other", "ship"] : List Str).length) : bindArgs (PySem.W.fnOf "shows_fast" "shows_fast" (defArgs s_shows_fast) (defBody s_shows_fast) (defScope s_shows_fast) .none kV doc pm an cdv ct) ⟨us, []⟩ = pure ((["sea", "one", "other", "ship"] : List Str).zip us) :=
  match us, hl with | [_, _, _, _], _ => rfl
section
variable {P : Program} {w : World} {K : PySem.W.Frag} {mg : Str → Option Value} {base : Heap}
theorem ok_shows_low {k : Nat} (D : Df K mg "shows_low" s_shows_low) (T : Bt mg) (O_is_place : Ok P w K mg base k "is_place" s_is_place ["sea", "thing"] (spIsPlace K)) (O_is_standing : Ok P w K mg base k "is_standing" s_is_standing ["sea", "thing"] (spIsStand K)) (O_mark_at : Ok P w K mg base k "mark_at" s_mark_at ["sea", "step"] (spMark K))
    (O_filled : Ok P w K mg base k "filled" s_filled ["sea", "standing", "step"] (spFillB K)) (O_lies_under : Ok P w K mg base k "lies_under" s_lies_under ["sea", "standing", "step", "full"] (spUnder K)) : Ok P w K mg base (k + 1) "shows_low" s_shows_low ["sea", "one", "other", "step", "full"] (spShowsLow K) := by
  refine D.ok sc_shows_low b_shows_low (fun vs H Q E h => ?_) (fun f cdv A outer s H vs Q E hr h => ?_)
  · obtain ⟨n, v, l, m, x, y, h, t, ds, L, M, dS, dF, rfl, _⟩ := h
    rfl
  · obtain ⟨n, v, l, m, x, y, h, t, ds, L, M, dS, dF, rfl, hv, hl, hm, d24, d0, hL, hM, hx, hy, lv, q⟩ := h
    refine ⟨_, (pss_cons (ps_if (pt_not (PW.pt (pw_and (pt_val (pe_fn O_is_place (hr.mono (by omega)) (pa_cons (pv 0) (pa_cons (pv 3) pa_nil)))) (pw_and1 (pt_val (pe_fn O_is_standing (hr.mono (by omega)) (pa_cons (pv 0) (pa_cons (pv 4) pa_nil))))))))
        (pss_one (ps_ret pe_bl))
        pss_nil)
      (pss_cons (ps_set (i := 5) sc_shows_low.nd rfl (.inr rfl) (pe_fn O_mark_at (hr.mono (by omega)) (pa_cons (pv 0) (pa_cons (pv 3) pa_nil))))
      (pss_cons (ps_if (pt_val (pe_callB (cr_any rfl) (by rfl) T.any_ (by decide +kernel) (pa_cons (pe_lc (own := [("earlier", 6)]) (g := (gName 6)) (tt := tYes) (by rfl) sc_shows_low.nd (pi_range1 (by rfl) T.range_ (pa_cons (pv 3) pa_nil)) (blkOk_by (own := [("earlier", 6)]) (N := (["sea", "one", "other", "step", "full", "mark", "earlier"] : List Str)) (sc := defScope s_shows_low) (by decide +kernel)) (fun _ _ _ _ _ => (pg_name (i := 6) sc_shows_low.nd rfl (.inl rfl))) (fun _ _ _ _ _ => pts_nil) (fun _ _ _ _ _ => (pe_cmpR op_gt (pe_fn O_mark_at (hr.mono (by omega)) (pa_cons (pv 0) (pa_cons (pv 6) pa_nil))) (pv 5) (nomark _)))) pa_nil)))
        (pss_one (ps_ret pe_bl))
        pss_nil)
      (pss_cons (ps_if (PW.pt (pw_or (pt_cmpR op_ne (pe_callB call_len_seq (by rfl) T.len_ PySem.boot_len (pa_cons (pv 4) pa_nil)) (pv 3) (nomark _)) (pw_or1 (pt_cmpR (op_neD hr.units) (pe_fn O_filled (hr.mono (by omega)) (pa_cons (pv 0) (pa_cons (pv 4) (pa_cons (pv 3) pa_nil)))) (pv 4) (nomark _)))))
        (pss_one (ps_ret pe_bl))
        pss_nil)
      (pss_one (ps_ret (pe_cmpR op_ne (pe_fn O_lies_under (hr.mono (by omega)) (pa_cons (pv 0) (pa_cons (pv 1) (pa_cons (pv 3) (pa_cons (pv 4) pa_nil))))) (pe_fn O_lies_under (hr.mono (by omega)) (pa_cons (pv 0) (pa_cons (pv 2) (pa_cons (pv 3) (pa_cons (pv 4) pa_nil))))) (nomark _)))))))), ?_⟩
    refine ⟨_, rfl, _, rfl, v, x, h, t, ds, dS, rfl, hv, hx, ?_⟩
    unfold lowD at q
    cases eP : isPlD ds.length dS with
    | false =>
      rw [eP] at q
      exact ⟨_, rfl, iteF (iteT (q H (Same.refl _)))⟩
    | true =>
    rw [eP] at q
    obtain ⟨st, rfl, rfl, hs⟩ := pl_nat hx eP
    refine ⟨_, rfl, iteT ⟨_, rfl, _, rfl, n, v, y, h, t, ds, dF, rfl, hv, hy, lv, fun H1 s1 => ⟨_, rfl, ?_⟩⟩⟩
    cases eS : isStD ds.length dF with
    | false =>
      rw [eS] at q
      exact iteT (q H1 s1)
    | true =>
    rw [eS] at q
    obtain ⟨pf, F, rfl, eF, hF, lF⟩ := st_lot hy eS
    rw [eF] at q
    refine iteF ?_
    replace hv := hv.same s1
    replace hl := hl.same s1
    replace hm := hm.same s1
    replace hF := Same.tup s1 hF
    refine ⟨_, rfl, _, rfl, v, h, t, (st : Int), ds, rfl, hv, ?_⟩
    refine ⟨_, rfl, (st : Int), rfl, by omega, by omega, fun C nC => ?_⟩
    refine lc_range (fun i H' => Same H1 H' ∧ H' C = some (.lst (((List.range i).map (fun e : Nat => decide (mk h t ds.length (e : Int) > mk h t ds.length (st : Int)))).map V.bl))) ⟨same_new nC, upd_same⟩ ?_ ?_
    · rintro i Ha hi ⟨sa, hC⟩
      have i0 : (0 : Int) + (i : Int) = ((i : Nat) : Int) := Int.zero_add _
      rw [i0]
      refine ⟨rfl, tyes (iteT ?_)⟩
      refine ⟨_, rfl, _, rfl, _, h, t, _, ds, rfl, hv.same sa, _, rfl, _, _, rfl, rfl, _, hC, ?_, same_over sa nC, ?_⟩
      · rw [List.length_map, List.length_map, List.length_range]
        exact small1000 (by omega)
      · rw [upd_same, List.range_succ, List.map_append, List.map_append]
        rfl
    rintro H2 ⟨s2, hC⟩
    rw [show ((st : Int)).toNat = st from Int.toNat_natCast st] at hC
    refine ⟨C, _, rfl, SqL.of hC, ?_⟩
    have eA : (List.range ds.length).all (fun e => !(decide ((e : Int) < (st : Int)) && decide (mk h t ds.length (e : Int) > mk h t ds.length (st : Int)))) = !((List.range st).map (fun e : Nat => decide (mk h t ds.length (e : Int) > mk h t ds.length (st : Int)))).any id := any_low hs (fun e => decide (mk h t ds.length (e : Int) > mk h t ds.length (st : Int)))
    have eQ : lowSB h t ds (intD (.int (st : Int))) F L M = (!((List.range st).map (fun e : Nat => decide (mk h t ds.length (e : Int) > mk h t ds.length (st : Int)))).any id && (decide ((F.length : Int) = (st : Int)) && (decide (fillL h t ds F (st : Int) = F) && (underB h t ds (st : Int) F L != underB h t ds (st : Int) F M)))) := by
      unfold lowSB
      rw [← eA]
      rfl
    rw [eQ] at q
    replace hv := hv.same s2
    replace hl := hl.same s2
    replace hm := hm.same s2
    replace hF := Same.tup s2 hF
    replace s1 := s1.trans s2
    refine ⟨_, rfl, ?_⟩
    generalize (List.map _ _).any id = an at q ⊢
    cases an with
    | true => exact iteT (q H2 s1)
    | false =>
    refine iteF ?_
    refine ⟨_, rfl, pf, _, rfl, .inr hF, ?_⟩
    rw [ni_len]
    have vI : ∀ a b : Int, (V.int a = V.int b) ↔ a = b := fun a b => ⟨fun z => V.int.inj z, fun z => congrArg V.int z⟩
    refine ⟨_, rfl, rfl, _, rfl, ?_⟩
    cases c1 : decide ((F.length : Int) = (st : Int)) with
    | false =>
      rw [c1] at q
      have c2 := of_decide_eq_false c1
      exact iteNN (fun z => c2 ((vI _ _).mp z)) (iteT (q H2 s1))
    | true =>
    rw [c1] at q
    refine iteNS (congrArg V.int (of_decide_eq_true c1)) ?_
    refine ⟨_, rfl, _, rfl, _, rfl, _, .ref pf, h, t, (st : Int), ds, F, rfl, hv, ⟨pf, rfl, .inr hF⟩, d24, lF, fun H3 p3 s3 np hp => ?_⟩
    refine ⟨_, rfl, _, _, dp_niT (SqT.of hp), dp_niT (Same.tup s3 hF), shaped_tup _, shaped_tup _, _, rfl, ?_⟩
    rw [eqv_niT]
    cases c3 : decide (fillL h t ds F (st : Int) = F) with
    | false =>
      rw [c3] at q
      exact iteT (q H3 (s1.trans s3))
    | true =>
    rw [c3] at q
    refine iteF ?_
    refine ⟨_, rfl, _, rfl, _, rfl, _, rfl, _, l, pf, h, t, (st : Int), ds, L, F, rfl, hv.same s3, hl.same s3, d24, hL, Same.tup s3 hF, fun H4 s4 => ?_⟩
    have s34 := s3.trans s4
    refine ⟨_, rfl, _, rfl, _, rfl, _, rfl, _, m, pf, h, t, (st : Int), ds, M, F, rfl, hv.same s34, hm.same s34, d24, hM, Same.tup s34 hF, fun H5 s5 => ⟨rfl, ?_⟩⟩
    rw [bl_ne]
    exact q H5 (s1.trans (s34.trans s5))
theorem ok_shows_high {k : Nat} (D : Df K mg "shows_high" s_shows_high) (T : Bt mg) (O_is_place : Ok P w K mg base k "is_place" s_is_place ["sea", "thing"] (spIsPlace K)) (O_is_standing : Ok P w K mg base k "is_standing" s_is_standing ["sea", "thing"] (spIsStand K)) (O_mark_at : Ok P w K mg base k "mark_at" s_mark_at ["sea", "step"] (spMark K))
    (O_emptied : Ok P w K mg base k "emptied" s_emptied ["sea", "standing", "step"] (spEmptB K)) (O_lies_above : Ok P w K mg base k "lies_above" s_lies_above ["sea", "standing", "step", "left"] (spAbove K)) : Ok P w K mg base (k + 1) "shows_high" s_shows_high ["sea", "one", "other", "step", "left"] (spShowsHigh K) := by
  refine D.ok sc_shows_high b_shows_high (fun vs H Q E h => ?_) (fun f cdv A outer s H vs Q E hr h => ?_)
  · obtain ⟨n, v, l, m, x, y, h, t, ds, L, M, dS, dF, rfl, _⟩ := h
    rfl
  · obtain ⟨n, v, l, m, x, y, h, t, ds, L, M, dS, dF, rfl, hv, hl, hm, d24, d0, hL, hM, hx, hy, lv, q⟩ := h
    refine ⟨_, (pss_cons (ps_if (pt_not (PW.pt (pw_and (pt_val (pe_fn O_is_place (hr.mono (by omega)) (pa_cons (pv 0) (pa_cons (pv 3) pa_nil)))) (pw_and1 (pt_val (pe_fn O_is_standing (hr.mono (by omega)) (pa_cons (pv 0) (pa_cons (pv 4) pa_nil))))))))
        (pss_one (ps_ret pe_bl))
        pss_nil)
      (pss_cons (ps_set (i := 5) sc_shows_high.nd rfl (.inr rfl) (pe_fn O_mark_at (hr.mono (by omega)) (pa_cons (pv 0) (pa_cons (pv 3) pa_nil))))
      (pss_cons (ps_if (pt_val (pe_callB (cr_any rfl) (by rfl) T.any_ (by decide +kernel) (pa_cons (pe_lc (own := [("later", 6)]) (g := (gName 6)) (tt := tYes) (by rfl) sc_shows_high.nd (pi_range2 (by rfl) T.range_ (pa_cons (pe_op op_add (pv 3) pe_int) (pa_cons (pe_callB call_len_seq (by rfl) T.len_ PySem.boot_len (pa_cons (pe_ix ix_lt (pv 0) pe_int (fun _ _ => rfl)) pa_nil)) pa_nil))) (blkOk_by (own := [("later", 6)]) (N := (["sea", "one", "other", "step", "left", "mark", "later"] : List Str)) (sc := defScope s_shows_high) (by decide +kernel)) (fun _ _ _ _ _ => (pg_name (i := 6) sc_shows_high.nd rfl (.inl rfl))) (fun _ _ _ _ _ => pts_nil) (fun _ _ _ _ _ => (pe_cmpR op_gt (pe_fn O_mark_at (hr.mono (by omega)) (pa_cons (pv 0) (pa_cons (pv 6) pa_nil))) (pv 5) (nomark _)))) pa_nil)))
        (pss_one (ps_ret pe_bl))
        pss_nil)
      (pss_cons (ps_if (PW.pt (pw_or (pt_cmpR op_ne (pe_callB call_len_seq (by rfl) T.len_ PySem.boot_len (pa_cons (pv 4) pa_nil)) (pe_op op_add (pv 3) pe_int) (nomark _)) (pw_or1 (pt_cmpR (op_neD hr.units) (pe_fn O_emptied (hr.mono (by omega)) (pa_cons (pv 0) (pa_cons (pv 4) (pa_cons (pv 3) pa_nil)))) (pv 4) (nomark _)))))
        (pss_one (ps_ret pe_bl))
        pss_nil)
      (pss_one (ps_ret (pe_cmpR op_ne (pe_fn O_lies_above (hr.mono (by omega)) (pa_cons (pv 0) (pa_cons (pv 1) (pa_cons (pv 3) (pa_cons (pv 4) pa_nil))))) (pe_fn O_lies_above (hr.mono (by omega)) (pa_cons (pv 0) (pa_cons (pv 2) (pa_cons (pv 3) (pa_cons (pv 4) pa_nil))))) (nomark _)))))))), ?_⟩
    refine ⟨_, rfl, _, rfl, v, x, h, t, ds, dS, rfl, hv, hx, ?_⟩
    unfold highD at q
    cases eP : isPlD ds.length dS with
    | false =>
      rw [eP] at q
      exact ⟨_, rfl, iteF (iteT (q H (Same.refl _)))⟩
    | true =>
    rw [eP] at q
    obtain ⟨st, rfl, rfl, hs⟩ := pl_nat hx eP
    refine ⟨_, rfl, iteT ⟨_, rfl, _, rfl, n, v, y, h, t, ds, dF, rfl, hv, hy, lv, fun H1 s1 => ⟨_, rfl, ?_⟩⟩⟩
    cases eS : isStD ds.length dF with
    | false =>
      rw [eS] at q
      exact iteT (q H1 s1)
    | true =>
    rw [eS] at q
    obtain ⟨pf, F, rfl, eF, hF, lF⟩ := st_lot hy eS
    rw [eF] at q
    refine iteF ?_
    replace hv := hv.same s1
    replace hl := hl.same s1
    replace hm := hm.same s1
    replace hF := Same.tup s1 hF
    refine ⟨_, rfl, _, rfl, v, h, t, (st : Int), ds, rfl, hv, ?_⟩
    obtain ⟨pv, pq, rfl, hp, hq⟩ := id hv
    refine ⟨_, rfl, _, 1, rfl, rfl, _, rfl, pv, _, 2, .ref pq, rfl, rfl, hp, rfl, pq, _, rfl, hq, (st : Int) + 1, ((ds.length : Nat) : Int), by rw [List.length_map], ⟨by omega, by omega, by omega, by omega⟩, fun C nC => ?_⟩
    refine lc_range (fun i H' => Same H1 H' ∧ H' C = some (.lst (((List.range i).map (fun e : Nat => decide (mk h t ds.length ((st + 1 + e : Nat) : Int) > mk h t ds.length (st : Int)))).map V.bl))) ⟨same_new nC, upd_same⟩ ?_ ?_
    · rintro i Ha hi ⟨sa, hC⟩
      have i0 : ((st : Int) + 1) + (i : Int) = ((st + 1 + i : Nat) : Int) := by omega
      rw [i0]
      refine ⟨rfl, tyes (iteT ?_)⟩
      refine ⟨_, rfl, _, rfl, _, h, t, _, ds, rfl, hv.same sa, _, rfl, _, _, rfl, rfl, _, hC, ?_, same_over sa nC, ?_⟩
      · rw [List.length_map, List.length_map, List.length_range]
        exact small1000 (by omega)
      · rw [upd_same, List.range_succ, List.map_append, List.map_append]
        rfl
    rintro H2 ⟨s2, hC⟩
    rw [show (((ds.length : Nat) : Int) - ((st : Int) + 1)).toNat = ds.length - (st + 1) by omega] at hC
    refine ⟨C, _, rfl, SqL.of hC, ?_⟩
    have eA : (List.range ds.length).all (fun e => !(decide ((st : Int) < (e : Int)) && decide (mk h t ds.length (e : Int) > mk h t ds.length (st : Int)))) = !((List.range (ds.length - (st + 1))).map (fun e : Nat => decide (mk h t ds.length ((st + 1 + e : Nat) : Int) > mk h t ds.length (st : Int)))).any id := any_high hs (fun e => decide (mk h t ds.length (e : Int) > mk h t ds.length (st : Int)))
    have eQ : highSB h t ds (intD (.int (st : Int))) F L M = (!((List.range (ds.length - (st + 1))).map (fun e : Nat => decide (mk h t ds.length ((st + 1 + e : Nat) : Int) > mk h t ds.length (st : Int)))).any id && (decide ((F.length : Int) = (st : Int) + 1) && (decide (emptL h t ds F (st : Int) = F) && (aboveB h t ds (st : Int) F L != aboveB h t ds (st : Int) F M)))) := by
      unfold highSB
      rw [← eA]
      rfl
    rw [eQ] at q
    replace hv := hv.same s2
    replace hl := hl.same s2
    replace hm := hm.same s2
    replace hF := Same.tup s2 hF
    replace s1 := s1.trans s2
    refine ⟨_, rfl, ?_⟩
    generalize (List.map _ _).any id = an at q ⊢
    cases an with
    | true => exact iteT (q H2 s1)
    | false =>
    refine iteF ?_
    refine ⟨_, rfl, pf, _, rfl, .inr hF, ?_⟩
    rw [ni_len]
    have vI : ∀ a b : Int, (V.int a = V.int b) ↔ a = b := fun a b => ⟨fun z => V.int.inj z, fun z => congrArg V.int z⟩
    refine ⟨_, rfl, _, 1, rfl, rfl, rfl, _, rfl, ?_⟩
    cases c1 : decide ((F.length : Int) = (st : Int) + 1) with
    | false =>
      rw [c1] at q
      have c2 := of_decide_eq_false c1
      exact iteNN (fun z => c2 ((vI _ _).mp z)) (iteT (q H2 s1))
    | true =>
    rw [c1] at q
    refine iteNS (congrArg V.int (of_decide_eq_true c1)) ?_
    refine ⟨_, rfl, _, rfl, _, rfl, _, .ref pf, h, t, (st : Int), ds, F, rfl, hv, ⟨pf, rfl, .inr hF⟩, d24, lF, fun H3 p3 s3 np hp => ?_⟩
    refine ⟨_, rfl, _, _, dp_niT (SqT.of hp), dp_niT (Same.tup s3 hF), shaped_tup _, shaped_tup _, _, rfl, ?_⟩
    rw [eqv_niT]
    cases c3 : decide (emptL h t ds F (st : Int) = F) with
    | false =>
      rw [c3] at q
      exact iteT (q H3 (s1.trans s3))
    | true =>
    rw [c3] at q
    refine iteF ?_
    refine ⟨_, rfl, _, rfl, _, rfl, _, rfl, _, l, pf, h, t, (st : Int), ds, L, F, rfl, hv.same s3, hl.same s3, d24, hL, Same.tup s3 hF, fun H4 s4 => ?_⟩
    have s34 := s3.trans s4
    refine ⟨_, rfl, _, rfl, _, rfl, _, rfl, _, m, pf, h, t, (st : Int), ds, M, F, rfl, hv.same s34, hm.same s34, d24, hM, Same.tup s34 hF, fun H5 s5 => ⟨rfl, ?_⟩⟩
    rw [bl_ne]
    exact q H5 (s1.trans (s34.trans s5))
theorem ok_shows_fast {k : Nat} (D : Df K mg "shows_fast" s_shows_fast) (T : Bt mg) (O_is_place : Ok P w K mg base k "is_place" s_is_place ["sea", "thing"] (spIsPlace K)) (O_mark_at : Ok P w K mg base k "mark_at" s_mark_at ["sea", "step"] (spMark K)) (O_top_step : Ok P w K mg base k "top_step" s_top_step ["sea"] (spTop K)) : Ok P w K mg base (k + 1) "shows_fast" s_shows_fast ["sea", "one", "other", "ship"] (spShowsFast K) := by
  refine D.ok sc_shows_fast b_shows_fast (fun vs H Q E h => ?_) (fun f cdv A outer s H vs Q E hr h => ?_)
  · obtain ⟨v, l, m, x, h, t, ds, L, M, dS, rfl, _⟩ := h
    rfl
  · obtain ⟨v, l, m, x, h, t, ds, L, M, dS, rfl, hv, hl, hm, d24, d0, hL, hM, hx, q⟩ := h
    refine ⟨_, (pss_cons (ps_if (pt_not (pt_val (pe_fn O_is_place (hr.mono (by omega)) (pa_cons (pv 0) (pa_cons (pv 3) pa_nil)))))
        (pss_one (ps_ret pe_bl))
        pss_nil)
      (pss_cons (ps_set (i := 4) sc_shows_fast.nd rfl (.inl rfl) (pe_cmpR op_gt (pe_ix ix_lt (pe_ix ix_lt (pv 0) pe_int (fun _ _ => rfl)) (pv 3) (fun _ _ => rfl)) (pe_fn O_mark_at (hr.mono (by omega)) (pa_cons (pv 0) (pa_cons (pe_fn O_top_step (hr.mono (by omega)) (pa_cons (pv 0) pa_nil)) pa_nil))) (nomark _)))
      (pss_one (ps_ret (pe_and (pv 4) (pe_one (pe_cmpR op_ne (pe_cmpR op_in_seq (pv 3) (pv 1) (by rfl)) (pe_cmpR op_in_seq (pv 3) (pv 2) (by rfl)) (nomark _)))))))), ?_⟩
    refine ⟨_, rfl, _, rfl, v, x, h, t, ds, dS, rfl, hv, hx, ?_⟩
    unfold fastD at q
    cases eP : isPlD ds.length dS with
    | false =>
      rw [eP] at q
      exact ⟨_, rfl, iteT (q H (Same.refl _))⟩
    | true =>
    rw [eP] at q
    obtain ⟨g, rfl, rfl, hg⟩ := pl_nat hx eP
    obtain ⟨pv, pq, rfl, hp, hq⟩ := id hv
    obtain ⟨pl, rfl, hl'⟩ := id hl
    obtain ⟨pm, rfl, hm'⟩ := id hm
    have q1 := q H (Same.refl _)
    unfold fastSB at q1
    refine ⟨_, rfl, iteF ?_⟩
    refine ⟨_, rfl, pv, _, 2, .ref pq, rfl, rfl, hp, rfl, _, rfl, pq, _, (g : Int), _, rfl, rfl, hq, at_nat (v := .int (ds.getD g 0)) rfl (by simp [hg]), _, rfl, _, rfl, _, h, t, ds, rfl, hv, ?_⟩
    refine ⟨_, h, t, topI h t ds.length, ds, rfl, hv, _, _, rfl, rfl, ?_⟩
    refine ⟨_, rfl, _, rfl, ?_⟩
    cases c : decide (ds.getD g 0 > mk h t ds.length (topI h t ds.length)) with
    | false =>
      refine iteF ?_
      rw [show (intD (.int (g : Int))).toNat = g from Int.toNat_natCast g, c] at q1
      exact q1
    | true =>
    refine iteT ?_
    rw [show (intD (.int (g : Int))).toNat = g from Int.toNat_natCast g, c] at q1
    refine ⟨_, rfl, _, rfl, pl, _, rfl, hl', rfl, ni_flat L, _, rfl, _, rfl, pm, _, rfl, hm', rfl, ni_flat M, rfl, ?_⟩
    rw [in_ni, in_ni, bl_ne]
    exact q1
end
end Sh

namespace Sh
open PySem PySem.Spec PyProof.Rows L2
/-- what of any thing is a bar -/
def showsD (h t : Int) (ds : List Int) (L M : List Nat) : PyData → Bool
  | .tuple [.str w, x] => decide (w = "fast") && fastD h t ds L M x
  | .tuple [.str w, x, y] => if w = "low" then lowD h t ds L M x y else if w = "high" then highD h t ds L M x y else false
  | _ => false
theorem eqv_word (d : PyData) (x : Str) : PyData.eqv d (.str x) = (match d with | .str w => decide (w = x) | _ => false) := by
  cases d with
  | str w =>
    show (w == x) = decide (w = x)
    rw [Bool.eq_iff_iff, beq_iff_eq, decide_eq_true_eq]
  | _ => rfl
theorem dp_two {K : PySem.W.Frag} {H : Hp} {v : V} {d : PyData} (h : Dp K H v d) (n : isTupD 2 d = true) : ∃ (p : Addr) (x y : V) (a b : PyData), v = .ref p ∧ d = .tuple [a, b] ∧ SqT K H p [x, y] ∧ Dp K H x a ∧ Dp K H y b := by
  cases h with
  | tup h all =>
    rename_i p xs ds
    have l : ds.length = 2 := of_decide_eq_true n
    match ds, l with
    | [a, b], _ =>
      cases all with
      | cons x all =>
        cases all with
        | cons y all =>
          cases all
          exact ⟨p, _, _, a, b, rfl, rfl, h, x, y⟩
  | non => cases n
  | bl b => cases n
  | int i => cases n
  | str x => cases n
  | lst h a => cases n
theorem shaped_el {e : PyData} : ∀ {ds : List PyData}, SeqAt.shaped (.tuple ds) = true → e ∈ ds → SeqAt.shaped e = true := fun {ds} h m => by
  unfold SeqAt.shaped at h ⊢
  rw [show PyData.canLay0 (.tuple ds) = PyData.canLayAll0 ds from rfl, show PyData.depth (.tuple ds) = PyData.depthAll ds + 1 from rfl, Bool.and_eq_true, decide_eq_true_eq] at h
  rw [Bool.and_eq_true, decide_eq_true_eq]
  obtain ⟨h1, h2⟩ := h
  have key : ∀ (ds : List PyData), PyData.canLayAll0 ds = true → PyData.depthAll ds + 1 ≤ 64 → e ∈ ds → e.canLay0 = true ∧ e.depth ≤ 64 := by
    intro ds
    induction ds with
    | nil => intro _ _ m; cases m
    | cons x xs ih =>
      intro a b m
      have a' : (PyData.canLay0 x && PyData.canLayAll0 xs) = true := a
      have b' : max (PyData.depth x) (PyData.depthAll xs) + 1 ≤ 64 := b
      rw [Bool.and_eq_true] at a'
      rcases List.mem_cons.mp m with rfl | m
      · exact ⟨a'.1, by omega⟩
      · exact ih a'.2 (by omega) m
  exact key ds h1 h2 m
theorem shows_none {h t : Int} {ds : List Int} {L M : List Nat} {d : PyData} (n2 : isTupD 2 d = false) (n3 : isTupD 3 d = false) : showsD h t ds L M d = false := by
  cases d with
  | tuple ds =>
    have l2 : ds.length ≠ 2 := of_decide_eq_false n2
    have l3 : ds.length ≠ 3 := of_decide_eq_false n3
    match ds, l2, l3 with
    | [], _, _ => rfl
    | [a], _, _ => cases a <;> rfl
    | [_, _], l2, _ => exact absurd rfl l2
    | [_, _, _], _, l3 => exact absurd rfl l3
    | a :: _ :: _ :: _ :: _, _, _ => cases a <;> rfl
  | _ => rfl
def spShows (K : PySem.W.Frag) : Sp := fun vs H Q _ => ∃ (n : Nat) (v l m z : V) (h t : Int) (ds : List Int) (L M : List Nat) (d : PyData), vs = [v, l, m, z] ∧ SeaA K H v h t ds ∧ LotA K H l L ∧ LotA K H m M ∧ ds.length ≤ 24 ∧ 0 < ds.length ∧ Lot ds.length L ∧ Lot ds.length M ∧ Dp K H z d ∧ Lv n d ∧ SeqAt.shaped d = true ∧
  ∀ H' : Hp, Same H H' → Q (.bl (showsD h t ds L M d)) H'
abbrev s_shows_bar : Stmt := topS 37
theorem sc_shows_bar : FnScope (["sea", "one", "other", "thing", "word", "ship", "step", "ships"] : List Str) (["sea", "one", "other", "thing"] : List Str) (defScope s_shows_bar) := ⟨rfl, rfl, rfl, by decide +kernel, rfl, by decide +kernel, by decide +kernel⟩
theorem b_shows_bar (kV doc pm : Value) (an : Option Addr) (cdv ct : Value) (us : List Value) (hl : us.length = (["sea", "one", "other", "thing"] : List Str).length) : bindArgs (PySem.W.fnOf "shows_bar" "shows_bar" (defArgs s_shows_bar) (defBody s_shows_bar) (defScope s_shows_bar) .none kV doc pm an cdv ct) ⟨us, []⟩ = pure ((["sea", "one", "other", "thing"] : List Str).zip us) :=
  match us, hl with | [_, _, _, _], _ => rfl
section
variable {P : Program} {w : World} {K : PySem.W.Frag} {mg : Str → Option Value} {base : Heap}
theorem ok_shows_bar {k : Nat} (D : Df K mg "shows_bar" s_shows_bar) (T : Bt mg) (O_is_tuple_of : Ok P w K mg base k "is_tuple_of" s_is_tuple_of ["thing", "many"] (spIsTup K)) (O_shows_fast : Ok P w K mg base k "shows_fast" s_shows_fast ["sea", "one", "other", "ship"] (spShowsFast K)) (O_shows_low : Ok P w K mg base k "shows_low" s_shows_low ["sea", "one", "other", "step", "full"] (spShowsLow K)) (O_shows_high : Ok P w K mg base k "shows_high" s_shows_high ["sea", "one", "other", "step", "left"] (spShowsHigh K)) : Ok P w K mg base (k + 1) "shows_bar" s_shows_bar ["sea", "one", "other", "thing"] (spShows K) := by
  refine D.ok sc_shows_bar b_shows_bar (fun vs H Q E h => ?_) (fun f cdv A outer s H vs Q E hr h => ?_)
  · obtain ⟨n, v, l, m, z, h, t, ds, L, M, d, rfl, _⟩ := h
    rfl
  · obtain ⟨n, v, l, m, z, h, t, ds, L, M, d, rfl, hv, hl, hm, d24, d0, hL, hM, hz, lv, sh, q⟩ := h
    refine ⟨_, (pss_cons (ps_if (pt_val (pe_fn O_is_tuple_of (hr.mono (by omega)) (pa_cons (pv 3) (pa_cons pe_int pa_nil))))
        (pss_cons (ps_asg (pv 3) (pg_seq rfl (pgs_cons (pg_name (i := 4) sc_shows_bar.nd rfl (.inl rfl)) (pgs_cons (pg_name (i := 5) sc_shows_bar.nd rfl (.inl rfl)) pgs_nil))))
          (pss_one (ps_ret (pe_and (pe_cmpR (op_eqD hr.units) (pv 4) pe_str (nomark _)) (pe_one (pe_fn O_shows_fast (hr.mono (by omega)) (pa_cons (pv 0) (pa_cons (pv 1) (pa_cons (pv 2) (pa_cons (pv 5) pa_nil))))))))))
        pss_nil)
      (pss_cons (ps_if (pt_not (pt_val (pe_fn O_is_tuple_of (hr.mono (by omega)) (pa_cons (pv 3) (pa_cons pe_int pa_nil)))))
        (pss_one (ps_ret pe_bl))
        pss_nil)
      (pss_cons (ps_asg (pv 3) (pg_seq rfl (pgs_cons (pg_name (i := 4) sc_shows_bar.nd rfl (.inl rfl)) (pgs_cons (pg_name (i := 6) sc_shows_bar.nd rfl (.inl rfl)) (pgs_cons (pg_name (i := 7) sc_shows_bar.nd rfl (.inl rfl)) pgs_nil)))))
      (pss_cons (ps_if (pt_cmpR (op_eqD hr.units) (pv 4) pe_str (nomark _))
        (pss_one (ps_ret (pe_fn O_shows_low (hr.mono (by omega)) (pa_cons (pv 0) (pa_cons (pv 1) (pa_cons (pv 2) (pa_cons (pv 6) (pa_cons (pv 7) pa_nil))))))))
        pss_nil)
      (pss_cons (ps_if (pt_cmpR (op_eqD hr.units) (pv 4) pe_str (nomark _))
        (pss_one (ps_ret (pe_fn O_shows_high (hr.mono (by omega)) (pa_cons (pv 0) (pa_cons (pv 1) (pa_cons (pv 2) (pa_cons (pv 6) (pa_cons (pv 7) pa_nil))))))))
        pss_nil)
      (pss_one (ps_ret pe_bl))))))), ?_⟩
    refine ⟨_, rfl, z, d, 2, rfl, hz, ?_⟩
    refine ⟨_, rfl, ?_⟩
    cases e2 : isTupD 2 d with
    | true =>
      obtain ⟨p, x, y, a, b, rfl, rfl, hp, ha, hb⟩ := dp_two hz e2
      have sa := shaped_el sh (List.mem_cons_self (a := a))
      refine iteT ⟨_, rfl, p, _, rfl, .inr hp, rfl, _, _, rfl, _, _, rfl, rfl, ?_⟩
      refine ⟨_, rfl, a, .str "fast", ha, .str _, sa, by decide +kernel, _, rfl, ?_⟩
      rw [eqv_word]
      cases a with
      | str wd =>
        have eD : showsD h t ds L M (.tuple [.str wd, b]) = (decide (wd = "fast") && fastD h t ds L M b) := rfl
        rw [eD] at q
        show if decide (wd = "fast") = true then _ else _
        cases c : decide (wd = "fast") with
        | false =>
          rw [c] at q
          exact iteF (q H (Same.refl _))
        | true =>
          rw [c] at q
          refine iteT ⟨_, rfl, _, rfl, _, rfl, _, rfl, v, l, m, y, h, t, ds, L, M, b, rfl, hv, hl, hm, d24, d0, hL, hM, hb, fun H1 s1 => q H1 s1⟩
      | _ => exact iteF (q H (Same.refl _))
    | false =>
      refine iteF ⟨_, rfl, z, d, 3, rfl, hz, _, rfl, ?_⟩
      cases e3 : isTupD 3 d with
      | false =>
        have q1 := q H (Same.refl _)
        rw [shows_none e2 e3] at q1
        exact iteT q1
      | true =>
        obtain ⟨p, x, y, z', a, b, c, rfl, rfl, hp, ha, hb, hc⟩ := dp_three hz e3
        have sa := shaped_el sh (List.mem_cons_self (a := a))
        obtain ⟨n', lc⟩ : ∃ n', Lv n' c := by
          cases n with
          | zero => exact lv.elim
          | succ n => exact ⟨n, lv.2 c (by simp)⟩
        refine iteF ⟨_, rfl, p, _, rfl, .inr hp, rfl, _, _, rfl, _, _, rfl, _, _, rfl, rfl, ?_⟩
        refine ⟨_, rfl, a, .str "low", ha, .str _, sa, by decide +kernel, _, rfl, ?_⟩
        rw [eqv_word]
        cases a with
        | str wd =>
          have eD : showsD h t ds L M (.tuple [.str wd, b, c]) = (if wd = "low" then lowD h t ds L M b c else if wd = "high" then highD h t ds L M b c else false) := rfl
          rw [eD] at q
          show if decide (wd = "low") = true then _ else _
          by_cases c1 : wd = "low"
          · rw [decide_eq_true c1]
            rw [if_pos c1] at q
            exact iteT ⟨_, rfl, _, rfl, _, rfl, _, rfl, _, rfl, n', v, l, m, y, z', h, t, ds, L, M, b, c, rfl, hv, hl, hm, d24, d0, hL, hM, hb, hc, lc, fun H1 s1 => q H1 s1⟩
          · rw [decide_eq_false c1]
            rw [if_neg c1] at q
            refine iteF ⟨_, rfl, .str wd, .str "high", ha, .str _, sa, by decide +kernel, _, rfl, ?_⟩
            rw [eqv_word]
            show if decide (wd = "high") = true then _ else _
            by_cases c2 : wd = "high"
            · rw [decide_eq_true c2]
              rw [if_pos c2] at q
              exact iteT ⟨_, rfl, _, rfl, _, rfl, _, rfl, _, rfl, n', v, l, m, y, z', h, t, ds, L, M, b, c, rfl, hv, hl, hm, d24, d0, hL, hM, hb, hc, lc, fun H1 s1 => q H1 s1⟩
            · rw [decide_eq_false c2]
              rw [if_neg c2] at q
              exact iteF (q H (Same.refl _))
        | _ =>
          refine iteF ⟨_, rfl, _, .str "high", ha, .str _, sa, by decide +kernel, _, rfl, iteF (q H (Same.refl _))⟩
end
end Sh

namespace Sh
open PySem PySem.Spec PyProof.Rows L2
/-! ### the bars that are told -/
def BarAt (H : Hp) (v : V) : BarV → Prop
  | .low s F => ∃ p q, v = .ref p ∧ H p = some (.tup [.str "low", .int (s : Int), .ref q]) ∧ H q = some (.tup (ni F))
  | .high s F => ∃ p q, v = .ref p ∧ H p = some (.tup [.str "high", .int (s : Int), .ref q]) ∧ H q = some (.tup (ni F))
  | .fast g => ∃ p, v = .ref p ∧ H p = some (.tup [.str "fast", .int (g : Int)])
def barD : BarV → PyData
  | .low s F => .tuple [.str "low", .int (s : Int), .tuple ((F.map fun (i : Nat) => (i : Int)).map .int)]
  | .high s F => .tuple [.str "high", .int (s : Int), .tuple ((F.map fun (i : Nat) => (i : Int)).map .int)]
  | .fast g => .tuple [.str "fast", .int (g : Int)]
def BarOk (c : Nat) : BarV → Prop
  | .low s F => s < c ∧ Lot c F
  | .high s F => s < c ∧ Lot c F
  | .fast g => g < c
theorem BarAt.same {H H' : Hp} {v : V} {b : BarV} (x : BarAt H v b) (e : Same H H') : BarAt H' v b := by
  cases b with
  | low s F => obtain ⟨p, q, a, b, c⟩ := x; exact ⟨p, q, a, e _ _ b, e _ _ c⟩
  | high s F => obtain ⟨p, q, a, b, c⟩ := x; exact ⟨p, q, a, e _ _ b, e _ _ c⟩
  | fast g => obtain ⟨p, a, b⟩ := x; exact ⟨p, a, e _ _ b⟩
theorem BarAt.put {H : Hp} {v : V} {b : BarV} {C : Addr} {us : List V} {o : HO} (x : BarAt H v b) (e : H C = some (.lst us)) : BarAt (upd H C o) v b := by
  have ne : ∀ {p : Addr} {xs : List V}, H p = some (.tup xs) → upd H C o p = some (.tup xs) := fun {p xs} y => by
    rw [upd_ne (ne_of y e (by intro z; cases z))]
    exact y
  cases b with
  | low s F => obtain ⟨p, q, a, b, c⟩ := x; exact ⟨p, q, a, ne b, ne c⟩
  | high s F => obtain ⟨p, q, a, b, c⟩ := x; exact ⟨p, q, a, ne b, ne c⟩
  | fast g => obtain ⟨p, a, b⟩ := x; exact ⟨p, a, ne b⟩
theorem BarAt.dp {K : PySem.W.Frag} {H : Hp} {v : V} {b : BarV} (x : BarAt H v b) : Dp K H v (barD b) := by
  cases b with
  | low s F => obtain ⟨p, q, rfl, b, c⟩ := x; exact .tup (SqT.of b) (.cons (.str _) (.cons (.int _) (.cons (dp_niT (SqT.of c)) .nil)))
  | high s F => obtain ⟨p, q, rfl, b, c⟩ := x; exact .tup (SqT.of b) (.cons (.str _) (.cons (.int _) (.cons (dp_niT (SqT.of c)) .nil)))
  | fast g => obtain ⟨p, rfl, b⟩ := x; exact .tup (SqT.of b) (.cons (.str _) (.cons (.int _) .nil))
theorem lv_word3 {w : Str} {a : Int} {F : List Nat} (l : F.length ≤ 100000) : Lv 3 (.tuple [.str w, .int a, .tuple ((F.map fun (i : Nat) => (i : Int)).map .int)]) := ⟨by show 3 ≤ 100000; decide, fun e he => by
  have e3 : e = .str w ∨ e = .int a ∨ e = .tuple ((F.map fun (i : Nat) => (i : Int)).map .int) := by simpa using he
  rcases e3 with rfl | rfl | rfl
  · exact trivial
  · exact trivial
  · exact lv_intsT (n := 0) _ (by rw [List.length_map]; exact l)⟩
theorem bar_lv {c : Nat} {b : BarV} (o : BarOk c b) (hc : c ≤ 100000) : Lv 3 (barD b) := by
  cases b with
  | low s F => exact lv_word3 (Nat.le_trans o.2.len hc)
  | high s F => exact lv_word3 (Nat.le_trans o.2.len hc)
  | fast g => exact ⟨by show 2 ≤ 100000; decide, fun e he => by
      have e3 : e = .str "fast" ∨ e = .int (g : Int) := by simpa using he
      rcases e3 with rfl | rfl <;> exact trivial⟩
theorem ints_lay : ∀ ns : List Int, PyData.canLayAll0 (ns.map .int) = true ∧ PyData.depthAll (ns.map .int) = 0
  | [] => ⟨rfl, rfl⟩
  | n :: ns => by
    obtain ⟨a, b⟩ := ints_lay ns
    constructor
    · show (true && PyData.canLayAll0 (ns.map .int)) = true
      rw [a]
      rfl
    · show max 0 (PyData.depthAll (ns.map .int)) = 0
      rw [b]
      rfl
theorem shaped_word3 {w : Str} (hw : PyData.canLay0 (.str w) = true) (a : Int) (ns : List Int) : SeqAt.shaped (.tuple [.str w, .int a, .tuple (ns.map .int)]) = true := by
  obtain ⟨x, y⟩ := ints_lay ns
  unfold SeqAt.shaped
  rw [show PyData.canLay0 (.tuple [.str w, .int a, .tuple (ns.map .int)]) = (PyData.canLay0 (.str w) && (true && (PyData.canLayAll0 (ns.map .int) && true))) from rfl, show PyData.depth (.tuple [.str w, .int a, .tuple (ns.map .int)]) = max 0 (max 0 (max (PyData.depthAll (ns.map .int) + 1) 0)) + 1 from rfl, hw, x, y]
  rfl
theorem bar_shaped (b : BarV) : SeqAt.shaped (barD b) = true := by
  cases b with
  | low s F => exact shaped_word3 (by decide +kernel) _ _
  | high s F => exact shaped_word3 (by decide +kernel) _ _
  | fast g =>
    unfold SeqAt.shaped
    rw [show PyData.canLay0 (barD (.fast g)) = (PyData.canLay0 (.str "fast") && (true && true)) from rfl, show PyData.canLay0 (.str "fast") = true by decide +kernel]
    rfl
theorem st_ni {c : Nat} {F : List Nat} (l : Lot c F) : isStD c (.tuple ((F.map fun (i : Nat) => (i : Int)).map .int)) = true := by
  show ((List.map PyData.int (F.map fun (i : Nat) => (i : Int))).all (isPlD c) && risingB (List.map intD (List.map PyData.int (F.map fun (i : Nat) => (i : Int))))) = true
  rw [Bool.and_eq_true]
  constructor
  · refine List.all_eq_true.mpr fun d hd => ?_
    rw [List.map_map] at hd
    obtain ⟨i, hi, rfl⟩ := List.mem_map.mp hd
    have := l.lt i hi
    show (decide ((0 : Int) ≤ (i : Int)) && decide ((i : Int) < (c : Int))) = true
    rw [decide_eq_true (by omega), decide_eq_true (by omega)]
    rfl
  · have e : List.map intD (List.map PyData.int (F.map fun (i : Nat) => (i : Int))) = F.map fun (i : Nat) => (i : Int) := by
      rw [List.map_map, show intD ∘ PyData.int = id from rfl, List.map_id]
    rw [e]
    exact decide_eq_true (List.pairwise_map.mpr (l.up.imp fun {a b} z => by omega))
theorem lotD_ni (F : List Nat) : lotD (.tuple ((F.map fun (i : Nat) => (i : Int)).map .int)) = F := by
  show List.map (fun d => (intD d).toNat) (List.map PyData.int (F.map fun (i : Nat) => (i : Int))) = F
  rw [List.map_map, List.map_map, show ((fun d => (intD d).toNat) ∘ PyData.int) ∘ (fun (i : Nat) => (i : Int)) = id from rfl, List.map_id]
theorem pl_int {c s : Nat} (hs : s < c) : isPlD c (.int (s : Int)) = true := by
  show (decide ((0 : Int) ≤ (s : Int)) && decide ((s : Int) < (c : Int))) = true
  rw [decide_eq_true (by omega), decide_eq_true (by omega)]
  rfl
theorem shows_ok {h t : Int} {ds : List Int} {L M : List Nat} {b : BarV} (o : BarOk ds.length b) : showsD h t ds L M (barD b) = b.ok h t ds L M := by
  cases b with
  | low s F =>
    show (if ("low" : Str) = "low" then lowD h t ds L M _ _ else if ("low" : Str) = "high" then highD h t ds L M (.int (s : Int)) (.tuple ((F.map fun (i : Nat) => (i : Int)).map .int)) else false) = lowSB h t ds s F L M
    rw [if_pos rfl]
    unfold lowD
    rw [pl_int o.1, st_ni o.2, lotD_ni]
    rfl
  | high s F =>
    show (if ("high" : Str) = "low" then lowD h t ds L M (.int (s : Int)) (.tuple ((F.map fun (i : Nat) => (i : Int)).map .int)) else if ("high" : Str) = "high" then highD h t ds L M _ _ else false) = highSB h t ds s F L M
    rw [if_neg (by decide), if_pos rfl]
    unfold highD
    rw [pl_int o.1, st_ni o.2, lotD_ni]
    rfl
  | fast g =>
    show (decide (("fast" : Str) = "fast") && fastD h t ds L M _) = fastSB h t ds g L M
    unfold fastD
    rw [pl_int o, decide_eq_true rfl, show (intD (.int (g : Int))).toNat = g from Int.toNat_natCast g]
    rfl
theorem bars_ok {h t : Int} {ds : List Int} {L : List Nat} (d0 : 0 < ds.length) {kd : Kd} {s : Int} (l : LotS h t ds.length (fun i => ds.getD i 0) (mem L) kd s) : ∀ b ∈ barsOf h t ds L kd s, BarOk ds.length b := by
  have t0 := top_lo' h t ds.length
  have t1 := top_hi' h t d0
  cases kd with
  | low =>
    obtain ⟨N, rfl, hN, _⟩ := l
    intro b hb
    rw [List.mem_singleton.mp hb]
    exact ⟨by omega, fill_lot _ _⟩
  | high =>
    obtain ⟨N, rfl, hN, _⟩ := l
    intro b hb
    rw [List.mem_singleton.mp hb]
    exact ⟨by omega, empt_lot _ _⟩
  | top =>
    intro b hb
    obtain ⟨g, hg, rfl⟩ := List.mem_map.mp hb
    exact List.mem_range.mp (List.mem_filter.mp hg).1
/-- lists of bars -/
def BarsAt (H : Hp) (vs : List V) (bs : List BarV) : Prop := vs.length = bs.length ∧ ∀ (i : Nat) (v : V) (b : BarV), vs[i]? = some v → bs[i]? = some b → BarAt H v b
theorem BarsAt.same {H H' : Hp} {vs : List V} {bs : List BarV} (x : BarsAt H vs bs) (e : Same H H') : BarsAt H' vs bs := ⟨x.1, fun i v b a c => (x.2 i v b a c).same e⟩
theorem BarsAt.one {H : Hp} {v : V} {b : BarV} (x : BarAt H v b) : BarsAt H [v] [b] := ⟨rfl, fun i v' b' a c => by
  cases i with
  | zero =>
    obtain rfl : v = v' := Option.some.inj a
    obtain rfl : b = b' := Option.some.inj c
    exact x
  | succ i => cases a⟩
theorem BarsAt.app {H : Hp} {vs vs' : List V} {bs bs' : List BarV} (x : BarsAt H vs bs) (y : BarsAt H vs' bs') : BarsAt H (vs ++ vs') (bs ++ bs') := ⟨by rw [List.length_append, List.length_append, x.1, y.1], fun i v b a c => by
  by_cases z : i < vs.length
  · rw [List.getElem?_append_left z] at a
    rw [List.getElem?_append_left (by rw [← x.1]; exact z)] at c
    exact x.2 i v b a c
  · rw [List.getElem?_append_right (by omega)] at a
    rw [List.getElem?_append_right (by rw [← x.1]; omega), ← x.1] at c
    exact y.2 _ v b a c⟩
theorem BarsAt.put {H : Hp} {vs : List V} {bs : List BarV} {C : Addr} {us : List V} {o : HO} (x : BarsAt H vs bs) (e : H C = some (.lst us)) : BarsAt (upd H C o) vs bs := ⟨x.1, fun i v b a c => (x.2 i v b a c).put e⟩
def spRound (K : PySem.W.Frag) : Sp := fun vs H Q _ => ∃ (v l : V) (h t : Int) (ds : List Int) (L : List Nat), vs = [v, l] ∧ SeaD K H v h t ds ∧ LotA K H l L ∧ ds.length ≤ 24 ∧ 0 < ds.length ∧ Lot ds.length L ∧
  ∀ (H' : Hp) (p : Addr) (us : List V) (kd : Kd) (s : Int), Same H H' → H p = none → H' p = some (.lst us) → LotS h t ds.length (fun i => ds.getD i 0) (mem L) kd s → BarsAt H' us (barsOf h t ds L kd s) → Q (.ref p) H'
abbrev s_bars_round : Stmt := topS 38
theorem sc_bars_round : FnScope (["sea", "standing", "kind", "step", "goers", "ship"] : List Str) (["sea", "standing"] : List Str) (defScope s_bars_round) := ⟨rfl, rfl, rfl, by decide +kernel, rfl, by decide +kernel, by decide +kernel⟩
theorem b_bars_round (kV doc pm : Value) (an : Option Addr) (cdv ct : Value) (us : List Value) (hl : us.length = (["sea", "standing"] : List Str).length) : bindArgs (PySem.W.fnOf "bars_round" "bars_round" (defArgs s_bars_round) (defBody s_bars_round) (defScope s_bars_round) .none kV doc pm an cdv ct) ⟨us, []⟩ = pure ((["sea", "standing"] : List Str).zip us) :=
  match us, hl with | [_, _], _ => rfl
section
variable {P : Program} {w : World} {K : PySem.W.Frag} {mg : Str → Option Value} {base : Heap}
theorem ok_round {k : Nat} (D : Df K mg "bars_round" s_bars_round) (T : Bt mg) (C : Cn mg) (O_lot_of : Ok P w K mg base k "lot_of" s_lot_of ["fleet"] (spLotOf K)) (O_fleet_of : Ok P w K mg base k "fleet_of" s_fleet_of ["sea", "standing"] (spFleetOf K)) (O_filled : Ok P w K mg base k "filled" s_filled ["sea", "standing", "step"] (spFillB K)) (O_emptied : Ok P w K mg base k "emptied" s_emptied ["sea", "standing", "step"] (spEmptB K)) (O_goers_at : Ok P w K mg base k "goers_at" s_goers_at ["sea", "step"] (spGoers K)) :
    Ok P w K mg base (k + 1) "bars_round" s_bars_round ["sea", "standing"] (spRound K) := by
  obtain ⟨_, g_LOW⟩ := C.low
  obtain ⟨_, g_HIGH⟩ := C.high
  refine D.ok sc_bars_round b_bars_round (fun vs H Q E h => ?_) (fun f cdv A outer s H vs Q E hr h => ?_)
  · obtain ⟨v, l, h, t, ds, L, rfl, _⟩ := h
    rfl
  · obtain ⟨v, l, h, t, ds, L, rfl, hv, hl, d24, d0, hL, q⟩ := h
    refine ⟨_, (pss_cons (ps_asg (pe_fn O_lot_of (hr.mono (by omega)) (pa_cons (pe_fn O_fleet_of (hr.mono (by omega)) (pa_cons (pv 0) (pa_cons (pv 1) pa_nil))) pa_nil)) (pg_seq rfl (pgs_cons (pg_name (i := 2) sc_bars_round.nd rfl (.inl rfl)) (pgs_cons (pg_name (i := 3) sc_bars_round.nd rfl (.inl rfl)) pgs_nil))))
      (pss_cons (ps_if (pt_cmpR op_eq (pv 2) (pe_glob (v := .str "low") (by rfl) g_LOW ⟨_, rfl⟩) (nomark _))
        (pss_one (ps_ret (pe_lst (pa_cons (pe_tup (pa_cons pe_str (pa_cons (pv 3) (pa_cons (pe_fn O_filled (hr.mono (by omega)) (pa_cons (pv 0) (pa_cons (pv 1) (pa_cons (pv 3) pa_nil)))) pa_nil)))) pa_nil))))
        pss_nil)
      (pss_cons (ps_if (pt_cmpR op_eq (pv 2) (pe_glob (v := .str "high") (by rfl) g_HIGH ⟨_, rfl⟩) (nomark _))
        (pss_one (ps_ret (pe_lst (pa_cons (pe_tup (pa_cons pe_str (pa_cons (pv 3) (pa_cons (pe_fn O_emptied (hr.mono (by omega)) (pa_cons (pv 0) (pa_cons (pv 1) (pa_cons (pv 3) pa_nil)))) pa_nil)))) pa_nil))))
        pss_nil)
      (pss_cons (ps_set (i := 4) sc_bars_round.nd rfl (.inr rfl) (pe_fn O_goers_at (hr.mono (by omega)) (pa_cons (pv 0) (pa_cons (pv 3) pa_nil))))
      (pss_one (ps_ret (pe_lc (own := [("ship", 5)]) (g := (gName 5)) (by rfl) sc_bars_round.nd (pi_range1 (by rfl) T.range_ (pa_cons (pe_callB call_len_seq (by rfl) T.len_ PySem.boot_len (pa_cons (pe_ix ix_lt (pv 0) pe_int (fun _ _ => rfl)) pa_nil)) pa_nil)) (blkOk_by (own := [("ship", 5)]) (N := (["sea", "standing", "kind", "step", "goers", "ship"] : List Str)) (sc := defScope s_bars_round) (by decide +kernel)) (fun _ _ _ _ _ => (pg_name (i := 5) sc_bars_round.nd rfl (.inl rfl))) (fun _ _ _ _ _ => (pts_one (pt_cmpR (op_notInK K) (pv 5) (pv 4) (by rfl)))) (fun _ _ _ _ _ => (pe_tup (pa_cons pe_str (pa_cons (pv 5) pa_nil))))))))))), ?_⟩
    refine ⟨_, rfl, _, rfl, v, l, h, t, ds, L, rfl, hv, hl, by omega, hL, fun H1 z ss s1 hz l1 r => ⟨z, h, t, ss, rfl, hz, l1, fun H2 p kd st s2 np hp lf => ?_⟩⟩
    have s02 := s1.trans s2
    have ls := lf.ships r d0
    replace hv := hv.same s02
    replace hl := hl.same s02
    refine ⟨p, _, rfl, SqA.t hp, rfl, _, _, rfl, _, _, rfl, rfl, ?_⟩
    have t1 := top_hi' h t d0
    have t0 := top_lo' h t ds.length
    refine ⟨_, rfl, rfl, _, rfl, ?_⟩
    cases kd with
    | low =>
      rw [show decide (V.str Kd.low.str = V.str "low") = true by decide +kernel]
      obtain ⟨N, e, hN, _⟩ := id ls
      refine iteT ⟨_, rfl, _, rfl, _, rfl, _, rfl, v, l, h, t, _, ds, L, rfl, hv.a, hl, d24, hL, fun H3 pf s3 npf hpf => ?_⟩
      refine ⟨(by show 3 ≤ sizeLine; decide), fun tp ntp => ?_⟩
      have s4 : Same H3 (upd H3 tp (.tup [.str "low", .int st, .ref pf])) := same_new ntp
      have e4 : upd H3 tp (.tup [.str "low", .int st, .ref pf]) tp = some (.tup [.str "low", .int st, .ref pf]) := upd_same
      generalize upd H3 tp (.tup [.str "low", .int st, .ref pf]) = H4 at s4 e4
      refine ⟨(by show 1 ≤ sizeLine; decide), fun lp nlp => ?_⟩
      have s5 := s02.trans (s3.trans s4)
      have en : ((st.toNat : Nat) : Int) = st := by omega
      refine q _ lp _ .low st (s5.trans (same_new nlp)) (s5.free nlp) upd_same ls (BarsAt.one ?_)
      have s6 : Same H4 (upd H4 lp (.lst [.ref tp])) := same_new nlp
      exact ⟨tp, pf, rfl, by rw [en]; exact s6 _ _ e4, s6 _ _ (s4 _ _ hpf)⟩
    | high =>
      rw [show decide (V.str Kd.high.str = V.str "low") = false by decide +kernel]
      refine iteF ⟨_, rfl, rfl, _, rfl, ?_⟩
      rw [show decide (V.str Kd.high.str = V.str "high") = true by decide +kernel]
      obtain ⟨N, e, hN, _⟩ := id ls
      refine iteT ⟨_, rfl, _, rfl, _, rfl, _, rfl, v, l, h, t, _, ds, L, rfl, hv.a, hl, d24, hL, fun H3 pf s3 npf hpf => ?_⟩
      refine ⟨(by show 3 ≤ sizeLine; decide), fun tp ntp => ?_⟩
      have s4 : Same H3 (upd H3 tp (.tup [.str "high", .int st, .ref pf])) := same_new ntp
      have e4 : upd H3 tp (.tup [.str "high", .int st, .ref pf]) tp = some (.tup [.str "high", .int st, .ref pf]) := upd_same
      generalize upd H3 tp (.tup [.str "high", .int st, .ref pf]) = H4 at s4 e4
      refine ⟨(by show 1 ≤ sizeLine; decide), fun lp nlp => ?_⟩
      have s5 := s02.trans (s3.trans s4)
      have en : ((st.toNat : Nat) : Int) = st := by omega
      refine q _ lp _ .high st (s5.trans (same_new nlp)) (s5.free nlp) upd_same ls (BarsAt.one ?_)
      have s6 : Same H4 (upd H4 lp (.lst [.ref tp])) := same_new nlp
      exact ⟨tp, pf, rfl, by rw [en]; exact s6 _ _ e4, s6 _ _ (s4 _ _ hpf)⟩
    | top =>
      rw [show decide (V.str Kd.top.str = V.str "low") = false by decide +kernel]
      refine iteF ⟨_, rfl, rfl, _, rfl, ?_⟩
      rw [show decide (V.str Kd.top.str = V.str "high") = false by decide +kernel]
      refine iteF ?_
      refine ⟨_, rfl, _, rfl, v, h, t, st, ds, rfl, hv.a, by omega, fun H3 g s3 ng hg => ?_⟩
      rw [← ni_ints] at hg
      obtain ⟨pv, pq, rfl, hp', hq'⟩ := hv.same s3
      refine ⟨_, rfl, pv, _, 2, .ref pq, rfl, rfl, hp', rfl, pq, _, rfl, .inr hq', ((ds.length : Nat) : Int), by rw [List.length_map], by omega, by omega, fun C nC => ?_⟩
      refine lc_range (fun i H' => Same H3 H' ∧ ∃ us, H' C = some (.lst us) ∧ us.length ≤ i ∧ BarsAt H' us (((List.range i).filter fun g => !goB h t ds st g).map .fast)) ⟨same_new nC, [], upd_same, Nat.le_refl _, rfl, fun i v b a => by cases a⟩ ?_ ?_
      · rintro i Ha hi ⟨sa, us, hC, lu, ba⟩
        rw [Int.toNat_natCast] at hi
        have i0 : (0 : Int) + (i : Int) = ((i : Nat) : Int) := Int.zero_add _
        rw [i0]
        refine ⟨rfl, _, rfl, _, rfl, g, _, rfl, .inl (SqL.of (sa _ _ hg)), rfl, ni_flat _, _, rfl, ?_⟩
        rw [in_ni, List.range_succ, List.filter_append, List.map_append]
        have em : decide (i ∈ gs (mk h t ds.length st) ds ds.length) = goB h t ds st i := by
          rw [Bool.eq_iff_iff, decide_eq_true_eq, gs_mem hi]
          unfold goB
          rw [decide_eq_true_eq]
        rw [em]
        cases c : goB h t ds st i with
        | true =>
          rw [List.filter_cons_of_neg (by simp [c])]
          refine ⟨sa, us, hC, by omega, ?_⟩
          have := ba
          simpa using this
        | false =>
          rw [List.filter_cons_of_pos (by simp [c])]
          refine ⟨_, rfl, (by show 2 ≤ sizeLine; decide), fun tp ntp => ?_⟩
          have nt : C ≠ tp := ne_of_none hC ntp
          have s4 : Same Ha (upd Ha tp (.tup [.str "fast", .int (i : Int)])) := same_new ntp
          refine ⟨us, by rw [upd_ne nt]; exact hC, small1000 (by omega), same_over (sa.trans s4) nC, us ++ [.ref tp], upd_same, by rw [List.length_append]; exact Nat.succ_le_succ lu, ?_⟩
          have hC4 : upd Ha tp (.tup [.str "fast", .int (i : Int)]) C = some (.lst us) := by rw [upd_ne nt]; exact hC
          exact ((ba.same s4).put hC4).app (BarsAt.one ⟨tp, rfl, by rw [upd_ne (Ne.symm nt)]; exact upd_same⟩)
      · rintro Ha ⟨sa, us, hC, lu, ba⟩
        rw [Int.toNat_natCast] at ba
        exact q Ha C us .top st (s02.trans (s3.trans sa)) ((s02.trans s3).free nC) hC ls ba
end
end Sh

namespace Sh
open PySem PySem.Spec PyProof.Rows L2
/-- the bar that is told: the first one shown of both's -/
def IsFirst (h t : Int) (ds : List Int) (L M : List Nat) (b : BarV) : Prop := ∃ kd s kd' s', LotS h t ds.length (fun i => ds.getD i 0) (mem L) kd s ∧ LotS h t ds.length (fun i => ds.getD i 0) (mem M) kd' s' ∧ ((barsOf h t ds L kd s ++ barsOf h t ds M kd' s').filter fun b => b.ok h t ds L M).head? = some b
theorem IsFirst.uniq {h t : Int} {ds : List Int} {L M : List Nat} {b b' : BarV} (d0 : 0 < ds.length) (x : IsFirst h t ds L M b) (y : IsFirst h t ds L M b') : b = b' := by
  obtain ⟨kd, s, kd', s', l, l', e⟩ := x
  obtain ⟨kd1, s1, kd1', s1', m, m', e'⟩ := y
  obtain ⟨rfl, rfl⟩ := LotS.uniq d0 l m
  obtain ⟨rfl, rfl⟩ := LotS.uniq d0 l' m'
  rw [e] at e'
  exact Option.some.inj e'
theorem IsFirst.ok {h t : Int} {ds : List Int} {L M : List Nat} {b : BarV} (d0 : 0 < ds.length) (x : IsFirst h t ds L M b) : b.ok h t ds L M = true ∧ BarOk ds.length b := by
  obtain ⟨kd, s, kd', s', l, l', e⟩ := x
  have hb := List.mem_of_mem_head? e
  rw [List.mem_filter] at hb
  refine ⟨hb.2, ?_⟩
  rcases List.mem_append.mp hb.1 with z | z
  · exact bars_ok d0 l b z
  · exact bars_ok d0 l' b z
def spBarOf (K : PySem.W.Frag) : Sp := fun vs H Q _ => ∃ (v l m : V) (h t : Int) (ds : List Int) (L M : List Nat), vs = [v, l, m] ∧ SeaD K H v h t ds ∧ LotA K H l L ∧ LotA K H m M ∧ ds.length ≤ 24 ∧ 0 < ds.length ∧ Lot ds.length L ∧ Lot ds.length M ∧
  (Rl h t ds L M → ∀ H' : Hp, Same H H' → Q .non H') ∧ (¬ Rl h t ds L M → ∀ (H' : Hp) (u : V) (b : BarV), Same H H' → BarAt H' u b → IsFirst h t ds L M b → Q u H')
abbrev s_bar_of : Stmt := topS 39
theorem sc_bar_of : FnScope (["sea", "one", "other", "bars", "shown", "bar"] : List Str) (["sea", "one", "other"] : List Str) (defScope s_bar_of) := ⟨rfl, rfl, rfl, by decide +kernel, rfl, by decide +kernel, by decide +kernel⟩
theorem b_bar_of (kV doc pm : Value) (an : Option Addr) (cdv ct : Value) (us : List Value) (hl : us.length = (["sea", "one", "other"] : List Str).length) : bindArgs (PySem.W.fnOf "bar_of" "bar_of" (defArgs s_bar_of) (defBody s_bar_of) (defScope s_bar_of) .none kV doc pm an cdv ct) ⟨us, []⟩ = pure ((["sea", "one", "other"] : List Str).zip us) :=
  match us, hl with | [_, _, _], _ => rfl
section
variable {P : Program} {w : World} {K : PySem.W.Frag} {mg : Str → Option Value} {base : Heap}
theorem ok_bar_of {k : Nat} (D : Df K mg "bar_of" s_bar_of) (T : Bt mg) (O_comes_to : Ok P w K mg base k "comes_to" s_comes_to ["sea", "one", "other"] (spComes K)) (O_bars_round : Ok P w K mg base k "bars_round" s_bars_round ["sea", "standing"] (spRound K)) (O_shows_bar : Ok P w K mg base k "shows_bar" s_shows_bar ["sea", "one", "other", "thing"] (spShows K)) :
    Ok P w K mg base (k + 1) "bar_of" s_bar_of ["sea", "one", "other"] (spBarOf K) := by
  refine D.ok sc_bar_of b_bar_of (fun vs H Q E h => ?_) (fun f cdv A outer s H vs Q E hr h => ?_)
  · obtain ⟨v, l, m, h, t, ds, L, M, rfl, _⟩ := h
    rfl
  · obtain ⟨v, l, m, h, t, ds, L, M, rfl, hv, hl, hm, d24, d0, hL, hM, q1, q2⟩ := h
    refine ⟨_, (pss_cons (ps_if (pt_val (pe_fn O_comes_to (hr.mono (by omega)) (pa_cons (pv 0) (pa_cons (pv 1) (pa_cons (pv 2) pa_nil)))))
        (pss_one (ps_ret pe_non))
        pss_nil)
      (pss_cons (ps_set (i := 3) sc_bar_of.nd rfl (.inl rfl) (pe_op op_cat (pe_fn O_bars_round (hr.mono (by omega)) (pa_cons (pv 0) (pa_cons (pv 1) pa_nil))) (pe_fn O_bars_round (hr.mono (by omega)) (pa_cons (pv 0) (pa_cons (pv 2) pa_nil)))))
      (pss_cons (ps_setLc (i := 4) (own := [("bar", 5)]) (g := (gName 5)) (by rfl) sc_bar_of.nd rfl rfl (sw_true rfl rfl rfl (by decide +kernel)) (pi_seq (pv 3)) (blkOk_by (own := [("bar", 5)]) (N := (["sea", "one", "other", "bars", "shown", "bar"] : List Str)) (sc := defScope s_bar_of) (by decide +kernel)) (fun _ _ _ _ _ => (pg_name (i := 5) sc_bar_of.nd rfl (.inl rfl))) (fun _ _ _ _ _ => (pts_one (pt_val (pe_fn O_shows_bar (hr.mono (by omega)) (pa_cons (pv 0) (pa_cons (pv 1) (pa_cons (pv 2) (pa_cons (pv 5) pa_nil)))))))) (fun _ _ _ _ _ => (pv 5)))
      (pss_one (ps_ret (pe_ix ix_lt (pv 4) pe_int (fun _ _ => rfl))))))), ?_⟩
    refine ⟨_, rfl, _, rfl, _, rfl, v, l, m, h, t, ds, L, M, rfl, hv, hl, hm, by omega, d0, hL, hM, fun H1 b s1 eb => ⟨_, rfl, ?_⟩⟩
    cases b with
    | true => exact iteT (q1 (eb.mp rfl) H1 s1)
    | false =>
    have no : ¬ Rl h t ds L M := fun z => by cases eb.mpr z
    refine iteF ?_
    refine ⟨_, rfl, _, rfl, v, l, h, t, ds, L, rfl, hv.same s1, hl.same s1, d24, d0, hL, fun H2 p1 us1 kd st s2 np1 hp1 l1 b1 => ?_⟩
    have s12 := s1.trans s2
    refine ⟨_, rfl, _, rfl, v, m, h, t, ds, M, rfl, hv.same s12, hm.same s12, d24, d0, hM, fun H3 p2 us2 kd' st' s3 np2 hp2 l2 b2 => ?_⟩
    have s13 := s12.trans s3
    have ba := (b1.same s3).app b2
    have bk : ∀ b ∈ barsOf h t ds L kd st ++ barsOf h t ds M kd' st', BarOk ds.length b := fun b hb => by
      rcases List.mem_append.mp hb with z | z
      · exact bars_ok d0 l1 b z
      · exact bars_ok d0 l2 b z
    have ex := bars_ex d0 hL hM l1 l2 no
    have fi : ∀ b, ((barsOf h t ds L kd st ++ barsOf h t ds M kd' st').filter fun b => b.ok h t ds L M).head? = some b → IsFirst h t ds L M b := fun b e => ⟨kd, st, kd', st', l1, l2, e⟩
    have len1 : us1.length ≤ 24 := by
      rw [b1.1]
      cases kd with
      | low => show 1 ≤ 24; decide
      | high => show 1 ≤ 24; decide
      | top =>
        show (((List.range ds.length).filter fun g => !goB h t ds st g).map BarV.fast).length ≤ 24
        rw [List.length_map]
        have := List.length_filter_le (fun g => !goB h t ds st g) (List.range ds.length)
        rw [List.length_range] at this
        omega
    have len2 : us2.length ≤ 24 := by
      rw [b2.1]
      cases kd' with
      | low => show 1 ≤ 24; decide
      | high => show 1 ≤ 24; decide
      | top =>
        show (((List.range ds.length).filter fun g => !goB h t ds st' g).map BarV.fast).length ≤ 24
        rw [List.length_map]
        have := List.length_filter_le (fun g => !goB h t ds st' g) (List.range ds.length)
        rw [List.length_range] at this
        omega
    refine ⟨p1, p2, _, _, rfl, rfl, s3 _ _ hp1, hp2, by rw [sizeLine_eq]; omega, fun p3 np3 => ?_⟩
    have s4 : Same H3 (upd H3 p3 (.lst (us1 ++ us2))) := same_new np3
    have e4 : upd H3 p3 (.lst (us1 ++ us2)) p3 = some (.lst (us1 ++ us2)) := upd_same
    generalize upd H3 p3 (.lst (us1 ++ us2)) = H4 at s4 e4
    replace ba := ba.same s4
    have s14 := s13.trans s4
    generalize barsOf h t ds L kd st ++ barsOf h t ds M kd' st' = bs at ba bk ex fi
    have lu : (us1 ++ us2).length ≤ 48 := by rw [List.length_append]; omega
    generalize us1 ++ us2 = us at ba lu e4
    refine ⟨_, rfl, p3, us, H4, rfl, SqA.l e4, Kp.refl _ _, fun J hJ C nC => ?_⟩
    obtain ⟨G, g, W⟩ := hJ.walk
    refine lc_it W (fun i H' => Same H4 H' ∧ ∃ xs, H' C = some (.lst xs) ∧ xs.length ≤ i ∧ BarsAt H' xs ((bs.take i).filter fun b => b.ok h t ds L M)) ⟨same_new nC, [], upd_same, Nat.le_refl _, rfl, fun i v b a => by cases a⟩ (fun i H' _ z => g H' (.ofS z.1)) ?_ ?_
    · rintro i x Ha Hb hi ⟨sa, xs, hC, lx, bx⟩ ⟨rfl, gx⟩
      have hib : i < bs.length := by rw [← ba.1]; exact hi
      have gb : bs[i]? = some bs[i] := List.getElem?_eq_getElem hib
      have bx0 := (ba.2 i x bs[i] gx gb).same sa
      have ob := bk bs[i] (List.getElem_mem hib)
      have s1a := s14.trans sa
      refine ⟨rfl, _, rfl, _, rfl, _, rfl, _, rfl, 3, v, l, m, x, h, t, ds, L, M, barD bs[i], rfl, (hv.same s1a).a, hl.same s1a, hm.same s1a, d24, d0, hL, hM, bx0.dp, bar_lv ob (by omega), bar_shaped _, fun Hc sc => ?_⟩
      rw [shows_ok ob]
      refine ⟨_, rfl, ?_⟩
      have hC' := sc _ _ hC
      have tk : bs.take (i + 1) = bs.take i ++ [bs[i]] := by rw [List.take_add_one, gb]; rfl
      cases c : bs[i].ok h t ds L M with
      | true =>
        refine iteT ⟨_, rfl, xs, hC', small1000 (by omega), same_over (sa.trans sc) nC, xs ++ [x], upd_same, by rw [List.length_append]; exact Nat.succ_le_succ lx, ?_⟩
        rw [tk, List.filter_append, List.filter_cons_of_pos (by exact c)]
        exact ((bx.same sc).put hC').app (BarsAt.one ((bx0.same sc).put hC'))
      | false =>
        refine iteF ⟨sa.trans sc, xs, hC', by omega, ?_⟩
        rw [tk, List.filter_append, List.filter_cons_of_neg (by rw [c]; exact Bool.false_ne_true), List.filter_nil, List.append_nil]
        exact bx.same sc
    rintro H5 ⟨s5, xs, hC, lx, bx⟩
    rw [List.take_of_length_le (by rw [← ba.1]; exact Nat.le_refl _)] at bx
    obtain ⟨b, hb, hok⟩ := ex
    cases eF : bs.filter fun b => b.ok h t ds L M with
    | nil =>
      have : b ∈ bs.filter fun b => b.ok h t ds L M := List.mem_filter.mpr ⟨hb, hok⟩
      rw [eF] at this
      cases this
    | cons b0 rest =>
      rw [eF] at bx
      cases xs with
      | nil => exact absurd bx.1 (by simp)
      | cons x xs =>
        have b0at := bx.2 0 x b0 rfl rfl
        refine ⟨_, rfl, C, _, 0, x, rfl, rfl, SqA.l hC, show atI (x :: xs) ((0 : Nat) : Int) = some x from atI_nat rfl, ?_⟩
        exact q2 no H5 x b0 (s14.trans s5) b0at (fi b0 (by rw [eF]; rfl))
end
end Sh

namespace Th
/-! ### bars are kept by crossings -/
section
variable {k N : Nat} {G : Nat → Nat → Bool} {S U W F : Nat → Bool}
theorem low_keep (fs : cnt k F = N) (gF : ∀ i, i < k → G N i = true → F i = true) (mono : ∀ n i, n < N → i < k → G n i = true → G N i = true) (st : Step k G S W) (p : cnt k S ≤ N ∧ ∀ i, i < k → (S i || G N i) = F i) : cnt k W ≤ N ∧ ∀ i, i < k → (W i || G N i) = F i := by
  obtain ⟨p1, p2⟩ := p
  cases st with
  | @up i hi hs hg =>
    have u := cnt_flip_up hi hs
    have lt : cnt k S < N := Nat.lt_of_not_le fun z => by
      have e : cnt k S = N := by omega
      rw [e] at hg
      have fi := gF i hi hg
      have := cnt_eq (k := k) (S := S) (U := F) (fun j hj sj => by rw [← p2 j hj, sj]; rfl) (by omega) i hi fi
      rw [hs] at this
      cases this
    have gi := mono _ i lt hi hg
    refine ⟨by omega, fun j hj => ?_⟩
    by_cases z : j = i
    · subst z
      rw [← p2 j hj, gi, Bool.or_true, Bool.or_true]
    · rw [flip_ne _ z]
      exact p2 j hj
  | @dn i hi hs hg =>
    have u := cnt_flip_dn hi hs
    have gi := mono _ i (by omega) hi hg
    refine ⟨by omega, fun j hj => ?_⟩
    by_cases z : j = i
    · subst z
      rw [← p2 j hj, gi, Bool.or_true, Bool.or_true]
    · rw [flip_ne _ z]
      exact p2 j hj
theorem high_keep (fs : cnt k F = N + 1) (gF : ∀ i, i < k → F i = true → G N i = false) (mono : ∀ n i, N < n → n < k → i < k → G n i = true → G N i = true) (st : Step k G S W) (p : N < cnt k S ∧ ∀ i, i < k → (S i && !G N i) = F i) : N < cnt k W ∧ ∀ i, i < k → (W i && !G N i) = F i := by
  obtain ⟨p1, p2⟩ := p
  have ck := cnt_le k S
  cases st with
  | @up i hi hs hg =>
    have u := cnt_flip_up hi hs
    have ck2 := cnt_le k (flip S i)
    have gi := mono _ i p1 (by omega) hi hg
    refine ⟨by omega, fun j hj => ?_⟩
    by_cases z : j = i
    · subst z
      rw [← p2 j hj, gi, Bool.not_true, Bool.and_false, Bool.and_false]
    · rw [flip_ne _ z]
      exact p2 j hj
  | @dn i hi hs hg =>
    have u := cnt_flip_dn hi hs
    have lt : N < cnt k S - 1 := Nat.lt_of_not_le fun z => by
      have e : cnt k S - 1 = N := by omega
      rw [e] at hg
      have := cnt_eq (k := k) (S := F) (U := S) (fun j hj fj => by
        have := p2 j hj
        rw [fj, Bool.and_eq_true] at this
        exact this.1) (by omega) i hi hs
      have := gF i hi this
      rw [hg] at this
      cases this
    have gi := mono _ i lt (by omega) hi hg
    refine ⟨by omega, fun j hj => ?_⟩
    by_cases z : j = i
    · subst z
      rw [← p2 j hj, gi, Bool.not_true, Bool.and_false, Bool.and_false]
    · rw [flip_ne _ z]
      exact p2 j hj
theorem keep_reach {P : (Nat → Bool) → Prop} (h : ∀ S W, Step k G S W → P S → P W) (r : Reach k G S U) (p : P S) : P U := by
  induction r with
  | refl => exact p
  | step _ st ih => exact h _ _ st ih
end
end Th
namespace Sh
open PySem PySem.Spec PyProof.Rows L2
section
variable {h t : Int} {ds : List Int} {L M L' M' : List Nat}
/-- on which side of the bar -/
def BarV.side (h t : Int) (ds : List Int) (L : List Nat) : BarV → Bool
  | .low s F => underB h t ds s F L
  | .high s F => aboveB h t ds s F L
  | .fast g => mem L g
def BarV.isBar (h t : Int) (ds : List Int) : BarV → Bool
  | .low s F => (List.range ds.length).all (fun e => !(decide ((e : Int) < (s : Int)) && decide (mk h t ds.length (e : Int) > mk h t ds.length (s : Int)))) && (decide ((F.length : Int) = (s : Int)) && decide (fillL h t ds F s = F))
  | .high s F => (List.range ds.length).all (fun e => !(decide ((s : Int) < (e : Int)) && decide (mk h t ds.length (e : Int) > mk h t ds.length (s : Int)))) && (decide ((F.length : Int) = (s : Int) + 1) && decide (emptL h t ds F s = F))
  | .fast g => decide (ds.getD g 0 > mk h t ds.length (topI h t ds.length))
theorem ok_parts (b : BarV) : b.ok h t ds L M = (b.isBar h t ds && (b.side h t ds L != b.side h t ds M)) := by
  cases b with
  | low s F =>
    show lowSB h t ds s F L M = _
    unfold lowSB BarV.isBar BarV.side
    simp only [Bool.and_assoc]
  | high s F =>
    show highSB h t ds s F L M = _
    unfold highSB BarV.isBar BarV.side
    simp only [Bool.and_assoc]
  | fast g => rfl
theorem under_fun {s : Nat} {F : List Nat} (hL : Lot ds.length L) (hF : Lot ds.length F) : underB h t ds (s : Int) F L = true ↔ Th.cnt ds.length (mem L) ≤ s ∧ ∀ i, i < ds.length → (mem L i || Gof h t ds s i) = mem F i := by
  unfold underB
  rw [Bool.and_eq_true, decide_eq_true_eq, decide_eq_true_eq, cnt_mem hL]
  refine and_congr (by omega) ⟨fun e i hi => ?_, fun e => ?_⟩
  · rw [← e, fill_mem hi]
    rfl
  · refine lot_ext (fill_lot _ _) hF fun i hi => ?_
    rw [fill_mem hi]
    exact e i hi
theorem above_fun {s : Nat} {F : List Nat} (hL : Lot ds.length L) (hF : Lot ds.length F) : aboveB h t ds (s : Int) F L = true ↔ s < Th.cnt ds.length (mem L) ∧ ∀ i, i < ds.length → (mem L i && !Gof h t ds s i) = mem F i := by
  unfold aboveB
  rw [Bool.and_eq_true, decide_eq_true_eq, decide_eq_true_eq, cnt_mem hL]
  refine and_congr (by omega) ⟨fun e i hi => ?_, fun e => ?_⟩
  · rw [← e, empt_mem hi]
    rfl
  · refine lot_ext (empt_lot _ _) hF fun i hi => ?_
    rw [empt_mem hi]
    exact e i hi
theorem side_one {b : BarV} (bo : BarOk ds.length b) (d0 : 0 < ds.length) (v : b.isBar h t ds = true) (hL : Lot ds.length L) (hM : Lot ds.length M) (r : Rl h t ds L M) (e : b.side h t ds L = true) : b.side h t ds M = true := by
  cases b with
  | low s F =>
    obtain ⟨sk, lF⟩ := bo
    unfold BarV.isBar at v
    rw [Bool.and_eq_true, Bool.and_eq_true, decide_eq_true_eq, decide_eq_true_eq, List.all_eq_true] at v
    obtain ⟨v1, v2, v3⟩ := v
    refine (under_fun hM lF).mpr (Th.keep_reach (P := fun S => Th.cnt ds.length S ≤ s ∧ ∀ i, i < ds.length → (S i || Gof h t ds s i) = mem F i) (fun S W st p => Th.low_keep (by rw [cnt_mem lF]; omega) (fun i hi g => ?_) (fun n i hn hi g => ?_) st p) r ((under_fun hL lF).mp e))
    · have := fill_mem (h := h) (t := t) (X := F) (s := (s : Int)) hi
      rw [v3] at this
      rw [this, show goB h t ds (s : Int) i = true from g, Bool.or_true]
    · have := v1 n (List.mem_range.mpr (by omega))
      rw [Bool.not_eq_true', Bool.and_eq_false_iff, decide_eq_false_iff_not, decide_eq_false_iff_not] at this
      unfold Gof at g ⊢
      rw [decide_eq_true_eq] at g ⊢
      omega
  | high s F =>
    obtain ⟨sk, lF⟩ := bo
    unfold BarV.isBar at v
    rw [Bool.and_eq_true, Bool.and_eq_true, decide_eq_true_eq, decide_eq_true_eq, List.all_eq_true] at v
    obtain ⟨v1, v2, v3⟩ := v
    refine (above_fun hM lF).mpr (Th.keep_reach (P := fun S => s < Th.cnt ds.length S ∧ ∀ i, i < ds.length → (S i && !Gof h t ds s i) = mem F i) (fun S W st p => Th.high_keep (by rw [cnt_mem lF]; omega) (fun i hi g => ?_) (fun n i hn hk hi g => ?_) st p) r ((above_fun hL lF).mp e))
    · have := empt_mem (h := h) (t := t) (X := F) (s := (s : Int)) hi
      rw [v3, g, Bool.true_and] at this
      have e2 : goB h t ds (s : Int) i = Gof h t ds s i := rfl
      rw [e2] at this
      revert this
      cases Gof h t ds s i <;> simp
    · have := v1 n (List.mem_range.mpr hk)
      rw [Bool.not_eq_true', Bool.and_eq_false_iff, decide_eq_false_iff_not, decide_eq_false_iff_not] at this
      unfold Gof at g ⊢
      rw [decide_eq_true_eq] at g ⊢
      omega
  | fast g =>
    have v' : ds.getD g 0 > mk h t ds.length (topI h t ds.length) := of_decide_eq_true v
    refine Th.keep_reach (P := fun S => S g = true) (fun S W st p => ?_) r e
    have no : ∀ n, n < ds.length → Gof h t ds n g = true → False := fun n hn q => by
      unfold Gof at q
      rw [decide_eq_true_eq] at q
      have := top_max h t (k := ds.length) (i := n) hn
      omega
    have ck := Th.cnt_le ds.length S
    cases st with
    | @up i hi hs hg =>
      have u := Th.cnt_flip_up hi hs
      have ck2 := Th.cnt_le ds.length (Th.flip S i)
      by_cases z : g = i
      · subst z
        exact (no _ (by omega) hg).elim
      · rw [Th.flip_ne _ z]
        exact p
    | @dn i hi hs hg =>
      have u := Th.cnt_flip_dn hi hs
      by_cases z : g = i
      · subst z
        exact (no _ (by omega) hg).elim
      · rw [Th.flip_ne _ z]
        exact p
theorem side_same {b : BarV} (bo : BarOk ds.length b) (d0 : 0 < ds.length) (v : b.isBar h t ds = true) (hL : Lot ds.length L) (hM : Lot ds.length M) (r : Rl h t ds L M) : b.side h t ds L = b.side h t ds M := by
  rw [Bool.eq_iff_iff]
  exact ⟨side_one bo d0 v hL hM r, side_one bo d0 v hM hL r.symm⟩
/-- no bar within a lot -/
theorem no_bar {b : BarV} (bo : BarOk ds.length b) (d0 : 0 < ds.length) (hL : Lot ds.length L) (hM : Lot ds.length M) (r : Rl h t ds L M) : b.ok h t ds L M = false := by
  rw [ok_parts]
  cases v : b.isBar h t ds with
  | false => rfl
  | true =>
    rw [side_same bo d0 v hL hM r]
    cases b.side h t ds M <;> rfl
/-- a bar is one behind crossings, too -/
theorem still_bar {b : BarV} (bo : BarOk ds.length b) (d0 : 0 < ds.length) (hL : Lot ds.length L) (hM : Lot ds.length M) (hL' : Lot ds.length L') (hM' : Lot ds.length M') (r : Rl h t ds L L') (r' : Rl h t ds M M') (e : b.ok h t ds L M = true) : b.ok h t ds L' M' = true := by
  rw [ok_parts, Bool.and_eq_true] at e ⊢
  rw [← side_same bo d0 e.1 hL hL' r, ← side_same bo d0 e.1 hM hM' r']
  exact e
end
end Sh

namespace Sh
open PySem PySem.Spec PyProof.Rows L2
/-! ### k65: a bar parts two lots -/
/-- a list of standings, all of one lot -/
def LotsAt (H : Hp) (p : Addr) (h t : Int) (ds : List Int) (L : List Nat) (Ls : List (Addr × List Nat)) : Prop := H p = some (.lst (Ls.map fun q => V.ref q.1)) ∧ ∀ q ∈ Ls, H q.1 = some (.tup (ni q.2)) ∧ Lot ds.length q.2 ∧ Rl h t ds L q.2
theorem LotsAt.same {H H' : Hp} {p : Addr} {h t : Int} {ds : List Int} {L : List Nat} {Ls : List (Addr × List Nat)} (x : LotsAt H p h t ds L Ls) (s : Same H H') : LotsAt H' p h t ds L Ls := ⟨s _ _ x.1, fun q hq => ⟨s _ _ (x.2 q hq).1, (x.2 q hq).2⟩⟩
theorem LotsAt.but {H H' : Hp} {p b : Addr} {n : Nat} {h t : Int} {ds : List Int} {L : List Nat} {Ls : List (Addr × List Nat)} (x : LotsAt H p h t ds L Ls) (bx : BoxAt H b n) (pb : p ≠ b) (u : But b H H') : LotsAt H' p h t ds L Ls := ⟨u _ _ pb x.1, fun q hq => by
  obtain ⟨bs, hb, _⟩ := bx
  exact ⟨u _ _ (ne_of (x.2 q hq).1 hb (by intro z; cases z)) (x.2 q hq).1, (x.2 q hq).2⟩⟩
theorem ok_sym {h t : Int} {ds : List Int} {L M : List Nat} (b : BarV) : b.ok h t ds L M = b.ok h t ds M L := by
  rw [ok_parts, ok_parts]
  cases b.side h t ds L <;> cases b.side h t ds M <;> rfl
def spSomeL : Sp := fun vs H Q _ => ∃ (b p : Addr) (n : Nat) (h t : Int) (ds : List Int) (L : List Nat) (Ls : List (Addr × List Nat)), vs = [.ref b, .ref p] ∧ BoxAt H b (n + 20) ∧ LotsAt H p h t ds L Ls ∧ p ≠ b ∧ 0 < Ls.length ∧ Ls.length < 1000000 ∧
  ∀ (H' : Hp) (p' : Addr) (Ls' : List (Addr × List Nat)), But b H H' → BoxAt H' b n → p' ≠ b → LotsAt H' p' h t ds L Ls' → 0 < Ls'.length → Ls'.length ≤ 12 → Q (.ref p') H'
abbrev s__law_some : Stmt := topS 50
theorem sc__law_some : FnScope (["_law_box_here", "_law_lots", "_law_turn"] : List Str) (["_law_box_here", "_law_lots"] : List Str) (defScope s__law_some) := ⟨rfl, rfl, rfl, by decide +kernel, rfl, by decide +kernel, by decide +kernel⟩
theorem b__law_some (kV doc pm : Value) (an : Option Addr) (cdv ct : Value) (us : List Value) (hl : us.length = (["_law_box_here", "_law_lots"] : List Str).length) : bindArgs (PySem.W.fnOf "_law_some" "_law_some" (defArgs s__law_some) (defBody s__law_some) (defScope s__law_some) .none kV doc pm an cdv ct) ⟨us, []⟩ = pure ((["_law_box_here", "_law_lots"] : List Str).zip us) :=
  match us, hl with | [_, _], _ => rfl
section
variable {P : Program} {w : World} {K : PySem.W.Frag} {mg : Str → Option Value} {base : Heap}
theorem ok_someL {k : Nat} (D : Df K mg "_law_some" s__law_some) (T : Bt mg) (O__law_of : Ok P w K mg base k "_law_of" s__law_of ["_law_box_here", "_law_some_here"] (spOf K)) : Ok P w K mg base (k + 1) "_law_some" s__law_some ["_law_box_here", "_law_lots"] spSomeL := by
  refine D.ok sc__law_some b__law_some (fun vs H Q E h => ?_) (fun f cdv A outer s H vs Q E hr h => ?_)
  · obtain ⟨b, p, n, h, t, ds, L, Ls, rfl, _⟩ := h
    rfl
  · obtain ⟨b, p, n, h, t, ds, L, Ls, rfl, hb, hp, pb, l0, l1, q⟩ := h
    refine ⟨_, (pss_one (ps_ret (pe_ifExp (pt_cmpR op_lt (pe_callB call_len_seq (by rfl) T.len_ PySem.boot_len (pa_cons (pv 1) pa_nil)) pe_int (nomark _)) (pv 1) (pe_lc (own := [("_law_turn", 2)]) (g := (gName 2)) (tt := tYes) (by rfl) sc__law_some.nd (pi_range1 (by rfl) T.range_ (pa_cons pe_int pa_nil)) (blkOk_by (own := [("_law_turn", 2)]) (N := (["_law_box_here", "_law_lots", "_law_turn"] : List Str)) (sc := defScope s__law_some) (by decide +kernel)) (fun _ _ _ _ _ => (pg_name (i := 2) sc__law_some.nd rfl (.inl rfl))) (fun _ _ _ _ _ => pts_nil) (fun _ _ _ _ _ => (pe_fn O__law_of (hr.mono (by omega)) (pa_cons (pv 0) (pa_cons (pv 1) pa_nil)))))))), ?_⟩
    refine ⟨_, rfl, p, _, rfl, .inl (SqL.of hp.1), _, _, rfl, rfl, _, rfl, ?_⟩
    rw [List.length_map]
    refine ite2 (fun c => ?_) fun c => ?_
    · have c' : (Ls.length : Int) < 13 := of_decide_eq_true c
      exact ⟨_, rfl, q H p Ls (But.refl _ _) (hb.mono (by omega)) pb hp l0 (by omega)⟩
    refine ⟨12, rfl, by decide, by decide, fun C nC => ?_⟩
    have Cb : C ≠ b := (hb.ne nC).symm
    refine lc_range (fun j H' => But b H H' ∧ BoxAt H' b (n + 20 - j) ∧ ∃ Ls' : List (Addr × List Nat), Ls'.length = j ∧ LotsAt H' C h t ds L Ls') ⟨Same.but (same_new nC), hb.same (same_new nC), [], rfl, upd_same, fun q hq => by cases hq⟩ ?_ ?_
    · rintro j H1 hj ⟨u1, x1, Ls', lj, hC, all⟩
      have hj' : j < 12 := hj
      have hp1 := hp.but hb pb u1
      refine ⟨rfl, tyes (iteT ?_)⟩
      refine ⟨_, rfl, _, rfl, b, p, n + 20 - (j + 1), _, rfl, SqA.l hp1.1, pb, by rw [List.length_map]; exact l0, by rw [List.length_map]; exact l1, x1.mono (by omega), fun v ys hv hy => ?_⟩
      obtain ⟨qq, hq, rfl⟩ := List.mem_map.mp hv
      have u2 : But b H1 (upd H1 b (.lst ys)) := But.ups
      have x2 : BoxAt (upd H1 b (.lst ys)) b (n + 20 - (j + 1)) := .put hy
      have hC2 := u2 _ _ Cb hC
      have nb : ∀ z o, H1 z = some (.tup o) → z ≠ b := fun z o e => by
        obtain ⟨bs, hb0, _⟩ := x1
        exact ne_of e hb0 (by intro z; cases z)
      have all2 : ∀ r ∈ Ls' ++ [qq], (upd H1 b (.lst ys)) r.1 = some (.tup (ni r.2)) ∧ Lot ds.length r.2 ∧ Rl h t ds L r.2 := fun r hr' => by
        rcases List.mem_append.mp hr' with z | z
        · exact ⟨u2 _ _ (nb _ _ (all r z).1) (all r z).1, (all r z).2⟩
        · rw [List.mem_singleton.mp z]
          have y := hp1.2 qq hq
          exact ⟨u2 _ _ (nb _ _ y.1) y.1, y.2⟩
      generalize upd H1 b (.lst ys) = H2 at u2 x2 hC2 all2
      refine ⟨_, hC2, ?_, (u1.trans u2).put nC, x2.at Cb.symm, Ls' ++ [qq], by rw [List.length_append, lj]; rfl, by rw [upd_same, List.map_append]; rfl, fun r hr' => ?_⟩
      · rw [List.length_map]
        exact small1000 (by omega)
      · have y := all2 r hr'
        exact ⟨by rw [upd_ne (ne_of y.1 hC2 (by intro z; cases z))]; exact y.1, y.2⟩
    · rintro H1 ⟨u1, x1, Ls', lj, hC⟩
      have lj' : Ls'.length = 12 := lj
      exact q H1 C Ls' u1 (x1.mono (by omega)) Cb hC (by omega) (by omega)
end
end Sh

namespace Sh
open PySem PySem.Spec PyProof.Rows L2
theorem SeaT.dd {K : PySem.W.Frag} {H : Hp} {v : V} {h t : Int} {ds : List Int} (s : SeaT K H v h t ds) : SeaD K H v h t ds := let ⟨p, q, e, a, b⟩ := s; ⟨p, q, e, .inr a, b⟩
def spLotsR (K : PySem.W.Frag) : Sp := fun vs H Q _ => ∃ (b pm pi : Addr) (n : Nat) (v u : V) (h t : Int) (ds : List Int) (L M : List Nat) (Ls Ms : List (Addr × List Nat)) (fb : BarV), vs = [.ref b, v, .ref pm, .ref pi, u] ∧ BoxAt H b (n + 10) ∧ SeaT K H v h t ds ∧ LotsAt H pm h t ds L Ls ∧ LotsAt H pi h t ds M Ms ∧ pm ≠ b ∧ pi ≠ b ∧ 0 < Ls.length ∧ Ls.length ≤ 12 ∧ 0 < Ms.length ∧ Ms.length ≤ 12 ∧
  BarAt H u fb ∧ u ≠ .ref b ∧ BarOk ds.length fb ∧ fb.ok h t ds L M = true ∧ ¬ Rl h t ds L M ∧ ds.length ≤ 24 ∧ 0 < ds.length ∧ Lot ds.length L ∧ Lot ds.length M ∧ ∀ H' : Hp, But b H H' → BoxAt H' b n → Q (.bl true) H'
abbrev s__law_lots_right : Stmt := topS 51
theorem sc__law_lots_right : FnScope (["_law_box_here", "_law_pool", "_law_mine", "_law_its", "_law_fence", "_law_lot_here", "_law_there", "_law_near", "_law_other_fence", "_law_some_here"] : List Str) (["_law_box_here", "_law_pool", "_law_mine", "_law_its", "_law_fence"] : List Str) (defScope s__law_lots_right) := ⟨rfl, rfl, rfl, by decide +kernel, rfl, by decide +kernel, by decide +kernel⟩
theorem b__law_lots_right (kV doc pm : Value) (an : Option Addr) (cdv ct : Value) (us : List Value) (hl : us.length = (["_law_box_here", "_law_pool", "_law_mine", "_law_its", "_law_fence"] : List Str).length) : bindArgs (PySem.W.fnOf "_law_lots_right" "_law_lots_right" (defArgs s__law_lots_right) (defBody s__law_lots_right) (defScope s__law_lots_right) .none kV doc pm an cdv ct) ⟨us, []⟩ = pure ((["_law_box_here", "_law_pool", "_law_mine", "_law_its", "_law_fence"] : List Str).zip us) :=
  match us, hl with | [_, _, _, _, _], _ => rfl
section
variable {P : Program} {w : World} {K : PySem.W.Frag} {mg : Str → Option Value} {base : Heap}
set_option maxHeartbeats 8000000 in
theorem ok_lotsR {k : Nat} (D : Df K mg "_law_lots_right" s__law_lots_right) (T : Bt mg) (O_shows_bar : Ok P w K mg base k "shows_bar" s_shows_bar ["sea", "one", "other", "thing"] (spShows K)) (O_bar_of : Ok P w K mg base k "bar_of" s_bar_of ["sea", "one", "other"] (spBarOf K)) (O__law_of : Ok P w K mg base k "_law_of" s__law_of ["_law_box_here", "_law_some_here"] (spOf K)) :
    Ok P w K mg base (k + 1) "_law_lots_right" s__law_lots_right ["_law_box_here", "_law_pool", "_law_mine", "_law_its", "_law_fence"] (spLotsR K) := by
  refine D.ok sc__law_lots_right b__law_lots_right (fun vs H Q E h => ?_) (fun f cdv A outer s H vs Q E hr h => ?_)
  · obtain ⟨b, pm, pi, n, v, u, h, t, ds, L, M, Ls, Ms, fb, rfl, _⟩ := h
    rfl
  · obtain ⟨b, pm, pi, n, v, u, h, t, ds, L, M, Ls, Ms, fb, rfl, hb, hv, hm, hi, mb, ib, lm0, lm1, li0, li1, hu, ub, bo, bok, no, d24, d0, hL, hM, q⟩ := h
    have tt : ∀ X Y, Lot ds.length X → Lot ds.length Y → Rl h t ds L X → Rl h t ds M Y → fb.ok h t ds X Y = true := fun X Y lX lY rX rY => still_bar bo d0 hL hM lX lY rX rY bok
    refine ⟨_, (pss_cons (ps_for PassesOwn.never rfl (pi_seq (pv 2)) (pg_name (i := 5) sc__law_lots_right.nd rfl (.inr rfl))
        (pss_one (ps_for PassesOwn.never rfl (pi_seq (pv 3)) (pg_name (i := 6) sc__law_lots_right.nd rfl (.inr rfl))
            (pss_one (ps_if (PW.pt (pw_or (pt_cmpR op_notBl (pe_fn O_shows_bar (hr.mono (by omega)) (pa_cons (pv 1) (pa_cons (pv 5) (pa_cons (pv 6) (pa_cons (pv 4) pa_nil))))) pe_bl (nomark _)) (pw_or1 (pt_cmpR op_notBl (pe_fn O_shows_bar (hr.mono (by omega)) (pa_cons (pv 1) (pa_cons (pv 6) (pa_cons (pv 5) (pa_cons (pv 4) pa_nil))))) pe_bl (nomark _)))))
                (pss_one (ps_ret pe_bl))
                pss_nil)))))
      (pss_cons (ps_setLc (i := 7) (own := [("_law_lot_here", 5)]) (g := (gName 5)) (tt := tYes) (by rfl) sc__law_lots_right.nd rfl rfl (sw_true rfl rfl rfl (by decide +kernel)) (pi_seq (pv 2)) (blkOk_by (own := [("_law_lot_here", 5)]) (N := (["_law_box_here", "_law_pool", "_law_mine", "_law_its", "_law_fence", "_law_lot_here", "_law_there", "_law_near", "_law_other_fence", "_law_some_here"] : List Str)) (sc := defScope s__law_lots_right) (by decide +kernel)) (fun _ _ _ _ _ => (pg_name (i := 5) sc__law_lots_right.nd rfl (.inl rfl))) (fun _ _ _ _ _ => pts_nil) (fun _ _ _ _ _ => (pe_fn O_shows_bar (hr.mono (by omega)) (pa_cons (pv 1) (pa_cons (pe_ix (ix_ltK K) (pv 2) pe_int (fun _ _ => rfl)) (pa_cons (pv 5) (pa_cons (pv 4) pa_nil)))))))
      (pss_cons (ps_if (pt_val (pe_callB (cr_any rfl) (by rfl) T.any_ (by decide +kernel) (pa_cons (pe_op op_cat (pv 7) (pe_lc (own := [("_law_lot_here", 5)]) (g := (gName 5)) (tt := tYes) (by rfl) sc__law_lots_right.nd (pi_seq (pv 3)) (blkOk_by (own := [("_law_lot_here", 5)]) (N := (["_law_box_here", "_law_pool", "_law_mine", "_law_its", "_law_fence", "_law_lot_here", "_law_there", "_law_near", "_law_other_fence", "_law_some_here"] : List Str)) (sc := defScope s__law_lots_right) (by decide +kernel)) (fun _ _ _ _ _ => (pg_name (i := 5) sc__law_lots_right.nd rfl (.inl rfl))) (fun _ _ _ _ _ => pts_nil) (fun _ _ _ _ _ => (pe_fn O_shows_bar (hr.mono (by omega)) (pa_cons (pv 1) (pa_cons (pv 5) (pa_cons (pe_ix (ix_ltK K) (pv 3) (pe_un un_neg pe_int) (fun _ _ => rfl)) (pa_cons (pv 4) pa_nil)))))))) pa_nil)))
        (pss_one (ps_ret pe_bl))
        pss_nil)
      (pss_cons (ps_asg (pe_tup (pa_cons (pe_fn O__law_of (hr.mono (by omega)) (pa_cons (pv 0) (pa_cons (pv 2) pa_nil))) (pa_cons (pe_fn O__law_of (hr.mono (by omega)) (pa_cons (pv 0) (pa_cons (pv 3) pa_nil))) pa_nil))) (pg_seq rfl (pgs_cons (pg_name (i := 5) sc__law_lots_right.nd rfl (.inr rfl)) (pgs_cons (pg_name (i := 6) sc__law_lots_right.nd rfl (.inr rfl)) pgs_nil))))
      (pss_cons (ps_set (i := 8) sc__law_lots_right.nd rfl (.inr rfl) (pe_fn O_bar_of (hr.mono (by omega)) (pa_cons (pv 1) (pa_cons (pv 6) (pa_cons (pv 5) pa_nil)))))
      (pss_cons (ps_if (pt_not (pt_val (pe_callB (cr_all rfl) (by rfl) T.all_ (by decide +kernel) (pa_cons (pe_lc (own := [("_law_some_here", 9)]) (g := (gName 9)) (tt := tYes) (by rfl) sc__law_lots_right.nd (pi_seq (pv 2)) (blkOk_by (own := [("_law_some_here", 9)]) (N := (["_law_box_here", "_law_pool", "_law_mine", "_law_its", "_law_fence", "_law_lot_here", "_law_there", "_law_near", "_law_other_fence", "_law_some_here"] : List Str)) (sc := defScope s__law_lots_right) (by decide +kernel)) (fun _ _ _ _ _ => (pg_name (i := 9) sc__law_lots_right.nd rfl (.inl rfl))) (fun _ _ _ _ _ => pts_nil) (fun _ _ _ _ _ => (pe_fn O_shows_bar (hr.mono (by omega)) (pa_cons (pv 1) (pa_cons (pv 9) (pa_cons (pv 6) (pa_cons (pv 8) pa_nil))))))) pa_nil))))
        (pss_one (ps_ret pe_bl))
        pss_nil)
      (pss_one (ps_ret (pe_callB (cr_all rfl) (by rfl) T.all_ (by decide +kernel) (pa_cons (pe_lc (own := [("_law_some_here", 9)]) (g := (gName 9)) (tt := tYes) (by rfl) sc__law_lots_right.nd (pi_seq (pv 3)) (blkOk_by (own := [("_law_some_here", 9)]) (N := (["_law_box_here", "_law_pool", "_law_mine", "_law_its", "_law_fence", "_law_lot_here", "_law_there", "_law_near", "_law_other_fence", "_law_some_here"] : List Str)) (sc := defScope s__law_lots_right) (by decide +kernel)) (fun _ _ _ _ _ => (pg_name (i := 9) sc__law_lots_right.nd rfl (.inl rfl))) (fun _ _ _ _ _ => pts_nil) (fun _ _ _ _ _ => (pe_fn O_shows_bar (hr.mono (by omega)) (pa_cons (pv 1) (pa_cons (pv 5) (pa_cons (pv 9) (pa_cons (pv 8) pa_nil))))))) pa_nil)))))))))), ?_⟩
    refine ⟨_, rfl, pm, _, H, rfl, SqA.l hm.1, Kp.refl _ _, fun J hJ => ?_⟩
    obtain ⟨G, g, W⟩ := hJ.walk
    refine for_it W (fun j σ H' => ∃ y5 y6 : Option V, σ = [some (.ref b), some v, some (.ref pm), some (.ref pi), some u, y5, y6, none, none, none] ∧ Same H H') ⟨none, none, rfl, Same.refl _⟩ (fun j σ H' _ ⟨_, _, _, z⟩ => g H' (.ofS z)) ?_ ?_
    · rintro j x σ H1 H2 hj ⟨y5, y6, rfl, s1⟩ ⟨rfl, gx⟩
      rw [List.length_map] at hj
      obtain rfl : V.ref Ls[j].1 = x := by
        rw [List.getElem?_map, List.getElem?_eq_getElem hj] at gx
        exact Option.some.inj gx
      obtain ⟨e1, lX, rX⟩ := hm.2 Ls[j] (List.getElem_mem hj)
      generalize Ls[j] = X at e1 lX rX
      refine ⟨_, rfl, pi, _, H2, rfl, SqA.l (s1 _ _ hi.1), Kp.refl _ _, fun J2 hJ2 => ?_⟩
      obtain ⟨G2, g2, W2⟩ := hJ2.walk
      refine for_it W2 (fun j σ H' => ∃ y6 : Option V, σ = [some (.ref b), some v, some (.ref pm), some (.ref pi), some u, some (.ref X.1), y6, none, none, none] ∧ Same H2 H') ⟨y6, rfl, Same.refl _⟩ (fun j σ H' _ ⟨_, _, z⟩ => g2 H' (.ofS z)) ?_ ?_
      · rintro i y σ H3 H4 hi' ⟨y6', rfl, s2⟩ ⟨rfl, gy⟩
        rw [List.length_map] at hi'
        obtain rfl : V.ref Ms[i].1 = y := by
          rw [List.getElem?_map, List.getElem?_eq_getElem hi'] at gy
          exact Option.some.inj gy
        obtain ⟨e2, lY, rY⟩ := hi.2 Ms[i] (List.getElem_mem hi')
        generalize Ms[i] = Y at e2 lY rY
        have s12 := s1.trans s2
        have hX : LotA K H4 (.ref X.1) X.2 := ⟨_, rfl, SqA.t (s12 _ _ e1)⟩
        have hY : LotA K H4 (.ref Y.1) Y.2 := ⟨_, rfl, SqA.t (s12 _ _ e2)⟩
        refine ⟨_, rfl, _, rfl, _, rfl, _, rfl, 3, v, _, _, u, h, t, ds, X.2, Y.2, barD fb, rfl, (hv.same s12).a, hX, hY, d24, d0, lX, lY, (hu.same s12).dp, bar_lv bo (by omega), bar_shaped _, fun H5 s5 => ?_⟩
        rw [shows_ok bo, tt _ _ lX lY rX rY]
        refine ⟨_, _, rfl, rfl, _, rfl, iteF ?_⟩
        have s15 := s12.trans s5
        refine ⟨_, rfl, _, rfl, _, rfl, _, rfl, 3, v, _, _, u, h, t, ds, Y.2, X.2, barD fb, rfl, (hv.same s15).a, ⟨_, rfl, SqA.t (s15 _ _ e2)⟩, ⟨_, rfl, SqA.t (s15 _ _ e1)⟩, d24, d0, lY, lX, (hu.same s15).dp, bar_lv bo (by omega), bar_shaped _, fun H6 s6 => ?_⟩
        rw [shows_ok bo, ok_sym, tt _ _ lX lY rX rY]
        exact ⟨_, _, rfl, rfl, _, rfl, iteF ⟨_, rfl, (s2.trans s5).trans s6⟩⟩
      · rintro σ H3 ⟨y6', rfl, s2⟩
        exact ⟨_, _, rfl, s1.trans s2⟩
    rintro σ H1 ⟨y5, y6, rfl, s1⟩
    have hm1 := hm.same s1
    have hi1 := hi.same s1
    have hv1 := hv.same s1
    have hu1 := hu.same s1
    have x1 := hb.same s1
    have u01 : But b H H1 := Same.but s1
    clear g W hJ J G hm hi hv hu s1
    obtain ⟨q0, Lr, eL⟩ : ∃ q0 Lr, Ls = q0 :: Lr := by
      match Ls, lm0 with
      | q0 :: Lr, _ => exact ⟨q0, Lr, rfl⟩
    obtain ⟨e0, l0, r0⟩ := hm1.2 q0 (by rw [eL]; exact List.mem_cons_self)
    have at0 : atI (Ls.map fun q => V.ref q.1) 0 = some (.ref q0.1) := by rw [eL]; exact at_nat (j := 0) rfl rfl
    have lz : Ms.length - 1 < Ms.length := by omega
    obtain ⟨ez, lz', rz⟩ := hi1.2 Ms[Ms.length - 1] (List.getElem_mem lz)
    have atz : atI (Ms.map fun q => V.ref q.1) (-1) = some (.ref Ms[Ms.length - 1].1) := by
      unfold atI ixN
      rw [if_neg (by decide), List.length_map, if_pos (by omega)]
      show (Ms.map fun q => V.ref q.1)[((-1 : Int) + (Ms.length : Int)).toNat]? = _
      rw [show ((-1 : Int) + (Ms.length : Int)).toNat = Ms.length - 1 by omega, List.getElem?_map, List.getElem?_eq_getElem lz]
      rfl
    generalize Ms[Ms.length - 1] = qz at ez lz' rz atz
    refine ⟨_, rfl, pm, _, H1, rfl, SqA.l hm1.1, Kp.refl _ _, fun J hJ C nC => ?_⟩
    obtain ⟨G, gC, W⟩ := hJ.walk
    refine lc_it W (fun j H' => Same H1 H' ∧ H' C = some (.lst ((List.replicate j false).map V.bl))) ⟨same_new nC, upd_same⟩ (fun j H' _ z => gC H' (.ofS z.1)) ?_ ?_
    · rintro j x Ha Hb hj ⟨sa, hC⟩ ⟨rfl, gx⟩
      rw [List.length_map] at hj
      obtain rfl : V.ref Ls[j].1 = x := by
        rw [List.getElem?_map, List.getElem?_eq_getElem hj] at gx
        exact Option.some.inj gx
      obtain ⟨e1, lX, rX⟩ := hm1.2 Ls[j] (List.getElem_mem hj)
      generalize Ls[j] = X at e1 lX rX
      refine ⟨rfl, tyes (iteT ?_)⟩
      refine ⟨_, rfl, _, rfl, pm, _, 0, .ref q0.1, rfl, rfl, SqA.l (sa _ _ hm1.1), at0, _, rfl, _, rfl, 3, v, _, _, u, h, t, ds, q0.2, X.2, barD fb, rfl, (hv1.same sa).a, ⟨_, rfl, SqA.t (sa _ _ e0)⟩, ⟨_, rfl, SqA.t (sa _ _ e1)⟩, d24, d0, l0, lX, (hu1.same sa).dp, bar_lv bo (by omega), bar_shaped _, fun H5 s5 => ?_⟩
      rw [shows_ok bo, no_bar bo d0 l0 lX (r0.symm.trans rX)]
      have hC5 := s5 _ _ hC
      refine ⟨_, hC5, ?_, same_over (sa.trans s5) nC, ?_⟩
      · rw [List.length_map, List.length_replicate]
        exact small1000 (by omega)
      · rw [upd_same, List.replicate_succ', List.map_append]
        rfl
    rintro H2 ⟨s2, hC⟩
    rw [List.length_map] at hC
    have hm2 := hm1.same s2
    have hi2 := hi1.same s2
    have hv2 := hv1.same s2
    have hu2 := hu1.same s2
    have ez2 := s2 _ _ ez
    refine ⟨_, rfl, _, rfl, pi, _, H2, rfl, SqA.l hi2.1, Kp.refl _ _, fun J2 hJ2 C2 nC2 => ?_⟩
    obtain ⟨G2, gC2, W2⟩ := hJ2.walk
    refine lc_it W2 (fun j H' => Same H2 H' ∧ H' C2 = some (.lst ((List.replicate j false).map V.bl))) ⟨same_new nC2, upd_same⟩ (fun j H' _ z => gC2 H' (.ofS z.1)) ?_ ?_
    · rintro j x Ha Hb hj ⟨sa, hC⟩ ⟨rfl, gx⟩
      rw [List.length_map] at hj
      obtain rfl : V.ref Ms[j].1 = x := by
        rw [List.getElem?_map, List.getElem?_eq_getElem hj] at gx
        exact Option.some.inj gx
      obtain ⟨e1, lX, rX⟩ := hi2.2 Ms[j] (List.getElem_mem hj)
      generalize Ms[j] = X at e1 lX rX
      refine ⟨rfl, tyes (iteT ?_)⟩
      refine ⟨_, rfl, _, rfl, _, rfl, 1, rfl, pi, _, -1, .ref qz.1, rfl, rfl, SqA.l (sa _ _ hi2.1), atz, _, rfl, 3, v, _, _, u, h, t, ds, X.2, qz.2, barD fb, rfl, (hv2.same sa).a, ⟨_, rfl, SqA.t (sa _ _ e1)⟩, ⟨_, rfl, SqA.t (sa _ _ ez2)⟩, d24, d0, lX, lz', (hu2.same sa).dp, bar_lv bo (by omega), bar_shaped _, fun H5 s5 => ?_⟩
      rw [shows_ok bo, no_bar bo d0 lX lz' (rX.symm.trans rz)]
      have hC5 := s5 _ _ hC
      refine ⟨_, hC5, ?_, same_over (sa.trans s5) nC2, ?_⟩
      · rw [List.length_map, List.length_replicate]
        exact small1000 (by omega)
      · rw [upd_same, List.replicate_succ', List.map_append]
        rfl
    rintro H3 ⟨s3, hC2⟩
    rw [List.length_map] at hC2
    refine ⟨C, C2, _, _, rfl, rfl, s3 _ _ hC, hC2, ?_, fun q3 nq3 => ?_⟩
    · rw [List.length_map, List.length_map, List.length_replicate, List.length_replicate]
      exact Nat.le_trans (show Ls.length + Ms.length ≤ 100 by omega) (by decide)
    rw [← List.map_append]
    have s4 : Same H3 (upd H3 q3 (.lst ((List.replicate Ls.length false ++ List.replicate Ms.length false).map V.bl))) := same_new nq3
    have e4 : upd H3 q3 (.lst ((List.replicate Ls.length false ++ List.replicate Ms.length false).map V.bl)) q3 = some (.lst ((List.replicate Ls.length false ++ List.replicate Ms.length false).map V.bl)) := upd_same
    generalize upd H3 q3 (.lst ((List.replicate Ls.length false ++ List.replicate Ms.length false).map V.bl)) = H4 at s4 e4
    refine ⟨q3, _, rfl, SqL.of e4, ?_⟩
    rw [show (List.replicate Ls.length false ++ List.replicate Ms.length false).any id = false by simp]
    refine ⟨false, rfl, iteF ?_⟩
    have s14 := (s2.trans s3).trans s4
    have hm4 := hm1.same s14
    have hi4 := hi1.same s14
    have hv4 := hv1.same s14
    have x4 := x1.same s14
    have u04 := u01.trans (Same.but (b := b) s14)
    clear hm1 hi1 hv1 hu1 x1 u01 hm2 hi2 hv2 hu2 ez ez2 hC hC2 nC nC2 nq3 e4 s2 s3 s4 s14 gC gC2 W W2 hJ hJ2 J J2 G G2 e0
    refine ⟨_, rfl, _, rfl, b, pm, n + 9, _, rfl, SqA.l hm4.1, mb, by rw [List.length_map]; exact lm0, by rw [List.length_map]; omega, x4.mono (by omega), fun vx ys hx hy => ?_⟩
    obtain ⟨X, hXm, rfl⟩ := List.mem_map.mp hx
    have u5 : But b H4 (upd H4 b (.lst ys)) := But.ups
    have x5 : BoxAt (upd H4 b (.lst ys)) b (n + 9) := .put hy
    have hm5 := hm4.but x4 mb u5
    have hi5 := hi4.but x4 ib u5
    have hv5 := hv4.but x4 u5
    generalize upd H4 b (.lst ys) = H5 at u5 x5 hm5 hi5 hv5
    refine ⟨_, rfl, _, rfl, b, pi, n + 8, _, rfl, SqA.l hi5.1, ib, by rw [List.length_map]; exact li0, by rw [List.length_map]; omega, x5.mono (by omega), fun vy zs hx' hy' => ?_⟩
    obtain ⟨Y, hYm, rfl⟩ := List.mem_map.mp hx'
    have u6 : But b H5 (upd H5 b (.lst zs)) := But.ups
    have x6 : BoxAt (upd H5 b (.lst zs)) b (n + 8) := .put hy'
    have hm6 := hm5.but x5 mb u6
    have hi6 := hi5.but x5 ib u6
    have hv6 := hv5.but x5 u6
    generalize upd H5 b (.lst zs) = H6 at u6 x6 hm6 hi6 hv6
    have u06 := (u04.trans u5).trans u6
    refine ⟨(by show 2 ≤ sizeLine; decide), fun pt npt => ?_⟩
    have s7 : Same H6 (upd H6 pt (.tup [.ref X.1, .ref Y.1])) := same_new npt
    have e7 : upd H6 pt (.tup [.ref X.1, .ref Y.1]) pt = some (.tup [.ref X.1, .ref Y.1]) := upd_same
    generalize upd H6 pt (.tup [.ref X.1, .ref Y.1]) = H7 at s7 e7
    refine ⟨pt, _, rfl, SqA.t e7, rfl, _, _, rfl, _, _, rfl, rfl, ?_⟩
    have hm7 := hm6.same s7
    have hi7 := hi6.same s7
    have hv7 := hv6.same s7
    obtain ⟨eX, lX, rX⟩ := hm7.2 X hXm
    obtain ⟨eY, lY, rY⟩ := hi7.2 Y hYm
    refine ⟨_, rfl, _, rfl, _, rfl, v, _, _, h, t, ds, Y.2, X.2, rfl, hv7.dd, ⟨_, rfl, SqA.t eY⟩, ⟨_, rfl, SqA.t eX⟩, d24, d0, lY, lX, fun r => absurd ((rX.trans r.symm).trans rY.symm) no, fun _ H8 u2 fb2 s8 hu8 first => ?_⟩
    obtain ⟨bok2, bo2⟩ := first.ok d0
    have tt2 : ∀ A B, Lot ds.length A → Lot ds.length B → Rl h t ds L A → Rl h t ds M B → fb2.ok h t ds A B = true := fun A B lA lB rA rB => by
      rw [ok_sym]
      exact still_bar bo2 d0 lY lX lB lA (rY.symm.trans rB) (rX.symm.trans rA) bok2
    have hm8 := hm7.same s8
    have hi8 := hi7.same s8
    have hv8 := hv7.same s8
    have eX8 := s8 _ _ eX
    have eY8 := s8 _ _ eY
    have x8 := (x6.same s7).same s8
    have u08 := u06.trans (Same.but (b := b) (s7.trans s8))
    clear hm4 hi4 hv4 x4 u04 hm5 hi5 hv5 x5 u5 hm6 hi6 hv6 x6 u6 u06 s7 e7 npt hm7 hi7 hv7 s8 hx hy hx' hy'
    refine ⟨_, rfl, pm, _, H8, rfl, SqA.l hm8.1, Kp.refl _ _, fun J hJ C nC => ?_⟩
    obtain ⟨G, gC, W⟩ := hJ.walk
    refine lc_it W (fun j H' => Same H8 H' ∧ H' C = some (.lst ((List.replicate j true).map V.bl))) ⟨same_new nC, upd_same⟩ (fun j H' _ z => gC H' (.ofS z.1)) ?_ ?_
    · rintro j x Ha Hb hj ⟨sa, hC⟩ ⟨rfl, gx⟩
      rw [List.length_map] at hj
      obtain rfl : V.ref Ls[j].1 = x := by
        rw [List.getElem?_map, List.getElem?_eq_getElem hj] at gx
        exact Option.some.inj gx
      obtain ⟨e1, lX', rX'⟩ := hm8.2 Ls[j] (List.getElem_mem hj)
      generalize Ls[j] = X' at e1 lX' rX'
      refine ⟨rfl, tyes (iteT ?_)⟩
      refine ⟨_, rfl, _, rfl, _, rfl, _, rfl, 3, v, _, _, u2, h, t, ds, X'.2, Y.2, barD fb2, rfl, (hv8.same sa).a, ⟨_, rfl, SqA.t (sa _ _ e1)⟩, ⟨_, rfl, SqA.t (sa _ _ eY8)⟩, d24, d0, lX', lY, (hu8.same sa).dp, bar_lv bo2 (by omega), bar_shaped _, fun H5 s5 => ?_⟩
      rw [shows_ok bo2, tt2 _ _ lX' lY rX' rY]
      have hC5 := s5 _ _ hC
      refine ⟨_, hC5, ?_, same_over (sa.trans s5) nC, ?_⟩
      · rw [List.length_map, List.length_replicate]
        exact small1000 (by omega)
      · rw [upd_same, List.replicate_succ', List.map_append]
        rfl
    rintro H9 ⟨s9, hC⟩
    rw [List.length_map] at hC
    refine ⟨C, _, rfl, SqL.of hC, ?_⟩
    rw [show (List.replicate Ls.length true).all id = true by simp]
    refine ⟨true, rfl, iteF ?_⟩
    have hi9 := hi8.same s9
    have hv9 := hv8.same s9
    have hu9 := hu8.same s9
    have eX9 := s9 _ _ eX8
    refine ⟨_, rfl, pi, _, H9, rfl, SqA.l hi9.1, Kp.refl _ _, fun J2 hJ2 C2 nC2 => ?_⟩
    obtain ⟨G2, gC2, W2⟩ := hJ2.walk
    refine lc_it W2 (fun j H' => Same H9 H' ∧ H' C2 = some (.lst ((List.replicate j true).map V.bl))) ⟨same_new nC2, upd_same⟩ (fun j H' _ z => gC2 H' (.ofS z.1)) ?_ ?_
    · rintro j x Ha Hb hj ⟨sa, hC⟩ ⟨rfl, gx⟩
      rw [List.length_map] at hj
      obtain rfl : V.ref Ms[j].1 = x := by
        rw [List.getElem?_map, List.getElem?_eq_getElem hj] at gx
        exact Option.some.inj gx
      obtain ⟨e1, lX', rX'⟩ := hi9.2 Ms[j] (List.getElem_mem hj)
      generalize Ms[j] = X' at e1 lX' rX'
      refine ⟨rfl, tyes (iteT ?_)⟩
      refine ⟨_, rfl, _, rfl, _, rfl, _, rfl, 3, v, _, _, u2, h, t, ds, X.2, X'.2, barD fb2, rfl, (hv9.same sa).a, ⟨_, rfl, SqA.t (sa _ _ eX9)⟩, ⟨_, rfl, SqA.t (sa _ _ e1)⟩, d24, d0, lX, lX', (hu9.same sa).dp, bar_lv bo2 (by omega), bar_shaped _, fun H5 s5 => ?_⟩
      rw [shows_ok bo2, tt2 _ _ lX lX' rX rX']
      have hC5 := s5 _ _ hC
      refine ⟨_, hC5, ?_, same_over (sa.trans s5) nC2, ?_⟩
      · rw [List.length_map, List.length_replicate]
        exact small1000 (by omega)
      · rw [upd_same, List.replicate_succ', List.map_append]
        rfl
    rintro H10 ⟨s10, hC2⟩
    rw [List.length_map] at hC2
    refine ⟨C2, _, rfl, SqL.of hC2, ?_⟩
    rw [show (List.replicate Ms.length true).all id = true by simp]
    have s810 := s9.trans s10
    exact q H10 (u08.trans (Same.but (b := b) s810)) ((x8.same s810).mono (by omega))
end
end Sh

namespace Sh
open PySem PySem.Spec PyProof.Rows L2
/-! ### k65: the right -/
theorem units65 {k : Nat} {A : Around} (r : Room k A) : A.units + 65 < cLine := by have := r.un; omega
def castI (L : List Nat) : List Int := L.map fun (i : Nat) => (i : Int)
theorem castI_inj {L M : List Nat} (e : castI L = castI M) : L = M := by
  have := congrArg (List.map Int.toNat) e
  unfold castI at this
  rw [List.map_map, List.map_map] at this
  have z : (Int.toNat ∘ fun (i : Nat) => (i : Int)) = id := by
    funext i
    exact Int.toNat_natCast i
  rw [z, List.map_id, List.map_id] at this
  exact this
/-- what sorted tells of the standings found -/
theorem sorted_lots {H : Hp} {h t : Int} {ds : List Int} {L : List Nat} {F : List (List Nat × Nat)} {bs : List Addr} {Ns : List (List Int)} (y : Lay h t ds L F) (lb : bs.length = Ns.length) (at_ : ∀ (i : Nat) (b : Addr) (ns : List Int), bs[i]? = some b → Ns[i]? = some ns → H b = some (.tup (ns.map V.int))) (pm : Ns.Perm (F.map fun p => castI p.1)) :
    ∃ Ls : List (Addr × List Nat), bs.map V.ref = Ls.map (fun q => V.ref q.1) ∧ Ls.length = F.length ∧ (∀ q ∈ Ls, H q.1 = some (.tup (ni q.2)) ∧ Lot ds.length q.2 ∧ Rl h t ds L q.2) ∧ ∀ N, N ∈ Ls.map (·.2) ↔ N ∈ F.map (·.1) := by
  have back : ∀ ns ∈ Ns, ∃ N, N ∈ F.map (·.1) ∧ ns = castI N := fun ns hn => by
    obtain ⟨p, hp, e⟩ := List.mem_map.mp (pm.mem_iff.mp hn)
    exact ⟨p.1, List.mem_map.mpr ⟨p, hp, rfl⟩, e.symm⟩
  have tn : ∀ N : List Nat, (castI N).map Int.toNat = N := fun N => by
    unfold castI
    rw [List.map_map]
    have z : (Int.toNat ∘ fun (i : Nat) => (i : Int)) = id := by
      funext i
      exact Int.toNat_natCast i
    rw [z, List.map_id]
  refine ⟨(bs.zip Ns).map fun p => (p.1, p.2.map Int.toNat), ?_, ?_, fun q hq => ?_, fun N => ?_⟩
  · rw [List.map_map]
    have : (bs.zip Ns).map (fun p => p.1) = bs := List.map_fst_zip (by omega)
    conv => lhs; rw [← this]
    rw [List.map_map]
    rfl
  · rw [List.length_map, List.length_zip, lb, Nat.min_self, pm.length_eq, List.length_map]
  · obtain ⟨p, hp, rfl⟩ := List.mem_map.mp hq
    obtain ⟨i, hi⟩ := List.getElem?_of_mem hp
    obtain ⟨e1, e2⟩ := List.getElem?_zip_eq_some.mp hi
    obtain ⟨N, hN, e⟩ := back p.2 (List.mem_of_getElem? e2)
    have := at_ i p.1 p.2 e1 e2
    show H p.1 = some (.tup (ni (p.2.map Int.toNat))) ∧ Lot ds.length (p.2.map Int.toNat) ∧ Rl h t ds L (p.2.map Int.toNat)
    rw [e, tn]
    rw [e] at this
    exact ⟨by rw [this]; exact congrArg (fun z => some (HO.tup z)) (ni_ints N).symm, y.lot N hN⟩
  · rw [List.map_map]
    have e : (bs.zip Ns).map ((fun q : Addr × List Nat => q.2) ∘ fun p : Addr × List Int => (p.1, p.2.map Int.toNat)) = Ns.map fun ns => ns.map Int.toNat := by
      have : (bs.zip Ns).map (fun p => p.2) = Ns := List.map_snd_zip (by omega)
      conv => rhs; rw [← this]
      rw [List.map_map]
      rfl
    rw [e, List.mem_map]
    constructor
    · rintro ⟨ns, hn, rfl⟩
      obtain ⟨N, hN, rfl⟩ := back ns hn
      rw [tn]
      exact hN
    · intro hN
      obtain ⟨p, hp, rfl⟩ := List.mem_map.mp hN
      exact ⟨castI p.1, pm.mem_iff.mpr (List.mem_map.mpr ⟨p, hp, rfl⟩), tn p.1⟩
theorem barAt_but {H H' : Hp} {b : Addr} {n : Nat} {v : V} {fb : BarV} (h : BarAt H v fb) (x : BoxAt H b n) (u : But b H H') : BarAt H' v fb := by
  obtain ⟨bs, hb0, _⟩ := x
  have k : ∀ {p : Addr} {xs : List V}, H p = some (.tup xs) → H' p = some (.tup xs) := fun {p xs} e => u _ _ (ne_of e hb0 (by intro z; cases z)) e
  cases fb with
  | low s F => obtain ⟨p, q, e, e1, e2⟩ := h; exact ⟨p, q, e, k e1, k e2⟩
  | high s F => obtain ⟨p, q, e, e1, e2⟩ := h; exact ⟨p, q, e, k e1, k e2⟩
  | fast g => obtain ⟨p, e, e1⟩ := h; exact ⟨p, e, k e1⟩
abbrev s__law_right : Stmt := topS 52
theorem sc__law_right : FnScope (["_law_box_here", "_law_turn", "_law_pool", "_law_lot_here", "_law_there", "_law_mine", "_law_its", "_law_fence"] : List Str) (["_law_box_here"] : List Str) (defScope s__law_right) := ⟨rfl, rfl, rfl, by decide +kernel, rfl, by decide +kernel, by decide +kernel⟩
theorem b__law_right (kV doc pm : Value) (an : Option Addr) (cdv ct : Value) (us : List Value) (hl : us.length = (["_law_box_here"] : List Str).length) : bindArgs (PySem.W.fnOf "_law_right" "_law_right" (defArgs s__law_right) (defBody s__law_right) (defScope s__law_right) .none kV doc pm an cdv ct) ⟨us, []⟩ = pure ((["_law_box_here"] : List Str).zip us) :=
  match us, hl with | [_], _ => rfl
section
variable {P : Program} {w : World} {K : PySem.W.Frag} {mg : Str → Option Value} {base : Heap}
theorem ent_keys (F : List (List Nat × Nat)) : (F.map ent).map (·.1) = (F.map fun p => castI p.1).map fun ns => ns.map Sum.inl := by
  rw [List.map_map, List.map_map]
  refine List.map_congr_left fun p _ => ?_
  show kL p.1 = (castI p.1).map Sum.inl
  unfold kL castI
  rw [List.map_map]
  rfl
set_option maxHeartbeats 8000000 in
theorem ok_right {k : Nat} (D : Df K mg "_law_right" s__law_right) (T : Bt mg) (O__law_sea : Ok P w K mg base k "_law_sea" s__law_sea ["_law_box_here", "_law_most"] spSea) (O__law_lot : Ok P w K mg base k "_law_lot" s__law_lot ["_law_box_here", "_law_count"] spLot)
    (O__law_layers : Ok P w K mg base k "_law_layers" s__law_layers ["_law_sea_here", "_law_begin"] (spLayers K)) (O_bar_of : Ok P w K mg base k "bar_of" s_bar_of ["sea", "one", "other"] (spBarOf K)) (O__law_some : Ok P w K mg base k "_law_some" s__law_some ["_law_box_here", "_law_lots"] spSomeL) (O__law_lots_right : Ok P w K mg base k "_law_lots_right" s__law_lots_right ["_law_box_here", "_law_pool", "_law_mine", "_law_its", "_law_fence"] (spLotsR K)) :
    Ok P w K mg base (k + 1) "_law_right" s__law_right ["_law_box_here"] spRight := by
  refine D.ok sc__law_right b__law_right (fun vs H Q E h => ?_) (fun f cdv A outer s H vs Q E hr h => ?_)
  · obtain ⟨b, rfl, _⟩ := h
    rfl
  · obtain ⟨b, rfl, hb, q⟩ := h
    refine ⟨_, (pss_cons (ps_for PassesOwn.never rfl (pi_range1 (by rfl) T.range_ (pa_cons pe_int pa_nil)) (pg_name (i := 1) sc__law_right.nd rfl (.inl rfl))
        (pss_cons (ps_set (i := 2) sc__law_right.nd rfl (.inl rfl) (pe_fn O__law_sea (hr.mono (by omega)) (pa_cons (pv 0) (pa_cons pe_int pa_nil))))
          (pss_cons (ps_par (i := 3) (j := 4) (by rfl) sc__law_right.nd rfl rfl (by decide) rfl rfl (pa_cons (pe_fn O__law_lot (hr.mono (by omega)) (pa_cons (pv 0) (pa_cons (pe_callB call_len_seq (by rfl) T.len_ PySem.boot_len (pa_cons (pe_ix ix_lt (pv 2) pe_int (fun _ _ => rfl)) pa_nil)) pa_nil))) (pa_cons (pe_fn O__law_lot (hr.mono (by omega)) (pa_cons (pv 0) (pa_cons (pe_callB call_len_seq (by rfl) T.len_ PySem.boot_len (pa_cons (pe_ix ix_lt (pv 2) pe_int (fun _ _ => rfl)) pa_nil)) pa_nil))) pa_nil)) (by rfl))
          (pss_cons (ps_set (i := 5) sc__law_right.nd rfl (.inl rfl) (pe_callB (cr_sortedDV rfl hr.units) (by rfl) T.sorted_ (by decide +kernel) (pa_cons (pe_fn O__law_layers (hr.mono (by omega)) (pa_cons (pv 2) (pa_cons (pv 3) pa_nil))) pa_nil)))
          (pss_one (ps_if (pt_cmpR (op_notInD (units65 hr)) (pv 4) (pv 5) (by rfl))
            (pss_cons (ps_par (i := 6) (j := 7) (by rfl) sc__law_right.nd rfl rfl (by decide) rfl rfl (pa_cons (pe_callB (cr_sortedDV rfl hr.units) (by rfl) T.sorted_ (by decide +kernel) (pa_cons (pe_fn O__law_layers (hr.mono (by omega)) (pa_cons (pv 2) (pa_cons (pv 4) pa_nil))) pa_nil)) (pa_cons (pe_fn O_bar_of (hr.mono (by omega)) (pa_cons (pv 2) (pa_cons (pv 3) (pa_cons (pv 4) pa_nil)))) pa_nil)) (by rfl))
              (pss_one (ps_if (pt_not (pt_val (pe_fn O__law_lots_right (hr.mono (by omega)) (pa_cons (pv 0) (pa_cons (pv 2) (pa_cons (pe_fn O__law_some (hr.mono (by omega)) (pa_cons (pv 0) (pa_cons (pv 5) pa_nil))) (pa_cons (pe_fn O__law_some (hr.mono (by omega)) (pa_cons (pv 0) (pa_cons (pv 6) pa_nil))) (pa_cons (pv 7) pa_nil))))))))
                (pss_one (ps_ret pe_bl))
                pss_nil)))
            (pss_one (ps_if (pt_cmpR op_notN (pe_fn O_bar_of (hr.mono (by omega)) (pa_cons (pv 2) (pa_cons (pv 3) (pa_cons (pv 4) pa_nil)))) pe_non (nomark _))
                (pss_one (ps_ret pe_bl))
                pss_nil))))))))
      (pss_one (ps_ret pe_bl))), ?_⟩
    refine ⟨2, rfl, by decide, by decide, for_range (lo := 0) (n := 2) (fun i σ H' => ∃ y1 y2 y3 y4 y5 y6 y7 : Option V, σ = [some (.ref b), y1, y2, y3, y4, y5, y6, y7] ∧ BoxAt H' b (100000 - 2000 * i) ∧ But b H H')
      ⟨none, none, none, none, none, none, none, rfl, hb, But.refl b H⟩ ?_ ?_⟩
    · rintro i σ Hc hi ⟨y1, y2, y3, y4, y5, y6, y7, rfl, xc, uc⟩
      have hi2 : i < 2 := hi
      refine ⟨_, rfl, b, 100000 - 2000 * i - 500, 6, rfl, by decide, by decide, xc.mono (by omega), fun H1 p0 pq h t ds u1 x1 np nq hp hq so => ?_⟩
      have d0 := so.l0
      have d6 : ds.length ≤ 6 := so.l1
      have hv1 : SeaT K H1 (.ref p0) h t ds := ⟨p0, pq, rfl, SqT.of hp, SqT.of hq⟩
      refine ⟨_, rfl, _, rfl, p0, _, 2, .ref pq, rfl, rfl, SqA.t hp, rfl, pq, _, rfl, .inr (SqT.of hq), ?_⟩
      rw [List.length_map]
      refine ⟨b, 100000 - 2000 * i - 700, ds.length, rfl, by omega, x1.mono (by omega), fun H2 pl L u2 x2 npl hpl hL => ?_⟩
      have hv2 := hv1.but x1 u2
      have p0b : p0 ≠ b := by
        obtain ⟨bs, hb0, _⟩ := x1
        exact ne_of hp hb0 (by intro z; cases z)
      have pqb : pq ≠ b := by
        obtain ⟨bs, hb0, _⟩ := x1
        exact ne_of hq hb0 (by intro z; cases z)
      have hp2 := u2 _ _ p0b hp
      have hq2 := u2 _ _ pqb hq
      refine ⟨_, rfl, _, rfl, p0, _, 2, .ref pq, rfl, rfl, SqA.t hp2, rfl, pq, _, rfl, .inr (SqT.of hq2), ?_⟩
      rw [List.length_map]
      refine ⟨b, 100000 - 2000 * i - 900, ds.length, rfl, by omega, x2.mono (by omega), fun H3 pm M u3 x3 npm hpm hM => ?_⟩
      refine ⟨_, _, rfl, ?_⟩
      have plb : pl ≠ b := by
        obtain ⟨bs, hb0, _⟩ := x2
        exact ne_of hpl hb0 (by intro z; cases z)
      have hv3 := hv2.but x2 u3
      have hl3 := u3 _ _ plb hpl
      have u03 := uc.trans ((u1.trans u2).trans u3)
      clear hv1 hv2 x1 x2 u1 u2 u3 np nq hp hq hp2 hq2 npl npm hpl xc uc
      refine ⟨_, rfl, _, rfl, .ref p0, pl, h, t, ds, L, rfl, hv3.a, hl3, by omega, hL, fun H4 d F s4 nd hd ly cl => ?_⟩
      have lF : F.length ≤ 512 := Nat.le_trans ly.len (Nat.le_trans (Nat.pow_le_pow_right (by decide) (show ds.length ≤ 9 by omega)) (by decide))
      refine ⟨d, F.map ent, F.map fun p => castI p.1, rfl, hd, by rw [List.length_map]; omega, ent_keys F, fun pn bs Ns npn lb at_ pmN _ => ?_⟩
      obtain ⟨Ls, eLs, lLs, aLs, mLs⟩ := sorted_lots ly lb at_ pmN
      have s5 : Same H4 (upd H4 pn (.lst (bs.map V.ref))) := same_new npn
      have hmine : LotsAt (upd H4 pn (.lst (bs.map V.ref))) pn h t ds L Ls := ⟨by rw [upd_same, eLs], fun q hq => ⟨s5 _ _ (aLs q hq).1, (aLs q hq).2⟩⟩
      generalize upd H4 pn (.lst (bs.map V.ref)) = H5 at s5 hmine
      have s35 := s4.trans s5
      have hv5 := hv3.same s35
      have hl5 := s35 _ _ hl3
      have hm5 := s35 _ _ hpm
      have x5 := x3.same s35
      have u05 := u03.trans (Same.but (b := b) s35)
      have pnb : pn ≠ b := ((x3.same s4).ne npn).symm
      have memL : ∀ N, Lot ds.length N → (N ∈ Ls.map (·.2) ↔ Rl h t ds L N) := fun N lN => (mLs N).trans (ly.all hL cl lN)
      have lL0 : 0 < Ls.length := by
        rw [lLs]
        have := ly.beg
        cases F with
        | nil => cases this
        | cons a F => exact Nat.succ_pos _
      clear hv3 hl3 hpm x3 u03 s4 s5 s35 nd hd npn aLs at_ lb pmN eLs mLs
      refine ⟨_, rfl, _, rfl, _, _, dp_niT (SqT.of hm5), .lst (SqL.of hmine.1) (dp_lots fun q hq => (hmine.2 q hq).1), shaped_tup _, shaped_lots _, _, rfl, ?_⟩
      have anyE : (((Ls.map (·.2)).map fun N => PyData.tuple ((N.map fun (i : Nat) => (i : Int)).map .int)).any fun z => PyData.eqv z (.tuple ((M.map fun (i : Nat) => (i : Int)).map .int))) = decide (M ∈ Ls.map (·.2)) := by
        rw [Bool.eq_iff_iff, decide_eq_true_eq, List.any_eq_true]
        constructor
        · rintro ⟨z, hz, e⟩
          obtain ⟨N, hN, rfl⟩ := List.mem_map.mp hz
          rw [eqv_niT, decide_eq_true_eq] at e
          rw [← e]
          exact hN
        · intro hM'
          exact ⟨_, List.mem_map.mpr ⟨M, hM', rfl⟩, by rw [eqv_niT]; exact decide_eq_true rfl⟩
      rw [anyE]
      by_cases rLM : Rl h t ds L M
      · rw [decide_eq_true ((memL M hM).mpr rLM)]
        refine iteF ?_
        refine ⟨_, rfl, _, rfl, _, rfl, .ref p0, .ref pl, .ref pm, h, t, ds, L, M, rfl, hv5.dd, ⟨_, rfl, SqA.t hl5⟩, ⟨_, rfl, SqA.t hm5⟩, by omega, d0, hL, hM, fun _ H6 s6 => ?_, fun no => absurd rLM no⟩
        refine ⟨rfl, _, rfl, ?_⟩
        rw [decide_eq_true rfl]
        exact iteF ⟨_, _, _, _, _, _, _, rfl, (x5.same s6).mono (by omega), u05.trans (Same.but s6)⟩
      · rw [decide_eq_false fun z => rLM ((memL M hM).mp z)]
        refine iteT ?_
        refine ⟨_, rfl, _, rfl, .ref p0, pm, h, t, ds, M, rfl, hv5.a, hm5, by omega, hM, fun H6 d2 F2 s6 nd2 hd2 ly2 cl2 => ?_⟩
        have lF2 : F2.length ≤ 512 := Nat.le_trans ly2.len (Nat.le_trans (Nat.pow_le_pow_right (by decide) (show ds.length ≤ 9 by omega)) (by decide))
        refine ⟨d2, F2.map ent, F2.map fun p => castI p.1, rfl, hd2, by rw [List.length_map]; omega, ent_keys F2, fun pn2 bs2 Ns2 npn2 lb2 at2 pmN2 _ => ?_⟩
        obtain ⟨Ms, eMs, lMs, aMs, _⟩ := sorted_lots ly2 lb2 at2 pmN2
        have s7 : Same H6 (upd H6 pn2 (.lst (bs2.map V.ref))) := same_new npn2
        have hits : LotsAt (upd H6 pn2 (.lst (bs2.map V.ref))) pn2 h t ds M Ms := ⟨by rw [upd_same, eMs], fun q hq => ⟨s7 _ _ (aMs q hq).1, (aMs q hq).2⟩⟩
        generalize upd H6 pn2 (.lst (bs2.map V.ref)) = H7 at s7 hits
        have s57 := s6.trans s7
        have hv7 := hv5.same s57
        have pn2b : pn2 ≠ b := (((x5.same s6)).ne npn2).symm
        have lM0 : 0 < Ms.length := by
          rw [lMs]
          have := ly2.beg
          cases F2 with
          | nil => cases this
          | cons a F => exact Nat.succ_pos _
        refine ⟨_, rfl, _, rfl, _, rfl, .ref p0, .ref pl, .ref pm, h, t, ds, L, M, rfl, hv7.dd, ⟨_, rfl, SqA.t (s57 _ _ hl5)⟩, ⟨_, rfl, SqA.t (s57 _ _ hm5)⟩, by omega, d0, hL, hM, fun r => absurd r rLM, fun no H8 u fb s8 hu first => ?_⟩
        obtain ⟨bok, bo⟩ := first.ok d0
        refine ⟨_, _, rfl, ?_⟩
        have s58 := s57.trans s8
        have x8 := x5.same s58
        have hm8 := hmine.same s58
        have hi8 := hits.same s8
        have hv8 := hv7.same s8
        have u08 := u05.trans (Same.but (b := b) s58)
        have ub : u ≠ .ref b := fun z => by
          subst z
          obtain ⟨bs0, hb0, _⟩ := x8
          cases fb with
          | low s F => obtain ⟨p, q', e, e1, _⟩ := hu; cases e; rw [hb0] at e1; cases e1
          | high s F => obtain ⟨p, q', e, e1, _⟩ := hu; cases e; rw [hb0] at e1; cases e1
          | fast g => obtain ⟨p, e, e1⟩ := hu; cases e; rw [hb0] at e1; cases e1
        refine ⟨_, rfl, _, rfl, _, rfl, _, rfl, b, pn, 100000 - 2000 * i - 1000, h, t, ds, L, Ls, rfl, x8.mono (by omega), hm8, pnb, lL0, by omega, fun H9 p1 Ls1 u9 x9 p1b hm9 l10 l11 => ?_⟩
        have hi9 := hi8.but x8 pn2b u9
        have hv9 := hv8.but x8 u9
        have hu9 := barAt_but hu x8 u9
        refine ⟨_, rfl, _, rfl, b, pn2, 100000 - 2000 * i - 1100, h, t, ds, M, Ms, rfl, x9.mono (by omega), hi9, pn2b, lM0, by omega, fun H10 p2 Ms1 u10 x10 p2b hi10 l20 l21 => ?_⟩
        refine ⟨_, rfl, b, p1, p2, 100000 - 2000 * i - 1200, .ref p0, u, h, t, ds, L, M, Ls1, Ms1, fb, rfl, x10.mono (by omega), hv9.but x9 u10, hm9.but x9 p1b u10, hi10, p1b, p2b, l10, l11, l20, l21, barAt_but hu9 x9 u10, ub, bo, bok, rLM, by omega, d0, hL, hM, fun H11 u11 x11 => ⟨true, rfl, iteF ?_⟩⟩
        exact ⟨_, _, _, _, _, _, _, rfl, x11.mono (by omega), u08.trans ((u9.trans u10).trans u11)⟩
    · rintro σ H' ⟨y1, y2, y3, y4, y5, y6, y7, rfl, x9, u9⟩
      exact q H' u9
end
end Sh

namespace Sh
open PySem PySem.Spec PyProof.Rows L2
/-! ### the law itself -/
def spLaw (K : PySem.W.Frag) : Sp := fun vs H Q _ => ∃ (a : Addr) (ns : List Int), vs = [.ref a] ∧ SqL K H a (ns.map V.int) ∧ ns.length ≤ 63 ∧ ∀ H', Q (.bl true) H'
abbrev s_law : Stmt := topS 53
theorem sc_law : FnScope (["_law_script", "_law_k"] : List Str) (["_law_script"] : List Str) (defScope s_law) := ⟨rfl, rfl, rfl, by decide +kernel, rfl, by decide +kernel, by decide +kernel⟩
theorem b_law (kV doc pm : Value) (an : Option Addr) (cdv ct : Value) (us : List Value) (hl : us.length = (["_law_script"] : List Str).length) : bindArgs (PySem.W.fnOf "law" "law" (defArgs s_law) (defBody s_law) (defScope s_law) .none kV doc pm an cdv ct) ⟨us, []⟩ = pure ((["_law_script"] : List Str).zip us) :=
  match us, hl with | [_], _ => rfl
section
variable {P : Program} {w : World} {K : PySem.W.Frag} {mg : Str → Option Value} {base : Heap}
theorem ok_law {k : Nat} (D : Df K mg "law" s_law) (T : Bt mg) (O__law_box : Ok P w K mg base k "_law_box" s__law_box ["_law_script", "_law_k"] (spBox K)) (O__law_right : Ok P w K mg base k "_law_right" s__law_right ["_law_box_here"] spRight) :
    Ok P w K mg base (k + 1) "law" s_law ["_law_script"] (spLaw K) := by
  refine D.ok sc_law b_law (fun vs H Q E h => ?_) (fun f cdv A outer s H vs Q E hr h => ?_)
  · obtain ⟨a, ns, rfl, _⟩ := h
    rfl
  · obtain ⟨a, ns, rfl, hS, hl, q⟩ := h
    refine ⟨_, (pss_one (ps_ret (pe_callB (cr_all rfl) (by rfl) T.all_ (by decide +kernel) (pa_cons (pe_lc (own := [("_law_k", 1)]) (g := (gName 1)) (tt := tYes) (by rfl) sc_law.nd (pi_range1 (by rfl) T.range_ (pa_cons (pe_op op_add pe_int (pe_callB (call_min2 rfl) (by rfl) T.min_ (by decide +kernel) (pa_cons pe_int (pa_cons (pe_callB call_len_seq (by rfl) T.len_ PySem.boot_len (pa_cons (pv 0) pa_nil)) pa_nil)))) pa_nil)) (blkOk_by (own := [("_law_k", 1)]) (N := (["_law_script", "_law_k"] : List Str)) (sc := defScope s_law) (by decide +kernel)) (fun _ _ _ _ _ => (pg_name (i := 1) sc_law.nd rfl (.inl rfl))) (fun _ _ _ _ _ => pts_nil) (fun _ _ _ _ _ => (pe_fn O__law_right (hr.mono (by omega)) (pa_cons (pe_fn O__law_box (hr.mono (by omega)) (pa_cons (pv 0) (pa_cons (pv 1) pa_nil))) pa_nil)))) pa_nil)))), ?_⟩
    refine ⟨_, rfl, a, _, rfl, .inl hS, _, _, rfl, 1, _, rfl, rfl, _, rfl, ?_, ?_, fun C nC => ?_⟩
    · split <;> omega
    · rw [List.length_map]
      split <;> omega
    rw [List.length_map]
    generalize en : (1 + if (ns.length : Int) < 3 then (ns.length : Int) else 3).toNat = n
    have hn : n ≤ 4 := by
      rw [← en]
      split <;> omega
    refine lc_range (fun i H' => Same H H' ∧ H' C = some (.lst ((List.replicate i true).map V.bl))) ⟨same_new nC, upd_same⟩ ?_ ?_
    · rintro i H1 hi ⟨sm, hC⟩
      refine ⟨rfl, tyes (iteT ?_)⟩
      refine ⟨_, rfl, _, rfl, a, ns, i, ?_, by omega, sm.seq hS, fun b xs nb bx => ?_⟩
      · show [V.ref a, V.int (0 + (i : Int))] = _
        rw [Int.zero_add]
      refine ⟨b, rfl, (BoxAt.put bx).mono (by decide), fun H2 u2 => ?_⟩
      have nCb : C ≠ b := ne_of_none hC nb
      refine ⟨_, u2 _ _ nCb (by rw [upd_ne nCb]; exact hC), ?_, fun p o ho => ?_, ?_⟩
      · rw [List.length_map, List.length_replicate]
        exact small1000 (by omega)
      · have npb : p ≠ b := ne_of_none (sm _ _ ho) nb
        rw [upd_ne (ne_of_none ho nC)]
        exact u2 _ _ npb (by rw [upd_ne npb]; exact sm _ _ ho)
      · rw [upd_same, List.replicate_succ', List.map_append]
        rfl
    · rintro H1 ⟨sm, hC⟩
      refine ⟨C, _, rfl, SqL.of hC, ?_⟩
      have e : (List.replicate n true).all id = true := by simp
      rw [e]
      exact q _
theorem law_end {k : Nat} {fa : Addr} {sp : Sp} (D : Df K mg "law" s_law) (hfa : mg "law" = some (.ref fa)) (O : ∀ base, Ok P w K mg base k "law" s_law ["_law_script"] sp) :
    ∃ fd : FuncData, (∀ (s : Shared) (v : Value), BindsTo s fd ⟨[v], []⟩ [("_law_script", v)]) ∧ ∀ base : Heap, K.In base → base.Ns mainGlobals mg → FnOk P w K mg base CX0 k fa fd ["_law_script"] sp := by
  obtain ⟨f, fd, F, g⟩ := D.ex
  obtain rfl : fa = f := by
    have e := hfa.symm.trans g
    cases e
    rfl
  refine ⟨fd, fun s v => ?_, fun base _ _ => ?_⟩
  · obtain ⟨oc, od, kV, doc, pm, an, cdv, ct, osl, rfl, lk, hcd⟩ := F.ex
    exact .of_eq (b_law kV doc pm an cdv ct [v] rfl)
  · obtain ⟨f', fd', F', g', _, G⟩ := (O base).ex
    obtain rfl : fa = f' := by
      have e := g.symm.trans g'
      cases e
      rfl
    obtain ⟨_, _, _, _, _, _, _, _, _, _, lk, _⟩ := F.ex
    obtain ⟨_, _, _, _, _, _, _, _, _, _, lk', _⟩ := F'.ex
    have e := lk.symm.trans lk'
    cases e
    exact G
theorem df_mk {x : Str} {st : Stmt} {h : Heap} {f : Addr} {oc : Value} {od an : Option Addr} {sl : Array (Option Value)} {kV dc pm cd ct : Value} (X : K.In h) (G : h.Ns mainGlobals mg)
    (a : PySem.W.nsIn K mainGlobals x = some (some (.ref f))) (l : K.lookup f = some ⟨oc, od, .func (PySem.W.fnOf x x (defArgs st) (defBody st) (defScope st) .none kV dc pm an cd ct), sl⟩)
    (c : PySem.W.codeIn K cd x = true) (k : PySem.W.keepIn K (.ref f) = true) : Df K mg x st := ⟨f, _, fun_mk l c k, PySem.W.mg_of X G a⟩
theorem with_df {R : Prop} {x : Str} {st : Stmt} {h : Heap} {f : Addr} {oc : Value} {od an : Option Addr} {sl : Array (Option Value)} {kV dc pm cd ct : Value} (X : K.In h) (G : h.Ns mainGlobals mg)
    (a : PySem.W.nsIn K mainGlobals x = some (some (.ref f))) (l : K.lookup f = some ⟨oc, od, .func (PySem.W.fnOf x x (defArgs st) (defBody st) (defScope st) .none kV dc pm an cd ct), sl⟩)
    (c : PySem.W.codeIn K cd x = true) (k : PySem.W.keepIn K (.ref f) = true) (r : Df K mg x st → R) : R := r (df_mk X G a l c k)
end
end Sh

open PySem PySem.W PyProof.Rows
set_option maxHeartbeats 0 in
theorem PySem.Challenge.cw_shoalmates_k65_whole_a_bar_parts_two_lot_holds : PySem.Challenge.rw_shoalmates_k65_whole_a_bar_parts_two_lot.Holds := by
  w_on; o_law; k_head; (case hw => w_witness2)
  k_fill
  refine L2.walk_of (l := PySem.Challenge.rw_shoalmates_k65_whole_a_bar_parts_two_lot) (n := 63) (k := 13) (x := "_law_script") (CX := fun _ => L2.CX0) (sp := fun w => Sh.spLaw _) rfl (by decide) rfl ⟨rfl, by decide, by decide⟩ (fun w h Y => PySem.W.kIn_of Y) ?F (fun _ _ a ns hl _ hS => ⟨a, ns, rfl, hS, hl, fun _ => rfl⟩) (fun _ _ _ _ _ h => h)
  case F =>
    intro w mg fa h KX G hmg
    have T : Sh.Bt mg := by
      constructor <;> (refine PySem.W.mg_none_of KX G ?_; k_is)
    refine' Sh.with_cn KX G ?a ?b ?c fun C => ?_
    (case a => k_is); (case b => k_is); (case c => k_is)
    refine' Sh.with_df (x := "is_number") (st := Sh.s_is_number) KX G ?a ?l ?c ?k fun D_is_number => ?_
    (case a => k_is); (case l => k_is); (case c => k_is); (case k => k_is)
    refine' Sh.with_df (x := "is_tuple_of") (st := Sh.s_is_tuple_of) KX G ?a ?l ?c ?k fun D_is_tuple_of => ?_
    (case a => k_is); (case l => k_is); (case c => k_is); (case k => k_is)
    refine' Sh.with_df (x := "are_rising") (st := Sh.s_are_rising) KX G ?a ?l ?c ?k fun D_are_rising => ?_
    (case a => k_is); (case l => k_is); (case c => k_is); (case k => k_is)
    refine' Sh.with_df (x := "mark_of") (st := Sh.s_mark_of) KX G ?a ?l ?c ?k fun D_mark_of => ?_
    (case a => k_is); (case l => k_is); (case c => k_is); (case k => k_is)
    refine' Sh.with_df (x := "top_of") (st := Sh.s_top_of) KX G ?a ?l ?c ?k fun D_top_of => ?_
    (case a => k_is); (case l => k_is); (case c => k_is); (case k => k_is)
    refine' Sh.with_df (x := "fleet_of") (st := Sh.s_fleet_of) KX G ?a ?l ?c ?k fun D_fleet_of => ?_
    (case a => k_is); (case l => k_is); (case c => k_is); (case k => k_is)
    refine' Sh.with_df (x := "turned_fleet") (st := Sh.s_turned_fleet) KX G ?a ?l ?c ?k fun D_turned_fleet => ?_
    (case a => k_is); (case l => k_is); (case c => k_is); (case k => k_is)
    refine' Sh.with_df (x := "ships_many") (st := Sh.s_ships_many) KX G ?a ?l ?c ?k fun D_ships_many => ?_
    (case a => k_is); (case l => k_is); (case c => k_is); (case k => k_is)
    refine' Sh.with_df (x := "mark_in") (st := Sh.s_mark_in) KX G ?a ?l ?c ?k fun D_mark_in => ?_
    (case a => k_is); (case l => k_is); (case c => k_is); (case k => k_is)
    refine' Sh.with_df (x := "top_in") (st := Sh.s_top_in) KX G ?a ?l ?c ?k fun D_top_in => ?_
    (case a => k_is); (case l => k_is); (case c => k_is); (case k => k_is)
    refine' Sh.with_df (x := "filled_at") (st := Sh.s_filled_at) KX G ?a ?l ?c ?k fun D_filled_at => ?_
    (case a => k_is); (case l => k_is); (case c => k_is); (case k => k_is)
    refine' Sh.with_df (x := "low_stop") (st := Sh.s_low_stop) KX G ?a ?l ?c ?k fun D_low_stop => ?_
    (case a => k_is); (case l => k_is); (case c => k_is); (case k => k_is)
    refine' Sh.with_df (x := "lot_of") (st := Sh.s_lot_of) KX G ?a ?l ?c ?k fun D_lot_of => ?_
    (case a => k_is); (case l => k_is); (case c => k_is); (case k => k_is)
    refine' Sh.with_df (x := "mark_at") (st := Sh.s_mark_at) KX G ?a ?l ?c ?k fun D_mark_at => ?_
    (case a => k_is); (case l => k_is); (case c => k_is); (case k => k_is)
    refine' Sh.with_df (x := "goers_at") (st := Sh.s_goers_at) KX G ?a ?l ?c ?k fun D_goers_at => ?_
    (case a => k_is); (case l => k_is); (case c => k_is); (case k => k_is)
    refine' Sh.with_df (x := "top_step") (st := Sh.s_top_step) KX G ?a ?l ?c ?k fun D_top_step => ?_
    (case a => k_is); (case l => k_is); (case c => k_is); (case k => k_is)
    refine' Sh.with_df (x := "comes_to") (st := Sh.s_comes_to) KX G ?a ?l ?c ?k fun D_comes_to => ?_
    (case a => k_is); (case l => k_is); (case c => k_is); (case k => k_is)
    refine' Sh.with_df (x := "fast_ones") (st := Sh.s_fast_ones) KX G ?a ?l ?c ?k fun D_fast_ones => ?_
    (case a => k_is); (case l => k_is); (case c => k_is); (case k => k_is)
    refine' Sh.with_df (x := "is_place") (st := Sh.s_is_place) KX G ?a ?l ?c ?k fun D_is_place => ?_
    (case a => k_is); (case l => k_is); (case c => k_is); (case k => k_is)
    refine' Sh.with_df (x := "is_standing") (st := Sh.s_is_standing) KX G ?a ?l ?c ?k fun D_is_standing => ?_
    (case a => k_is); (case l => k_is); (case c => k_is); (case k => k_is)
    refine' Sh.with_df (x := "filled") (st := Sh.s_filled) KX G ?a ?l ?c ?k fun D_filled => ?_
    (case a => k_is); (case l => k_is); (case c => k_is); (case k => k_is)
    refine' Sh.with_df (x := "emptied") (st := Sh.s_emptied) KX G ?a ?l ?c ?k fun D_emptied => ?_
    (case a => k_is); (case l => k_is); (case c => k_is); (case k => k_is)
    refine' Sh.with_df (x := "lies_under") (st := Sh.s_lies_under) KX G ?a ?l ?c ?k fun D_lies_under => ?_
    (case a => k_is); (case l => k_is); (case c => k_is); (case k => k_is)
    refine' Sh.with_df (x := "lies_above") (st := Sh.s_lies_above) KX G ?a ?l ?c ?k fun D_lies_above => ?_
    (case a => k_is); (case l => k_is); (case c => k_is); (case k => k_is)
    refine' Sh.with_df (x := "shows_low") (st := Sh.s_shows_low) KX G ?a ?l ?c ?k fun D_shows_low => ?_
    (case a => k_is); (case l => k_is); (case c => k_is); (case k => k_is)
    refine' Sh.with_df (x := "shows_high") (st := Sh.s_shows_high) KX G ?a ?l ?c ?k fun D_shows_high => ?_
    (case a => k_is); (case l => k_is); (case c => k_is); (case k => k_is)
    refine' Sh.with_df (x := "shows_fast") (st := Sh.s_shows_fast) KX G ?a ?l ?c ?k fun D_shows_fast => ?_
    (case a => k_is); (case l => k_is); (case c => k_is); (case k => k_is)
    refine' Sh.with_df (x := "shows_bar") (st := Sh.s_shows_bar) KX G ?a ?l ?c ?k fun D_shows_bar => ?_
    (case a => k_is); (case l => k_is); (case c => k_is); (case k => k_is)
    refine' Sh.with_df (x := "bars_round") (st := Sh.s_bars_round) KX G ?a ?l ?c ?k fun D_bars_round => ?_
    (case a => k_is); (case l => k_is); (case c => k_is); (case k => k_is)
    refine' Sh.with_df (x := "bar_of") (st := Sh.s_bar_of) KX G ?a ?l ?c ?k fun D_bar_of => ?_
    (case a => k_is); (case l => k_is); (case c => k_is); (case k => k_is)
    refine' Sh.with_df (x := "_law_cell_at") (st := Sh.s__law_cell_at) KX G ?a ?l ?c ?k fun D__law_cell_at => ?_
    (case a => k_is); (case l => k_is); (case c => k_is); (case k => k_is)
    refine' Sh.with_df (x := "_law_box") (st := Sh.s__law_box) KX G ?a ?l ?c ?k fun D__law_box => ?_
    (case a => k_is); (case l => k_is); (case c => k_is); (case k => k_is)
    refine' Sh.with_df (x := "_law_take") (st := Sh.s__law_take) KX G ?a ?l ?c ?k fun D__law_take => ?_
    (case a => k_is); (case l => k_is); (case c => k_is); (case k => k_is)
    refine' Sh.with_df (x := "_law_of") (st := Sh.s__law_of) KX G ?a ?l ?c ?k fun D__law_of => ?_
    (case a => k_is); (case l => k_is); (case c => k_is); (case k => k_is)
    refine' Sh.with_df (x := "_law_sea") (st := Sh.s__law_sea) KX G ?a ?l ?c ?k fun D__law_sea => ?_
    (case a => k_is); (case l => k_is); (case c => k_is); (case k => k_is)
    refine' Sh.with_df (x := "_law_lot") (st := Sh.s__law_lot) KX G ?a ?l ?c ?k fun D__law_lot => ?_
    (case a => k_is); (case l => k_is); (case c => k_is); (case k => k_is)
    refine' Sh.with_df (x := "_law_lets") (st := Sh.s__law_lets) KX G ?a ?l ?c ?k fun D__law_lets => ?_
    (case a => k_is); (case l => k_is); (case c => k_is); (case k => k_is)
    refine' Sh.with_df (x := "_law_gone") (st := Sh.s__law_gone) KX G ?a ?l ?c ?k fun D__law_gone => ?_
    (case a => k_is); (case l => k_is); (case c => k_is); (case k => k_is)
    refine' Sh.with_df (x := "_law_layers") (st := Sh.s__law_layers) KX G ?a ?l ?c ?k fun D__law_layers => ?_
    (case a => k_is); (case l => k_is); (case c => k_is); (case k => k_is)
    refine' Sh.with_df (x := "_law_some") (st := Sh.s__law_some) KX G ?a ?l ?c ?k fun D__law_some => ?_
    (case a => k_is); (case l => k_is); (case c => k_is); (case k => k_is)
    refine' Sh.with_df (x := "_law_lots_right") (st := Sh.s__law_lots_right) KX G ?a ?l ?c ?k fun D__law_lots_right => ?_
    (case a => k_is); (case l => k_is); (case c => k_is); (case k => k_is)
    refine' Sh.with_df (x := "_law_right") (st := Sh.s__law_right) KX G ?a ?l ?c ?k fun D__law_right => ?_
    (case a => k_is); (case l => k_is); (case c => k_is); (case k => k_is)
    refine' Sh.with_df (x := "law") (st := Sh.s_law) KX G ?a ?l ?c ?k fun D_law => ?_
    (case a => k_is); (case l => k_is); (case c => k_is); (case k => k_is)
    exact Sh.law_end D_law hmg fun base =>
      let O__law_take := Sh.ok_take (base := base) (k := 0) D__law_take T
      let O__law_cell_at := Sh.ok_cell_at (base := base) (k := 0) D__law_cell_at T
      let O__law_box := Sh.ok_box (k := 1) D__law_box T O__law_cell_at
      let O__law_of := Sh.ok_of (k := 1) D__law_of T O__law_take
      let O__law_sea := Sh.ok_sea (k := 2) D__law_sea T (O__law_take.mono (by decide)) O__law_of
      let O__law_lot := Sh.ok_lot (k := 2) D__law_lot T (O__law_take.mono (by decide)) O__law_of
      let O__law_lets := Sh.ok_lets (base := base) (k := 0) D__law_lets T
      let O__law_gone := Sh.ok_gone (base := base) (k := 0) D__law_gone T
      let O_mark_of := Sh.ok_mark_of (base := base) (k := 0) D_mark_of T
      let O_top_of := Sh.ok_top_of (base := base) (k := 0) D_top_of T
      let O_mark_at := Sh.ok_mark (k := 1) D_mark_at T O_mark_of
      let O_goers_at := Sh.ok_goers (k := 2) D_goers_at T O_mark_at
      let O_top_step := Sh.ok_top (k := 1) D_top_step T O_top_of
      let O_ships_many := Sh.ok_ships (base := base) (k := 0) D_ships_many T
      let O_mark_in := Sh.ok_mark_in (k := 1) D_mark_in T O_mark_of O_ships_many
      let O_top_in := Sh.ok_top_in (k := 1) D_top_in T O_top_of O_ships_many
      let O_filled_at := Sh.ok_filled (k := 2) D_filled_at T O_mark_in
      let O_low_stop := Sh.ok_low_stop (k := 3) D_low_stop T O_filled_at
      let O_turned_fleet := Sh.ok_turned_fleet (base := base) (k := 0) D_turned_fleet T
      let O_lot_of := Sh.ok_lot_of (k := 4) D_lot_of T C (O_ships_many.mono (by decide)) (O_top_in.mono (by decide)) O_low_stop (O_turned_fleet.mono (by decide))
      let O_fleet_of := Sh.ok_fleet_of (base := base) (k := 0) D_fleet_of T
      let O_fast_ones := Sh.ok_fast (base := base) (k := 0) D_fast_ones T
      let O_comes_to := Sh.ok_comes (k := 5) D_comes_to T O_lot_of (O_fleet_of.mono (by decide)) (O_mark_at.mono (by decide)) (O_fast_ones.mono (by decide))
      let Onu := Sh.ok_is_number (base := base) (k := 0) D_is_number T
      let Otu := Sh.ok_is_tuple (base := base) (k := 0) D_is_tuple_of T
      let Ori := Sh.ok_rising (base := base) (k := 0) D_are_rising T
      let Opl := Sh.ok_is_place (k := 1) D_is_place T Onu
      let Ost := Sh.ok_is_stand (k := 2) D_is_standing T Opl (Ori.mono (by decide))
      let Ofi := Sh.ok_filled_s (k := 3) D_filled T O_goers_at
      let Oem := Sh.ok_emptied_s (k := 3) D_emptied T O_goers_at
      let Oun := Sh.ok_under (k := 4) D_lies_under T Ofi
      let Oab := Sh.ok_above (k := 4) D_lies_above T Oem
      let Osl := Sh.ok_shows_low (k := 5) D_shows_low T (Opl.mono (by decide)) (Ost.mono (by decide)) (O_mark_at.mono (by decide)) (Ofi.mono (by decide)) Oun
      let Osh := Sh.ok_shows_high (k := 5) D_shows_high T (Opl.mono (by decide)) (Ost.mono (by decide)) (O_mark_at.mono (by decide)) (Oem.mono (by decide)) Oab
      let Osf := Sh.ok_shows_fast (k := 5) D_shows_fast T (Opl.mono (by decide)) (O_mark_at.mono (by decide)) (O_top_step.mono (by decide))
      let Osb := Sh.ok_shows_bar (k := 6) D_shows_bar T (Otu.mono (by decide)) Osf Osl Osh
      let Oro := Sh.ok_round (k := 5) D_bars_round T C O_lot_of (O_fleet_of.mono (by decide)) (Ofi.mono (by decide)) (Oem.mono (by decide)) (O_goers_at.mono (by decide))
      let Obo := Sh.ok_bar_of (k := 7) D_bar_of T (O_comes_to.mono (by decide)) (Oro.mono (by decide)) Osb
      let Ola := Sh.ok_layers (k := 3) D__law_layers T (O__law_lets.mono (by decide)) (O__law_gone.mono (by decide))
      let Oso := Sh.ok_someL (k := 2) D__law_some T (O__law_of.mono (by decide))
      let Olr := Sh.ok_lotsR (k := 10) D__law_lots_right T (Osb.mono (by decide)) (Obo.mono (by decide)) (O__law_of.mono (by decide))
      Sh.ok_law (k := 12) D_law T (O__law_box.mono (by decide)) (Sh.ok_right (k := 11) D__law_right T (O__law_sea.mono (by decide)) (O__law_lot.mono (by decide)) (Ola.mono (by decide)) (Obo.mono (by decide)) (Oso.mono (by decide)) (Olr.mono (by decide)))
