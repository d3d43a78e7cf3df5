import PyProof.Rows.All
import Wide.All
import OpenK.AllK
import Wide.FinOn
import KE.GoesEnum
import HandS.ForMost
import HandS.Walk
import HandS.Zip
import HandS.IsInst
import HandS.NoneIn
import HandS.SortInts
import HandS.Evl
import HandS.Conv
import HandS.Style
import HandS.Star
import HandS.More
import HandS.Strs
import HandS.SetFor
import HandS.Wide
import HandS.Iter
import PyProof.ReprRoads
import PyProof.ReprLen
import HandS.TupAny
import HandS.Lambda
import HandS.EndTab
import KE.KNestM
import KE.KTupSum
import PySem.Challenge.RW_shoalmates_k41_how_deep_sets_each_free
set_option Elab.async false
set_option linter.all false
set_option maxRecDepth 100000
set_option maxHeartbeats 1000000
/-! Own layer over the hand layer: sequences (a list or a tuple), enumerate of a tuple, defs by one fact each, what is told kept under a growing heap. -/
namespace Sh
open PySem PySem.Spec PyProof.Rows L2

/-! ### heaps -/
theorem same_new {H : Hp} {p : Addr} {o : HO} (h : H p = none) : Same H (upd H p o) := fun b x e => by
  rw [upd_ne (ne_of_none e h)]
  exact e
theorem Same.tup {K : PySem.W.Frag} {H H' : Hp} {a : Addr} {xs : List V} (e : Same H H') (h : SqT K H a xs) : SqT K H' a xs := by
  rcases h with (h | ⟨o, h⟩) | h
  · exact .inl (.inl (e _ _ h))
  · exact .inl (.inr ⟨o, e _ _ h⟩)
  · exact .inr h
/-- a list or a tuple of xs is to be read at a -/
def SqA (K : PySem.W.Frag) (H : Hp) (a : Addr) (xs : List V) : Prop := SqL K H a xs ∨ SqT K H a xs
theorem Same.sqA {K : PySem.W.Frag} {H H' : Hp} {a : Addr} {xs : List V} (e : Same H H') (h : SqA K H a xs) : SqA K H' a xs := h.elim (fun q => .inl (e.seq q)) fun q => .inr (Same.tup e q)
theorem SqA.l {K : PySem.W.Frag} {H : Hp} {a : Addr} {xs : List V} (h : H a = some (.lst xs)) : SqA K H a xs := .inl (SqL.of h)
theorem SqA.t {K : PySem.W.Frag} {H : Hp} {a : Addr} {xs : List V} (h : H a = some (.tup xs)) : SqA K H a xs := .inr (SqT.of h)
/-- nothing but b has changed of what was tracked -/
def But (b : Addr) (H H' : Hp) : Prop := ∀ a o, a ≠ b → H a = some o → H' a = some o
theorem But.refl (b : Addr) (H : Hp) : But b H H := fun _ _ _ e => e
theorem But.trans {b : Addr} {H H1 H2 : Hp} (x : But b H H1) (y : But b H1 H2) : But b H H2 := fun a o n e => y a o n (x a o n e)
theorem Same.but {b : Addr} {H H' : Hp} (e : Same H H') : But b H H' := fun a o _ h => e a o h
theorem But.ups {b : Addr} {H : Hp} {o : HO} : But b H (upd H b o) := fun a x n e => by rw [upd_ne n]; exact e
theorem But.same {b : Addr} {G H H' : Hp} (x : But b H H') (g : Same G H) (n : G b = none) : Same G H' := fun a o e => x a o (ne_of_none e n) (g a o e)

section
variable {K : PySem.W.Frag} {H H' : Hp}
mutual
theorem Dp.same (e : Same H H') : ∀ {v : V} {d : PyData}, Dp K H v d → Dp K H' v d
  | _, _, .non => .non
  | _, _, .bl b => .bl b
  | _, _, .int i => .int i
  | _, _, .str x => .str x
  | _, _, .lst h a => .lst (e.seq h) (DpAll.same e a)
  | _, _, .tup h a => .tup (Same.tup e h) (DpAll.same e a)
theorem DpAll.same (e : Same H H') : ∀ {vs : List V} {ds : List PyData}, DpAll K H vs ds → DpAll K H' vs ds
  | _, _, .nil => .nil
  | _, _, .cons h a => .cons (Dp.same e h) (DpAll.same e a)
end
theorem DpAll.ints : ∀ ns : List Int, DpAll K H (ns.map V.int) (ns.map PyData.int)
  | [] => .nil
  | n :: ns => .cons (.int n) (DpAll.ints ns)
theorem DpAll.len : ∀ {vs : List V} {ds : List PyData}, DpAll K H vs ds → vs.length = ds.length
  | _, _, .nil => rfl
  | _, _, .cons _ a => congrArg Nat.succ (DpAll.len a)
theorem DpAll.get : ∀ {vs : List V} {ds : List PyData} {i : Nat} {v : V}, DpAll K H vs ds → vs[i]? = some v → ∃ d, ds[i]? = some d ∧ Dp K H v d
  | _, _, _, _, .nil, h => by simp at h
  | _, _, 0, _, .cons x _, h => by
    cases Option.some.inj h
    exact ⟨_, rfl, x⟩
  | _, _, i + 1, _, .cons _ a, h => DpAll.get (i := i) a h
end

/-! ### rules for a list or a tuple -/
section
variable {X : Cx}
def rIxA (K : PySem.W.Frag) : R2 := fun x y H Q => ∃ p xs i v, x = .ref p ∧ y = .int i ∧ SqA K H p xs ∧ atI xs i = some v ∧ Q v H
theorem ix_lt : IxR X (rIxA X.K) := fun value slice pins s σ H x y v u Q I rx ry h hs => by
  obtain ⟨p, xs, i, z, e1, e2, hq | hq, he, q⟩ := h
  · exact ix_list value slice pins s σ H x y v u Q I rx ry ⟨p, xs, i, z, e1, e2, hq, he, q⟩ hs
  · exact ix_tup value slice pins s σ H x y v u Q I rx ry ⟨p, xs, i, z, e1, e2, hq, he, q⟩ hs
/-- a written power, its worth written -/
theorem op_powC (v : Int) : OpR X (binaryOp .Pow) (rI (fun i j => CPow i j ∧ i ^ j.toNat = v) fun _ _ => .int v) := fun pins s σ H x y u w Q I rx ry h => by
  obtain ⟨i, j, e1, e2, ⟨hc, hv⟩, q⟩ := h
  exact op_pow pins s σ H x y u w Q I rx ry ⟨i, j, e1, e2, hc, show Q (.int (i ^ j.toNat)) H by rw [hv]; exact q⟩
/-- a < b < c < d -/
def tChain3 (r r' r'' : R2) (ta tb tc td : TE) : TE := fun σ H Q => ta σ H fun x H1 => tb σ H1 fun y H2 => r x y H2 fun z H3 => ∃ k, z = .bl k ∧
  (if k = true then tc σ H3 fun y' H4 => r' y y' H4 fun z' H5 => ∃ k', z' = .bl k' ∧ (if k' = true then td σ H5 fun y'' H6 => r'' y' y'' H6 Q else Q (.bl false) H5) else Q (.bl false) H3)
theorem pe_chain3 {a b c d : Expr} {ta tb tc td : TE} {pos : Pos} {op op' op'' : CmpOp} {r r' r'' : R2} (ho : OpR X (compareOp op) r) (ho' : OpR X (compareOp op') r') (ho'' : OpR X (compareOp op'') r'') (ha : PE X a ta) (hb : PE X b tb) (hc : PE X c tc) (hd : PE X d td)
    (hm : lastMarks [op, op', op''] [b, c, d] = false := by with_unfolding_all rfl) : PE X (.Compare a [op, op', op''] [b, c, d] pos) (tChain3 r r' r'' ta tb tc td) := by
  refine ⟨fun pins s σ H Q I h => ?_⟩
  refine Compare_chain (thn (ha.run pins s σ H _ I h) fun v s1 ⟨x, H1, I1, r1, q1⟩ => chain_link (thn (hb.run pins s1 σ H1 _ I1 q1) fun u s2 ⟨y, H2, I2, r2, q2⟩ =>
    thn (ho pins s2 σ H2 x y v u _ I2 r1 r2 q2) fun e s3 ⟨z, H3, I3, r3, k, ez, q3⟩ => ?_)) hm
  subst ez
  cases r3
  refine wpAny_truthy_bool ?_
  cases k with
  | false => exact ite_ff ⟨.bl false, H3, I3, rfl, q3⟩
  | true =>
    refine ite_tt (chain_link (thn (hc.run pins s3 σ H3 _ I3 q3) fun u' s4 ⟨y', H4, I4, r4, q4⟩ => thn (ho' pins s4 σ H4 y y' u u' _ I4 r2 r4 q4) fun e s5 ⟨z', H5, I5, r5, k', ez', q5⟩ => ?_))
    subst ez'
    cases r5
    refine wpAny_truthy_bool ?_
    cases k' with
    | false => exact ite_ff ⟨.bl false, H5, I5, rfl, q5⟩
    | true => exact ite_tt (chain_last (thn (hd.run pins s5 σ H5 _ I5 q5) fun w' s6 ⟨y'', H6, I6, r6, q6⟩ => ho'' pins s6 σ H6 y' y'' u' w' Q I6 r4 r6 q6))
theorem pt_chain3 {a b c d : Expr} {ta tb tc td : TE} {pos : Pos} {op op' op'' : CmpOp} {r r' r'' : R2} (ho : OpR X (compareOp op) r) (ho' : OpR X (compareOp op') r') (ho'' : OpR X (compareOp op'') r'') (ha : PE X a ta) (hb : PE X b tb) (hc : PE X c tc) (hd : PE X d td)
    (hm : lastMarks [op, op', op''] [b, c, d] = false := by with_unfolding_all rfl) : PT X (.Compare a [op, op', op''] [b, c, d] pos) (tTest (tChain3 r r' r'' ta tb tc td)) := by
  refine ⟨fun pins s σ H Q I h => ?_⟩
  refine isTrue_chain (thn (ha.run pins s σ H _ I h) fun v s1 ⟨x, H1, I1, r1, q1⟩ => test_link (thn (hb.run pins s1 σ H1 _ I1 q1) fun u s2 ⟨y, H2, I2, r2, q2⟩ =>
    thn (ho pins s2 σ H2 x y v u _ I2 r1 r2 q2) fun e s3 ⟨z, H3, I3, r3, k, ez, q3⟩ => ?_)) hm
  subst ez
  cases r3
  refine wpAny_truthy_bool ?_
  cases k with
  | false =>
    obtain ⟨k', e', q'⟩ := q3
    cases e'
    exact ite_ff ⟨H3, I3, q'⟩
  | true =>
    refine ite_tt (test_link (thn (hc.run pins s3 σ H3 _ I3 q3) fun u' s4 ⟨y', H4, I4, r4, q4⟩ => thn (ho' pins s4 σ H4 y y' u u' _ I4 r2 r4 q4) fun e s5 ⟨z', H5, I5, r5, k', ez', q5⟩ => ?_))
    subst ez'
    cases r5
    refine wpAny_truthy_bool ?_
    cases k' with
    | false =>
      obtain ⟨k', e', q'⟩ := q5
      cases e'
      exact ite_ff ⟨H5, I5, q'⟩
    | true =>
      refine ite_tt (test_last (thn (hd.run pins s5 σ H5 _ I5 q5) fun w' s6 ⟨y'', H6, I6, r6, q6⟩ => thn (ho'' pins s6 σ H6 y' y'' u' w' _ I6 r4 r6 q6) fun e s7 ⟨z2, H7, I7, r7, k2, e2, q7⟩ => ?_))
      subst e2
      cases r7
      exact wpAny_truthy_bool ⟨H7, I7, q7⟩
/-- the same, the written part by its own name (within a comprehension) -/
theorem ix_ltK (K : PySem.W.Frag) (hK : X.K = K := by rfl) : IxR X (rIxA K) := hK ▸ ix_lt
theorem call_lenK (K : PySem.W.Frag) (hK : X.K = K := by rfl) : CallR X (.builtin "len") (fun xs H Q => ∃ p ys, xs = [.ref p] ∧ (SqL K H p ys ∨ SqT K H p ys) ∧ Q (.int ys.length) H) := hK ▸ call_len_seq
theorem op_inK (K : PySem.W.Frag) (hK : X.K = K := by rfl) : OpR X (compareOp .In) (rIn K false) := hK ▸ op_in_seq
theorem op_notInK (K : PySem.W.Frag) (hK : X.K = K := by rfl) : OpR X (compareOp .NotIn) (rIn K true) := hK ▸ op_notIn_seq
def gSeq (K : PySem.W.Frag) (n : Nat) (t : TGs) : TG := fun v σ H Q => ∃ a xs, v = .ref a ∧ SqA K H a xs ∧ xs.length = n ∧ t xs σ H Q
theorem pg_seq {es : List Expr} {k : Nat} {t : TGs} {n : Nat} {pos : Pos} (hc : X.calm = true) (h : PGs X es t)
    (hn : (assignEach es X.env).length = n := by rfl) (hst : (assignEach es X.env).findIdx? (·.1) = none := by rfl) : PG X (.Tuple es k pos) (gSeq X.K n t) := by
  refine ⟨fun pins s σ H v u Q I r hw => ?_⟩
  obtain ⟨a, xs, e1, hq | hq, hl, hw⟩ := hw
  · exact (pg_unl hc h hn hst).run pins s σ H v u Q I r ⟨a, xs, e1, hq, hl, hw⟩
  · exact (pg_tup hc h hn hst).run pins s σ H v u Q I r ⟨a, xs, e1, hq, hl, hw⟩
/-- what stands at a stands -/
def Kp (a : Addr) (H H' : Hp) : Prop := ∀ o, H a = some o → H' a = some o
theorem Kp.ofS {a : Addr} {H H' : Hp} (e : Same H H') : Kp a H H' := fun o h => e a o h
theorem Kp.ofB {a b : Addr} {H H' : Hp} (e : But b H H') (n : a ≠ b) : Kp a H H' := fun o h => e a o n h
theorem Kp.refl (a : Addr) (H : Hp) : Kp a H H := fun _ h => h
theorem Kp.sl {K : PySem.W.Frag} {a : Addr} {xs : List V} {H H' : Hp} (k : Kp a H H') (h : SqL K H a xs) : SqL K H' a xs := by
  rcases h with (h | ⟨o, h⟩) | h
  · exact .inl (.inl (k _ h))
  · exact .inl (.inr ⟨o, k _ h⟩)
  · exact .inr h
theorem Kp.st {K : PySem.W.Frag} {a : Addr} {xs : List V} {H H' : Hp} (k : Kp a H H') (h : SqT K H a xs) : SqT K H' a xs := by
  rcases h with (h | ⟨o, h⟩) | h
  · exact .inl (.inl (k _ h))
  · exact .inl (.inr ⟨o, k _ h⟩)
  · exact .inr h
theorem Kp.sa {K : PySem.W.Frag} {a : Addr} {xs : List V} {H H' : Hp} (k : Kp a H H') (h : SqA K H a xs) : SqA K H' a xs := h.elim (fun q => .inl (k.sl q)) fun q => .inr (k.st q)
/-- the walk over what stood at a in H0 -/
def ItA (K : PySem.W.Frag) (H0 : Hp) (a : Addr) (xs : List V) (J : It) : Prop := (J = Itl K a ∧ SqL K H0 a xs) ∨ (J = Itt K a ∧ SqT K H0 a xs)
def iSeq (K : PySem.W.Frag) (tl : TE) : TI := fun σ H R => tl σ H fun x H1 => ∃ (a : Addr) (xs : List V) (H0 : Hp), x = .ref a ∧ SqA K H0 a xs ∧ Kp a H0 H1 ∧ ∀ J, ItA K H0 a xs J → R J H1
theorem pi_seq {tg l : Expr} {tl : TE} (hl : PE X l tl) : PI X tg l (iSeq X.K tl) := by
  refine ⟨fun pins s σ H R I h => ?_⟩
  refine thn (hl.run pins s σ H _ I h) fun v s1 ⟨x, H1, I1, r1, q1⟩ => ?_
  obtain ⟨a, xs, H0, e, hq | hq, hk, q⟩ := q1
  · replace q := q _ (.inl ⟨rfl, hq⟩)
    replace hq := hk.sl hq
    subst e
    cases r1
    obtain ⟨its, rv, p, hz⟩ := I1.list hq
    refine wpAny_pyIter_list p.isList ?_
    refine ⟨s1.heap.objs.size, [s1.heap.objs.size], _, _, H1, rfl, I1.kept (t' := s1.toks) fun b o e => Heap.get?_push_of_some _ e, turn_list a _, ⟨_, Heap.get?_push_size _ rfl, rfl, rfl⟩, fun b hb => ?_, q⟩
    have e : b = s1.heap.objs.size := by simpa using hb
    subst e
    exact I1.fpOk (Nat.le_refl _) (I1.hok.fresh (Nat.le_refl _))
  · replace q := q _ (.inr ⟨rfl, hq⟩)
    replace hq := hk.st hq
    subst e
    cases r1
    obtain ⟨its, rv, p, hz⟩ := I1.tuple hq
    refine wpAny_pyIter_tuple (show s1.heap.IsTuple a its.toArray from p) ?_
    refine ⟨s1.heap.objs.size, [s1.heap.objs.size], _, _, H1, rfl, I1.kept (t' := s1.toks) fun b o e => Heap.get?_push_of_some _ e, turn_tuple a _, ⟨_, Heap.get?_push_size _ rfl, rfl, rfl⟩, fun b hb => ?_, q⟩
    have e : b = s1.heap.objs.size := by simpa using hb
    subst e
    exact I1.fpOk (Nat.le_refl _) (I1.hok.fresh (Nat.le_refl _))
end

theorem ItA.walk {K : PySem.W.Frag} {H0 : Hp} {a : Addr} {xs : List V} {J : It} (h : ItA K H0 a xs J) : ∃ G : Hp → Prop, (∀ H', Kp a H0 H' → G H') ∧ Walk J xs.length G (YAt xs) := by
  rcases h with ⟨rfl, q⟩ | ⟨rfl, q⟩
  · exact ⟨_, fun _ k => k.sl q, walk_list⟩
  · exact ⟨_, fun _ k => k.st q, walk_tup⟩

/-! ### enumerate of a tuple -/
set_option maxHeartbeats 1000000 in
theorem meets_enum1 {v : Value} {o : Obj} {H : Heap → Prop} (B : Begins v o H) :
    Meets (Builtin.«enumerate.__new__» ⟨[.type "enumerate", v], []⟩) (fun _ R s => H s.heap ∧
      R (.ok (.ret (.ref (s.heap.push o).objs.size))) { s with heap := (s.heap.push o).push { cls := .type "enumerate", data := .fields #[.none, .bool false, .ref s.heap.objs.size, rawInt 0, .none, .none] } }) :=
  .of_wp fun prog w A R s h => by
    obtain ⟨hp, g, d, tk, os⟩ := s; obtain ⟨h1, h⟩ := h
    have hsub := sub_enumerate
    have q1 : ∀ {A' : Around} {E : Value → Shared → Prop} {Q : Value → Shared → Prop}, Q (.ref hp.objs.size) ⟨hp.push o, g, d, tk, os⟩ → wpAny (model prog w) A' (pyIter v) Q E ⟨hp, g, d, tk, os⟩ :=
      fun q => B.iter prog w _ _ ⟨hp, g, d, tk, os⟩ _ h1 q
    wp_walk using q1
    refine wpAny_stack_any fun st => wpAny_pure ?_
    split
    · rename_i c _ _ _ _ _
      cases (c == Value.type "enumerate")
      · wp_walk using q1
        exact ⟨_, rfl, h⟩
      · wp_walk using q1
        exact ⟨_, rfl, h⟩
    · wp_walk using q1
      exact ⟨_, rfl, h⟩
section
variable {prog : Program} {w : World} {A : Around} {E : Value → Shared → Prop} {s : Shared}
theorem enum1_begins {v : Value} {o : Obj} {H : Heap → Prop} {Q : Value → Shared → Prop} (B : Begins v o H) (h1 : H s.heap)
    (h : ∀ h', IsEnum h' (s.heap.objs.size + 1) s.heap.objs.size 0 .none → h'.get? s.heap.objs.size = some o → h'.objs.size = s.heap.objs.size + 2 →
      (∀ b o, s.heap.get? b = some o → h'.get? b = some o) → Q (.ref (s.heap.objs.size + 1)) { s with heap := h' }) :
    wpAny (model prog w) A (call (.type "enumerate") [v]) Q E s := by
  refine callType_new F.called_enumerate (by decide) (F.typeCall_enumerate_1 _) (F.newCall_enumerate_1 _) (fun obj => F.args_object_init_2 obj _) F.entry_enumerate_new
    (meets_enum1 B) ⟨h1, ?_⟩
  have hz : (s.heap.push o).objs.size = s.heap.objs.size + 1 := Heap.size_push ..
  show _ ∧ _
  rw [hz]
  have he : IsEnum ((s.heap.push o).push { cls := .type "enumerate", data := .fields #[.none, .bool false, .ref s.heap.objs.size, rawInt 0, .none, .none] }) (s.heap.objs.size + 1) s.heap.objs.size 0 .none := by
    have := Heap.get?_push_size (s.heap.push o) (o := { cls := .type "enumerate", data := .fields #[.none, .bool false, .ref s.heap.objs.size, rawInt 0, .none, .none] }) rfl
    rw [hz] at this; exact this
  refine ⟨⟨_, he, rfl⟩, h _ he (Heap.get?_push_of_some _ (Heap.get?_push_size _ B.free)) (by rw [Heap.size_push, hz]) fun b o x => Heap.get?_push_of_some _ (Heap.get?_push_of_some _ x)⟩
end
/-- the tuple at a as it stands at each turn, each item in a new pair -/
def IteT (K : PySem.W.Frag) (a : Addr) : It :=
  ⟨fun i H => ∃ (xs : List V) (x : V), SqT K H a xs ∧ xs[i]? = some x, fun i H v H' => ∃ T x, v = .ref T ∧ H T = none ∧ H' = upd H T (.tup [.int (i : Nat), x]) ∧ ∀ xs, SqT K H a xs → xs[i]? = some x, fun i H => ∃ xs : List V, SqT K H a xs ∧ xs.length ≤ i⟩
end Sh

namespace Sh
open PySem PySem.Spec PyProof.Rows L2
section
variable {prog : Program} {w : World} {A : Around} {E : Value → Shared → Prop} {s : Shared}
theorem enum_endT {e it t : Addr} {n : Nat} {i : Int} {old : Value} {items : Array Value} {Q : Option Value → Shared → Prop} (hh : A.handled = none)
    (he : IsEnum s.heap e it i old) (hit : s.heap.IsTupleIter it t n) (ht : s.heap.IsTuple t items) (hx : items[n]? = none)
    (hQ : ∀ h', Heap.ExtBut it s.heap h' → Q none { s with heap := h' }) : wpAny (model prog w) A (pyNext (.ref e)) Q E s := by
  have hT : s.TypeIs (.ref e) "enumerate" := ⟨_, he, rfl⟩
  unfold pyNext
  refine wpAny_bind (wpAny_attempt (wpAny_callSpecial?_slot (name := Str.ofString "__next__") hT F.slot_enumerate_next
    (wpAny_call_entry F.slot_enumerate_next hT F.entry_enumerate_next ?_ (F.args_enumerate_next_1 _))))
  show wpAny _ _ (field (.ref e) 2 >>= _) _ _ _
  refine wpAny_bind (wpAny_field he rfl (x := .ref it) rfl ?_)
  refine wpAny_bind (wpAny_nextOf_tuple_end (show _ = none from hh) hit ht hx fun h' x he' hx' => ?_)
  obtain ⟨o, ho, hc⟩ := hx'
  refine wpAny_bind (wpAny_isInstance (T := "StopIteration") (b := true) ⟨o, ho, hc⟩ isSubtype_stop ?_)
  exact wpAny_pure (hQ _ he')
end
theorem turn_enumT {P : Program} {w : World} {K : PySem.W.Frag} {elts : List Expr} {kk : Nat} {tpos : Pos} (a e it : Addr) :
    Turn P w K (.Tuple elts kk tpos) (IteT K a) [e, it] e (fun i h => (∃ old, IsEnum h e it ((i : Nat) : Int) old) ∧ h.IsTupleIter it a i ∧ e ≠ it ∧ a ≠ it ∧ e ≠ a) where
  mem := by simp
  obj := fun i h st b hb => by
    obtain ⟨⟨old, he⟩, ⟨o, ho, hc, hd⟩, _⟩ := st
    have e' : b = e ∨ b = it := by simpa using hb
    rcases e' with z | z
    · rw [z]; exact ⟨_, he, fun v q => nomatch q⟩
    · rw [z]; exact ⟨o, ho, fun v q => by rw [hd] at q; cases q⟩
  keep := fun i h h' st k => let ⟨⟨old, he⟩, hi, hne⟩ := st; ⟨⟨old, k e (by simp) _ he⟩, hi.at fun o q => k it (by simp) o q, hne⟩
  item := by
    intro X hP hw hK hc i pins s σ H E I hf st hg
    subst hP hw hK
    obtain ⟨⟨old, he⟩, hit, hne, hai, hea⟩ := st
    obtain ⟨xs, x, hq, hx⟩ := hg
    obtain ⟨its, rv, p, hz⟩ := I.tuple hq
    obtain ⟨u, hu, ru⟩ := rv.get hx
    have hel : e < s.heap.objs.size := Heap.lt_size he
    have hil : it < s.heap.objs.size := by obtain ⟨_, q, _⟩ := hit; exact Heap.lt_size q
    have D := Draws.tuple (prog := X.prog) (w := X.w) (A := X.A.in1) (show X.A.in1.handled = none from I.ok.hd hc) it a hai its.toArray
    have hlt : i < its.toArray.size := by
      have q := (List.getElem?_eq_some_iff.mp hu).1
      simpa using q
    refine wpAny_pyNext_enum_itemC D he ⟨hit, p⟩ hlt hne (by simp [hne, hea]) fun u' h' tk hP ho hst' hT hsz hk => ?_
    have eu : u' = u := by
      have q : its.toArray[i]? = some u' := hP
      have q2 : its.toArray[i]? = some u := by simpa using hu
      exact Option.some.inj (q.symm.trans q2)
    subst eu
    obtain ⟨hit', _⟩ := hst'
    refine ⟨_, rfl, wpAny_letOwnedTupleGo_enum (s := { s with heap := h', toks := tk + 1 }) ho fun h'' he' sb => ?_⟩
    have hT2 : h''.get? s.heap.objs.size = some { cls := .type "tuple", data := .seq #[.int i tk, u'] } := (sb.2 _ (Nat.ne_of_gt hel)).trans hT
    have new : ObjOk X.prog X.w (upd H s.heap.objs.size (.tup [.int (i : Nat), x])) h'' s.heap.objs.size (.tup [.int (i : Nat), x]) :=
      ⟨by show 2 ≤ sizeLine; decide, [.int i tk, u'], .cons ⟨_, rfl⟩ (.cons ru .nil), ⟨_, hT2, rfl, _, rfl⟩⟩
    have I1 : Inv X pins σ (upd H s.heap.objs.size (.tup [.int (i : Nat), x])) { s with heap := h'', toks := tk + 1 } :=
      I.turnedNew (ch := [e, it]) (fun b ob hb q => (sb.2 b (fun z => hb (by simp [z]))).trans (hk b ob (fun z => hb (by simp [z])) (fun z => hb (by simp [z])) q)) hf (Nat.le_refl _) new
    refine ⟨.ref s.heap.objs.size, _, I1, rfl, ⟨_, x, rfl, I.hok.fresh (Nat.le_refl _), rfl, fun ys hy => by rw [I.tuple_inj hy hq]; exact hx⟩, ⟨⟨u', ?_⟩, hit'.at fun o q => (sb.2 it (Ne.symm hne)).trans q, hne, hai, hea⟩, fun b hb => ?_⟩
    · have e1 : ((i + 1 : Nat) : Int) = (i : Int) + 1 := by omega
      rw [e1]; exact he'
    · have hb' : b < s.heap.objs.size := by
        have e' : b = e ∨ b = it := by simpa using hb
        rcases e' with z | z
        · rw [z]; exact hel
        · rw [z]; exact hil
      rw [upd_ne (Nat.ne_of_lt hb')]
      exact (hf b hb).1
  done := by
    intro X hP hw hK hc i pins s σ H E I hf st hg
    subst hP hw hK
    obtain ⟨⟨old, he⟩, hit, hne, hai, hea⟩ := st
    obtain ⟨xs, hq, hx⟩ := hg
    obtain ⟨its, rv, p, hz⟩ := I.tuple hq
    obtain ⟨f0, f1, f2, f3, f4, f5⟩ := hf it (by simp)
    have hl := rv.length
    exact enum_endT (I.ok.hd hc) he hit p (by simp; omega) fun h' eb => ⟨rfl, I.turned (t' := s.toks) (fun b o hb q => eb b o hb q) f0 f1 f3 f4 f5⟩
  self := fun A i s Q E st h => let ⟨⟨_, he⟩, _⟩ := st; wpAny_pyIter_enum he h
def ItE (K : PySem.W.Frag) (H0 : Hp) (a : Addr) (xs : List V) (J : It) : Prop := (J = Ite K a ∧ SqL K H0 a xs) ∨ (J = IteT K a ∧ SqT K H0 a xs)
def iEnumA (K : PySem.W.Frag) (ta : TA) : TI := fun σ H R => ta σ H fun vs H1 => ∃ (a : Addr) (xs : List V) (H0 : Hp), vs = [.ref a] ∧ SqA K H0 a xs ∧ Kp a H0 H1 ∧ ∀ J, ItE K H0 a xs J → R J H1
theorem pi_enumA {X : Cx} {e : Expr} {ta : TA} {p pos tpos : Pos} {elts : List Expr} {kk : Nat} (hg : Gl X "enumerate") (hm : X.mg "enumerate" = none) (ha : PA X [e] ta) (hs : starEach [e] X.env = [(false, eval e X.env)] := by rfl) :
    PI X (.Tuple elts kk tpos) (.Call (.Name "enumerate" p) [e] [] pos) (iEnumA X.K ta) := by
  refine ⟨fun pins s σ H R I h => ?_⟩
  refine Call_ (ld_blt I hg hm boot_enumerate (PyProof.Rows.callWith_type1 (thn (ha.run pos pins s σ H _ I h) fun us s1 ⟨vs, H1, I1, r1, q1⟩ => ?_) hs rfl))
  obtain ⟨a, xs, H0, ex, hs0, hk, q1⟩ := q1
  subst ex
  cases r1 with
  | cons r rr =>
    cases rr
    cases r
    have fr : ∀ b ∈ [s1.heap.objs.size + 1, s1.heap.objs.size], FpOk X pins H1 b := fun b hb => by
      have e' : b = s1.heap.objs.size + 1 ∨ b = s1.heap.objs.size := by simpa using hb
      have hle : s1.heap.objs.size ≤ b := by
        rcases e' with z | z
        · rw [z]; exact Nat.le_add_right _ _
        · rw [z]; exact Nat.le_refl _
      exact I1.fpOk hle (I1.hok.fresh hle)
    rcases hs0 with hq | hq
    · have q := q1 _ (.inl ⟨rfl, hq⟩)
      replace hq := hk.sl hq
      obtain ⟨its, rv, p', hz⟩ := I1.list hq
      refine call_enumerate_list p'.isList fun h' he hit hsz hk => wpAny_pyIter_enum he ?_
      have I2 : Inv X pins σ H1 { s1 with heap := h' } := I1.kept (t' := s1.toks) hk
      exact ⟨s1.heap.objs.size + 1, [s1.heap.objs.size + 1, s1.heap.objs.size], _, _, H1, rfl, I2, turn_enum a (s1.heap.objs.size + 1) s1.heap.objs.size, ⟨⟨.none, he⟩, hit, Nat.succ_ne_self _⟩, fr, q⟩
    · have q := q1 _ (.inr ⟨rfl, hq⟩)
      replace hq := hk.st hq
      obtain ⟨its, rv, p', hz⟩ := I1.tuple hq
      have al : a < s1.heap.objs.size := by obtain ⟨_, q, _⟩ := id p'; exact Heap.lt_size q
      refine enum1_begins (begins_tuple a its.toArray) p' fun h' he hit hsz hk => wpAny_pyIter_enum he ?_
      have I2 : Inv X pins σ H1 { s1 with heap := h' } := I1.kept (t' := s1.toks) hk
      exact ⟨s1.heap.objs.size + 1, [s1.heap.objs.size + 1, s1.heap.objs.size], _, _, H1, rfl, I2, turn_enumT a (s1.heap.objs.size + 1) s1.heap.objs.size, ⟨⟨.none, he⟩, ⟨_, hit, rfl, rfl⟩, Nat.succ_ne_self _, Nat.ne_of_lt al, Nat.ne_of_gt (Nat.lt_succ_of_lt al)⟩, fr, q⟩
theorem walk_enumT {K : PySem.W.Frag} {a : Addr} {xs : List V} : Walk (IteT K a) xs.length (fun H => SqT K H a xs) (YPair (fun i => some (.int (i : Nat))) (fun i => xs[i]?)) := by
  refine ⟨fun i _ hi q => ⟨xs, xs[i], q, by simp [hi]⟩, fun _ q => ⟨xs, q, Nat.le_refl _⟩, fun i H v H' _ q y => ?_⟩
  obtain ⟨T, x, h1, h2, h3, h4⟩ := y
  exact ⟨T, .int (i : Nat), x, h1, h2, h3, rfl, h4 xs q⟩
theorem ItE.walk {K : PySem.W.Frag} {H0 : Hp} {a : Addr} {xs : List V} {J : It} (h : ItE K H0 a xs J) : ∃ G : Hp → Prop, (∀ H', Kp a H0 H' → G H') ∧ Walk J xs.length G (YPair (fun i => some (.int (i : Nat))) (fun i => xs[i]?)) := by
  rcases h with ⟨rfl, q⟩ | ⟨rfl, q⟩
  · exact ⟨_, fun _ k => k.sl q, walk_enum⟩
  · exact ⟨_, fun _ k => k.st q, walk_enumT⟩
theorem walk_zipT {K : PySem.W.Frag} {a b : Addr} {xs ys : List V} {n : Nat} (hn : n = min xs.length ys.length) : Walk (RZ.ItzT K a b) n (fun H => SqT K H a xs ∧ SqT K H b ys) (YPair (fun i => xs[i]?) (fun i => ys[i]?)) := by
  subst hn
  refine ⟨fun i _ hi q => ?_, fun _ q => ⟨xs, ys, q.1, q.2, by omega⟩, fun i H v H' _ q y => ?_⟩
  · have h1 : i < xs.length := by omega
    have h2 : i < ys.length := by omega
    exact ⟨xs, ys, xs[i], ys[i], q.1, q.2, by simp [h1], by simp [h2]⟩
  · obtain ⟨T, x, z, h1, h2, h3, h4, h5⟩ := y
    exact ⟨T, x, z, h1, h2, h3, h4 xs q.1, h5 ys q.2⟩
end Sh

namespace Sh
open PySem PySem.Spec PyProof.Rows L2
/-- a def of the top: where it stands, and the global name -/
structure Df (K : PySem.W.Frag) (mg : Str → Option Value) (x : Str) (st : Stmt) : Prop where
  ex : ∃ (f : Addr) (fd : FuncData), Fun K x x st f fd ∧ mg x = some (.ref f)
/-- it keeps its promise -/
structure Ok (P : Program) (w : World) (K : PySem.W.Frag) (mg : Str → Option Value) (base : Heap) (k : Nat) (x : Str) (st : Stmt) (ps : List Str) (sp : Sp) : Prop where
  ex : ∃ (f : Addr) (fd : FuncData), Fun K x x st f fd ∧ mg x = some (.ref f) ∧ Binds K fd ps [] ∧ FnOk P w K mg base CX0 k f fd ps sp
section
variable {P : Program} {w : World} {K : PySem.W.Frag} {mg : Str → Option Value} {base : Heap}
theorem Df.ok {x : Str} {st : Stmt} {N ps : List Str} {k : Nat} {sp : Sp} (D : Df K mg x st) (S : FnScope N ps (defScope st))
    (hb : ∀ (kV doc pm : Value) (an : Option Addr) (cdv ct : Value) (us : List Value), us.length = ps.length → bindArgs (PySem.W.fnOf x x (defArgs st) (defBody st) (defScope st) .none kV doc pm an cdv ct) ⟨us, []⟩ = pure (ps.zip us))
    (len : ∀ vs H Q E, sp vs H Q E → vs.length = ps.length)
    (hbody : ∀ (f : Addr) (cdv : Value) (A : Around) (outer : List Env) (s : Shared) (H : Hp) (vs : List V) (Q : VK) (E : XK), Room k (A.deeper (envOfC x (defScope st) s.heap.objs.size f cdv)) → sp vs H Q E →
      ∃ t, PSs (cxOf CX0 P w K mg base N x (defScope st) f cdv A outer s H E).nox (defBody st) t ∧ t { nx := fun _ H' => Q .non H', rt := Q } (start N vs) H) : Ok P w K mg base (k + 1) x st ps sp := by
  obtain ⟨f, fd, F, g⟩ := D.ex
  exact ⟨f, fd, F, g, F.binds hb, F.ok S len (fun cdv A outer s H vs Q E hr h => hbody f cdv A outer s H vs Q E hr h)⟩
theorem Ok.mono {x : Str} {st : Stmt} {ps : List Str} {j k : Nat} {sp : Sp} (O : Ok P w K mg base j x st ps sp) (h : j ≤ k) : Ok P w K mg base k x st ps sp := by
  obtain ⟨f, fd, F, g, b, G⟩ := O.ex
  exact ⟨f, fd, F, g, b, G.mono h⟩
theorem Ok.imp {x : Str} {st : Stmt} {ps : List Str} {k : Nat} {sp sp' : Sp} (O : Ok P w K mg base k x st ps sp) (h : ∀ vs H Q E, sp' vs H Q E → sp vs H Q E) : Ok P w K mg base k x st ps sp' := by
  obtain ⟨f, fd, F, g, b, G⟩ := O.ex
  exact ⟨f, fd, F, g, b, G.imp h⟩
end
/-- the values at the places js -/
def pk {α : Type} (js : List Nat) (l : List α) : List α := js.filterMap fun j => l[j]?
theorem vals_get : ∀ {vs : List V} {us : List Value} (j : Nat), Vals vs us → (vs[j]? = none ∧ us[j]? = none) ∨ ∃ v u, vs[j]? = some v ∧ us[j]? = some u ∧ RelV v u
  | _, _, _, .nil => .inl ⟨by simp, by simp⟩
  | _, _, 0, .cons r _ => .inr ⟨_, _, rfl, rfl, r⟩
  | _, _, j + 1, .cons _ t => by simpa using vals_get j t
theorem vals_app : ∀ {vs zs : List V} {us ws : List Value}, Vals vs us → Vals zs ws → Vals (vs ++ zs) (us ++ ws)
  | _, _, _, _, .nil, h => h
  | _, _, _, _, .cons r t, h => .cons r (vals_app t h)
theorem vals_pk {vs : List V} {us : List Value} (h : Vals vs us) : ∀ js : List Nat, Vals (pk js vs) (pk js us)
  | [] => .nil
  | j :: js => by
    unfold pk
    rcases vals_get j h with ⟨a, b⟩ | ⟨v, u, a, b, r⟩
    · rw [List.filterMap_cons_none a, List.filterMap_cons_none b]
      exact vals_pk h js
    · rw [List.filterMap_cons_some a, List.filterMap_cons_some b]
      exact .cons r (vals_pk h js)
section
variable {X : Cx} {k : Nat} {x : Str} {st : Stmt} {ps : List Str} {sp : Sp} {e : Expr} {es : List Expr} {t tk : TA} {p pos : Pos} {kws : List Keyword} {ks : List Str}
/-- f(e, ..) -/
theorem pe_fn (O : Ok X.prog X.w X.K X.mg X.base k x st ps sp) (hr : Room k X.A) (ha : PA X (e :: es) t) (hg : Gl X x := by rfl)
    (hdb : (x == ("__debug__" : Str)) = false := by decide) (he : starEach (e :: es) X.env = (false, eval e X.env) :: starEach es X.env := by rfl) (hpl : (backTo pos (starEach es X.env)).any (·.1) = false := by rfl) :
    PE X (.Call (.Name x p) (e :: es) [] pos) (tCall sp [] E0 t) := by
  obtain ⟨f, fd, F, g, b, G⟩ := O.ex
  exact pe_call G hr hg g F.kp b .nil pass0 ha hdb he hpl
/-- f(e, .., k = v, ..): the parameters are the places js of all that is handed in -/
def tCallJ (js : List Nat) (n : Nat) (sp : Sp) (t tk : TA) : TE := fun σ H Q => t σ H fun vs H1 => tk σ H1 fun zs H2 => (vs.length + zs.length = n ∧ zs.length = n - vs.length) ∧ sp (pk js (vs ++ zs)) H2 Q E0
theorem run_fnJ {pins : List (Addr × Obj)} {σ : L2.St} {H : Hp} {s : Shared} {Q : VK} {us ws : List Value} {vs zs : List V} {js : List Nat} {f : Addr} {fd : FuncData} (F : Fun X.K x x st f fd) (G : FnOk X.prog X.w X.K X.mg X.base CX0 k f fd ps sp) (hr : Room k X.A)
    (hb : ∀ (kV doc pm : Value) (an : Option Addr) (cdv ct : Value), bindArgs (PySem.W.fnOf x x (defArgs st) (defBody st) (defScope st) .none kV doc pm an cdv ct) ⟨us, ks.zip ws⟩ = pure (ps.zip (pk js (us ++ ws))))
    (I : Inv X pins σ H s) (r : Vals vs us) (rz : Vals zs ws) (h : sp (pk js (vs ++ zs)) H Q E0) : wpAny (model X.prog X.w) X.A (call (.ref f) us (ks.zip ws)) (EP X pins σ Q) X.xe s := by
  obtain ⟨oc, od, kV, doc, pm, an, cdv, ct, osl, rfl, lk, hcd⟩ := F.ex
  refine wpAny_call (codeAny_mono (G.run X.A X.stack s H ⟨us, ks.zip ws⟩ (pk js (us ++ ws)) (pk js (vs ++ zs)) Q E0 hr I.env0 (.of_eq (hb kV doc pm an cdv ct)) (vals_pk (vals_app r rz) js) h) fun r s' hq => ?_)
  cases r with
  | error e => exact pass0 pins σ H s e s' I hq
  | ok fl =>
    cases fl with
    | ret u => exact I.after hq
    | next => exact False.elim hq
    | brk => exact False.elim hq
    | cont => exact False.elim hq
/-- f(k = v, ..) -/
theorem pe_fnK0 (js : List Nat) (O : Ok X.prog X.w X.K X.mg X.base k x st ps sp) (hr : Room k X.A)
    (hb : ∀ (kV doc pm : Value) (an : Option Addr) (cdv ct : Value) (ws : List Value), ws.length = ks.length → bindArgs (PySem.W.fnOf x x (defArgs st) (defBody st) (defScope st) .none kV doc pm an cdv ct) ⟨[], ks.zip ws⟩ = pure (ps.zip (pk js ws)))
    (hkw : PK X kws tk) (hg : Gl X x := by rfl) (hall : (backToKw pos (keywordEach kws X.env)).all (·.1.isSome) = true := by rfl) (hks : (backToKw pos (keywordEach kws X.env)).filterMap (·.1) = ks := by rfl) (hdb : (x == ("__debug__" : Str)) = false := by decide)
    (hpl : ((backTo pos (starEach [] X.env)).any (·.1) || (backToKw pos (keywordEach kws X.env)).any (·.1.isNone)) = false := by rfl) :
    PE X (.Call (.Name x p) [] kws pos) (tCallJ js ks.length sp tNil tk) := by
  obtain ⟨f, fd, F, g, b, G⟩ := O.ex
  refine ⟨fun pins s σ H Q I h => ?_⟩
  refine wpAny_Call_Name_kw (ld_glob I hg g ?_ hdb)
  refine PySem.W.callWith_KW0 (h₀ := X.base) I.ok.mod.kin F.kp hall ?_ hpl
  refine thn (hkw.run pos pins s σ H _ I h) fun ws s2 ⟨zs, H2, I2, rz, l2, q2⟩ => ⟨I2.kIn, ?_⟩
  rw [hks]
  exact run_fnJ (us := []) (vs := []) (js := js) F G hr (fun kV doc pm an cdv ct => hb kV doc pm an cdv ct ws (rz.length.symm.trans l2.2)) I2 .nil rz q2
/-- f(e, .., k = v, ..), n positional ones -/
theorem pe_fnK (js : List Nat) (n : Nat) (O : Ok X.prog X.w X.K X.mg X.base k x st ps sp) (hr : Room k X.A)
    (hb : ∀ (kV doc pm : Value) (an : Option Addr) (cdv ct : Value) (us ws : List Value), us.length = n → ws.length = ks.length → bindArgs (PySem.W.fnOf x x (defArgs st) (defBody st) (defScope st) .none kV doc pm an cdv ct) ⟨us, ks.zip ws⟩ = pure (ps.zip (pk js (us ++ ws))))
    (ha : PA X (e :: es) t) (hkw : PK X kws tk) (hg : Gl X x := by rfl) (hall : (backToKw pos (keywordEach kws X.env)).all (·.1.isSome) = true := by rfl) (hks : (backToKw pos (keywordEach kws X.env)).filterMap (·.1) = ks := by rfl)
    (hdb : (x == ("__debug__" : Str)) = false := by decide) (he : starEach (e :: es) X.env = (false, eval e X.env) :: starEach es X.env := by rfl)
    (hpl : ((backTo pos (starEach (e :: es) X.env)).any (·.1) || (backToKw pos (keywordEach kws X.env)).any (·.1.isNone)) = false := by rfl) :
    PE X (.Call (.Name x p) (e :: es) kws pos) (fun σ H Q => t σ H fun vs H1 => tk σ H1 fun zs H2 => (vs.length = n ∧ zs.length = ks.length) ∧ sp (pk js (vs ++ zs)) H2 Q E0) := by
  obtain ⟨f, fd, F, g, b, G⟩ := O.ex
  refine ⟨fun pins s σ H Q I h => ?_⟩
  refine wpAny_Call_Name_kw (ld_glob I hg g ?_ hdb)
  refine PySem.W.callWith_KW (h₀ := X.base) I.ok.mod.kin F.kp hall (thn (ha.run pos pins s σ H _ I h) fun us s1 ⟨vs, H1, I1, r, q⟩ => ?_) hpl he
  refine thn (hkw.run pos pins s1 σ H1 _ I1 q) fun ws s2 ⟨zs, H2, I2, rz, ⟨l1, l2⟩, q2⟩ => ⟨I2.kIn, ?_⟩
  rw [hks]
  exact run_fnJ (js := js) F G hr (fun kV doc pm an cdv ct => hb kV doc pm an cdv ct us ws (r.length.symm.trans l1) (rz.length.symm.trans l2)) I2 r rz q2
end
theorem tyes {σ : L2.St} {H : Hp} {Q : Bool → Hp → Prop} (h : Q true H) : tYes σ H Q := h
/-! ### xs[a:b:c] -/
def pickV (xs : List V) (lo hi st : Option Int) : List V := pk (sliceRange (sliceBounds lo hi st xs.length).1 (sliceBounds lo hi st xs.length).2.1 (sliceBounds lo hi st xs.length).2.2) xs
theorem pick_vals {xs : List V} {us : List Value} (r : Vals xs us) (lo hi st : Option Int) : Vals (pickV xs lo hi st) (slicePick us.toArray lo hi st).toList := by
  have e := vals_pk r (sliceRange (sliceBounds lo hi st xs.length).1 (sliceBounds lo hi st xs.length).2.1 (sliceBounds lo hi st xs.length).2.2)
  have e2 : (slicePick us.toArray lo hi st).toList = pk (sliceRange (sliceBounds lo hi st xs.length).1 (sliceBounds lo hi st xs.length).2.1 (sliceBounds lo hi st xs.length).2.2) us := by
    unfold slicePick pk
    rw [List.size_toArray, ← r.length]
    simp
  rw [e2]
  exact e
section
variable {X : Cx}
def tStep (K : PySem.W.Frag) (te : TE) (tl th ts : TO) : TE := fun σ H Q => te σ H fun x H1 => tl σ H1 fun l H2 => th σ H2 fun u H3 => ts σ H3 fun o H4 => ∃ a xs, x = .ref a ∧ SqL K H4 a xs ∧ o ≠ some 0 ∧ (pickV xs l u o).length ≤ sizeLine ∧ ∀ p, H4 p = none → Q (.ref p) (upd H4 p (.lst (pickV xs l u o)))
theorem pe_step {e st : Expr} {lo hi : Option Expr} {te : TE} {tl th ts : TO} {p3 pos : Pos} (he : PE X e te) (hlo : PO X lo tl) (hhi : PO X hi th) (hst : PO X (some st) ts) : PE X (.Subscript e (.Slice lo hi (some st) p3) pos) (tStep X.K te tl th ts) := by
  refine ⟨fun pins s σ H Q I h => ?_⟩
  refine Subscript_ (thn (he.run pins s σ H _ I h) fun v s1 ⟨x, H1, I1, r1, q1⟩ => ?_)
  refine wpAny_Slice (thn (hlo.run pins s1 σ H1 _ I1 q1) fun vl s2 ⟨l, H2, I2, pl, q2⟩ => ?_)
  refine thn (hhi.run pins s2 σ H2 _ I2 q2) fun vu s3 ⟨u, H3, I3, pu, q3⟩ => ?_
  refine thn (hst.run pins s3 σ H3 _ I3 q3) fun vs s4 ⟨o, H4, I4, ps, q4⟩ => ?_
  obtain ⟨a, xs, ex, hx, h0, hz2, q⟩ := q4
  subst ex
  cases r1
  have I5 : Inv X pins σ H4 { s4 with heap := s4.heap.push { cls := .type "slice", data := .fields #[vl, vu, vs] } } := I4.kept (t' := s4.toks) fun b ob q => Heap.get?_push_of_some _ q
  obtain ⟨its, r, ht, hz⟩ := I5.list hx
  have hlen := r.length
  show wpAny (model X.prog X.w) X.A (subscriptTail e (.Slice lo hi (some st) p3) (.ref a) (.ref s4.heap.objs.size)) (EP X pins σ Q) X.xe { s4 with heap := s4.heap.push { cls := .type "slice", data := .fields #[vl, vu, vs] } }
  refine tail_any (ops := [.ref a, .ref s4.heap.objs.size]) ht.isList.typeIs (PySem.slot_list_getitem.lookup) ?_ (by with_unfolding_all rfl)
  refine wpAny_getItem_list_slice ht.isList (Heap.IsSliceOf.new _ vl vu vs) pl pu ps h0 ?_ (by rw [List.size_toArray]; omega)
  refine ⟨.ref _, _, I5.laid (t' := s4.toks) (o := .lst (pickV xs l u o)) (fun b ob q => Heap.get?_push_of_some _ q) (Nat.le_refl _) ?_, rfl, q _ (I5.hok.fresh (Nat.le_refl _))⟩
  exact ⟨hz2, (slicePick its.toArray l u o).toList, 0, pick_vals r l u o, Heap.get?_push_size _ rfl⟩
end
/-! ### set(t) of a tuple of ints, as a thing that stands -/
def rSetT (K : PySem.W.Frag) (w : World) : List V → Hp → VK → Prop := fun xs H Q => ∃ (q : Addr) (ns : List Int), xs = [.ref q] ∧ SqT K H q (ns.map V.int) ∧ ns.length ≤ 1000 ∧ ∀ (a : Addr) (c : Nat), H a = none → c ≤ ns.length → Q (.ref a) (upd H a (SetO w a (fun j => decide (j ∈ ns)) c))
theorem cr_setT {X : Cx} (hc : X.calm = true) : CallR X (.type "set") (rSetT X.K X.w) := by
  intro pins s σ H xs us Q I r h
  obtain ⟨q, ns, rfl, hq, hl, k⟩ := h
  rw [Vals.ref1 r]
  obtain ⟨its, rv, pt, hz⟩ := I.tuple hq
  have hi : IntsAre its.toArray.toList ns := ints_of_vals rv
  refine call_set_tupI ns (I.ok.hd hc) (show s.heap.IsTuple q its.toArray from pt) hi (by unfold scanBound; omega) fun h' tk c R1 hcn kk => ?_
  exact ⟨.ref _, upd H s.heap.objs.size (SetO X.w s.heap.objs.size _ c), I.laid (t' := tk) kk (Nat.le_refl _) (setO_new R1), rfl, k _ _ (I.hok.fresh (Nat.le_refl _)) hcn⟩
theorem cr_setTw {X : Cx} (w : World) (hc : X.calm = true) (hw : X.w = w := by rfl) : CallR X (.type "set") (rSetT X.K w) := hw ▸ cr_setT hc
theorem cr_sortedSetw {X : Cx} (w : World) (hc : X.calm = true) (hw : X.w = w := by rfl) : CallR X (.builtin "sorted") (rSortedSet w) := hw ▸ cr_sortedSet hc
/-- names of Python's own that the top leaves alone -/
structure Bt (mg : Str → Option Value) : Prop where
  len_ : mg "len" = none
  range_ : mg "range" = none
  abs_ : mg "abs" = none
  int_ : mg "int" = none
  min_ : mg "min" = none
  max_ : mg "max" = none
  list_ : mg "list" = none
  tuple_ : mg "tuple" = none
  all_ : mg "all" = none
  any_ : mg "any" = none
  sorted_ : mg "sorted" = none
  sum_ : mg "sum" = none
  repr_ : mg "repr" = none
  zip_ : mg "zip" = none
  enumerate_ : mg "enumerate" = none
  isinstance_ : mg "isinstance" = none
  reversed_ : mg "reversed" = none
  str_ : mg "str" = none
  bool_ : mg "bool" = none
  set_ : mg "set" = none
end Sh

namespace L2
open PySem PySem.Spec PyProof.Rows
/-- what the expression gives is read only from here on -/
def tFrz (t : TE) : TE := fun σ H Q => t σ H fun x H1 => ∃ d u, x = .ref d ∧ H1 d = some u ∧ Mut (some u) ∧ ∀ od, Q x (upd H1 d (.frz od u))
theorem pe_freeze {X : Cx} {e : Expr} {t : TE} (h : PE X e t) : PE X e (tFrz t) := by
  refine ⟨fun pins s σ H Q I hw => ?_⟩
  refine thn (h.run pins s σ H _ I hw) fun v s1 ⟨x, H1, I1, r, q⟩ => ?_
  obtain ⟨d, u, e1, hd, mu, q⟩ := q
  obtain ⟨od, I2⟩ := I1.lock hd mu
  exact ⟨x, _, I2, r, q od⟩
end L2

/-! calls where no text of a list is under way: then repr(..) is known -/
namespace Sh
open PySem PySem.Spec PyProof.Rows L2
/-- a def's promise, kept where no repr is under way -/
structure FnG (P : Program) (w : World) (K : PySem.W.Frag) (mg : Str → Option Value) (bs : Heap) (k : Nat) (f : Addr) (fd : FuncData) (ps : List Str) (sp : Sp) : Prop where
  many : ∀ vs H Q E, sp vs H Q E → vs.length = ps.length
  go : ∀ (B : Around) (fr : List Env) (s : Shared) (H : Hp) (gs : Args) (us : List Value) (vs : List V) (Q : VK) (E : XK), Room k B → B.guards = some [] → Env0 P w K mg bs B fr s H → BindsTo s fd gs (ps.zip us) → Vals vs us → sp vs H Q E → codeAny (model P w) B (.call (.ref f) gs) (CR CX0 fr P w H s Q E) s
structure OkG (P : Program) (w : World) (K : PySem.W.Frag) (mg : Str → Option Value) (bs : Heap) (k : Nat) (x : Str) (st : Stmt) (ps : List Str) (sp : Sp) : Prop where
  ex : ∃ (f : Addr) (fd : FuncData), Fun K x x st f fd ∧ mg x = some (.ref f) ∧ Binds K fd ps [] ∧ FnG P w K mg bs k f fd ps sp
section
variable {P : Program} {w : World} {K : PySem.W.Frag} {mg : Str → Option Value} {bs : Heap}
theorem FnG.mono {j k : Nat} {f : Addr} {fd : FuncData} {ps : List Str} {sp : Sp} (G : FnG P w K mg bs j f fd ps sp) (h : j ≤ k) : FnG P w K mg bs k f fd ps sp := ⟨G.many, fun B fr s H gs us vs Q E hr => G.go B fr s H gs us vs Q E (hr.mono h)⟩
theorem OkG.mono {x : Str} {st : Stmt} {ps : List Str} {j k : Nat} {sp : Sp} (O : OkG P w K mg bs j x st ps sp) (h : j ≤ k) : OkG P w K mg bs k x st ps sp := by
  obtain ⟨f, fd, F, g, b, G⟩ := O.ex
  exact ⟨f, fd, F, g, b, G.mono h⟩
theorem Df.okG {x : Str} {st : Stmt} {N ps : List Str} {k : Nat} {sp : Sp} (D : Df K mg x st) (S : FnScope N ps (defScope st))
    (hb : ∀ (kV dc pm : Value) (an : Option Addr) (cdv ct : Value) (us : List Value), us.length = ps.length → bindArgs (PySem.W.fnOf x x (defArgs st) (defBody st) (defScope st) .none kV dc pm an cdv ct) ⟨us, []⟩ = pure (ps.zip us))
    (many : ∀ vs H Q E, sp vs H Q E → vs.length = ps.length)
    (bd : ∀ (f : Addr) (cdv : Value) (B : Around) (fr : List Env) (s : Shared) (H : Hp) (vs : List V) (Q : VK) (E : XK), Room k (B.deeper (envOfC x (defScope st) s.heap.objs.size f cdv)) → (B.deeper (envOfC x (defScope st) s.heap.objs.size f cdv)).guards = some [] → sp vs H Q E →
      ∃ t, PSs (cxOf CX0 P w K mg bs N x (defScope st) f cdv B fr s H E).nox (defBody st) t ∧ t { nx := fun _ J => Q .non J, rt := Q } (start N vs) H) : OkG P w K mg bs (k + 1) x st ps sp := by
  obtain ⟨f, fd, F, g⟩ := D.ex
  have F0 := F
  obtain ⟨oc, od, kV, dc, pm, an, cdv, ct, osl, rfl, lk, hcd⟩ := F.ex
  refine ⟨f, _, F0, g, F0.binds hb, many, fun B fr s H gs us vs Q E rm gd e0 bnd r wish => ?_⟩
  have nm := many _ _ _ _ wish
  have kin : K.In s.heap := e0.mod.kin.keeps fun a o e => (e0.bs a o e).1
  have nol : s.heap.NoLimit := e0.mod.nolimit.keeps fun a o e => (e0.bs a o e).1
  have kinds : ∀ y ∈ ps.zip us, (defScope st).names.lookup y.1 = some .local ∨ ((defScope st).names.lookup y.1 = some .cell ∧ ((cellsFrom (s.heap.objs.size + 1) (defScope st).names []).lookup y.1).isSome = true) := by
    rintro ⟨n, v⟩ hy
    cases S.par n (List.of_mem_zip hy).1 with
    | inl q => exact .inl q
    | inr q => exact .inr ⟨q, PySem.W.cellsFrom_some _ _ _ (.inl q)⟩
  refine codeAny_call_function rm.depth (kin _ _ lk) rfl S.co S.gen rfl (PySem.W.codeRec_of kin hcd) (bnd _ _ _ _ ?_)
  refine wpAny_newFunctionEnv_cells S.kind kinds fun env ee s1 z => ?_
  subst ee
  refine ⟨nol.keeps z.toInCall.keep, codeAny_func ?_⟩
  obtain ⟨t, ht, hq⟩ := bd f cdv B fr s H vs Q E (rm.deeper _) gd wish
  have ht' := ht.nox
  have I : Inv (cxOf CX0 P w K mg bs N x (defScope st) f cdv B fr s H E) [] (start N vs) H s1 := inv_start S rm.hd e0 nm r z
  refine wpAny_mono (ht'.run [] s1 (start N vs) H _ I hq) (fun fl s2 hs => ?_) fun e s2 hs => hs
  cases fl with
  | ret u =>
    obtain ⟨v, σ2, H2, J, rv, q⟩ := hs
    exact ⟨v, H2, J.os, J.bare, J.base, J.hok, rv, q⟩
  | next =>
    obtain ⟨σ2, H2, J, q⟩ := hs
    exact ⟨V.non, H2, J.os, J.bare, J.base, J.hok, rfl, q⟩
  | brk =>
    obtain ⟨_, _, _, q⟩ := hs
    exact q.elim
  | cont =>
    obtain ⟨_, _, _, q⟩ := hs
    exact q.elim
end
section
variable {X : Cx} {k : Nat} {x : Str} {st : Stmt} {ps : List Str} {sp : Sp} {e : Expr} {es : List Expr} {t : TA} {p pos : Pos}
/-- f(e, ..) -/
theorem pe_fnG (O : OkG X.prog X.w X.K X.mg X.base k x st ps sp) (hr : Room k X.A) (gd : X.A.guards = some []) (ha : PA X (e :: es) t) (hg : Gl X x := by rfl)
    (hdb : (x == ("__debug__" : Str)) = false := by decide) (he : starEach (e :: es) X.env = (false, eval e X.env) :: starEach es X.env := by rfl) (hpl : (backTo pos (starEach es X.env)).any (·.1) = false := by rfl) :
    PE X (.Call (.Name x p) (e :: es) [] pos) (tCall sp [] E0 t) := by
  obtain ⟨f, fd, F, g, b, G⟩ := O.ex
  refine ⟨fun pins s σ H Q I h => ?_⟩
  refine wpAny_Call_Name_kw (ld_glob I hg g ?_ hdb)
  refine PySem.W.callWith_K (h₀ := X.base) I.ok.mod.kin F.kp (thn (ha.run pos pins s σ H _ I h) fun us s1 ⟨vs, H1, I1, r, q⟩ => ⟨I1.kIn, ?_⟩) he hpl
  have q' : sp vs H1 Q E0 := by
    have z : sp (vs ++ []) H1 Q E0 := q
    rw [List.append_nil] at z
    exact z
  have nm : us.length = ps.length := by
    rw [← r.length]
    exact G.many _ _ _ _ q'
  have bd : BindsTo s1 fd ⟨us, []⟩ (ps.zip us) := by
    have z := b s1 us I1.kIn (by rw [List.append_nil]; exact nm)
    rw [List.append_nil] at z
    exact z
  refine wpAny_call (codeAny_mono (G.go X.A X.stack s1 H1 ⟨us, []⟩ us vs Q E0 hr gd I1.env0 bd r q') fun y s2 hq => ?_)
  cases y with
  | error e => exact pass0 pins σ H1 s1 e s2 I1 hq
  | ok fl =>
    cases fl with
    | ret u => exact I1.after hq
    | next => exact hq.elim
    | brk => exact hq.elim
    | cont => exact hq.elim
theorem reprU {A : Around} (r : Room k A) : A.units + 66 < cLine := by
  have := r.un
  omega
/-- repr(x) of a list or a tuple of data -/
def rRepr (K : PySem.W.Frag) : List V → Hp → VK → Prop := fun xs H Q => ∃ (a : Addr) (d : PyData), xs = [.ref a] ∧ Dp K H (.ref a) d ∧ SeqAt.shaped d = true ∧ d.showable = true ∧ d.shown.length ≤ sizeLine ∧ Q (.str d.shown) H
theorem cr_repr (gd : X.A.guards = some []) (hu : X.A.units + 66 < cLine) : CallR X (.builtin "repr") (rRepr X.K) := by
  intro pins s σ H xs us Q I r h
  obtain ⟨a, d, rfl, hd, sd, sh, sz, q⟩ := h
  rw [Vals.ref1 r]
  obtain ⟨as, r1⟩ := Dp.reads I d (.ref a) (.ref a) hd rfl
  have lay := SeqAt.canLay_of_shaped sd
  have dp : d.depth ≤ 64 := by
    have z := sd
    unfold SeqAt.shaped at z
    rw [Bool.and_eq_true] at z
    exact of_decide_eq_true z.2
  exact repr_of_reads' r1 sh (PyData.noDict_hsm (PyData.hasDict_of_canLay _ lay)) gd (by omega) (fun _ _ e => e) (fun h' u tk hk => ⟨.str d.shown, H, I.kept hk, ⟨u, rfl⟩, q⟩) sz
end
/-! ### the law's call, where nothing is under way -/
section
theorem script_call {P : Program} {w : World} {K : PySem.W.Frag} {mg mb : Str → Option Value} {k : Nat} {fa a : Addr} {fd : FuncData} {x : Str} {sp : Sp} {s1 : Shared} {vs : List Value} {ns : List Int}
    (kin : K.In s1.heap) (hns : s1.heap.Ns mainGlobals mg) (hbn : s1.heap.Ns builtinsNs mb) (hbb : ∀ y : Str, y ≠ "__name__" → mb y = bootBuiltins y) (nol : s1.heap.NoLimit) (hgn : s1.gens = #[])
    (hla : s1.heap.get? a = some { cls := .type "list", data := .seq vs.toArray }) (hit : IntsAre vs ns) (hsz : ns.length ≤ sizeLine) (rm : Room k callerA)
    (F : ∀ bs : Heap, K.In bs → bs.Ns mainGlobals mg → FnG P w K mg bs k fa fd [x] sp) (bnd : ∀ (s : Shared) (u : Value), BindsTo s fd ⟨[u], []⟩ [(x, u)])
    (wish : ∀ H : Hp, Only H → SqL K H a (ns.map V.int) → sp [.ref a] H (fun v _ => v = .bl true) fun _ _ _ => False) :
    codeAny (model P w) callerA (.call (.ref fa) ⟨[.ref a], []⟩) (fun y s2 => y = .ok (.ret (.bool true)) ∧ OldK s1.heap s2.heap ∧ s2.os = s1.os ∧ AllBare s2.gens) s1 := by
  have rv := vals_ints hit
  have many := hit.length
  have step : ∀ H : Hp, Only H → SqL K H a (ns.map V.int) → HOk P w H s1.heap → (∀ b, H b ≠ none → b = a) → (H a ≠ none → K.lookup a = none) →
      codeAny (model P w) callerA (.call (.ref fa) ⟨[.ref a], []⟩) (fun y s2 => y = .ok (.ret (.bool true)) ∧ OldK s1.heap s2.heap ∧ s2.os = s1.os ∧ AllBare s2.gens) s1 := by
    intro H only sq hok sole apart
    have hid : ∀ {b : Addr} {o : Obj}, s1.heap.get? b = some o → H b = none → (hidT s1.heap H).get? b = some o := fun e n => hidT_get e n
    have isa : ∀ {b : Addr} {u : HO}, H b = some u → b = a := fun {b u} q => sole b (by rw [q]; exact fun z => nomatch z)
    have bare : ∀ {b : Addr} {o : Obj} {es : Array DictEntry} {ep : Nat}, s1.heap.get? b = some o → o.data = .dict es ep → H b = none := by
      intro b o es ep e d
      cases q : H b with
      | none => rfl
      | some u =>
        obtain rfl := isa q
        rw [hla] at e
        cases e
        cases (show Data.seq vs.toArray _ = Data.dict es ep from d)
    have spaces : ∀ {b : Addr} {m : Str → Option Value}, s1.heap.Ns b m → (hidT s1.heap H).Ns b m := by
      rintro b m ⟨o, es, ep, e, d, r⟩
      exact ⟨o, es, ep, hid e (bare e d), d, r⟩
    have kin0 : K.In (hidT s1.heap H) := by
      intro b o e
      refine hid (kin b o e) ?_
      cases q : H b with
      | none => rfl
      | some u =>
        obtain rfl := isa q
        rw [apart (by rw [q]; exact fun z => nomatch z)] at e
        cases e
    have md : Mod K mg (hidT s1.heap H) := by
      obtain ⟨mc, n1, n2⟩ := nol
      exact ⟨kin0, spaces hns, ⟨mb, spaces hbn, hbb⟩, ⟨mc, spaces n1, n2⟩⟩
    have at0 : Env0 P w K mg (hidT s1.heap H) callerA [] s1 H := by
      refine ⟨rfl, md, fun b o e => of_hidT e, Nat.le_of_eq (hidT_size _ _), trivial, fun b hb => ?_, hok, .of_eq hgn⟩
      exact absurd (show b ∈ ([] : List Addr) from hb) List.not_mem_nil
    refine codeAny_mono ((F _ kin0 (spaces hns)).go callerA [] s1 H ⟨[.ref a], []⟩ [.ref a] [.ref a] _ _ rm rfl at0 (bnd s1 (.ref a)) (.cons rfl .nil) (wish H only sq)) fun y s2 h => ?_
    cases y with
    | error e => exact False.elim (show False from h)
    | ok fl =>
      cases fl with
      | next => exact h.elim
      | brk => exact h.elim
      | cont => exact h.elim
      | ret u =>
        obtain ⟨v, H2, os, br, un, hok2, r2, q⟩ := h
        obtain rfl : v = .bl true := q
        obtain rfl : u = Value.bool true := r2
        refine ⟨rfl, OldK.of_keep fun b o e => ?_, os, br⟩
        cases q : H b with
        | none => exact un.keep b o e q (fun z => absurd (show b ∈ ([] : List Addr) from z) List.not_mem_nil) (by simp)
        | some u =>
          cases only b with
          | inl z =>
            rw [q] at z
            cases z
          | inr z =>
            obtain ⟨ob, xs, z⟩ := z
            have z2 := un.frzs b ob _ z
            obtain ⟨e1, _⟩ := hok b _ z
            obtain ⟨e2, _⟩ := hok2 b _ z2
            rw [e] at e1
            cases e1
            exact e2
  cases hk : K.lookup a with
  | some o =>
    have e := kin a o hk
    rw [hla] at e
    cases e
    refine step (fun _ => none) (fun _ => .inl rfl) (.inr ⟨_, vs.toArray, _, hk, rfl, rfl, rfl, by rw [List.size_toArray, many]; exact hsz, by simpa using rv⟩) ?_ (fun b z => absurd rfl z) fun z => absurd rfl z
    intro b u z
    cases (show (none : Option HO) = some u from z)
  | none =>
    refine step (fun b => if b = a then some (.frz { cls := .type "list", data := .seq vs.toArray } (.lst (ns.map V.int))) else none) ?_ (.inl (.inr ⟨{ cls := .type "list", data := .seq vs.toArray }, if_pos rfl⟩)) ?_ ?_ fun _ => hk
    · intro b
      by_cases c : b = a
      · exact .inr ⟨_, _, if_pos c⟩
      · exact .inl (if_neg c)
    · intro b u z
      by_cases c : b = a
      · cases (if_pos c).symm.trans z
        subst c
        exact ⟨hla, by rw [List.length_map]; exact hsz, vs, _, rv, hla⟩
      · cases (if_neg c).symm.trans z
    · intro b z
      by_cases c : b = a
      · exact c
      · exact absurd (if_neg c) z
theorem walk_ofG {l : PySem.W.OpenLaw} {n k : Nat} {q : Program} {loose : List Str} {XP : (Str → Option Value) → Heap → Prop} {YP : World → Heap → Prop} {d : DefRec} {K : Params → PySem.W.Frag} {sp : World → Sp} {x : Str}
    (hn : l.most = some n) (hz : n ≤ sizeLine) (hdf : d.params.defaults = []) (rm : Room k callerA) (hY : ∀ (w : World) (h : Heap), YP w h → (K w.params).In h)
    (F : ∀ (w : World) (mg : Str → Option Value) (fa : Addr) (h : Heap), (K w.params).In h → h.Ns mainGlobals mg → mg d.name = some (.ref fa) → ∃ fd : FuncData, (∀ (s : Shared) (u : Value), BindsTo s fd ⟨[u], []⟩ [(x, u)]) ∧ ∀ bs : Heap, (K w.params).In bs → bs.Ns mainGlobals mg → FnG l.prog w (K w.params) mg bs k fa fd [x] (sp w))
    (wish : ∀ (w : World) (H : Hp) (a : Addr) (ns : List Int), ns.length ≤ n → Only H → SqL (K w.params) H a (ns.map V.int) → sp w [.ref a] H (fun v _ => v = .bl true) fun _ _ _ => False) :
    PySem.W.WalkO q loose XP YP l.row.toRowW d [] (fun f vs => PySem.call f vs) := by
  refine Att.attach_call hn hdf fun w s0 s1 mg mb fa o pm cd dc a vs ns G Y ho hd hcd hmg hobj hints hlen hg => ?_
  obtain ⟨fd, bnd, hF⟩ := F w mg fa _ (hY w _ Y) G.T.g hmg
  exact script_call (hY w _ Y) G.T.g G.T.b G.T.builtins G.T.nolimit hg hobj hints (Nat.le_trans hlen hz) rm hF bnd fun H hO hS => wish w H a ns hlen hO hS
end
end Sh

/-! a lambda of one parameter: made, handed to a def, called there -/
namespace Sh
open PySem PySem.Spec PyProof.Rows L2 LamX
/-- one parameter q; all else that it names is captured, or global -/
structure LamS1 (sc lam : Scope) (q : Str) : Prop where
  fnk : lam.kind = .function
  noco : lam.isCoroutine = false
  nogen : lam.isGenerator = false
  par : lam.names.lookup q = some .local
  nocell : ∀ z ∈ lam.names, z.2 ≠ .cell
  alone : ∀ z ∈ lam.names, z.2 = .local → z.1 = q
  from_ : ∀ z ∈ lam.names, z.2 = .free → sc.names.lookup z.1 = some .cell ∨ sc.names.lookup z.1 = some .free
def lamS1B (sc lam : Scope) (q : Str) : Bool :=
  decide (lam.kind = .function) && (!lam.isCoroutine && (!lam.isGenerator && (decide (lam.names.lookup q = some .local) && lam.names.all fun z => !decide (z.2 = .cell) && ((!decide (z.2 = .local) || decide (z.1 = q)) && (!decide (z.2 = .free) || (decide (sc.names.lookup z.1 = some .cell) || decide (sc.names.lookup z.1 = some .free)))))))
theorem lamS1_by {sc lam : Scope} {q : Str} (h : lamS1B sc lam q = true) : LamS1 sc lam q := by
  have two : ∀ {x y : Bool}, (x && y) = true → x = true ∧ y = true := fun w => Bool.and_eq_true_iff.mp w
  have no : ∀ {x : Bool}, (!x) = true → x = false := fun {x} w => by cases x <;> first | rfl | cases w
  unfold lamS1B at h
  obtain ⟨a1, h⟩ := two h
  obtain ⟨a2, h⟩ := two h
  obtain ⟨a3, h⟩ := two h
  obtain ⟨a4, h⟩ := two h
  have each := List.all_eq_true.mp h
  refine ⟨of_decide_eq_true a1, no a2, no a3, of_decide_eq_true a4, fun z hz => ?_, fun z hz e => ?_, fun z hz e => ?_⟩
  · exact of_decide_eq_false (no (two (each z hz)).1)
  · have w := (two (two (each z hz)).2).1
    rw [decide_eq_true e] at w
    exact of_decide_eq_true ((Bool.or_eq_true_iff.mp w).resolve_left (fun n => by cases n))
  · have w := (two (two (each z hz)).2).2
    rw [decide_eq_true e] at w
    have w2 := (Bool.or_eq_true_iff.mp w).resolve_left (fun n => by cases n)
    rcases Bool.or_eq_true_iff.mp w2 with y | y
    · exact .inl (of_decide_eq_true y)
    · exact .inr (of_decide_eq_true y)
theorem LamS1.has {X : Cx} {lam : Scope} {q : Str} (L : LamS1 X.env.scope lam q) (ok : X.Ok) : ∀ z ∈ lam.names, z.2 = .free → ∃ a, X.env.cells.lookup z.1 = some a := fun z hz e => ok.has _ (L.from_ z hz e)
/-- where the lambda's body runs: the maker's names, its parameter behind them -/
def lamCx1 (X : Cx) (B : Around) (fr : List Env) (t : Shared) (J : Hp) (lam : Scope) (f c' : Addr) (q : Str) : Cx :=
  let en := lamEnv X lam t.heap.objs.size f c'
  { prog := X.prog, w := X.w, K := X.K, mg := X.mg, base := X.base, A := B.deeper en, N := X.N ++ [q], s_0 := t, H_0 := J, env := en, outer := fr, stack := en :: fr, ex := [], fn := fun _ => false, calm := true, pn := [],
    xe := fun e r => wpAny (model X.prog X.w) (B.deeper en) (leaving en e) (fun _ r' => CX0 fr J t E0 e r') (fun e' r' => CX0 fr J t E0 e' r') r }
section
variable {X : Cx} {pins : List (Addr × Obj)} {σ : L2.St} {G J : Hp} {s t : Shared}
/-- what is captured is the maker's own cell -/
theorem cap_cell {lam : Scope} {q : Str} (L : LamS1 X.env.scope lam q) (ok : X.Ok) {n : Str} {a : Addr} (e : (cloFrom X.env.cells lam.names []).lookup n = some a) : X.env.cells.lookup n = some a := by
  rcases cloFrom_mem (PySem.mem_of_lookup e) with bad | ⟨isF, ea⟩
  · cases bad
  · obtain ⟨a', ha⟩ := L.has ok _ isF rfl
    have ha' : X.env.cells.lookup n = some a' := ha
    rw [ea, ha'] <;> rfl
theorem cap_there {lam : Scope} {n : Str} (e : lam.names.lookup n = some .free) : ∃ a, (cloFrom X.env.cells lam.names []).lookup n = some a :=
  mem_lookup (cloFrom_has (cells := X.env.cells) (acc := []) (PySem.mem_of_lookup e))
theorem lam_start1 {B : Around} {fr : List Env} {lam : Scope} {f c' : Addr} {q : Str} {h2 : Heap} {tk : Nat} {v : V} {u : Value} (I : Inv X pins σ G s) (L : LamS1 X.env.scope lam q) (nq : q ∉ X.N) (at0 : Env0 X.prog X.w X.K X.mg X.base B fr t J) (calm : B.handled = none)
    (un : Un (frs X.stack) [] G J s.heap t.heap) (rv : RelV v u) (hns : h2.Ns t.heap.objs.size fun n => ([(q, u)] : List (Str × Value)).reverse.lookup n) (grow : ∀ b o, t.heap.get? b = some o → h2.get? b = some o) :
    Inv (lamCx1 X B fr t J lam f c' q) [] (σ ++ [some v]) J { t with heap := h2, toks := tk } := by
  have own : ∀ {n a}, (lamEnv X lam t.heap.objs.size f c').cells.lookup n = some a → X.env.cells.lookup n = some a := fun e => cap_cell L I.ok e
  have stays : ∀ {a : Addr} {z : Option Value}, G a = none → s.heap.IsCell a z → h2.IsCell a z := by
    rintro a z ga ⟨o, ho, hd⟩
    obtain ⟨sl, w⟩ := un.any ho ga List.not_mem_nil
    exact ⟨_, grow _ _ w, hd⟩
  have none_ex : ∀ b : Addr, b ∉ (lamCx1 X B fr t J lam f c' q).ex := fun b => List.not_mem_nil
  have okay : (lamCx1 X B fr t J lam f c' q).Ok := by
    constructor
    case mod => exact at0.mod
    case kind => exact L.fnk
    case glob => rfl
    case blt => rfl
    case above => exact Nat.le_refl _
    case inj => exact fun n m a e1 e2 => I.ok.inj n m a (own e1) (own e2)
    case has =>
      intro n hn
      rcases hn with hn | hn
      · exact absurd rfl (L.nocell _ (PySem.mem_of_lookup (show lam.names.lookup n = some .cell from hn)))
      · exact cap_there (show lam.names.lookup n = some .free from hn)
    case cab => exact fun n a z _ => absurd (show false = true from z) Bool.false_ne_true
    case hd => exact fun _ => calm
    case frames => exact Around.frames_deeper at0.frames
    case stk => exact .inr ⟨rfl, rfl⟩
    case exf => exact fun b z => absurd z (none_ex b)
    case bs => exact at0.bs
    case bsz => exact at0.bsz
    case noex => exact fun b _ _ => none_ex b
    case exfs => exact fun b z => absurd z (none_ex b)
    case funs => exact at0.funs
    case frf => exact at0.frf
  constructor
  case ok => exact okay
  case os => rfl
  case bare => exact at0.bare
  case base => exact Un.kept grow
  case loc =>
    refine ⟨_, hns, fun i n z e1 e2 vis => ?_⟩
    have at1 : (X.N ++ [q])[i]? = some n := e1
    by_cases low : i < X.N.length
    · rw [List.getElem?_append_left low] at at1
      rw [List.getElem?_append_left (I.len ▸ low)] at e2
      have nn : n ≠ q := fun w => nq (w ▸ List.mem_of_getElem? at1)
      rcases (show Vis lam n from vis) with w | w | w
      · exact absurd (L.alone _ (PySem.mem_of_lookup w) rfl) nn
      · exact absurd rfl (L.nocell _ (PySem.mem_of_lookup w))
      · have par := L.from_ _ (PySem.mem_of_lookup w) rfl
        obtain ⟨mm, _, look⟩ := I.loc
        obtain ⟨u', r', lk⟩ := look i n z at1 e2 (.inr par)
        obtain ⟨a, ea⟩ := cap_there (X := X) w
        refine ⟨u', r', .inr ⟨.inr w, a, ea, ?_⟩⟩
        rcases lk with ⟨loc', _⟩ | ⟨_, a2, e3, cell⟩
        · have loc2 : X.env.scope.names.lookup n = some .local := loc'
          rcases par with y | y
          · rw [show X.env.scope.names.lookup n = _ from y] at loc2
            cases loc2
          · rw [show X.env.scope.names.lookup n = _ from y] at loc2
            cases loc2
        · obtain rfl : a = a2 := Option.some.inj ((own ea).symm.trans e3)
          exact stays (I.freeC n a e3) cell
    · have last : i = X.N.length := by
        have := (List.getElem?_eq_some_iff.mp at1).1
        rw [List.length_append, List.length_singleton] at this
        omega
      subst last
      rw [List.getElem?_concat_length] at at1
      rw [← I.len, List.getElem?_concat_length] at e2
      obtain rfl : q = n := Option.some.inj at1
      obtain rfl : v = z := Option.some.inj (Option.some.inj e2)
      exact ⟨u, rv, .inl ⟨L.par, by simp⟩⟩
  case cell =>
    intro n a e
    obtain ⟨z, w⟩ := I.cell n a (own e)
    exact ⟨z, stays (I.freeC n a (own e)) w⟩
  case free => exact at0.hok.fresh (Nat.le_refl _)
  case freeC =>
    intro n a e
    obtain ⟨z, o, w, _⟩ := I.cell n a (own e)
    exact un.free a o w (I.freeC n a (own e)) List.not_mem_nil
  case pin => exact fun p hp => absurd (show p ∈ ([] : List (Addr × Obj)) ++ [] from hp) (by simp)
  case hok => exact at0.hok.kept grow
  case len =>
    show (σ ++ [some v]).length = (X.N ++ [q]).length
    rw [List.length_append, List.length_append, I.len]
    rfl
end
/-- a function object that stands at f since the state (s, H): called at any later one it does as sp says -/
structure LamAt (P : Program) (w : World) (K : PySem.W.Frag) (mg : Str → Option Value) (base : Heap) (k : Nat) (f : Addr) (s : Shared) (H : Hp) (stk : List Env) (sp : V → Hp → VK → Prop) : Prop where
  fn : ∃ oc od fd sl, s.heap.get? f = some ⟨oc, od, .func fd, sl⟩
  new : H f = none
  nofr : f ∉ frs stk
  run : ∀ (A : Around) (outer : List Env) (s1 : Shared) (HZ : Hp) (u : Value) (v : V) (Q : VK), Room k A → Env0 P w K mg base A outer s1 HZ → Un (frs stk) [] H HZ s.heap s1.heap → RelV v u → sp v HZ Q →
    codeAny (model P w) A (.call (.ref f) ⟨[u], []⟩) (CR CX0 outer P w HZ s1 Q E0) s1
section
variable {X : Cx} {pins : List (Addr × Obj)} {σ : L2.St} {G : Hp} {s : Shared}
theorem lam_at {f c' : Addr} {pm ctv : Value} {params : Arguments} {body : Expr} {lam : Scope} {q : Str} {k : Nat} {tb : TE} (I : Inv X pins σ G s) (L : LamS1 X.env.scope lam q) (nq : q ∉ X.N)
    (stands : s.heap.get? f = some (PySem.W.kla_obj "<lambda>" (X.env.qual ++ "<lambda>") params body lam (cloFrom X.env.cells lam.names []) pm c' ctv)) (gf : G f = none) (nfr : f ∉ frs X.stack)
    (binds : ∀ u : Value, bindArgs (PySem.W.kla_fn "<lambda>" (X.env.qual ++ "<lambda>") params body lam (cloFrom X.env.cells lam.names []) pm (.ref c') ctv) ⟨[u], []⟩ = pure [(q, u)])
    (runs : ∀ (B : Around) (fr : List Env) (t : Shared) (J : Hp), Room k (B.deeper (lamEnv X lam t.heap.objs.size f c')) → PE (lamCx1 X B fr t J lam f c' q) body tb) :
    LamAt X.prog X.w X.K X.mg X.base (k + 1) f s G X.stack (fun v J Q => J c' = some (CodeO c' (X.env.qual ++ "<lambda>")) ∧ tb (σ ++ [some v]) J Q) := by
  refine ⟨⟨_, _, _, _, stands⟩, gf, nfr, fun B fr t J u v Q rm at0 un rv wish => ?_⟩
  obtain ⟨code, does⟩ := wish
  have still := un.keep f _ stands gf nfr List.not_mem_nil
  obtain ⟨⟨oc, cs, tq, w1, w2, w3⟩, _, _⟩ := at0.hok c' _ code
  have nol : t.heap.NoLimit := at0.mod.nolimit.keeps fun b o e => (at0.bs b o e).1
  refine PySem.W.kla_callFunE rm.depth still rfl L.noco L.nogen rfl ⟨c', oc, cs, tq, rfl, w1, w2, w3⟩ ?_
  rw [binds]
  refine wpAny_pure (wpAny_newFunctionEnv L.nocell (fun y hy => by rw [List.mem_singleton.mp hy]; exact L.par) (fun h2 hns hsb => ?_) L.fnk)
  refine ⟨nol.fresh _ hsb, ?_⟩
  have grow : ∀ b o, t.heap.get? b = some o → h2.get? b = some o := by
    intro b o e
    exact hsb.extBut b o (Nat.ne_of_lt (Heap.lt_size e)) (Heap.get?_push_of_some _ e)
  have start := lam_start1 (tk := t.toks + ([(q, u)] : List (Str × Value)).length) I L nq at0 rm.hd un rv hns grow (f := f) (c' := c')
  refine PySem.W.kla_codeExpr (env := lamEnv X lam t.heap.objs.size f c') (wpAny_mono ((runs B fr t J (rm.deeper _)).run [] _ _ J Q start does) (fun z t' hz => ?_) fun e t' hz => hz)
  obtain ⟨z2, J2, K2, rz, q2⟩ := hz
  exact ⟨z2, J2, K2.os, K2.bare, K2.base, K2.hok, rz, q2⟩
/-- a call of it by a name that holds it, in a def entered at that state -/
theorem pe_callLam {Z : Cx} {k i : Nat} {f : Addr} {s : Shared} {H : Hp} {stk : List Env} {sp : V → Hp → VK → Prop} {a : Str} {e : Expr} {te : TE} {p1 p2 : Pos} (LA : LamAt Z.prog Z.w Z.K Z.mg Z.base k f s H stk sp)
    (hs : Z.s_0 = s) (hH : Z.H_0 = H) (hfs : Z.fs = frs stk) (hx : Z.ex = []) (hr : Room k Z.A) (hN : Z.N[i]? = some a) (hv : Vis Z.env.scope a) (he : PE Z e te)
    (hst : starEach [e] Z.env = (false, eval e Z.env) :: starEach [] Z.env := by rfl) (hd : (a == ("__debug__" : Str)) = false := by decide) (hcd : (a == ("__classdict__" : Str)) = false := by decide) :
    PE Z (.Call (.Name a p1) [e] [] p2) (fun σ H Q => σ[i]? = some (some (.ref f)) ∧ te σ H fun v H1 => sp v H1 Q) := by
  refine ⟨fun pinsZ sZ τ HZ Q IZ h => ?_⟩
  obtain ⟨hs0, ht⟩ := h
  have fnAt : ∀ {pins : List (Addr × Obj)} {σ' : L2.St} {H' : Hp} {s' : Shared}, Inv Z pins σ' H' s' → PySem.W.FnAt f s'.heap := fun {pins σ' H' s'} J => by
    obtain ⟨oc, od, fd, sl, q⟩ := LA.fn
    have b := J.base
    rw [hfs, hx, hs, hH] at b
    exact ⟨oc, od, fd, sl, b.keep f _ q LA.new LA.nofr (by simp)⟩
  refine wpAny_Call_Name_kw (thn ((pe_var (pos := p1) (i := i) hN hv hd hcd).run pinsZ sZ τ HZ (fun v H1 => v = .ref f ∧ H1 = HZ) IZ ⟨.ref f, hs0, rfl, rfl⟩) fun u s1 ⟨v, H1, I1, r1, q1⟩ => ?_)
  obtain ⟨ev, eH⟩ := q1
  subst ev
  rw [eH] at I1
  obtain rfl : u = .ref f := r1
  refine PySem.W.callWith_F (fnAt I1) ?_ hst
  rw [hst]
  show wpAny _ _ (spliced ((false, eval e Z.env) :: backTo p2 (starEach [] Z.env))) _ _ s1
  refine Calls.spliced_cons (thn (he.run pinsZ s1 τ HZ _ I1 ht) fun u2 s2 ⟨v, H2, I2, ru, q⟩ => ?_)
  refine Calls.spliced_nil ⟨fnAt I2, ?_⟩
  have un : Un (frs stk) [] H H2 s.heap s2.heap := by
    have b := I2.base
    rw [hfs, hx, hs, hH] at b
    exact b
  refine wpAny_call (codeAny_mono (LA.run Z.A Z.stack s2 H2 u2 v Q hr I2.env0 un ru q) fun y s3 hq => ?_)
  cases y with
  | error e => exact hq.elim
  | ok fl =>
    cases fl with
    | ret u => exact I2.after hq
    | next => exact hq.elim
    | brk => exact hq.elim
    | cont => exact hq.elim
end
/-- a def that is handed such a function object and another thing -/
structure OkLam (P : Program) (w : World) (K : PySem.W.Frag) (mg : Str → Option Value) (base : Heap) (k j : Nat) (x : Str) (st : Stmt) (ps : List Str) (TT : (V → Hp → VK → Prop) → V → Hp → VK → Prop) : Prop where
  ex : ∃ (g : Addr) (fd : FuncData), Fun K x x st g fd ∧ mg x = some (.ref g) ∧ Binds K fd ps [] ∧ ps.length = 2 ∧ ∀ (A : Around) (outer : List Env) (s : Shared) (H : Hp) (f : Addr) (v : V) (u : Value) (Q : VK) (sp : V → Hp → VK → Prop), Room k A → Env0 P w K mg base A outer s H →
    BindsTo s fd ⟨[.ref f, u], []⟩ (ps.zip [.ref f, u]) → RelV v u → LamAt P w K mg base j f s H outer sp → TT sp v H Q → codeAny (model P w) A (.call (.ref g) ⟨[.ref f, u], []⟩) (CR CX0 outer P w H s Q E0) s
section
variable {P : Program} {w : World} {K : PySem.W.Frag} {mg : Str → Option Value} {base : Heap}
theorem OkLam.mono {x : Str} {st : Stmt} {ps : List Str} {i k j : Nat} {TT : (V → Hp → VK → Prop) → V → Hp → VK → Prop} (O : OkLam P w K mg base i j x st ps TT) (h : i ≤ k) : OkLam P w K mg base k j x st ps TT := by
  obtain ⟨g, fd, F, hg, b, l, G⟩ := O.ex
  exact ⟨g, fd, F, hg, b, l, fun A outer s H f v u Q sp hr => G A outer s H f v u Q sp (hr.mono h)⟩
theorem Df.okLam {x : Str} {st : Stmt} {N : List Str} {a b : Str} {k j : Nat} {TT : (V → Hp → VK → Prop) → V → Hp → VK → Prop} (D : Df K mg x st) (S : FnScope N [a, b] (defScope st))
    (hb : ∀ (kV doc pm : Value) (an : Option Addr) (cdv ct : Value) (us : List Value), us.length = [a, b].length → bindArgs (PySem.W.fnOf x x (defArgs st) (defBody st) (defScope st) .none kV doc pm an cdv ct) ⟨us, []⟩ = pure ([a, b].zip us))
    (hbody : ∀ (g : Addr) (cdv : Value) (A : Around) (outer : List Env) (s : Shared) (H : Hp) (f : Addr) (v : V) (Q : VK) (sp : V → Hp → VK → Prop), Room k (A.deeper (envOfC x (defScope st) s.heap.objs.size g cdv)) → LamAt P w K mg base j f s H outer sp → TT sp v H Q →
      ∃ t, PSs (cxOf CX0 P w K mg base N x (defScope st) g cdv A outer s H E0).nox (defBody st) t ∧ t { nx := fun _ H' => Q .non H', rt := Q } (start N [.ref f, v]) H) : OkLam P w K mg base (k + 1) j x st [a, b] TT := by
  obtain ⟨g, fd, F, hg⟩ := D.ex
  have F0 := F
  obtain ⟨oc, od, kV, doc, pm, an, cdv, ct, osl, rfl, lk, hcd⟩ := F.ex
  refine ⟨g, _, F0, hg, F0.binds hb, rfl, fun A outer s H f v u Q sp hr e0 bnd rv LA h => ?_⟩
  refine LamX.run_ofS (N := N) (ps := [a, b]) (us := [.ref f, u]) (vs := [.ref f, v]) lk hcd S hr e0 bnd (.cons rfl (.cons rv .nil)) rfl fun hr' => ?_
  obtain ⟨t, ht, hq⟩ := hbody g cdv A outer s H f v Q sp hr' LA h
  exact ⟨t, ht.nox, hq⟩
end
def tLam2 (T : List (Addr × Str)) (q : Str) (TT : (V → Hp → VK → Prop) → V → Hp → VK → Prop) (tb te2 : TE) : TE := fun σ H Q => Tabs T H ∧ ∀ (c' : Addr) (H1 : Hp), ExtN H H1 → Tabs T H1 → H1 c' = some (CodeO c' q) →
  te2 σ H1 fun v2 H2 => TT (fun v HZ Q' => HZ c' = some (CodeO c' q) ∧ tb (σ ++ [some v]) HZ Q') v2 H2 Q
section
variable {X : Cx}
/-- what is made stands: it may be pinned -/
theorem lam_pin {pins : List (Addr × Obj)} {σ : L2.St} {H : Hp} {s : Shared} {f : Addr} {o : Obj} (I : Inv X pins σ H s) (hf : s.heap.get? f = some o) (hd : ∃ fd, o.data = .func fd) (hn : H f = none) (nf : f ∉ frs X.stack) : Inv X ((f, o) :: pins) σ H s := by
  obtain ⟨fd, hd⟩ := hd
  refine I.pins_of fun q hq => ?_
  rcases List.mem_cons.mp hq with rfl | hq
  · refine ⟨hf, hn, fun z => ?_, fun z => ?_, fun v z => ?_⟩
    · obtain ⟨m, ⟨oL, es, ep, e, d, _⟩, _⟩ := I.loc
      have z' : f = X.env.locals := z
      rw [← z', hf] at e
      cases e
      rw [hd] at d
      cases d
    · refine nf ?_
      rcases I.ok.stk with e | ⟨e, hfr⟩
      · rw [e]
        exact z
      · rw [e]
        unfold frs
        rw [List.filterMap_cons, hfr]
        exact List.mem_cons_of_mem _ z
    · have z' : o.data = .cell v := z
      rw [hd] at z'
      cases z'
  · exact I.pin q (List.mem_append_right _ hq)
/-- x(lambda p: body, e2) -/
theorem pe_lamcall2 {T : List (Addr × Str)} {k j : Nat} {x a b : Str} {st : Stmt} {TT : (V → Hp → VK → Prop) → V → Hp → VK → Prop} {c Pt : Addr} {params : Arguments} {body e2 : Expr} {scope : Scope} {p : Str} {tb te2 : TE} {lpos p1 pos : Pos}
    (O : OkLam X.prog X.w X.K X.mg X.base k (j + 1) x st [a, b] TT) (hr : Room k X.A) (TB : TabB X.base X.mg c Pt) (hcode : X.env.code = .ref c) (hm : (Pt, X.env.qual ++ "<lambda>") ∈ T) (hu : ∀ q ∈ T, q.1 = Pt → q.2 = X.env.qual ++ "<lambda>")
    (L : LamS1 X.env.scope scope p) (hp : p ∉ X.N) (hdef : defaultsOf params X.env = ([], []))
    (hbind : ∀ (f c' : Addr) (pm ctv u : Value), bindArgs (PySem.W.kla_fn "<lambda>" (X.env.qual ++ "<lambda>") params body scope (cloFrom X.env.cells scope.names []) pm (.ref c') ctv) ⟨[u], []⟩ = pure [(p, u)])
    (hbody : ∀ (A : Around) (outer : List Env) (s' : Shared) (H' : Hp) (f c' : Addr), Room j (A.deeper (lamEnv X scope s'.heap.objs.size f c')) → PE (lamCx1 X A outer s' H' scope f c' p) body tb) (he2 : PE X e2 te2)
    (hg : Gl X x := by rfl) (hdb : (x == ("__debug__" : Str)) = false := by decide) (hs2 : starEach [e2] X.env = (false, eval e2 X.env) :: starEach [] X.env := by rfl) :
    PE X (.Call (.Name x p1) [.Lambda params body scope lpos, e2] [] pos) (tLam2 T (X.env.qual ++ "<lambda>") TT tb te2) := by
  refine ⟨fun pins s σ H Q I h => ?_⟩
  obtain ⟨hT, h⟩ := h
  obtain ⟨g, fd, F, mgx, bd, _, G⟩ := O.ex
  refine wpAny_Call_Name_kw (ld_glob I hg mgx ?_ hdb)
  refine PySem.W.callWith_K (h₀ := X.base) I.ok.mod.kin F.kp ?_ (by rfl) ?_
  · show wpAny _ _ (spliced ((false, eval (.Lambda params body scope lpos) X.env) :: backTo pos (starEach [e2] X.env))) _ _ s
    refine Calls.spliced_cons (lam_make2 I TB hcode hm hu hT hdef (L.has I.ok) fun f c' pm' ctv H1 s1 I1 eN T1 hf hfn hfr hco => ?_)
    have I1' := lam_pin I1 hf ⟨_, rfl⟩ hfn hfr
    rw [hs2]
    show wpAny _ _ (spliced ((false, eval e2 X.env) :: backTo pos (starEach [] X.env))) _ _ s1
    refine Calls.spliced_cons (thn (he2.run _ s1 σ H1 _ I1' (h c' H1 eN T1 hco)) fun u2 s2 ⟨v2, H2, I2, r2, q2⟩ => ?_)
    refine Calls.spliced_nil ⟨I2.kIn, ?_⟩
    obtain ⟨hf2, hn2, _⟩ := I2.pin (f, _) (List.mem_append_right _ (List.mem_cons_self))
    have I3 : Inv X pins σ H2 s2 := I2.pins_of fun q hq => I2.pin q (List.mem_append_right _ (List.mem_cons_of_mem _ hq))
    have LA := lam_at (k := j) I3 L hp hf2 hn2 hfr (hbind f c' pm' ctv) (fun A outer s' H' hr' => hbody A outer s' H' f c' hr')
    have bnd : BindsTo s2 fd ⟨[.ref f, u2], []⟩ ([a, b].zip [.ref f, u2]) := by
      have z := bd s2 [.ref f, u2] I3.kIn rfl
      simpa using z
    refine wpAny_call (codeAny_mono (G X.A X.stack s2 H2 f v2 u2 Q _ hr I3.env0 bnd r2 LA q2) fun y s3 hq => ?_)
    cases y with
    | error e => exact hq.elim
    | ok fl =>
      cases fl with
      | ret u => exact I3.after hq
      | next => exact hq.elim
      | brk => exact hq.elim
      | cont => exact hq.elim
  · rw [hs2]
    rfl
end
/-! ### what stands but for tables -/
section
variable {K : PySem.W.Frag} {H H' : Hp} {a : Addr} {xs : List V}
theorem ext_same (s : Same H H') : ExtN H H' := fun b o h _ => s b o h
theorem ext_tupl {xs : List V} {p : Addr} (e : ExtN H H') (x : H p = some (.tup xs)) : H' p = some (.tup xs) := e _ _ x fun _ z => by cases z
theorem ext_lst {xs : List V} {p : Addr} (e : ExtN H H') (x : H p = some (.lst xs)) : H' p = some (.lst xs) := e _ _ x fun _ z => by cases z
theorem ext_tup (e : ExtN H H') (h : SqT K H a xs) : SqT K H' a xs := by
  rcases h with (h | ⟨o, h⟩) | h
  · exact .inl (.inl (e _ _ h fun _ z => by cases z))
  · exact .inl (.inr ⟨o, e _ _ h fun _ z => by cases z⟩)
  · exact .inr h
theorem ext_seq (e : ExtN H H') (h : SqL K H a xs) : SqL K H' a xs := by
  rcases h with (h | ⟨o, h⟩) | h
  · exact .inl (.inl (e _ _ h fun _ z => by cases z))
  · exact .inl (.inr ⟨o, e _ _ h fun _ z => by cases z⟩)
  · exact .inr h
theorem ext_sqA (e : ExtN H H') (h : SqA K H a xs) : SqA K H' a xs := by
  rcases h with h | h
  · exact .inl (ext_seq e h)
  · exact .inr (ext_tup e h)
theorem ext_new (e : ExtN H H') (h : H' a = none) : H a = none ∨ ∃ ps, H a = some (.tbl ps) := by
  cases q : H a with
  | none => exact .inl rfl
  | some o =>
    by_cases z : ∀ ps, o ≠ .tbl ps
    · rw [e a o q z] at h
      cases h
    · refine .inr ?_
      cases o with
      | tbl ps => exact ⟨ps, rfl⟩
      | _ => exact absurd (fun _ z => by cases z) z
theorem tabs_same {T : List (Addr × Str)} (t : Tabs T H) (s : Same H H') : Tabs T H' := t.ext s
/-- the tables stand where but one object, no table and no code, has changed -/
theorem tabs_put {T : List (Addr × Str)} {b : Addr} {o : HO} (t : Tabs T H) (hb : ∃ xs, H b = some (.lst xs)) : Tabs T (upd H b o) := fun p hp => by
  obtain ⟨xs, hb⟩ := hb
  obtain ⟨ps, h1, h2, h3⟩ := t p hp
  refine ⟨ps, by rw [upd_ne (ne_of h1 hb (by intro z; cases z))]; exact h1, h2, fun pos cv hc => ?_⟩
  obtain ⟨c, e1, e2⟩ := h3 pos cv hc
  exact ⟨c, e1, by rw [upd_ne (ne_of e2 hb (by intro z; unfold CodeO at z; cases z))]; exact e2⟩
end
/-- a def of the top whose code object stands at c -/
structure DfC (K : PySem.W.Frag) (mg : Str → Option Value) (x : Str) (st : Stmt) (c : Addr) : Prop where
  ex : ∃ (f : Addr) (fd : FuncData), Fun K x x st f fd ∧ mg x = some (.ref f) ∧ fd.code = .ref c
theorem DfC.df {K : PySem.W.Frag} {mg : Str → Option Value} {x : Str} {st : Stmt} {c : Addr} (D : DfC K mg x st c) : Df K mg x st := let ⟨f, fd, a, b, _⟩ := D.ex; ⟨f, fd, a, b⟩
theorem DfC.ok {P : Program} {w : World} {K : PySem.W.Frag} {mg : Str → Option Value} {base : Heap} {x : Str} {st : Stmt} {N ps : List Str} {k : Nat} {sp : Sp} {c : Addr} (D : DfC K mg x st c) (S : FnScope N ps (defScope st))
    (hb : ∀ (kV doc pm : Value) (an : Option Addr) (cdv ct : Value) (us : List Value), us.length = ps.length → bindArgs (PySem.W.fnOf x x (defArgs st) (defBody st) (defScope st) .none kV doc pm an cdv ct) ⟨us, []⟩ = pure (ps.zip us))
    (len : ∀ vs H Q E, sp vs H Q E → vs.length = ps.length)
    (hbody : ∀ (f : Addr) (A : Around) (outer : List Env) (s : Shared) (H : Hp) (vs : List V) (Q : VK) (E : XK), Room k (A.deeper (envOfC x (defScope st) s.heap.objs.size f (.ref c))) → sp vs H Q E →
      ∃ t, PSs (cxOf CX0 P w K mg base N x (defScope st) f (.ref c) A outer s H E).nox (defBody st) t ∧ t { nx := fun _ H' => Q .non H', rt := Q } (start N vs) H) : Ok P w K mg base (k + 1) x st ps sp := by
  obtain ⟨f, fd, F, g, hc⟩ := D.ex
  have F0 := F
  obtain ⟨oc, od, kV, doc, pm, an, cdv, ct, osl, rfl, lk, hcd⟩ := F.ex
  obtain rfl : cdv = .ref c := hc
  refine ⟨f, _, F0, g, F0.binds hb, fn_of lk hcd S len fun A outer s H vs Q E hr hsp => ?_⟩
  obtain ⟨t, h, q⟩ := hbody f A outer s H vs Q E hr hsp
  exact ⟨t, h.nox, q⟩
end Sh

/-! the law's call, where defs make lambdas (tables of code objects), no text of a list is under way -/
namespace Sh
open PySem PySem.Spec PyProof.Rows L2 LamX
theorem Ok.g {P : Program} {w : World} {K : PySem.W.Frag} {mg : Str → Option Value} {bs : Heap} {x : Str} {st : Stmt} {ps : List Str} {k : Nat} {sp : Sp} (O : Ok P w K mg bs k x st ps sp) : OkG P w K mg bs k x st ps sp := by
  obtain ⟨f, fd, F, g, b, G⟩ := O.ex
  exact ⟨f, fd, F, g, b, G.len, fun B fr s H gs us vs Q E rm _ e0 bnd r wish => G.run B fr s H gs us vs Q E rm e0 bnd r wish⟩
/-- an empty table -/
abbrev tab0 : Obj := { cls := .none, data := .fields #[] }
theorem script_callT {P : Program} {w : World} {K : PySem.W.Frag} {mg mb : Str → Option Value} {k : Nat} {fa a : Addr} {cs : List (Addr × Addr)} {fd : FuncData} {x : Str} {sp : Sp} {s1 : Shared} {vs : List Value} {ns : List Int}
    (kin : K.In s1.heap) (hns : s1.heap.Ns mainGlobals mg) (hbn : s1.heap.Ns builtinsNs mb) (hbb : ∀ y : Str, y ≠ "__name__" → mb y = bootBuiltins y) (nol : s1.heap.NoLimit) (hgn : s1.gens = #[])
    (tabs : ∀ p ∈ cs, s1.heap.get? p.2 = some tab0) (out : ∀ p ∈ cs, K.lookup p.2 = none) (codes : ∀ p ∈ cs, PySem.W.CodeHd s1.heap p.1 p.2)
    (main : ∃ (bm : Addr) (ob : Obj), mg "__builtins__" = some (.ref bm) ∧ bm ≠ builtinsNs ∧ s1.heap.get? bm = some ob ∧ ob.cls = .type "module" ∧ ob.dict = some builtinsNs ∧ ob.data = .plain)
    (hla : s1.heap.get? a = some { cls := .type "list", data := .seq vs.toArray }) (hit : IntsAre vs ns) (hsz : ns.length ≤ sizeLine) (rm : Room k callerA)
    (F : ∀ bs : Heap, K.In bs → bs.Ns mainGlobals mg → (∀ p ∈ cs, TabB bs mg p.1 p.2) → FnG P w K mg bs k fa fd [x] sp) (bnd : ∀ (s : Shared) (u : Value), BindsTo s fd ⟨[u], []⟩ [(x, u)])
    (wish : ∀ H : Hp, (∀ p ∈ cs, H p.2 = some (.tbl #[])) → SqL K H a (ns.map V.int) → sp [.ref a] H (fun v _ => v = .bl true) fun _ _ _ => False) :
    codeAny (model P w) callerA (.call (.ref fa) ⟨[.ref a], []⟩) (fun y s2 => y = .ok (.ret (.bool true)) ∧ OldK s1.heap s2.heap ∧ s2.os = s1.os ∧ AllBare s2.gens) s1 := by
  have rv := vals_ints hit
  have many := hit.length
  have at_ : ∀ {b : Addr}, b ∈ cs.map (·.2) → s1.heap.get? b = some tab0 := by
    intro b hb
    obtain ⟨p, hp, rfl⟩ := List.mem_map.mp hb
    exact tabs p hp
  have apart0 : a ∉ cs.map (·.2) := by
    intro z
    have q := at_ z
    rw [hla] at q
    cases (show Data.seq vs.toArray _ = Data.fields #[] from congrArg Obj.data (Option.some.inj q))
  have mem2 : ∀ p ∈ cs, p.2 ∈ cs.map (·.2) := fun p hp => List.mem_map_of_mem hp
  have step : ∀ H : Hp, (∀ p ∈ cs, H p.2 = some (.tbl #[])) → (∀ b, H b = none ∨ (b ∈ cs.map (·.2)) ∨ ∃ o xs, H b = some (.frz o (.lst xs))) → SqL K H a (ns.map V.int) → HOk P w H s1.heap → (∀ b, H b ≠ none → b = a ∨ b ∈ cs.map (·.2)) → (H a ≠ none → K.lookup a = none) →
      codeAny (model P w) callerA (.call (.ref fa) ⟨[.ref a], []⟩) (fun y s2 => y = .ok (.ret (.bool true)) ∧ OldK s1.heap s2.heap ∧ s2.os = s1.os ∧ AllBare s2.gens) s1 := by
    intro H onT only sq hok sole apart
    have hid : ∀ {b : Addr} {o : Obj}, s1.heap.get? b = some o → H b = none → (hidT s1.heap H).get? b = some o := fun e n => hidT_get e n
    -- what is tracked is the script, or an empty table
    have none_of : ∀ {b : Addr} {o : Obj}, s1.heap.get? b = some o → (∀ xs n, o.data ≠ .seq xs n) → o.data ≠ .fields #[] → H b = none := by
      intro b o e n1 n2
      cases q : H b with
      | none => rfl
      | some u =>
        exfalso
        rcases sole b (by rw [q]; exact fun z => nomatch z) with z | z
        · rw [z, hla] at e
          cases e
          exact n1 _ _ rfl
        · rw [at_ z] at e
          cases e
          exact n2 rfl
    have spaces : ∀ {b : Addr} {m : Str → Option Value}, s1.heap.Ns b m → (hidT s1.heap H).Ns b m := by
      rintro b m ⟨o, es, ep, e, d, r⟩
      refine ⟨o, es, ep, hid e (none_of e (fun xs n z => ?_) fun z => ?_), d, r⟩
      · rw [d] at z
        cases z
      · rw [d] at z
        cases z
    have kin0 : K.In (hidT s1.heap H) := by
      intro b o e
      refine hid (kin b o e) ?_
      cases q : H b with
      | none => rfl
      | some u =>
        exfalso
        rcases sole b (by rw [q]; exact fun z => nomatch z) with z | z
        · subst z
          rw [apart (by rw [q]; exact fun z => nomatch z)] at e
          cases e
        · obtain ⟨p, hp, rfl⟩ := List.mem_map.mp z
          rw [out p hp] at e
          cases e
    have md : Mod K mg (hidT s1.heap H) := by
      obtain ⟨mc, n1, n2⟩ := nol
      exact ⟨kin0, spaces hns, ⟨mb, spaces hbn, hbb⟩, ⟨mc, spaces n1, n2⟩⟩
    have tb : ∀ p ∈ cs, TabB (hidT s1.heap H) mg p.1 p.2 := by
      intro p hp
      have ht := tabs p hp
      constructor
      case code =>
        obtain ⟨o, us, fl, tf, gs, tg, inF, tx, tt, e1, c2, c3, c4, rest⟩ := codes p hp
        refine ⟨o, us, fl, tf, gs, tg, inF, tx, tt, hid e1 (none_of e1 (fun xs n z => ?_) fun z => ?_), c2, c3, c4, rest⟩
        · rw [c3] at z
          cases z
        · rw [c3] at z
          cases z
          simp at c4
      case bm =>
        obtain ⟨bm, ob, b1, b2, b3, b4, b5, b6⟩ := main
        have noG : bm ≠ mainGlobals := by
          intro q
          obtain ⟨o, es, ep, e, hd, _⟩ := hns
          subst q
          rw [e] at b3
          cases b3
          rw [hd] at b6
          cases b6
        have noP : bm ≠ p.2 := by
          intro q
          rw [q, ht] at b3
          cases b3
          cases b6
        refine ⟨bm, ob, b1, b2, noG, noP, hid b3 (none_of b3 (fun xs n z => ?_) fun z => ?_), b4, b5, b6⟩
        · rw [b6] at z
          cases z
        · rw [b6] at z
          cases z
      case gP =>
        intro z
        obtain ⟨o, es, ep, e, hd, _⟩ := hns
        rw [z, ht] at e
        cases e
        cases hd
    have at0 : Env0 P w K mg (hidT s1.heap H) callerA [] s1 H := by
      refine ⟨rfl, md, fun b o e => of_hidT e, Nat.le_of_eq (hidT_size _ _), trivial, fun b hb => ?_, hok, .of_eq hgn⟩
      exact absurd (show b ∈ ([] : List Addr) from hb) List.not_mem_nil
    refine codeAny_mono ((F _ kin0 (spaces hns) tb).go callerA [] s1 H ⟨[.ref a], []⟩ [.ref a] [.ref a] _ _ rm rfl at0 (bnd s1 (.ref a)) (.cons rfl .nil) (wish H onT sq)) fun y s2 h => ?_
    cases y with
    | error e => exact False.elim (show False from h)
    | ok fl =>
      cases fl with
      | next => exact h.elim
      | brk => exact h.elim
      | cont => exact h.elim
      | ret u =>
        obtain ⟨v, H2, os, br, un, hok2, r2, q⟩ := h
        obtain rfl : v = .bl true := q
        obtain rfl : u = Value.bool true := r2
        have kept : ∀ b o, b ∉ cs.map (·.2) → s1.heap.get? b = some o → s2.heap.get? b = some o := by
          intro b o nb e
          cases q : H b with
          | none => exact un.keep b o e q (fun z => absurd (show b ∈ ([] : List Addr) from z) List.not_mem_nil) (by simp)
          | some u =>
            rcases only b with z | z | ⟨ob, xs, z⟩
            · rw [q] at z
              cases z
            · exact absurd z nb
            · obtain ⟨e1, _⟩ := hok b _ z
              obtain ⟨e2, _⟩ := hok2 b _ (un.frzs b ob _ z)
              rw [e] at e1
              cases e1
              exact e2
        have more : ∀ p ∈ cs, ∃ us : Array Value, s2.heap.get? p.2 = some { cls := .none, data := .fields us } := by
          intro p hp
          obtain ⟨us, z⟩ := un.tbls p.2 #[] (onT p hp)
          exact ⟨_, hok2 p.2 _ z⟩
        refine ⟨rfl, ⟨fun b o e => ?_, fun b o e => ?_⟩, os, br⟩
        · by_cases hb : b ∈ cs.map (·.2)
          · obtain ⟨p, hp, rfl⟩ := List.mem_map.mp hb
            obtain ⟨us, hm⟩ := more p hp
            rw [tabs p hp] at e
            cases e
            exact .inr (.inl ⟨((codes p hp).tab (tabs p hp)).isCodeTable, rfl, #[], us, rfl, by rw [Array.empty_append]; exact hm⟩)
          · exact .inl (kept b o hb e)
        · by_cases hb : b ∈ cs.map (·.2)
          · obtain ⟨p, hp, rfl⟩ := List.mem_map.mp hb
            obtain ⟨us, hm⟩ := more p hp
            exact ⟨_, hm⟩
          · exact ⟨o, kept b o hb e⟩
  cases hk : K.lookup a with
  | some o =>
    have e := kin a o hk
    rw [hla] at e
    cases e
    refine step (fun b => if b ∈ cs.map (·.2) then some (.tbl #[]) else none) (fun p hp => if_pos (mem2 p hp)) ?_ (.inr ⟨_, vs.toArray, _, hk, rfl, rfl, rfl, by rw [List.size_toArray, many]; exact hsz, by simpa using rv⟩) ?_ ?_ fun z => absurd (if_neg apart0) z
    · intro b
      by_cases c : b ∈ cs.map (·.2)
      · exact .inr (.inl c)
      · exact .inl (if_neg c)
    · intro b u z
      by_cases c : b ∈ cs.map (·.2)
      · cases (if_pos c).symm.trans z
        exact at_ c
      · cases (if_neg c).symm.trans z
    · intro b z
      by_cases c : b ∈ cs.map (·.2)
      · exact .inr c
      · exact absurd (if_neg c) z
  | none =>
    refine step (fun b => if b = a then some (.frz { cls := .type "list", data := .seq vs.toArray } (.lst (ns.map V.int))) else if b ∈ cs.map (·.2) then some (.tbl #[]) else none) ?_ ?_ (.inl (.inr ⟨{ cls := .type "list", data := .seq vs.toArray }, if_pos rfl⟩)) ?_ ?_ fun _ => hk
    · intro p hp
      exact (if_neg (fun z : p.2 = a => apart0 (z ▸ mem2 p hp))).trans (if_pos (mem2 p hp))
    · intro b
      by_cases c : b = a
      · exact .inr (.inr ⟨_, _, if_pos c⟩)
      · by_cases d : b ∈ cs.map (·.2)
        · exact .inr (.inl d)
        · exact .inl ((if_neg c).trans (if_neg d))
    · intro b u z
      by_cases c : b = a
      · cases (if_pos c).symm.trans z
        subst c
        exact ⟨hla, by rw [List.length_map]; exact hsz, vs, _, rv, hla⟩
      · have z1 := (if_neg c).symm.trans z
        by_cases d : b ∈ cs.map (·.2)
        · cases (if_pos d).symm.trans z1
          exact at_ d
        · cases (if_neg d).symm.trans z1
    · intro b z
      by_cases c : b = a
      · exact .inl c
      · by_cases d : b ∈ cs.map (·.2)
        · exact .inr d
        · exact absurd ((if_neg c).trans (if_neg d)) z
theorem look_none {α : Type} {a : Addr} : ∀ {l : List (Addr × α)}, a ∉ l.map (·.1) → l.lookup a = none
  | [], _ => rfl
  | (b, u) :: l, h => by
    have ne : (a == b) = false := beq_eq_false_iff_ne.mpr fun e => h (by rw [e]; exact List.mem_cons_self)
    rw [List.lookup_cons, ne]
    exact look_none fun z => h (List.mem_cons_of_mem _ z)
section
variable {K : PySem.W.Frag} {mg : Str → Option Value} {h : Heap}
/-- how a code object with a table at P looks -/
def CodeShape (o : Obj) (c P : Addr) : Prop := ∃ vs fl tf gs tg inF tx tt, o.cls = .type "code" ∧ o.data = .fields vs ∧ vs[11]? = some (.ref P) ∧ vs.getD 11 .none = .ref P ∧ vs.getD 18 .none = .str fl tf ∧ vs.getD 7 .none = .int gs tg ∧ vs.getD 9 .none = .bool inF ∧ vs.getD 10 .none = .int tx tt ∧ c ≠ P
theorem CodeShape.at {o : Obj} {c P : Addr} (s : CodeShape o c P) (e : h.get? c = some o) : PySem.W.CodeHd h c P := by
  obtain ⟨vs, fl, tf, gs, tg, inF, tx, tt, r⟩ := s
  exact ⟨o, vs, fl, tf, gs, tg, inF, tx, tt, e, r⟩
/-- a def that makes lambdas: its code object, its table -/
structure DfL (K : PySem.W.Frag) (mg : Str → Option Value) (h : Heap) (x : Str) (st : Stmt) (c P : Addr) : Prop where
  df : DfC K mg x st c
  code : PySem.W.CodeHd h c P
theorem with_dfL {R : Prop} {x : Str} {st : Stmt} {f c P : Addr} {oc : Value} {od an : Option Addr} {sl : Array (Option Value)} {kV dc pm ct : Value} {o : Obj} (X : K.In h) (G : h.Ns mainGlobals mg)
    (a : PySem.W.nsIn K mainGlobals x = some (some (.ref f))) (l : K.lookup f = some ⟨oc, od, .func (PySem.W.fnOf x x (defArgs st) (defBody st) (defScope st) .none kV dc pm an (.ref c) ct), sl⟩)
    (cd : PySem.W.codeIn K (.ref c) x = true) (kp : PySem.W.keepIn K (.ref f) = true) (m : K.lookup c = some o) (s : CodeShape o c P) (r : DfL K mg h x st c P → R) : R :=
  r ⟨⟨f, _, fun_mk l cd kp, PySem.W.mg_of X G a, rfl⟩, s.at (X _ _ m)⟩
end
theorem walk_ofGT {l : PySem.W.OpenLaw} {n k : Nat} {q : Program} {loose : List Str} {XP : (Str → Option Value) → Heap → Prop} {d : DefRec} {K : Params → PySem.W.Frag} {as ts : List Addr} {he : ∀ P, as = (K P).map (·.1)} {x : Str}
    (hn : l.most = some n) (hz : n ≤ sizeLine) (hdf : d.params.defaults = []) (rm : Room k callerA)
    (F : ∀ (w : World) (mg : Str → Option Value) (fa : Addr) (h : Heap), (K w.params).In h → h.Ns mainGlobals mg → mg d.name = some (.ref fa) →
      ∃ (fd : FuncData) (cs : List (Addr × Addr)) (sp : Sp), (∀ p ∈ cs, (p.2 ∈ ts ∧ p.2 ∉ as) ∧ PySem.W.CodeHd h p.1 p.2) ∧ (∀ (s : Shared) (u : Value), BindsTo s fd ⟨[u], []⟩ [(x, u)]) ∧
        (∀ (H : Hp) (a : Addr) (ns : List Int), ns.length ≤ n → (∀ p ∈ cs, H p.2 = some (.tbl #[])) → SqL (K w.params) H a (ns.map V.int) → sp [.ref a] H (fun v _ => v = .bl true) fun _ _ _ => False) ∧
        ∀ bs : Heap, (K w.params).In bs → bs.Ns mainGlobals mg → (∀ p ∈ cs, TabB bs mg p.1 p.2) → FnG l.prog w (K w.params) mg bs k fa fd [x] sp) :
    PySem.W.WalkO q loose XP (PySem.W.kmHook K as he ts).says l.row.toRowW d [] (fun f vs => PySem.call f vs) := by
  refine Att.attach_call hn hdf fun w s0 s1 mg mb fa o pm cd dc a vs ns G Y ho hd hcd hmg hobj hints hlen hg => ?_
  have kin := PySem.W.km_in_of Y
  obtain ⟨fd, cs, sp, tabs, bnd, wish, hF⟩ := F w mg fa _ kin G.T.g hmg
  exact script_callT kin G.T.g G.T.b G.T.builtins G.T.nolimit hg (fun p hp => PySem.W.km_tabs_of Y _ (tabs p hp).1.1) (fun p hp => look_none (by rw [← he]; exact (tabs p hp).1.2)) (fun p hp => (tabs p hp).2) G.T.bmain hobj hints (Nat.le_trans hlen hz) rm hF bnd fun H hT hS => wish H a ns hlen hT hS
end Sh

/-! max(t), t a tuple of ints -/
namespace Sh
open PySem PySem.Spec PySem.Calls PyProof.Rows PyProof.V L2
section
variable {prog : Program} {w : World} {A : Around} {E : Value → Shared → Prop} {s : Shared} {t : Addr} {xs : Array (Int × Tok)}
theorem max_intTup {Q : Value → Shared → Prop} (hh : A.handled = none) (ht : s.heap.IsTuple t (intItems xs)) (hz : 0 < xs.size)
    (h : ∀ v h' tk, (intItems xs)[argBest (fun i j => decide (numAt xs i > numAt xs j)) (xs.size - 1)]? = some v → (∀ b o, s.heap.get? b = some o → h'.get? b = some o) → Q v { s with heap := h', toks := tk }) :
    wpAny (model prog w) A (call (.builtin "max") [.ref t]) Q E s := by
  obtain ⟨o, ho, hc, n, hd⟩ := id ht
  have hne : t ≠ s.heap.objs.size := Nat.ne_of_lt (Heap.lt_size ho)
  have hsz : (intItems xs).size = xs.size := by simp [intItems]
  have W := Walks.tuple (prog := prog) (w := w) (A := A.in1) hh s.heap.objs.size t hne (intItems xs)
  refine call_max_walk (wpAny_pyIter_tuple ht ?_)
  refine ⟨s.heap.objs.size, _, _, _, _, _, _, rfl, W, ⟨⟨_, Heap.get?_push_size _ rfl, rfl, rfl⟩, ht.at fun o e => Heap.get?_push_of_some _ e⟩, fun b hb => ?_, by simpa [intItems] using hz, CmpOf.ints_gt (numAt xs) (fun _ _ => intItems_at), fun v h' tk hP hk => ?_⟩
  · rcases List.mem_cons.mp hb with rfl | hb
    · exact Heap.lt_size (Heap.get?_push_size _ rfl)
    · obtain rfl := List.mem_singleton.mp hb
      exact Heap.lt_size (Heap.get?_push_of_some _ ho)
  · refine h v h' tk (by simpa [intItems] using hP) fun b o e => hk b o (fun hb => ?_) (Heap.get?_push_of_some _ e)
    exact absurd (Heap.lt_size e) ((List.mem_singleton.mp hb) ▸ Nat.lt_irrefl _)
end
section
variable {X : Cx}
def rMaxT (K : PySem.W.Frag) : List V → Hp → VK → Prop := fun vs H Q => ∃ (a : Addr) (ns : List Int), vs = [.ref a] ∧ SqT K H a (ns.map V.int) ∧ 0 < ns.length ∧ ∀ m, m ∈ ns → (∀ y, y ∈ ns → y ≤ m) → Q (.int m) H
theorem cr_maxT (hc : X.calm = true) : CallR X (.builtin "max") (rMaxT X.K) := by
  intro pins s σ H vs us Q I r h
  obtain ⟨a, ns, rfl, hs, hne, q⟩ := h
  obtain ⟨its, rv, hT, _⟩ := I.tuple hs
  rw [Vals.ref1 r]
  have hi := rv.ints
  obtain ⟨xs, e⟩ := hi.allInts.items
  have hn : numsOf (intItems xs).toList = ns := by rw [← e]; exact hi.numsOf
  rw [nums_intItems] at hn
  rw [e] at hT
  subst hn
  have hsz : 0 < xs.size := by simpa using hne
  refine max_intTup (I.ok.hd hc) hT hsz fun v h' tk hv hk => ?_
  obtain ⟨t, rfl⟩ := intItems_at hv
  obtain ⟨h1, h2⟩ := argBest_gt (numAt xs) (xs.size - 1)
  refine ⟨.int _, H, I.kept hk, ⟨t, rfl⟩, q _ ?_ fun a ha => ?_⟩
  · rw [numAt_eq]; exact PySem.getD_mem (by rw [List.length_map, Array.length_toList]; omega)
  · obtain ⟨j, hj, rfl⟩ := mem_getD ha
    rw [List.length_map, Array.length_toList] at hj
    rw [← numAt_eq]; exact h2 j (by omega)
end
section
variable {X : Cx}
def rMaxA (K : PySem.W.Frag) : List V → Hp → VK → Prop := fun vs H Q => ∃ (a : Addr) (ns : List Int), vs = [.ref a] ∧ SqA K H a (ns.map V.int) ∧ 0 < ns.length ∧ ∀ m, m ∈ ns → (∀ y, y ∈ ns → y ≤ m) → Q (.int m) H
theorem cr_maxA (hc : X.calm = true) : CallR X (.builtin "max") (rMaxA X.K) := by
  intro pins s σ H vs us Q I r h
  obtain ⟨a, ns, e, hs, hne, q⟩ := h
  rcases hs with hs | hs
  · exact cr_max hc pins s σ H vs us Q I r ⟨a, ns, e, hs, hne, q⟩
  · exact cr_maxT hc pins s σ H vs us Q I r ⟨a, ns, e, hs, hne, q⟩
end
end Sh

namespace Sh
open PySem PySem.Spec PyProof.Rows L2
/-! ### the text by places -/
def topS (i : Nat) : Stmt := PySem.Challenge.pw_shoalmates_k41_how_deep_sets_each_free.main.body.getD i (.Pass ⟨0, 0, 0, 0⟩)
end Sh

namespace Sh
open PySem PySem.Spec PyProof.Rows L2
/-! ### what is drawn from -/
def BoxOk (xs : List V) (n : Nat) : Prop := ∃ b0 b1 b2 : Int, xs = [.int b0, .int b1, .int b2] ∧ 0 ≤ b0 ∧ 0 ≤ b1 ∧ b1 < 4611686018427387904 ∧ 0 ≤ b2 ∧ b2 + (n : Int) ≤ 1099511627776
def BoxAt (H : Hp) (b : Addr) (n : Nat) : Prop := ∃ xs, H b = some (.lst xs) ∧ BoxOk xs n
theorem BoxOk.mono {xs : List V} {n m : Nat} (h : BoxOk xs n) (l : m ≤ n) : BoxOk xs m := by
  obtain ⟨b0, b1, b2, e, h0, h1, h2, h3, h4⟩ := h
  exact ⟨b0, b1, b2, e, h0, h1, h2, h3, by omega⟩
theorem BoxAt.mono {H : Hp} {b : Addr} {n m : Nat} (h : BoxAt H b n) (l : m ≤ n) : BoxAt H b m := let ⟨xs, e, k⟩ := h; ⟨xs, e, k.mono l⟩
theorem BoxAt.same {H H' : Hp} {b : Addr} {n : Nat} (h : BoxAt H b n) (s : Same H H') : BoxAt H' b n := let ⟨xs, e, k⟩ := h; ⟨xs, s _ _ e, k⟩
theorem BoxAt.some {H : Hp} {b : Addr} {n : Nat} (h : BoxAt H b n) : H b ≠ none := fun z => by
  obtain ⟨xs, e, _⟩ := h
  rw [e] at z
  cases z
/-- a new place is not the box -/
theorem BoxAt.ne {H : Hp} {b p : Addr} {n : Nat} (h : BoxAt H b n) (z : H p = none) : b ≠ p := let ⟨_, e, _⟩ := h; ne_of_none e z
def spTake : Sp := fun vs H Q _ => ∃ (b : Addr) (n : Nat) (span : Int), vs = [.ref b, .int span] ∧ 0 < span ∧ span < 1152921504606846976 ∧ BoxAt H b (n + 1) ∧ ∀ (v : Int) (xs : List V), 0 ≤ v → v < span → BoxOk xs n → Q (.int v) (upd H b (.lst xs))
abbrev s__law_take : Stmt := topS 28
theorem sc__law_take : FnScope (["_law_box_here", "_law_span", "_law_found", "_law_once", "_law_twice"] : List Str) (["_law_box_here", "_law_span"] : List Str) (defScope s__law_take) := ⟨rfl, rfl, rfl, by decide +kernel, rfl, by decide +kernel, by decide +kernel⟩
theorem b__law_take (kV doc pm : Value) (an : Option Addr) (cdv ct : Value) (us : List Value) (hl : us.length = (["_law_box_here", "_law_span"] : List Str).length) : bindArgs (PySem.W.fnOf "_law_take" "_law_take" (defArgs s__law_take) (defBody s__law_take) (defScope s__law_take) .none kV doc pm an cdv ct) ⟨us, []⟩ = pure ((["_law_box_here", "_law_span"] : List Str).zip us) :=
  match us, hl with | [_, _], _ => rfl
section
variable {P : Program} {w : World} {K : PySem.W.Frag} {mg : Str → Option Value} {base : Heap}
theorem ok_take {k : Nat} (D : Df K mg "_law_take" s__law_take) (T : Bt mg) : Ok P w K mg base (k + 1) "_law_take" s__law_take ["_law_box_here", "_law_span"] spTake := by
  refine D.ok sc__law_take b__law_take (fun vs H Q E h => ?_) (fun f cdv A outer s H vs Q E hr h => ?_)
  · obtain ⟨b, n, span, rfl, _⟩ := h
    rfl
  · obtain ⟨b, n, span, rfl, s0, s1, ⟨xs, hb, b0, b1, b2, rfl, h0, h1, h1', h2, h3⟩, q⟩ := h
    refine ⟨_, (pss_cons (ps_if (pt_cmpR op_gt (pe_ix ix_lt (pv 0) pe_int (fun _ _ => rfl)) pe_int (nomark _))
        (pss_cons (ps_set (i := 2) sc__law_take.nd rfl (.inl rfl) (pe_op op_mod (pe_ix ix_lt (pv 0) pe_int (fun _ _ => rfl)) (pv 1)))
          (pss_cons (ps_asg (pe_op op_fdivW (pe_ix ix_lt (pv 0) pe_int (fun _ _ => rfl)) (pv 1)) (pg_sub (pv 0) pe_int set_list))
          (pss_one (ps_ret (pv 2)))))
        pss_nil)
      (pss_cons (ps_asg (pe_op op_add (pe_ix ix_lt (pv 0) pe_int (fun _ _ => rfl)) pe_int) (pg_sub (pv 0) pe_int set_list))
      (pss_cons (ps_set (i := 3) sc__law_take.nd rfl (.inl rfl) (pe_op op_mod (pe_op op_mul (pe_op op_add (pe_ix ix_lt (pv 0) pe_int (fun _ _ => rfl)) (pe_op op_mul pe_int (pe_ix ix_lt (pv 0) pe_int (fun _ _ => rfl)))) (pe_op op_add pe_int (pe_ix ix_lt (pv 0) pe_int (fun _ _ => rfl)))) pe_int))
      (pss_cons (ps_set (i := 4) sc__law_take.nd rfl (.inl rfl) (pe_op op_mod (pe_op op_mul (pe_op op_add (pe_op op_add (pv 3) (pe_ix ix_lt (pv 0) pe_int (fun _ _ => rfl))) (pe_op op_fdiv (pe_ix ix_lt (pv 0) pe_int (fun _ _ => rfl)) pe_int)) (pe_op op_add (pe_op op_mod (pv 3) pe_int) pe_int)) pe_int))
      (pss_one (ps_ret (pe_op op_mod (pe_op op_fdiv (pe_op op_mod (pe_op op_add (pe_op op_mul (pv 4) pe_int) (pv 3)) pe_int) pe_int) (pv 1)))))))), ?_⟩
    have hq : SqA K H b [.int b0, .int b1, .int b2] := SqA.l hb
    refine ⟨_, rfl, b, _, 0, .int b0, rfl, rfl, hq, rfl, b0, 0, rfl, rfl, _, rfl, ite2 (fun c => ?_) (fun c => ?_)⟩
    · have c0 : 0 < b0 := of_decide_eq_true c
      refine ⟨_, rfl, b, _, 0, .int b0, rfl, rfl, hq, rfl, _, rfl, b0, span, rfl, rfl, s0, ?_⟩
      refine ⟨_, rfl, b, _, 0, .int b0, rfl, rfl, hq, rfl, _, rfl, b0, span, rfl, rfl, wide_div (b := 60) s0 (show span.natAbs < 1152921504606846976 by omega) (by decide) (by decide), ?_⟩
      refine ⟨_, rfl, b, _, 0, 0, rfl, rfl, hb, rfl, ?_⟩
      refine ⟨_, rfl, ?_⟩
      exact q _ _ (Int.emod_nonneg _ (by omega)) (Int.emod_lt_of_pos _ s0) ⟨b0 / span, b1, b2, rfl, Int.ediv_nonneg h0 (by omega), h1, h1', h2, by omega⟩
    · refine ⟨_, rfl, b, _, 2, .int b2, rfl, rfl, hq, rfl, b2, 1, rfl, rfl, ?_⟩
      refine ⟨_, rfl, b, _, 2, 2, rfl, rfl, hb, rfl, ?_⟩
      have hq2 : SqA K (upd H b (.lst [.int b0, .int b1, .int (b2 + 1)])) b [.int b0, .int b1, .int (b2 + 1)] := SqA.l upd_same
      have m1 : 0 ≤ (b1 + 48271 * (b2 + 1)) * (39373 + (b2 + 1)) % 2147483647 := Int.emod_nonneg _ (by decide)
      have m2 : (b1 + 48271 * (b2 + 1)) * (39373 + (b2 + 1)) % 2147483647 < 2147483647 := Int.emod_lt_of_pos _ (by decide)
      refine ⟨_, rfl, b, _, 1, .int b1, rfl, rfl, hq2, rfl, _, rfl, b, _, 2, .int (b2 + 1), rfl, rfl, hq2, rfl, 48271, b2 + 1, rfl, rfl, .inl ⟨by decide, by decide⟩, b1, _, rfl, rfl, ?_⟩
      refine ⟨_, rfl, b, _, 2, .int (b2 + 1), rfl, rfl, hq2, rfl, 39373, b2 + 1, rfl, rfl, _, _, rfl, rfl, .inr ⟨by omega, by omega⟩, _, 2147483647, rfl, rfl, (show (0 : Int) < 2147483647 by decide), ?_⟩
      dsimp only
      generalize (b1 + 48271 * (b2 + 1)) * (39373 + (b2 + 1)) % 2147483647 = once at m1 m2
      have o1 : 0 ≤ once % 40009 := Int.emod_nonneg _ (by decide)
      have o2 : once % 40009 < 40009 := Int.emod_lt_of_pos _ (by decide)
      refine ⟨_, rfl, _, rfl, b, _, 2, .int (b2 + 1), rfl, rfl, hq2, rfl, once, b2 + 1, rfl, rfl, _, rfl, b, _, 1, .int b1, rfl, rfl, hq2, rfl, b1, 1000003, rfl, rfl, ⟨by decide, by decide⟩, _, _, rfl, rfl, ?_⟩
      refine ⟨_, rfl, once, 40009, rfl, rfl, (show (0 : Int) < 40009 by decide), _, 7, rfl, rfl, _, _, rfl, rfl, .inr ⟨by omega, by omega⟩, _, 2147483629, rfl, rfl, (show (0 : Int) < 2147483629 by decide), ?_⟩
      dsimp only
      have t1 : 0 ≤ (once + (b2 + 1) + b1 / 1000003) * (once % 40009 + 7) % 2147483629 := Int.emod_nonneg _ (by decide)
      have t2 : (once + (b2 + 1) + b1 / 1000003) * (once % 40009 + 7) % 2147483629 < 2147483629 := Int.emod_lt_of_pos _ (by decide)
      generalize (once + (b2 + 1) + b1 / 1000003) * (once % 40009 + 7) % 2147483629 = twice at t1 t2
      refine ⟨_, rfl, twice, 48271, rfl, rfl, .inl ⟨by omega, by omega⟩, _, rfl, _, once, rfl, rfl, _, 2147483587, rfl, rfl, (show (0 : Int) < 2147483587 by decide), _, 64, rfl, rfl, ⟨by decide, by decide⟩, _, rfl, _, span, rfl, rfl, s0, ?_⟩
      exact q _ _ (Int.emod_nonneg _ (by omega)) (Int.emod_lt_of_pos _ s0) ⟨b0, b1, b2 + 1, rfl, h0, h1, h1', by omega, by omega⟩
end
end Sh

namespace Sh
open PySem PySem.Spec PyProof.Rows L2
theorem SqA.at {K : PySem.W.Frag} {H : Hp} {b l : Addr} {o : HO} {xs : List V} (n : l ≠ b) (h : SqA K H l xs) : SqA K (upd H b o) l xs := by
  rcases h with ((h | ⟨z, h⟩) | h) | ((h | ⟨z, h⟩) | h)
  · exact .inl (.inl (.inl (by rw [upd_ne n]; exact h)))
  · exact .inl (.inl (.inr ⟨z, by rw [upd_ne n]; exact h⟩))
  · exact .inl (.inr h)
  · exact .inr (.inl (.inl (by rw [upd_ne n]; exact h)))
  · exact .inr (.inl (.inr ⟨z, by rw [upd_ne n]; exact h⟩))
  · exact .inr (.inr h)
theorem at_nat {xs : List V} {i : Int} {j : Nat} {v : V} (e : i = (j : Int)) (h : xs[j]? = some v) : atI xs i = some v := L2.at_of e h
theorem b01 (c : Bool) : (0 : Int) ≤ if c = true then 1 else 0 := by cases c <;> decide
theorem b01' (c : Bool) : (-(2 ^ 64) : Int) < (if c = true then 1 else 0) ∧ (if c = true then 1 else 0) < (2 ^ 64 : Int) := by cases c <;> decide
/-- a cell of the script: some int -/
def spCellAt (K : PySem.W.Frag) : Sp := fun vs H Q _ => ∃ (l : Addr) (ns : List Int) (j : Nat), vs = [.ref l, .int (j : Int)] ∧ SqL K H l (ns.map V.int) ∧ ∀ z : Int, Q (.int z) H
abbrev s__law_cell_at : Stmt := topS 26
theorem sc__law_cell_at : FnScope (["_law_script", "_law_k"] : List Str) (["_law_script", "_law_k"] : List Str) (defScope s__law_cell_at) := ⟨rfl, rfl, rfl, by decide +kernel, rfl, by decide +kernel, by decide +kernel⟩
theorem b__law_cell_at (kV doc pm : Value) (an : Option Addr) (cdv ct : Value) (us : List Value) (hl : us.length = (["_law_script", "_law_k"] : List Str).length) : bindArgs (PySem.W.fnOf "_law_cell_at" "_law_cell_at" (defArgs s__law_cell_at) (defBody s__law_cell_at) (defScope s__law_cell_at) .none kV doc pm an cdv ct) ⟨us, []⟩ = pure ((["_law_script", "_law_k"] : List Str).zip us) :=
  match us, hl with | [_, _], _ => rfl
def spBox (K : PySem.W.Frag) : Sp := fun vs H Q _ => ∃ (l : Addr) (ns : List Int) (j : Nat), vs = [.ref l, .int (j : Int)] ∧ j ≤ 100 ∧ SqL K H l (ns.map V.int) ∧ ∀ (p : Addr) (xs : List V), H p = none → BoxOk xs 549755813888 → Q (.ref p) (upd H p (.lst xs))
abbrev s__law_box : Stmt := topS 27
theorem sc__law_box : FnScope (["_law_script", "_law_k", "_law_core"] : List Str) (["_law_script", "_law_k"] : List Str) (defScope s__law_box) := ⟨rfl, rfl, rfl, by decide +kernel, rfl, by decide +kernel, by decide +kernel⟩
theorem b__law_box (kV doc pm : Value) (an : Option Addr) (cdv ct : Value) (us : List Value) (hl : us.length = (["_law_script", "_law_k"] : List Str).length) : bindArgs (PySem.W.fnOf "_law_box" "_law_box" (defArgs s__law_box) (defBody s__law_box) (defScope s__law_box) .none kV doc pm an cdv ct) ⟨us, []⟩ = pure ((["_law_script", "_law_k"] : List Str).zip us) :=
  match us, hl with | [_, _], _ => rfl
section
variable {P : Program} {w : World} {K : PySem.W.Frag} {mg : Str → Option Value} {base : Heap}
theorem ok_cell_at {k : Nat} (D : Df K mg "_law_cell_at" s__law_cell_at) (T : Bt mg) : Ok P w K mg base (k + 1) "_law_cell_at" s__law_cell_at ["_law_script", "_law_k"] (spCellAt K) := by
  refine D.ok sc__law_cell_at b__law_cell_at (fun vs H Q E h => ?_) (fun f cdv A outer s H vs Q E hr h => ?_)
  · obtain ⟨l, ns, j, rfl, _⟩ := h
    rfl
  · obtain ⟨l, ns, j, rfl, hs, q⟩ := h
    refine ⟨_, (pss_cons (ps_if (pt_cmpR op_lt (pv 1) (pe_callB call_len_seq (by rfl) T.len_ PySem.boot_len (pa_cons (pv 0) pa_nil)) (nomark _))
        (pss_one (ps_ret (pe_ix ix_lt (pv 0) (pv 1) (fun _ _ => rfl))))
        pss_nil)
      (pss_one (ps_ret pe_int))), ?_⟩
    refine ⟨_, rfl, _, rfl, l, _, rfl, .inl hs, _, _, rfl, rfl, _, rfl, ite2 (fun c => ?_) (fun c => ?_)⟩
    · have c0 : (j : Int) < ((ns.map V.int).length : Int) := of_decide_eq_true c
      rw [List.length_map] at c0
      have c1 : j < ns.length := by omega
      refine ⟨_, rfl, _, rfl, l, _, _, .int ns[j], rfl, rfl, .inl hs, at_nat rfl (by simp [c1]), q _⟩
    · exact q 0
theorem ok_box {k : Nat} (D : Df K mg "_law_box" s__law_box) (T : Bt mg) (O__law_cell_at : Ok P w K mg base k "_law_cell_at" s__law_cell_at ["_law_script", "_law_k"] (spCellAt K)) : Ok P w K mg base (k + 1) "_law_box" s__law_box ["_law_script", "_law_k"] (spBox K) := by
  refine D.ok sc__law_box b__law_box (fun vs H Q E h => ?_) (fun f cdv A outer s H vs Q E hr h => ?_)
  · obtain ⟨l, ns, j, rfl, _⟩ := h
    rfl
  · obtain ⟨l, ns, j, rfl, hj, hs, q⟩ := h
    refine ⟨_, (pss_cons (ps_set (i := 2) sc__law_box.nd rfl (.inl rfl) (pe_fn O__law_cell_at (hr.mono (by omega)) (pa_cons (pv 0) (pa_cons (pv 1) pa_nil))))
      (pss_one (ps_ret (pe_lst (pa_cons (pe_op op_mul (pe_callB call_abs (by rfl) T.abs_ (by decide +kernel) (pa_cons (pv 2) pa_nil)) (pe_callTy call_int1 (by rfl) T.int_ (by decide +kernel) (pa_cons (pe_cmpR op_ge (pe_callB call_abs (by rfl) T.abs_ (by decide +kernel) (pa_cons (pv 2) pa_nil)) (pe_op (op_powC 1000000000000000000) pe_int pe_int) (nomark _)) pa_nil))) (pa_cons (pe_op op_add (pe_op op_add (pe_op op_mod (pv 2) pe_int) (pe_op op_mul pe_int (pv 1))) pe_int) (pa_cons pe_int pa_nil))))))), ?_⟩
    refine ⟨_, rfl, _, rfl, l, ns, j, rfl, hs, fun z => ?_⟩
    have z1 : 0 ≤ z % 2305843009213693951 := Int.emod_nonneg _ (by decide)
    have z2 : z % 2305843009213693951 < 2305843009213693951 := Int.emod_lt_of_pos _ (by decide)
    have za : 0 ≤ (if z < 0 then -z else z) := by split <;> omega
    refine ⟨_, rfl, z, rfl, _, rfl, z, rfl, 10, 18, rfl, rfl, ⟨⟨by decide, by decide, by decide⟩, by decide⟩, _, _, rfl, rfl, .inr ⟨_, rfl, ?_⟩⟩
    refine ⟨_, _, rfl, rfl, .inr (b01' _), ?_⟩
    refine ⟨_, rfl, z, _, rfl, rfl, (show (0 : Int) < 2305843009213693951 by decide), _, rfl, 39373, (j : Int), rfl, rfl, .inl ⟨by decide, by decide⟩, _, _, rfl, rfl, _, 17, rfl, rfl, ?_⟩
    refine ⟨(by show 3 ≤ sizeLine; decide), fun p np => ?_⟩
    refine q p _ np ⟨_, _, 0, rfl, ?_, by omega, by omega, by omega, by omega⟩
    exact Int.mul_nonneg za (b01 _)
end
/-! ### one of some -/
def spOf (K : PySem.W.Frag) : Sp := fun vs H Q _ => ∃ (b l : Addr) (n : Nat) (xs : List V), vs = [.ref b, .ref l] ∧ SqA K H l xs ∧ l ≠ b ∧ 0 < xs.length ∧ xs.length < 1000000 ∧ BoxAt H b (n + 1) ∧ ∀ (v : V) (ys : List V), v ∈ xs → BoxOk ys n → Q v (upd H b (.lst ys))
abbrev s__law_of : Stmt := topS 29
theorem sc__law_of : FnScope (["_law_box_here", "_law_some"] : List Str) (["_law_box_here", "_law_some"] : List Str) (defScope s__law_of) := ⟨rfl, rfl, rfl, by decide +kernel, rfl, by decide +kernel, by decide +kernel⟩
theorem b__law_of (kV doc pm : Value) (an : Option Addr) (cdv ct : Value) (us : List Value) (hl : us.length = (["_law_box_here", "_law_some"] : List Str).length) : bindArgs (PySem.W.fnOf "_law_of" "_law_of" (defArgs s__law_of) (defBody s__law_of) (defScope s__law_of) .none kV doc pm an cdv ct) ⟨us, []⟩ = pure ((["_law_box_here", "_law_some"] : List Str).zip us) :=
  match us, hl with | [_, _], _ => rfl
section
variable {P : Program} {w : World} {K : PySem.W.Frag} {mg : Str → Option Value} {base : Heap}
theorem ok_of {k : Nat} (D : Df K mg "_law_of" s__law_of) (T : Bt mg) (O__law_take : Ok P w K mg base k "_law_take" s__law_take ["_law_box_here", "_law_span"] spTake) : Ok P w K mg base (k + 1) "_law_of" s__law_of ["_law_box_here", "_law_some"] (spOf K) := by
  refine D.ok sc__law_of b__law_of (fun vs H Q E h => ?_) (fun f cdv A outer s H vs Q E hr h => ?_)
  · obtain ⟨b, l, n, xs, rfl, _⟩ := h
    rfl
  · obtain ⟨b, l, n, xs, rfl, hl, hne, l0, l1, hb, q⟩ := h
    refine ⟨_, (pss_one (ps_ret (pe_ix ix_lt (pv 1) (pe_fn O__law_take (hr.mono (by omega)) (pa_cons (pv 0) (pa_cons (pe_callB call_len_seq (by rfl) T.len_ PySem.boot_len (pa_cons (pv 1) pa_nil)) pa_nil))) (fun _ _ => rfl)))), ?_⟩
    refine ⟨_, rfl, _, rfl, _, rfl, l, xs, rfl, hl, b, n, _, rfl, by omega, by omega, hb, fun v ys v0 v1 hy => ?_⟩
    have hi : v.toNat < xs.length := by omega
    refine ⟨l, xs, v, xs[v.toNat], rfl, rfl, SqA.at hne hl, at_nat (j := v.toNat) (by omega) (by simp [hi]), ?_⟩
    exact q _ _ (List.getElem_mem hi) hy
end
end Sh

namespace Sh
open PySem PySem.Spec PyProof.Rows L2
/-! ### what is told is what is due -/
def tyS : PyData → String
  | .none => "NoneType" | .bool _ => "bool" | .int _ => "int" | .str _ => "str" | .list _ => "list" | .tuple _ => "tuple" | .dict _ => "dict"
/-- at most so deep, no longer than a hundred thousand -/
def Lv : Nat → PyData → Prop
  | 0, _ => False
  | _ + 1, .none => True
  | _ + 1, .bool _ => True
  | _ + 1, .int _ => True
  | _ + 1, .str _ => True
  | n + 1, .list ds => ds.length ≤ 100000 ∧ ∀ e ∈ ds, Lv n e
  | n + 1, .tuple ds => ds.length ≤ 100000 ∧ ∀ e ∈ ds, Lv n e
  | _ + 1, .dict _ => False
theorem lv_ints {n : Nat} (ns : List Int) (h : ns.length ≤ 100000) : Lv (n + 2) (.list (ns.map .int)) := ⟨by rw [List.length_map]; exact h, fun e he => by
  obtain ⟨i, _, rfl⟩ := List.mem_map.mp he
  exact trivial⟩
theorem lv_intsT {n : Nat} (ns : List Int) (h : ns.length ≤ 100000) : Lv (n + 2) (.tuple (ns.map .int)) := ⟨by rw [List.length_map]; exact h, fun e he => by
  obtain ⟨i, _, rfl⟩ := List.mem_map.mp he
  exact trivial⟩
section
variable {K : PySem.W.Frag} {H : Hp}
theorem ty_list {a : Addr} {xs : List V} (h : SqL K H a xs) : TyX K H (.ref a) (.type "list") := by
  rcases h with (h | ⟨o, h⟩) | ⟨o, its, n, h, c, _⟩
  · exact .base (.lst h)
  · exact .base (.frz h)
  · exact .kList h c
theorem ty_tup {a : Addr} {xs : List V} (h : SqT K H a xs) : TyX K H (.ref a) (.type "tuple") := by
  rcases h with (h | ⟨o, h⟩) | ⟨o, its, n, h, c, _⟩
  · exact .base (.tup h)
  · exact .fTuple h
  · exact .kTuple h c
theorem ty_of {v : V} {d : PyData} (h : Dp K H v d) : TyX K H v (.type (tyS d)) := by
  cases h with
  | non => exact .base .non
  | bl b => exact .base (.bl b)
  | int i => exact .base (.int i)
  | str x => exact .base (.str x)
  | lst h _ => exact ty_list h
  | tup h _ => exact ty_tup h
theorem kit2 {t a b : String} {r1 r2 r : Bool} (h1 : kitB t a = some r1) (h2 : kitB t b = some r2) (hr : (r1 || r2) = r) : PySem.W.kitAny K (.type t) [.type a, .type b] = some r := by
  refine kitAny_cons (b := r1) (kit_ty h1) (fun e => ?_) (fun e => ?_)
  · refine kitAny_cons (b := r2) (kit_ty h2) (fun e2 => ?_) (fun e2 => ?_)
    · rw [← hr, e, e2]
      exact kitAny_nil
    · rw [← hr, e, e2]
      all_goals rfl
  · rw [← hr, e]
    all_goals rfl
end
def spSame (K : PySem.W.Frag) (n : Nat) : Sp := fun vs H Q _ => ∃ (x y : V) (d : PyData), vs = [x, y] ∧ Dp K H x d ∧ Dp K H y d ∧ Lv n d ∧ ∀ H', Same H H' → Q (.bl true) H'
abbrev s__law_same : Stmt := topS 30
theorem sc__law_same : FnScope (["_law_found", "_law_due_here", "_law_a", "_law_b"] : List Str) (["_law_found", "_law_due_here"] : List Str) (defScope s__law_same) := ⟨rfl, rfl, rfl, by decide +kernel, rfl, by decide +kernel, by decide +kernel⟩
theorem b__law_same (kV doc pm : Value) (an : Option Addr) (cdv ct : Value) (us : List Value) (hl : us.length = (["_law_found", "_law_due_here"] : List Str).length) : bindArgs (PySem.W.fnOf "_law_same" "_law_same" (defArgs s__law_same) (defBody s__law_same) (defScope s__law_same) .none kV doc pm an cdv ct) ⟨us, []⟩ = pure ((["_law_found", "_law_due_here"] : List Str).zip us) :=
  match us, hl with | [_, _], _ => rfl
section
variable {P : Program} {w : World} {K : PySem.W.Frag} {mg : Str → Option Value} {base : Heap}
theorem same0 (D : Df K mg "_law_same" s__law_same) : Ok P w K mg base 0 "_law_same" s__law_same ["_law_found", "_law_due_here"] (spSame K 0) := by
  obtain ⟨f, fd, F, g⟩ := D.ex
  refine ⟨f, fd, F, g, F.binds b__law_same, ⟨fun vs H Q E h => ?_, fun A outer s H args us vs Q E hr he hb hv h => ?_⟩⟩
  · obtain ⟨x, y, d, _, _, _, lv, _⟩ := h
    cases d <;> exact lv.elim
  · obtain ⟨x, y, d, _, _, _, lv, _⟩ := h
    cases d <;> exact lv.elim
set_option maxHeartbeats 4000000 in
theorem same1 {m : Nat} (D : Df K mg "_law_same" s__law_same) (T : Bt mg) (O__law_same : Ok P w K mg base m "_law_same" s__law_same ["_law_found", "_law_due_here"] (spSame K m)) : Ok P w K mg base (m + 1) "_law_same" s__law_same ["_law_found", "_law_due_here"] (spSame K (m + 1)) := by
  refine D.ok sc__law_same b__law_same (fun vs H Q E h => ?_) (fun f cdv A outer s H vs Q E hr h => ?_)
  · obtain ⟨x, y, d, rfl, _⟩ := h
    rfl
  · obtain ⟨x, y, d, rfl, hx, hy, lv, q⟩ := h
    refine ⟨_, (pss_cons (ps_if (pt_val (pe_callB call_isiT (by rfl) T.isinstance_ (by decide +kernel) (pa_cons (pv 1) (pa_cons (pe_tup (pa_cons (pe_bltn (v := .ty "list") (by rfl) T.list_ (by decide +kernel) rfl) (pa_cons (pe_bltn (v := .ty "tuple") (by rfl) T.tuple_ (by decide +kernel) rfl) pa_nil))) pa_nil))))
        (pss_cons (ps_if (PW.pt (pw_or (pt_cmpR op_ne (pe_callB call_isi (by rfl) T.isinstance_ (by decide +kernel) (pa_cons (pv 0) (pa_cons (pe_bltn (v := .ty "list") (by rfl) T.list_ (by decide +kernel) rfl) pa_nil))) (pe_callB call_isi (by rfl) T.isinstance_ (by decide +kernel) (pa_cons (pv 1) (pa_cons (pe_bltn (v := .ty "list") (by rfl) T.list_ (by decide +kernel) rfl) pa_nil))) (nomark _)) (pw_or1 (pt_cmpR op_ne (pe_callB call_isi (by rfl) T.isinstance_ (by decide +kernel) (pa_cons (pv 0) (pa_cons (pe_bltn (v := .ty "tuple") (by rfl) T.tuple_ (by decide +kernel) rfl) pa_nil))) (pe_callB call_isi (by rfl) T.isinstance_ (by decide +kernel) (pa_cons (pv 1) (pa_cons (pe_bltn (v := .ty "tuple") (by rfl) T.tuple_ (by decide +kernel) rfl) pa_nil))) (nomark _)))))
            (pss_one (ps_ret pe_bl))
            pss_nil)
          (pss_one (ps_ret (pe_and (pe_cmpR op_eq (pe_callB call_len_seq (by rfl) T.len_ PySem.boot_len (pa_cons (pv 0) pa_nil)) (pe_callB call_len_seq (by rfl) T.len_ PySem.boot_len (pa_cons (pv 1) pa_nil)) (nomark _)) (pe_one (pe_callB (cr_all rfl) (by rfl) T.all_ (by decide +kernel) (pa_cons (pe_lc (own := [("_law_a", 2), ("_law_b", 3)]) (g := (gSeq K 2 (gCons (gName 2) (gCons (gName 3) gNil)))) (tt := tYes) (by rfl) sc__law_same.nd (RZ.pi_zipA (by rfl) T.zip_ (pa_cons (pv 0) (pa_cons (pv 1) pa_nil))) (blkOk_by (own := [("_law_a", 2), ("_law_b", 3)]) (N := (["_law_found", "_law_due_here", "_law_a", "_law_b"] : List Str)) (sc := defScope s__law_same) (by decide +kernel)) (fun _ _ _ _ _ => (pg_seq rfl (pgs_cons (pg_name (i := 2) sc__law_same.nd rfl (.inl rfl)) (pgs_cons (pg_name (i := 3) sc__law_same.nd rfl (.inl rfl)) pgs_nil)))) (fun _ _ _ _ _ => pts_nil) (fun _ _ _ _ _ => (pe_fn O__law_same (hr.mono (by omega)) (pa_cons (pv 2) (pa_cons (pv 3) pa_nil))))) pa_nil)))))))
        pss_nil)
      (pss_cons (ps_if (PW.pt (pw_or (pt_cmpR op_isN (pv 1) pe_non (nomark _)) (pw_or1 (pt_val (pe_callB call_isiT (by rfl) T.isinstance_ (by decide +kernel) (pa_cons (pv 1) (pa_cons (pe_tup (pa_cons (pe_bltn (v := .ty "bool") (by rfl) T.bool_ (by decide +kernel) rfl) (pa_cons (pe_bltn (v := .ty "str") (by rfl) T.str_ (by decide +kernel) rfl) pa_nil))) pa_nil)))))))
        (pss_one (ps_ret (pe_and (pe_cmpR op_eq (pv 0) (pv 1) (nomark _)) (pe_and (pe_cmpR op_eq (pe_callB call_isi (by rfl) T.isinstance_ (by decide +kernel) (pa_cons (pv 0) (pa_cons (pe_bltn (v := .ty "bool") (by rfl) T.bool_ (by decide +kernel) rfl) pa_nil))) (pe_callB call_isi (by rfl) T.isinstance_ (by decide +kernel) (pa_cons (pv 1) (pa_cons (pe_bltn (v := .ty "bool") (by rfl) T.bool_ (by decide +kernel) rfl) pa_nil))) (nomark _)) (pe_one (pe_cmpR op_eq (pe_cmpR op_isN (pv 0) pe_non (nomark _)) (pe_cmpR op_isN (pv 1) pe_non (nomark _)) (nomark _)))))))
        pss_nil)
      (pss_one (ps_ret (pe_and (pe_callB call_isi (by rfl) T.isinstance_ (by decide +kernel) (pa_cons (pv 0) (pa_cons (pe_bltn (v := .ty "int") (by rfl) T.int_ (by decide +kernel) rfl) pa_nil))) (pe_and (pe_not (pe_callB call_isi (by rfl) T.isinstance_ (by decide +kernel) (pa_cons (pv 0) (pa_cons (pe_bltn (v := .ty "bool") (by rfl) T.bool_ (by decide +kernel) rfl) pa_nil)))) (pe_one (pe_cmpR op_eq (pv 0) (pv 1) (nomark _))))))))), ?_⟩
    refine ⟨_, rfl, (by show 2 ≤ sizeLine; decide), fun tp ntp => ?_⟩
    have s1 : Same H (upd H tp (.tup [.ty "list", .ty "tuple"])) := same_new ntp
    generalize eH1 : upd H tp (.tup [.ty "list", .ty "tuple"]) = H1 at s1
    have htp : H1 tp = some (.tup [.ty "list", .ty "tuple"]) := by rw [← eH1, upd_same]
    clear eH1 ntp
    cases d with
    | dict kvs => exact lv.elim
    | list ds =>
      obtain ⟨a, xs, hsx, hax⟩ : ∃ a xs, SqL K H1 a xs ∧ DpAll K H1 xs ds ∧ x = .ref a := by cases hx with | lst h a => exact ⟨_, _, s1.seq h, DpAll.same s1 a, rfl⟩
      obtain ⟨b, ys, hsy, hay⟩ : ∃ a xs, SqL K H1 a xs ∧ DpAll K H1 xs ds ∧ y = .ref a := by cases hy with | lst h a => exact ⟨_, _, s1.seq h, DpAll.same s1 a, rfl⟩
      obtain ⟨hax, rfl⟩ := hax
      obtain ⟨hay, rfl⟩ := hay
      have lx : xs.length = ds.length := DpAll.len hax
      have ly : ys.length = ds.length := DpAll.len hay
      refine ⟨.ref b, tp, [.ty "list", .ty "tuple"], .type "list", [.type "list", .type "tuple"], true, rfl, htp, .cons (.ty _) (.cons (.ty _) .nil), ty_list hsy, kit2 (r1 := true) (r2 := false) (by decide +kernel) (by decide +kernel) rfl, _, rfl, iteT ?_⟩
      refine ⟨_, rfl, .ref a, .ty "list", .type "list", .type "list", true, rfl, .ty _, ty_list hsx, kit_ty (by decide +kernel), _, rfl, .ref b, .ty "list", .type "list", .type "list", true, rfl, .ty _, ty_list hsy, kit_ty (by decide +kernel), rfl, _, rfl, iteNS rfl ?_⟩
      refine ⟨_, rfl, .ref a, .ty "tuple", .type "list", .type "tuple", false, rfl, .ty _, ty_list hsx, kit_ty (by decide +kernel), _, rfl, .ref b, .ty "tuple", .type "list", .type "tuple", false, rfl, .ty _, ty_list hsy, kit_ty (by decide +kernel), rfl, _, rfl, iteNS rfl ?_⟩
      refine ⟨_, rfl, a, xs, rfl, .inl hsx, _, rfl, b, ys, rfl, .inl hsy, rfl, _, rfl, ?_⟩
      rw [if_pos (decide_eq_true (by rw [lx, ly]))]
      refine ⟨_, rfl, _, rfl, a, b, xs, ys, rfl, .inl ⟨hsx, hsy, fun C nC => ?_⟩⟩
      refine lc_it (walk_zip (n := ds.length) (by rw [lx, ly]; exact (Nat.min_self _).symm)) (fun i H' => Same H1 H' ∧ H' C = some (.lst ((List.replicate i true).map V.bl))) ⟨same_new nC, upd_same⟩ (fun i H' _ p => ⟨p.1.seq hsx, p.1.seq hsy⟩) ?_ ?_
      · rintro i z H2 H3 hi ⟨sm, hC⟩ ⟨t, u, v, rfl, nt, rfl, gu, gv⟩
        have sm2 : Same H1 (upd H2 t (.tup [u, v])) := sm.trans (same_new nt)
        obtain ⟨e, ge, he⟩ := DpAll.get (DpAll.same sm2 hax) gu
        obtain ⟨e', ge', he'⟩ := DpAll.get (DpAll.same sm2 hay) gv
        obtain rfl : e = e' := Option.some.inj (ge.symm.trans ge')
        refine ⟨t, [u, v], rfl, SqA.t upd_same, rfl, u, [v], rfl, v, [], rfl, rfl, rfl, tyes (iteT ?_)⟩
        refine ⟨_, rfl, _, rfl, u, v, e, rfl, he, he', lv.2 e (List.mem_of_getElem? ge), fun H4 s4 => ?_⟩
        refine ⟨_, s4 _ _ (by rw [upd_ne (ne_of_none hC nt)]; exact hC), ?_, fun p o ho => ?_, ?_⟩
        · have h1 := lv.1
          rw [List.length_map, List.length_replicate]
          exact Nat.lt_of_lt_of_le hi (Nat.le_trans h1 (by decide))
        · have np : p ≠ C := ne_of_none ho nC
          rw [upd_ne np]
          exact s4 _ _ (sm2 _ _ ho)
        · rw [upd_same, List.replicate_succ', List.map_append]
          rfl
      · rintro H2 ⟨sm, hC⟩
        refine ⟨C, _, rfl, SqL.of hC, ?_⟩
        have e : (List.replicate ds.length true).all id = true := by simp
        rw [e]
        exact q _ (s1.trans sm)
    | tuple ds =>
      obtain ⟨a, xs, hsx, hax⟩ : ∃ a xs, SqT K H1 a xs ∧ DpAll K H1 xs ds ∧ x = .ref a := by cases hx with | tup h a => exact ⟨_, _, Same.tup s1 h, DpAll.same s1 a, rfl⟩
      obtain ⟨b, ys, hsy, hay⟩ : ∃ a xs, SqT K H1 a xs ∧ DpAll K H1 xs ds ∧ y = .ref a := by cases hy with | tup h a => exact ⟨_, _, Same.tup s1 h, DpAll.same s1 a, rfl⟩
      obtain ⟨hax, rfl⟩ := hax
      obtain ⟨hay, rfl⟩ := hay
      have lx : xs.length = ds.length := DpAll.len hax
      have ly : ys.length = ds.length := DpAll.len hay
      refine ⟨.ref b, tp, [.ty "list", .ty "tuple"], .type "tuple", [.type "list", .type "tuple"], true, rfl, htp, .cons (.ty _) (.cons (.ty _) .nil), ty_tup hsy, kit2 (r1 := false) (r2 := true) (by decide +kernel) (by decide +kernel) rfl, _, rfl, iteT ?_⟩
      refine ⟨_, rfl, .ref a, .ty "list", .type "tuple", .type "list", false, rfl, .ty _, ty_tup hsx, kit_ty (by decide +kernel), _, rfl, .ref b, .ty "list", .type "tuple", .type "list", false, rfl, .ty _, ty_tup hsy, kit_ty (by decide +kernel), rfl, _, rfl, iteNS rfl ?_⟩
      refine ⟨_, rfl, .ref a, .ty "tuple", .type "tuple", .type "tuple", true, rfl, .ty _, ty_tup hsx, kit_ty (by decide +kernel), _, rfl, .ref b, .ty "tuple", .type "tuple", .type "tuple", true, rfl, .ty _, ty_tup hsy, kit_ty (by decide +kernel), rfl, _, rfl, iteNS rfl ?_⟩
      refine ⟨_, rfl, a, xs, rfl, .inr hsx, _, rfl, b, ys, rfl, .inr hsy, rfl, _, rfl, ?_⟩
      rw [if_pos (decide_eq_true (by rw [lx, ly]))]
      refine ⟨_, rfl, _, rfl, a, b, xs, ys, rfl, .inr ⟨hsx, hsy, fun C nC => ?_⟩⟩
      refine lc_it (walk_zipT (n := ds.length) (by rw [lx, ly]; exact (Nat.min_self _).symm)) (fun i H' => Same H1 H' ∧ H' C = some (.lst ((List.replicate i true).map V.bl))) ⟨same_new nC, upd_same⟩ (fun i H' _ p => ⟨Same.tup p.1 hsx, Same.tup p.1 hsy⟩) ?_ ?_
      · rintro i z H2 H3 hi ⟨sm, hC⟩ ⟨t, u, v, rfl, nt, rfl, gu, gv⟩
        have sm2 : Same H1 (upd H2 t (.tup [u, v])) := sm.trans (same_new nt)
        obtain ⟨e, ge, he⟩ := DpAll.get (DpAll.same sm2 hax) gu
        obtain ⟨e', ge', he'⟩ := DpAll.get (DpAll.same sm2 hay) gv
        obtain rfl : e = e' := Option.some.inj (ge.symm.trans ge')
        refine ⟨t, [u, v], rfl, SqA.t upd_same, rfl, u, [v], rfl, v, [], rfl, rfl, rfl, tyes (iteT ?_)⟩
        refine ⟨_, rfl, _, rfl, u, v, e, rfl, he, he', lv.2 e (List.mem_of_getElem? ge), fun H4 s4 => ?_⟩
        refine ⟨_, s4 _ _ (by rw [upd_ne (ne_of_none hC nt)]; exact hC), ?_, fun p o ho => ?_, ?_⟩
        · have h1 := lv.1
          rw [List.length_map, List.length_replicate]
          exact Nat.lt_of_lt_of_le hi (Nat.le_trans h1 (by decide))
        · have np : p ≠ C := ne_of_none ho nC
          rw [upd_ne np]
          exact s4 _ _ (sm2 _ _ ho)
        · rw [upd_same, List.replicate_succ', List.map_append]
          rfl
      · rintro H2 ⟨sm, hC⟩
        refine ⟨C, _, rfl, SqL.of hC, ?_⟩
        have e : (List.replicate ds.length true).all id = true := by simp
        rw [e]
        exact q _ (s1.trans sm)
    | int i =>
      cases hx; cases hy
      refine ⟨.int i, tp, [.ty "list", .ty "tuple"], .type "int", [.type "list", .type "tuple"], false, rfl, htp, .cons (.ty _) (.cons (.ty _) .nil), .base (.int i), kit2 (r1 := false) (r2 := false) (by decide +kernel) (by decide +kernel) rfl, _, rfl, iteF ?_⟩
      refine ⟨_, rfl, rfl, _, rfl, iteF ?_⟩
      refine ⟨_, rfl, (by show 2 ≤ sizeLine; decide), fun tq ntq => ?_⟩
      refine ⟨.int i, tq, [.ty "bool", .ty "str"], .type "int", [.type "bool", .type "str"], false, rfl, upd_same, .cons (.ty _) (.cons (.ty _) .nil), .base (.int i), kit2 (r1 := false) (r2 := false) (by decide +kernel) (by decide +kernel) rfl, _, rfl, iteF ?_⟩
      refine ⟨_, rfl, .int i, .ty "int", .type "int", .type "int", true, rfl, .ty _, .base (.int i), kit_ty (by decide +kernel), _, rfl, iteT ?_⟩
      refine ⟨_, rfl, .int i, .ty "bool", .type "int", .type "bool", false, rfl, .ty _, .base (.int i), kit_ty (by decide +kernel), _, rfl, _, rfl, iteT ?_⟩
      refine ⟨_, rfl, _, rfl, rfl, ?_⟩
      rw [decide_eq_true rfl]
      exact q _ (s1.trans (same_new ntq))
    | none =>
      cases hx; cases hy
      refine ⟨.non, tp, [.ty "list", .ty "tuple"], .type "NoneType", [.type "list", .type "tuple"], false, rfl, htp, .cons (.ty _) (.cons (.ty _) .nil), .base .non, kit2 (r1 := false) (r2 := false) (by decide +kernel) (by decide +kernel) rfl, _, rfl, iteF ?_⟩
      refine ⟨_, rfl, rfl, _, rfl, iteT (iteT ?_)⟩
      refine ⟨_, rfl, _, rfl, rfl, _, rfl, iteT ?_⟩
      refine ⟨_, rfl, .non, .ty "bool", .type "NoneType", .type "bool", false, rfl, .ty _, .base .non, kit_ty (by decide +kernel), _, rfl, .non, .ty "bool", .type "NoneType", .type "bool", false, rfl, .ty _, .base .non, kit_ty (by decide +kernel), rfl, _, rfl, iteT ?_⟩
      refine ⟨_, rfl, rfl, _, rfl, rfl, rfl, ?_⟩
      exact q _ s1
    | bool c =>
      cases hx; cases hy
      refine ⟨.bl c, tp, [.ty "list", .ty "tuple"], .type "bool", [.type "list", .type "tuple"], false, rfl, htp, .cons (.ty _) (.cons (.ty _) .nil), .base (.bl c), kit2 (r1 := false) (r2 := false) (by decide +kernel) (by decide +kernel) rfl, _, rfl, iteF ?_⟩
      refine ⟨_, rfl, rfl, _, rfl, iteF ?_⟩
      refine ⟨_, rfl, (by show 2 ≤ sizeLine; decide), fun tq ntq => ?_⟩
      refine ⟨.bl c, tq, [.ty "bool", .ty "str"], .type "bool", [.type "bool", .type "str"], true, rfl, upd_same, .cons (.ty _) (.cons (.ty _) .nil), .base (.bl c), kit2 (r1 := true) (r2 := false) (by decide +kernel) (by decide +kernel) rfl, _, rfl, iteT ?_⟩
      refine ⟨_, rfl, _, rfl, rfl, _, rfl, ?_⟩
      rw [if_pos (decide_eq_true rfl)]
      refine ⟨_, rfl, .bl c, .ty "bool", .type "bool", .type "bool", true, rfl, .ty _, .base (.bl c), kit_ty (by decide +kernel), _, rfl, .bl c, .ty "bool", .type "bool", .type "bool", true, rfl, .ty _, .base (.bl c), kit_ty (by decide +kernel), rfl, _, rfl, iteT ?_⟩
      refine ⟨_, rfl, rfl, _, rfl, rfl, rfl, ?_⟩
      exact q _ (s1.trans (same_new ntq))
    | str c =>
      cases hx; cases hy
      refine ⟨.str c, tp, [.ty "list", .ty "tuple"], .type "str", [.type "list", .type "tuple"], false, rfl, htp, .cons (.ty _) (.cons (.ty _) .nil), .base (.str c), kit2 (r1 := false) (r2 := false) (by decide +kernel) (by decide +kernel) rfl, _, rfl, iteF ?_⟩
      refine ⟨_, rfl, rfl, _, rfl, iteF ?_⟩
      refine ⟨_, rfl, (by show 2 ≤ sizeLine; decide), fun tq ntq => ?_⟩
      refine ⟨.str c, tq, [.ty "bool", .ty "str"], .type "str", [.type "bool", .type "str"], true, rfl, upd_same, .cons (.ty _) (.cons (.ty _) .nil), .base (.str c), kit2 (r1 := false) (r2 := true) (by decide +kernel) (by decide +kernel) rfl, _, rfl, iteT ?_⟩
      refine ⟨_, rfl, _, rfl, rfl, _, rfl, ?_⟩
      rw [if_pos (decide_eq_true rfl)]
      refine ⟨_, rfl, .str c, .ty "bool", .type "str", .type "bool", false, rfl, .ty _, .base (.str c), kit_ty (by decide +kernel), _, rfl, .str c, .ty "bool", .type "str", .type "bool", false, rfl, .ty _, .base (.str c), kit_ty (by decide +kernel), rfl, _, rfl, iteT ?_⟩
      refine ⟨_, rfl, rfl, _, rfl, rfl, rfl, ?_⟩
      exact q _ (s1.trans (same_new ntq))
theorem ok_same (D : Df K mg "_law_same" s__law_same) (T : Bt mg) : ∀ m : Nat, Ok P w K mg base m "_law_same" s__law_same ["_law_found", "_law_due_here"] (spSame K m)
  | 0 => same0 D
  | m + 1 => same1 D T (ok_same D T m)
end
end Sh

namespace Sh
open PySem PySem.Spec PyProof.Rows L2
/-! ### a drawn sea -/
theorem But.put {b p : Addr} {H H' : Hp} {o : HO} (h : But b H H') (n : H p = none) : But b H (upd H' p o) := fun a x na e => by
  rw [upd_ne (ne_of_none e n)]
  exact h a x na e
theorem But.box {b : Addr} {H H' : Hp} {o : HO} (h : But b H H') : But b H (upd H' b o) := fun a x na e => by
  rw [upd_ne na]
  exact h a x na e
theorem BoxAt.put {H : Hp} {b : Addr} {n : Nat} {xs : List V} (h : BoxOk xs n) : BoxAt (upd H b (.lst xs)) b n := ⟨xs, upd_same, h⟩
theorem BoxAt.at {H : Hp} {b p : Addr} {n : Nat} {o : HO} (h : BoxAt H b n) (ne : b ≠ p) : BoxAt (upd H p o) b n := let ⟨xs, e, k⟩ := h; ⟨xs, by rw [upd_ne ne]; exact e, k⟩
structure SeaOk (most : Nat) (h t : Int) (ds : List Int) : Prop where
  h0 : 0 ≤ h
  h1 : h ≤ 1000000000000
  t0 : 0 ≤ t
  t1 : t ≤ 1000000000000
  l0 : 0 < ds.length
  l1 : ds.length ≤ most
  d0 : ∀ d ∈ ds, 0 ≤ d ∧ d ≤ 1000000000000
def spSea : Sp := fun vs H Q _ => ∃ (b : Addr) (n most : Nat), vs = [.ref b, .int (most : Int)] ∧ 0 < most ∧ most ≤ 60 ∧ BoxAt H b (n + 200) ∧
  ∀ (H' : Hp) (p q : Addr) (h t : Int) (ds : List Int), But b H H' → BoxAt H' b n → H p = none → H q = none → H' p = some (.tup [.int h, .int t, .ref q]) → H' q = some (.tup (ds.map V.int)) → SeaOk most h t ds → Q (.ref p) H'
abbrev s__law_sea : Stmt := topS 31
theorem sc__law_sea : FnScope (["_law_box_here", "_law_most", "_law_count", "_law_far", "_law_wide", "_law_depths", "_law_draughts", "_law_brink", "_law_whom"] : List Str) (["_law_box_here", "_law_most"] : List Str) (defScope s__law_sea) := ⟨rfl, rfl, rfl, by decide +kernel, rfl, by decide +kernel, by decide +kernel⟩
theorem b__law_sea (kV doc pm : Value) (an : Option Addr) (cdv ct : Value) (us : List Value) (hl : us.length = (["_law_box_here", "_law_most"] : List Str).length) : bindArgs (PySem.W.fnOf "_law_sea" "_law_sea" (defArgs s__law_sea) (defBody s__law_sea) (defScope s__law_sea) .none kV doc pm an cdv ct) ⟨us, []⟩ = pure ((["_law_box_here", "_law_most"] : List Str).zip us) :=
  match us, hl with | [_, _], _ => rfl
section
variable {P : Program} {w : World} {K : PySem.W.Frag} {mg : Str → Option Value} {base : Heap}
/-- a new object, a draw: what stands, stands -/
theorem al {b p : Addr} {H Hc : Hp} {n : Nat} {o : HO} (u : But b H Hc) (x : BoxAt Hc b n) (np : Hc p = none) : But b H (upd Hc p o) ∧ BoxAt (upd Hc p o) b n ∧ upd Hc p o p = some o ∧ p ≠ b :=
  ⟨fun a z na e => by rw [upd_ne (ne_of_none (u a z na e) np)]; exact u a z na e, x.at (x.ne np), upd_same, (x.ne np).symm⟩
theorem tk {b : Addr} {H Hc : Hp} {n : Nat} {ys : List V} (u : But b H Hc) (y : BoxOk ys n) : But b H (upd Hc b (.lst ys)) ∧ BoxAt (upd Hc b (.lst ys)) b n := ⟨u.box, .put y⟩
theorem But.free {b p : Addr} {H H' : Hp} (u : But b H H') (n : p ≠ b) (h : H' p = none) : H p = none := by
  cases e : H p with
  | none => rfl
  | some o =>
    rw [u p o n e] at h
    cases h
theorem two_of {ns : List Int} (h : ns.length = 2) : ∃ a b, ns = [a, b] := by
  match ns, h with
  | [a, b], _ => exact ⟨a, b, rfl⟩
theorem ints_mem {v : V} {ns : List Int} (h : v ∈ ns.map V.int) : ∃ i ∈ ns, v = .int i := by
  obtain ⟨i, hi, e⟩ := List.mem_map.mp h
  exact ⟨i, hi, e.symm⟩
theorem ne_box {H : Hp} {b p : Addr} {n : Nat} (h : BoxAt H b n) (z : H p = none) : p ≠ b := (h.ne z).symm
set_option maxHeartbeats 4000000 in
theorem ok_sea {k : Nat} (D : Df K mg "_law_sea" s__law_sea) (T : Bt mg) (O__law_take : Ok P w K mg base k "_law_take" s__law_take ["_law_box_here", "_law_span"] spTake) (O__law_of : Ok P w K mg base k "_law_of" s__law_of ["_law_box_here", "_law_some"] (spOf K)) :
    Ok P w K mg base (k + 1) "_law_sea" s__law_sea ["_law_box_here", "_law_most"] spSea := by
  refine D.ok sc__law_sea b__law_sea (fun vs H Q E h => ?_) (fun f cdv A outer s H vs Q E hr h => ?_)
  · obtain ⟨b, n, most, rfl, _⟩ := h
    rfl
  · obtain ⟨b, n, most, rfl, m0, m1, hb, q⟩ := h
    refine ⟨_, (pss_cons (ps_asg (pe_tup (pa_cons (pe_op op_add pe_int (pe_fn O__law_take (hr.mono (by omega)) (pa_cons (pv 0) (pa_cons (pv 1) pa_nil)))) (pa_cons (pe_fn O__law_of (hr.mono (by omega)) (pa_cons (pv 0) (pa_cons (pe_lst (pa_cons pe_int (pa_cons pe_int (pa_cons pe_int (pa_cons (pe_op op_sub (pe_op op_sub (pe_op (op_powC 1000000000000) pe_int pe_int) pe_int) (pe_fn O__law_take (hr.mono (by omega)) (pa_cons (pv 0) (pa_cons (pe_op (op_powC 1000000) pe_int pe_int) pa_nil)))) pa_nil))))) pa_nil))) pa_nil))) (pg_seq rfl (pgs_cons (pg_name (i := 2) sc__law_sea.nd rfl (.inr rfl)) (pgs_cons (pg_name (i := 3) sc__law_sea.nd rfl (.inr rfl)) pgs_nil))))
      (pss_cons (ps_set (i := 4) sc__law_sea.nd rfl (.inr rfl) (pe_fn O__law_of (hr.mono (by omega)) (pa_cons (pv 0) (pa_cons (pe_lst (pa_cons pe_int (pa_cons (pe_op op_add (pv 2) pe_int) (pa_cons (pe_op op_add (pe_op op_mul pe_int (pv 2)) pe_int) pa_nil)))) pa_nil))))
      (pss_cons (ps_setLc (i := 5) (own := [("_law_brink", 7)]) (g := (gName 7)) (tt := tYes) (by rfl) sc__law_sea.nd rfl rfl (sw_true rfl rfl rfl (by decide +kernel)) (pi_range1 (by rfl) T.range_ (pa_cons pe_int pa_nil)) (blkOk_by (own := [("_law_brink", 7)]) (N := (["_law_box_here", "_law_most", "_law_count", "_law_far", "_law_wide", "_law_depths", "_law_draughts", "_law_brink", "_law_whom"] : List Str)) (sc := defScope s__law_sea) (by decide +kernel)) (fun _ _ _ _ _ => (pg_name (i := 7) sc__law_sea.nd rfl (.inl rfl))) (fun _ _ _ _ _ => pts_nil) (fun _ _ _ _ _ => (pe_op op_add (pv 3) (pe_op op_mul (pe_fn O__law_take (hr.mono (by omega)) (pa_cons (pv 0) (pa_cons (pe_op op_add (pv 2) pe_int) pa_nil))) (pe_fn O__law_take (hr.mono (by omega)) (pa_cons (pv 0) (pa_cons pe_int pa_nil)))))))
      (pss_cons (ps_set (i := 6) sc__law_sea.nd rfl (.inr rfl) (pe_lc (own := [("_law_whom", 8)]) (g := (gName 8)) (tt := tYes) (by rfl) sc__law_sea.nd (pi_range1 (by rfl) T.range_ (pa_cons (pv 2) pa_nil)) (blkOk_by (own := [("_law_whom", 8)]) (N := (["_law_box_here", "_law_most", "_law_count", "_law_far", "_law_wide", "_law_depths", "_law_draughts", "_law_brink", "_law_whom"] : List Str)) (sc := defScope s__law_sea) (by decide +kernel)) (fun _ _ _ _ _ => (pg_name (i := 8) sc__law_sea.nd rfl (.inl rfl))) (fun _ _ _ _ _ => pts_nil) (fun _ _ _ _ _ => (pe_op op_add (pv 3) (pe_fn O__law_take (hr.mono (by omega)) (pa_cons (pv 0) (pa_cons (pv 4) pa_nil)))))))
      (pss_cons (ps_if (pt_cmpR op_eq (pe_fn O__law_take (hr.mono (by omega)) (pa_cons (pv 0) (pa_cons pe_int pa_nil))) pe_int (nomark _))
        (pss_one (ps_set (i := 6) sc__law_sea.nd rfl (.inr rfl) (pe_lc (own := [("_law_whom", 8)]) (g := (gName 8)) (tt := tYes) (by rfl) sc__law_sea.nd (pi_range1 (by rfl) T.range_ (pa_cons (pv 2) pa_nil)) (blkOk_by (own := [("_law_whom", 8)]) (N := (["_law_box_here", "_law_most", "_law_count", "_law_far", "_law_wide", "_law_depths", "_law_draughts", "_law_brink", "_law_whom"] : List Str)) (sc := defScope s__law_sea) (by decide +kernel)) (fun _ _ _ _ _ => (pg_name (i := 8) sc__law_sea.nd rfl (.inl rfl))) (fun _ _ _ _ _ => pts_nil) (fun _ _ _ _ _ => (pe_ifExp (pt_cmpR op_eq (pe_fn O__law_take (hr.mono (by omega)) (pa_cons (pv 0) (pa_cons pe_int pa_nil))) pe_int (nomark _)) (pe_ix (ix_ltK K) (pv 6) (pv 8) (fun _ _ => rfl)) (pe_ix (ix_ltK K) (pv 6) pe_int (fun _ _ => rfl)))))))
        pss_nil)
      (pss_one (ps_ret (pe_tup (pa_cons (pe_ix ix_lt (pv 5) pe_int (fun _ _ => rfl)) (pa_cons (pe_ix ix_lt (pv 5) pe_int (fun _ _ => rfl)) (pa_cons (pe_callTy call_tuple_of (by rfl) T.tuple_ (by decide +kernel) (pa_cons (pv 6) pa_nil)) pa_nil))))))))))), ?_⟩
    -- 1 + take(box, most)
    refine ⟨_, rfl, _, rfl, b, n + 199, _, rfl, by omega, by omega, hb, fun c ys1 c0 c1 y1 => ?_⟩
    refine ⟨1, c, rfl, rfl, ?_⟩
    have u1 : But b H (upd H b (.lst ys1)) := But.ups
    have x1 : BoxAt (upd H b (.lst ys1)) b (n + 199) := .put y1
    generalize upd H b (.lst ys1) = H1 at u1 x1
    -- of(box, [0, 0, 0, 10 ** 12 - 200 - take(box, 10 ** 6)])
    refine ⟨_, rfl, 10, 12, rfl, rfl, ⟨⟨by decide, by decide, by decide⟩, by decide⟩, _, 200, rfl, rfl, _, rfl, 10, 6, rfl, rfl, ⟨⟨by decide, by decide, by decide⟩, by decide⟩, ?_⟩
    refine ⟨b, n + 198, 1000000, rfl, by decide, by decide, x1, fun r ys2 r0 r1 y2 => ?_⟩
    have u2 : But b H (upd H1 b (.lst ys2)) := u1.box
    have x2 : BoxAt (upd H1 b (.lst ys2)) b (n + 198) := .put y2
    generalize upd H1 b (.lst ys2) = H2 at u2 x2
    refine ⟨_, _, rfl, rfl, (by show 4 ≤ sizeLine; decide), fun l nl => ?_⟩
    have u3 : But b H (upd H2 l (.lst [.int 0, .int 0, .int 0, .int (1000000000000 - 200 - r)])) := fun a o na e => by
      rw [upd_ne (ne_of_none (u2 a o na e) nl)]
      exact u2 a o na e
    refine ⟨b, l, n + 197, _, rfl, SqA.l upd_same, ne_box x2 nl, (by show 0 < 4; decide), (by show 4 < 1000000; decide), x2.at (x2.ne nl), fun v ys3 hv y3 => ?_⟩
    obtain ⟨far, f0, f1, rfl⟩ : ∃ far : Int, 0 ≤ far ∧ far ≤ 1000000000000 - 200 ∧ v = .int far := by
      have e4 : v = .int 0 ∨ v = .int (1000000000000 - 200 - r) := by
        have e5 : v = .int 0 ∨ v = .int 0 ∨ v = .int 0 ∨ v = .int (1000000000000 - 200 - r) := by simpa using hv
        rcases e5 with e | e | e | e
        · exact .inl e
        · exact .inl e
        · exact .inl e
        · exact .inr e
      rcases e4 with e | e
      · exact ⟨0, by decide, by decide, e⟩
      · exact ⟨_, by omega, by omega, e⟩
    replace u3 : But b H (upd (upd H2 l (.lst [.int 0, .int 0, .int 0, .int (1000000000000 - 200 - r)])) b (.lst ys3)) := u3.box
    have x3 : BoxAt (upd (upd H2 l (.lst [.int 0, .int 0, .int 0, .int (1000000000000 - 200 - r)])) b (.lst ys3)) b (n + 197) := .put y3
    try dsimp only
    generalize upd (upd H2 l (.lst [.int 0, .int 0, .int 0, .int (1000000000000 - 200 - r)])) b (.lst ys3) = H3 at u3 x3
    refine ⟨(by show 2 ≤ sizeLine; decide), fun tp ntp => ?_⟩
    refine ⟨tp, _, rfl, SqA.t upd_same, rfl, _, _, rfl, _, _, rfl, rfl, ?_⟩
    obtain ⟨u4, x4, _, _⟩ := al (o := .tup [.int (1 + c), .int far]) u3 x3 ntp
    try dsimp only
    generalize upd H3 tp (.tup [.int (1 + c), .int far]) = H4 at u4 x4
    obtain ⟨cn, ec⟩ : ∃ cn : Nat, 1 + c = ((cn : Nat) : Int) := ⟨(1 + c).toNat, by omega⟩
    have cn0 : 0 < cn := by omega
    have cn1 : cn ≤ most := by omega
    rw [ec]
    -- wide
    refine ⟨_, rfl, _, rfl, _, 2, rfl, rfl, _, rfl, 2, _, rfl, rfl, .inl ⟨by decide, by decide⟩, _, 2, rfl, rfl, (by show 3 ≤ sizeLine; decide), fun l2 nl2 => ?_⟩
    obtain ⟨u5, x5, e5, n5⟩ := al (o := .lst [.int 2, .int ((cn : Int) + 2), .int (2 * (cn : Int) + 2)]) u4 x4 nl2
    refine ⟨b, l2, n + 196, _, rfl, SqA.l upd_same, n5, (by show 0 < 3; decide), (by show 3 < 1000000; decide), x5.mono (by omega), fun v ys6 hv y6 => ?_⟩
    obtain ⟨wide, w0, w1, rfl⟩ : ∃ wide : Int, 2 ≤ wide ∧ wide ≤ 122 ∧ v = .int wide := by
      have e5 : v = .int 2 ∨ v = .int ((cn : Int) + 2) ∨ v = .int (2 * (cn : Int) + 2) := by simpa using hv
      rcases e5 with e | e | e
      · exact ⟨2, by decide, by decide, e⟩
      · exact ⟨_, by omega, by omega, e⟩
      · exact ⟨_, by omega, by omega, e⟩
    obtain ⟨u6, x6⟩ := tk u5 y6
    try dsimp only
    generalize upd (upd H4 l2 (.lst [.int 2, .int ((cn : Int) + 2), .int (2 * (cn : Int) + 2)])) b (.lst ys6) = H6 at u6 x6
    -- depths
    refine ⟨2, rfl, by decide, by decide, fun C nC => ?_⟩
    refine lc_range (fun i Hc => ∃ ns : List Int, But b H6 Hc ∧ BoxAt Hc b (n + 196 - 2 * i) ∧ Hc C = some (.lst (ns.map V.int)) ∧ ns.length = i ∧ ∀ d ∈ ns, 0 ≤ d ∧ d ≤ 1000000000000) ?_ ?_ ?_
    · exact ⟨[], (al (But.refl b H6) x6 nC).1, (al (But.refl b H6) x6 nC).2.1, upd_same, rfl, fun d hd => by simp at hd⟩
    · rintro i Hc hi ⟨ns, uc, xc, hC, hl, hn⟩
      have nCb : C ≠ b := (x6.ne nC).symm
      have i2 : i < 2 := hi
      refine ⟨rfl, tyes (iteT ?_)⟩
      refine ⟨_, rfl, _, rfl, _, rfl, _, 2, rfl, rfl, ?_⟩
      refine ⟨b, n + 196 - 2 * i - 1, _, rfl, by omega, by omega, xc.mono (by omega), fun v ys v0 v1 y => ?_⟩
      obtain ⟨ud, xd⟩ := tk uc y
      have hD : upd Hc b (.lst ys) C = some (.lst (ns.map V.int)) := by rw [upd_ne nCb]; exact hC
      generalize upd Hc b (.lst ys) = Hd at ud xd hD
      refine ⟨_, rfl, ?_⟩
      refine ⟨b, n + 196 - 2 * i - 2, 2, rfl, by decide, by decide, xd.mono (by omega), fun v' ys' v0' v1' y' => ?_⟩
      obtain ⟨ue, xe⟩ := tk ud y'
      have hE : upd Hd b (.lst ys') C = some (.lst (ns.map V.int)) := by rw [upd_ne nCb]; exact hD
      generalize upd Hd b (.lst ys') = He at ue xe hE
      refine ⟨v, v', rfl, rfl, .inl ⟨by omega, by omega⟩, far, v * v', rfl, rfl, ns.map V.int, hE, ?_, ns ++ [far + v * v'], ?_, ?_, ?_, ?_, ?_⟩
      · rw [List.length_map, hl]
        exact Nat.lt_trans i2 (by decide)
      · exact fun a o na e => by rw [upd_ne (ne_of_none e nC)]; exact ue a o na e
      · exact (xe.at (x6.ne nC)).mono (by omega)
      · rw [upd_same, List.map_append]
        rfl
      · simp [hl]
      · intro d hd
        rcases List.mem_append.mp hd with z | z
        · exact hn d z
        · have e : d = far + v * v' := by simpa using z
          have e01 : v' = 0 ∨ v' = 1 := by omega
          rcases e01 with z | z <;> (rw [e, z]; omega)
    · rintro H7 ⟨ds2, u7', x7, h7, l7, b7⟩
      have u7 : But b H H7 := u6.trans u7'
      clear u7'
      replace x7 : BoxAt H7 b (n + 192) := x7.mono (by omega)
      have nCb : C ≠ b := (x6.ne nC).symm
      -- draughts
      refine ⟨_, rfl, _, rfl, by omega, by omega, fun C2 nC2 => ?_⟩
      rw [show ((cn : Int)).toNat = cn by omega]
      refine lc_range (fun i Hc => ∃ ns : List Int, But b H7 Hc ∧ BoxAt Hc b (n + 192 - i) ∧ Hc C2 = some (.lst (ns.map V.int)) ∧ ns.length = i ∧ ∀ d ∈ ns, 0 ≤ d ∧ d ≤ 1000000000000) ?_ ?_ ?_
      · exact ⟨[], (al (But.refl b H7) x7 nC2).1, (al (But.refl b H7) x7 nC2).2.1, upd_same, rfl, fun d hd => by simp at hd⟩
      · rintro i Hc hi ⟨ns, uc, xc, hC, hl, hn⟩
        have nCb2 : C2 ≠ b := (x7.ne nC2).symm
        refine ⟨rfl, tyes (iteT ?_)⟩
        refine ⟨_, rfl, _, rfl, _, rfl, ?_⟩
        refine ⟨b, n + 192 - i - 1, wide, rfl, by omega, by omega, xc.mono (by omega), fun v ys v0 v1 y => ?_⟩
        obtain ⟨ud, xd⟩ := tk uc y
        have hD : upd Hc b (.lst ys) C2 = some (.lst (ns.map V.int)) := by rw [upd_ne nCb2]; exact hC
        generalize upd Hc b (.lst ys) = Hd at ud xd hD
        refine ⟨far, v, rfl, rfl, ns.map V.int, hD, ?_, ns ++ [far + v], ?_, ?_, ?_, ?_, ?_⟩
        · rw [List.length_map, hl]
          exact Nat.lt_of_lt_of_le hi (Nat.le_trans (show cn ≤ 60 by omega) (by decide))
        · exact fun a o na e => by rw [upd_ne (ne_of_none e nC2)]; exact ud a o na e
        · exact (xd.at (x7.ne nC2)).mono (by omega)
        · rw [upd_same, List.map_append]
          rfl
        · simp [hl]
        · intro d hd
          rcases List.mem_append.mp hd with z | z
          · exact hn d z
          · have e : d = far + v := by simpa using z
            omega
      · rintro H8 ⟨ds, u8', x8, h8, l8, b8⟩
        have h7' : H8 C = some (.lst (ds2.map V.int)) := u8' _ _ nCb h7
        have u8 : But b H H8 := u7.trans u8'
        have nC2b : C2 ≠ b := (x7.ne nC2).symm
        have nCC : C ≠ C2 := ne_of_none h7 nC2
        replace x8 : BoxAt H8 b (n + 132) := x8.mono (by omega)
        clear u8'
        -- take(box, 4) == 0
        refine ⟨_, rfl, b, n + 131, 4, rfl, by decide, by decide, x8.mono (by omega), fun v ys v0 v1 y => ?_⟩
        obtain ⟨u9, x9⟩ := tk u8 y
        have h9 : upd H8 b (.lst ys) C = some (.lst (ds2.map V.int)) := by rw [upd_ne nCb]; exact h7'
        have g9 : upd H8 b (.lst ys) C2 = some (.lst (ds.map V.int)) := by rw [upd_ne nC2b]; exact h8
        generalize upd H8 b (.lst ys) = H9 at u9 x9 h9 g9
        obtain ⟨d0, d1, rfl⟩ := two_of l7
        refine ⟨rfl, _, rfl, ite2 (fun c => ?_) (fun c => ?_)⟩
        · refine ⟨_, rfl, _, rfl, by omega, by omega, fun C3 nC3 => ?_⟩
          rw [show ((cn : Int)).toNat = cn by omega]
          have nC3b : C3 ≠ b := (x9.ne nC3).symm
          refine lc_range (fun i Hc => ∃ ns : List Int, But b H9 Hc ∧ BoxAt Hc b (n + 131 - i) ∧ Hc C3 = some (.lst (ns.map V.int)) ∧ ns.length = i ∧ ∀ d ∈ ns, 0 ≤ d ∧ d ≤ 1000000000000) ?_ ?_ ?_
          · exact ⟨[], (al (But.refl b H9) x9 nC3).1, (al (But.refl b H9) x9 nC3).2.1, upd_same, rfl, fun d hd => by simp at hd⟩
          · rintro i Hc hi ⟨ns, uc, xc, hC, hl, hn⟩
            refine ⟨rfl, tyes (iteT ?_)⟩
            refine ⟨_, rfl, b, n + 131 - i - 1, 2, rfl, by decide, by decide, xc.mono (by omega), fun v ys v0 v1 y => ?_⟩
            obtain ⟨ud, xd⟩ := tk uc y
            have hD : upd Hc b (.lst ys) C3 = some (.lst (ns.map V.int)) := by rw [upd_ne nC3b]; exact hC
            generalize upd Hc b (.lst ys) = Hd at ud xd hD
            have gd : Hd C2 = some (.lst (ds.map V.int)) := ud _ _ nC2b g9
            have fin : ∀ z ∈ ds, ∃ acc : List V, Hd C3 = some (.lst acc) ∧ acc.length < sizeLine ∧ ∃ ns : List Int, But b H9 (upd Hd C3 (.lst (acc ++ [.int z]))) ∧ BoxAt (upd Hd C3 (.lst (acc ++ [.int z]))) b (n + 131 - (i + 1)) ∧
                upd Hd C3 (.lst (acc ++ [.int z])) C3 = some (.lst (ns.map V.int)) ∧ ns.length = i + 1 ∧ ∀ d ∈ ns, 0 ≤ d ∧ d ≤ 1000000000000 := fun z hz => by
              refine ⟨ns.map V.int, hD, ?_, ns ++ [z], ?_, ?_, ?_, ?_, ?_⟩
              · rw [List.length_map, hl]
                exact Nat.lt_of_lt_of_le hi (Nat.le_trans (show cn ≤ 60 by omega) (by decide))
              · exact fun a o na e => by rw [upd_ne (ne_of_none e nC3)]; exact ud a o na e
              · exact (xd.at (x9.ne nC3)).mono (by omega)
              · rw [upd_same, List.map_append]
                rfl
              · simp [hl]
              · intro d hd
                rcases List.mem_append.mp hd with z2 | z2
                · exact hn d z2
                · have e : d = z := by simpa using z2
                  rw [e]
                  exact b8 z hz
            refine ⟨rfl, _, rfl, ite2 (fun c => ?_) (fun c => ?_)⟩
            · have hi' : i < ds.length := by omega
              exact ⟨_, rfl, _, rfl, C2, _, _, .int ds[i], rfl, rfl, SqA.l gd, at_nat (j := i) (by omega) (by simp [hi']), fin _ (List.getElem_mem hi')⟩
            · have hi' : 0 < ds.length := by omega
              exact ⟨_, rfl, C2, _, _, .int ds[0], rfl, rfl, SqA.l gd, at_nat (j := 0) rfl (by simp [hi']), fin _ (List.getElem_mem hi')⟩
          · rintro H10 ⟨ds', u10', x10, h10, l10, b10⟩
            have u10 : But b H H10 := u9.trans u10'
            refine ⟨_, rfl, C, _, 0, .int d0, rfl, rfl, SqA.l (u10' _ _ nCb h9), rfl, _, rfl, C, _, 1, .int d1, rfl, rfl, SqA.l (u10' _ _ nCb h9), rfl, _, rfl, C3, _, rfl, .inl ⟨SqL.of h10, fun q' nq => ?_⟩⟩
            refine ⟨(by show 3 ≤ sizeLine; decide), fun p np => ?_⟩
            obtain ⟨uq, xq, eq, nqb⟩ := al (o := .tup (ds'.map V.int)) u10 x10 nq
            obtain ⟨up, xp, ep, npb⟩ := al (o := .tup [.int d0, .int d1, .ref q']) uq xq np
            refine q _ p q' d0 d1 ds' up (xp.mono (by omega)) (uq.free npb np) (u10.free nqb nq) ep ?_ ⟨(b7 d0 (by simp)).1, (b7 d0 (by simp)).2, (b7 d1 (by simp)).1, (b7 d1 (by simp)).2, by omega, by omega, b10⟩
            rw [upd_ne (ne_of_none eq np)]
            exact eq
        · refine ⟨_, rfl, C, _, 0, .int d0, rfl, rfl, SqA.l h9, rfl, _, rfl, C, _, 1, .int d1, rfl, rfl, SqA.l h9, rfl, _, rfl, C2, _, rfl, .inl ⟨SqL.of g9, fun q' nq => ?_⟩⟩
          refine ⟨(by show 3 ≤ sizeLine; decide), fun p np => ?_⟩
          obtain ⟨uq, xq, eq, nqb⟩ := al (o := .tup (ds.map V.int)) u9 x9 nq
          obtain ⟨up, xp, ep, npb⟩ := al (o := .tup [.int d0, .int d1, .ref q']) uq xq np
          refine q _ p q' d0 d1 ds up (xp.mono (by omega)) (uq.free npb np) (u9.free nqb nq) ep ?_ ⟨(b7 d0 (by simp)).1, (b7 d0 (by simp)).2, (b7 d1 (by simp)).1, (b7 d1 (by simp)).2, by omega, by omega, b8⟩
          rw [upd_ne (ne_of_none eq np)]
          exact eq
end
end Sh

namespace Sh
open PySem PySem.Spec PyProof.Rows L2
/-! ### what many laws ask -/
/-- a sea (list or tuple) is handed in -/
def SeaA (K : PySem.W.Frag) (H : Hp) (v : V) (h t : Int) (ds : List Int) : Prop := ∃ p q, v = .ref p ∧ SqA K H p [.int h, .int t, .ref q] ∧ SqA K H q (ds.map V.int)
theorem SeaA.same {K : PySem.W.Frag} {H H' : Hp} {v : V} {h t : Int} {ds : List Int} (s : SeaA K H v h t ds) (e : Same H H') : SeaA K H' v h t ds := let ⟨p, q, a, b, c⟩ := s; ⟨p, q, a, Same.sqA e b, Same.sqA e c⟩
theorem lay_ints : ∀ ns : List Int, PyData.canLayAll0 (ns.map .int) = true ∧ PyData.depthAll (ns.map .int) = 0
  | [] => ⟨rfl, rfl⟩
  | n :: ns => by
    obtain ⟨a, b⟩ := lay_ints ns
    constructor
    · show (PyData.canLay0 (.int n) && PyData.canLayAll0 (ns.map .int)) = true
      rw [a]
      rfl
    · show max (PyData.depth (.int n)) (PyData.depthAll (ns.map .int)) = 0
      rw [b]
      rfl
theorem shaped_ints (ns : List Int) : SeqAt.shaped (.list (ns.map .int)) = true := by
  obtain ⟨a, b⟩ := lay_ints ns
  unfold SeqAt.shaped
  rw [show PyData.canLay0 (.list (ns.map .int)) = PyData.canLayAll0 (ns.map .int) from rfl, show PyData.depth (.list (ns.map .int)) = PyData.depthAll (ns.map .int) + 1 from rfl, a, b]
  rfl
theorem flat_ints (ns : List Int) : (ns.map V.int).all flatV = true := by
  rw [List.all_map]
  exact List.all_eq_true.mpr fun _ _ => rfl
theorem same_over {H H1 : Hp} {p : Addr} {o : HO} (s : Same H H1) (n : H p = none) : Same H (upd H1 p o) := fun a x e => by
  rw [upd_ne (ne_of_none e n)]
  exact s _ _ e
end Sh

namespace Sh
open PySem PySem.Spec PyProof.Rows L2
/-! ### standings as lists of ships -/
def ni (L : List Nat) : List V := L.map fun (i : Nat) => V.int (i : Int)
theorem ni_len (L : List Nat) : (ni L).length = L.length := by unfold ni; simp
theorem ni_get {L : List Nat} {i : Nat} (h : i < L.length) : (ni L)[i]? = some (.int ((L[i] : Nat) : Int)) := by unfold ni; simp [h]
theorem ni_app (L M : List Nat) : ni (L ++ M) = ni L ++ ni M := by unfold ni; simp
theorem ni_ints (L : List Nat) : ni L = (L.map fun (i : Nat) => (i : Int)).map V.int := by unfold ni; simp
theorem ni_flat (L : List Nat) : (ni L).all flatV = true := by unfold ni; rw [List.all_map]; exact List.all_eq_true.mpr fun _ _ => rfl
/-- a rising lot of ships below c -/
structure Lot (c : Nat) (L : List Nat) : Prop where
  up : L.Pairwise (· < ·)
  lt : ∀ i ∈ L, i < c
theorem up_len : ∀ {L : List Nat} {lo c : Nat}, L.Pairwise (· < ·) → (∀ i ∈ L, lo ≤ i ∧ i < c) → L.length ≤ c - lo
  | [], _, _, _, _ => Nat.zero_le _
  | a :: r, lo, c, h, hb => by
    obtain ⟨h1, h2⟩ := List.pairwise_cons.mp h
    have ha := hb a List.mem_cons_self
    have := up_len (lo := a + 1) (c := c) h2 fun i hi => ⟨h1 i hi, (hb i (List.mem_cons_of_mem _ hi)).2⟩
    rw [List.length_cons]
    omega
theorem Lot.len {c : Nat} {L : List Nat} (h : Lot c L) : L.length ≤ c := up_len (lo := 0) h.up fun i hi => ⟨Nat.zero_le _, h.lt i hi⟩
theorem Lot.nil (c : Nat) : Lot c [] := ⟨.nil, fun _ h => by cases h⟩
theorem Lot.all (c : Nat) : Lot c (List.range c) := ⟨List.pairwise_lt_range, fun _ h => List.mem_range.mp h⟩
theorem Lot.filter {c : Nat} {L : List Nat} (h : Lot c L) (p : Nat → Bool) : Lot c (L.filter p) := ⟨h.up.filter p, fun i hi => h.lt i (List.mem_filter.mp hi).1⟩
theorem rgV_ni (n : Nat) : rgV 0 (n : Int) = ni (List.range n) := by
  unfold rgV ni
  rw [show ((n : Int) - 0).toNat = n by omega]
  refine List.map_congr_left fun i _ => ?_
  rw [Int.zero_add]
theorem dp_ni {K : PySem.W.Frag} {H : Hp} {a : Addr} {L : List Nat} (h : H a = some (.lst (ni L))) : Dp K H (.ref a) (.list ((L.map fun (i : Nat) => (i : Int)).map .int)) := by
  rw [ni_ints] at h
  exact .lst (SqL.of h) (DpAll.ints _)
end Sh

namespace Sh
open PySem PySem.Spec PyProof.Rows L2
/-! ### a drawn lot -/
def spLot : Sp := fun vs H Q _ => ∃ (b : Addr) (n c : Nat), vs = [.ref b, .int (c : Int)] ∧ c ≤ 60 ∧ BoxAt H b (n + 100) ∧
  ∀ (H' : Hp) (p : Addr) (L : List Nat), But b H H' → BoxAt H' b n → H p = none → H' p = some (.tup (ni L)) → Lot c L → Q (.ref p) H'
abbrev s__law_lot : Stmt := topS 32
theorem sc__law_lot : FnScope (["_law_box_here", "_law_count", "_law_odds", "_law_whom"] : List Str) (["_law_box_here", "_law_count"] : List Str) (defScope s__law_lot) := ⟨rfl, rfl, rfl, by decide +kernel, rfl, by decide +kernel, by decide +kernel⟩
theorem b__law_lot (kV doc pm : Value) (an : Option Addr) (cdv ct : Value) (us : List Value) (hl : us.length = (["_law_box_here", "_law_count"] : List Str).length) : bindArgs (PySem.W.fnOf "_law_lot" "_law_lot" (defArgs s__law_lot) (defBody s__law_lot) (defScope s__law_lot) .none kV doc pm an cdv ct) ⟨us, []⟩ = pure ((["_law_box_here", "_law_count"] : List Str).zip us) :=
  match us, hl with | [_, _], _ => rfl
section
variable {P : Program} {w : World} {K : PySem.W.Frag} {mg : Str → Option Value} {base : Heap}
theorem ok_lot {k : Nat} (D : Df K mg "_law_lot" s__law_lot) (T : Bt mg) (O__law_take : Ok P w K mg base k "_law_take" s__law_take ["_law_box_here", "_law_span"] spTake) (O__law_of : Ok P w K mg base k "_law_of" s__law_of ["_law_box_here", "_law_some"] (spOf K)) :
    Ok P w K mg base (k + 1) "_law_lot" s__law_lot ["_law_box_here", "_law_count"] spLot := by
  refine D.ok sc__law_lot b__law_lot (fun vs H Q E h => ?_) (fun f cdv A outer s H vs Q E hr h => ?_)
  · obtain ⟨b, n, c, rfl, _⟩ := h
    rfl
  · obtain ⟨b, n, c, rfl, c60, hb, q⟩ := h
    refine ⟨_, (pss_cons (ps_set (i := 2) sc__law_lot.nd rfl (.inr rfl) (pe_fn O__law_of (hr.mono (by omega)) (pa_cons (pv 0) (pa_cons (pe_lst (pa_cons pe_int (pa_cons pe_int (pa_cons pe_int (pa_cons pe_int (pa_cons pe_int pa_nil)))))) pa_nil))))
      (pss_cons (ps_if (pt_cmpR op_eq (pe_fn O__law_take (hr.mono (by omega)) (pa_cons (pv 0) (pa_cons pe_int pa_nil))) pe_int (nomark _))
        (pss_one (ps_ret (pe_ifExp (pt_cmpR op_eq (pe_fn O__law_take (hr.mono (by omega)) (pa_cons (pv 0) (pa_cons pe_int pa_nil))) pe_int (nomark _)) (pe_tupRg (by rfl) (by rfl) T.tuple_ (prg_1 (by rfl) T.range_ (pv 1))) (pe_tup pa_nil))))
        pss_nil)
      (pss_one (ps_ret (pe_callTy call_tuple_of (by rfl) T.tuple_ (by decide +kernel) (pa_cons (pe_lc (own := [("_law_whom", 3)]) (g := (gName 3)) (by rfl) sc__law_lot.nd (pi_range1 (by rfl) T.range_ (pa_cons (pv 1) pa_nil)) (blkOk_by (own := [("_law_whom", 3)]) (N := (["_law_box_here", "_law_count", "_law_odds", "_law_whom"] : List Str)) (sc := defScope s__law_lot) (by decide +kernel)) (fun _ _ _ _ _ => (pg_name (i := 3) sc__law_lot.nd rfl (.inl rfl))) (fun _ _ _ _ _ => (pts_one (pt_cmpR op_eq (pe_fn O__law_take (hr.mono (by omega)) (pa_cons (pv 0) (pa_cons (pv 2) pa_nil))) pe_int (nomark _)))) (fun _ _ _ _ _ => (pv 3))) pa_nil)))))), ?_⟩
    -- odds
    refine ⟨_, rfl, (by show 5 ≤ sizeLine; decide), fun l nl => ?_⟩
    obtain ⟨u1, x1, e1, n1⟩ := al (o := .lst [.int 1, .int 2, .int 2, .int 3, .int 4]) (But.refl b H) hb nl
    refine ⟨b, l, n + 99, _, rfl, SqA.l upd_same, n1, (by show 0 < 5; decide), (by show 5 < 1000000; decide), x1.mono (by omega), fun v ys hv y => ?_⟩
    obtain ⟨o, o0, o1, rfl⟩ : ∃ o : Int, 1 ≤ o ∧ o ≤ 4 ∧ v = .int o := by
      have e5 : v = .int 1 ∨ v = .int 2 ∨ v = .int 3 ∨ v = .int 4 := by simpa using hv
      rcases e5 with e | e | e | e
      · exact ⟨1, by decide, by decide, e⟩
      · exact ⟨2, by decide, by decide, e⟩
      · exact ⟨3, by decide, by decide, e⟩
      · exact ⟨4, by decide, by decide, e⟩
    obtain ⟨u2, x2⟩ := tk u1 y
    generalize upd (upd H l (.lst [.int 1, .int 2, .int 2, .int 3, .int 4])) b (.lst ys) = H2 at u2 x2
    -- take(box, 8) == 0
    refine ⟨_, rfl, b, n + 98, 8, rfl, by decide, by decide, x2.mono (by omega), fun v ys v0 v1 y => ?_⟩
    obtain ⟨u3, x3⟩ := tk u2 y
    generalize upd H2 b (.lst ys) = H3 at u3 x3
    refine ⟨rfl, _, rfl, ite2 (fun _ => ?_) (fun _ => ?_)⟩
    · refine ⟨_, rfl, b, n + 97, 2, rfl, by decide, by decide, x3.mono (by omega), fun v ys v0 v1 y => ?_⟩
      obtain ⟨u4, x4⟩ := tk u3 y
      generalize upd H3 b (.lst ys) = H4 at u4 x4
      refine ⟨rfl, _, rfl, ite2 (fun _ => ?_) (fun _ => ?_)⟩
      · refine ⟨_, rfl, _, rfl, .of_le (by omega) (by omega) (by omega) (by omega), fun p np => ?_⟩
        rw [rgV_ni]
        obtain ⟨u5, x5, e5, n5⟩ := al (o := .tup (ni (List.range c))) u4 x4 np
        exact q _ p _ u5 (x5.mono (by omega)) (u4.free n5 np) e5 (Lot.all c)
      · refine ⟨Nat.zero_le _, fun p np => ?_⟩
        obtain ⟨u5, x5, e5, n5⟩ := al (o := .tup []) u4 x4 np
        exact q _ p [] u5 (x5.mono (by omega)) (u4.free n5 np) e5 (Lot.nil c)
    · refine ⟨_, rfl, _, rfl, by omega, by omega, fun C nC => ?_⟩
      rw [show ((c : Int)).toNat = c by omega]
      have nCb : C ≠ b := (x3.ne nC).symm
      refine lc_range (fun i Hc => ∃ L : List Nat, But b H3 Hc ∧ BoxAt Hc b (n + 98 - i) ∧ Hc C = some (.lst (ni L)) ∧ Lot i L) ?_ ?_ ?_
      · exact ⟨[], (al (But.refl b H3) x3 nC).1, (al (But.refl b H3) x3 nC).2.1, upd_same, Lot.nil 0⟩
      · rintro i Hc hi ⟨L, uc, xc, hC, hL⟩
        refine ⟨rfl, ?_⟩
        refine ⟨_, rfl, _, rfl, b, n + 98 - i - 1, o, rfl, by omega, by omega, xc.mono (by omega), fun v ys v0 v1 y => ?_⟩
        obtain ⟨ud, xd⟩ := tk uc y
        have hD : upd Hc b (.lst ys) C = some (.lst (ni L)) := by rw [upd_ne nCb]; exact hC
        generalize upd Hc b (.lst ys) = Hd at ud xd hD
        refine ⟨rfl, _, rfl, ite2 (fun _ => ?_) (fun _ => ?_)⟩
        · refine ⟨_, rfl, _, hD, ?_, L ++ [i], ?_, ?_, ?_, ?_⟩
          · rw [ni_len]
            exact small1000 (by have := hL.len; omega)
          · exact fun a z na e => by rw [upd_ne (ne_of_none e nC)]; exact ud a z na e
          · exact (xd.at (x3.ne nC)).mono (by omega)
          · rw [upd_same, ni_app]
            exact congrArg (fun z => some (HO.lst (ni L ++ [V.int z]))) (Int.zero_add (i : Int))
          · refine ⟨List.pairwise_append.mpr ⟨hL.up, List.pairwise_singleton _ _, fun a ha z hz => ?_⟩, fun a ha => ?_⟩
            · rw [List.mem_singleton.mp hz]
              exact hL.lt a ha
            · rcases List.mem_append.mp ha with z | z
              · have := hL.lt a z
                omega
              · rw [List.mem_singleton.mp z]
                omega
        · exact ⟨L, ud, xd.mono (by omega), hD, hL.up, fun a ha => Nat.lt_succ_of_lt (hL.lt a ha)⟩
      · rintro H4 ⟨L, u4', x4, h4, hL⟩
        have u4 := u3.trans u4'
        refine ⟨C, _, rfl, .inl ⟨SqL.of h4, fun p np => ?_⟩⟩
        obtain ⟨u5, x5, e5, n5⟩ := al (o := .tup (ni L)) u4 x4 np
        exact q _ p L u5 (x5.mono (by omega)) (u4.free n5 np) e5 hL
end
end Sh

namespace Sh
open PySem PySem.Spec PyProof.Rows L2
/-! ### who may go -/
/-- how many others lie here -/
def near (L : List Nat) (i : Nat) : Nat := (L.filter fun j => !decide (j = i)).length
def mayB (h t : Int) (ds : List Int) (L : List Nat) (i : Nat) : Bool := decide (ds.getD i 0 ≤ h + (near L i : Int)) && decide (ds.getD i 0 ≤ t + (ds.length : Int) - 1 - (near L i : Int))
def lets (h t : Int) (ds : List Int) (L : List Nat) (n : Nat) : List Nat := (List.range n).filter (mayB h t ds L)
theorem filter_succ (p : Nat → Bool) (n : Nat) : (List.range (n + 1)).filter p = (List.range n).filter p ++ (if p n = true then [n] else []) := by
  rw [List.range_succ, List.filter_append]
  congr 1
  by_cases h : p n = true
  · rw [if_pos h, List.filter_cons_of_pos h]
    rfl
  · rw [if_neg h, List.filter_cons_of_neg h]
    rfl
theorem filter_len (p : Nat → Bool) (n : Nat) : ((List.range n).filter p).length ≤ n := Nat.le_trans (List.length_filter_le _ _) (by simp)
theorem take_succ_get {α : Type} {L : List α} {i : Nat} (h : i < L.length) : L.take (i + 1) = L.take i ++ [L[i]] := by rw [List.take_add_one, List.getElem?_eq_getElem h]; rfl
/-- a standing is handed in -/
def LotA (K : PySem.W.Frag) (H : Hp) (v : V) (L : List Nat) : Prop := ∃ p, v = .ref p ∧ SqA K H p (ni L)
theorem LotA.same {K : PySem.W.Frag} {H H' : Hp} {v : V} {L : List Nat} (s : LotA K H v L) (e : Same H H') : LotA K H' v L := let ⟨p, a, b⟩ := s; ⟨p, a, Same.sqA e b⟩
end Sh

namespace Sh
open PySem PySem.Spec PyProof.Rows L2
def spLets (K : PySem.W.Frag) : Sp := fun vs H Q _ => ∃ (v l : V) (h t : Int) (ds : List Int) (L : List Nat), vs = [v, l] ∧ SeaA K H v h t ds ∧ LotA K H l L ∧ ds.length ≤ 1000 ∧ L.length ≤ 1000 ∧
  ∀ (H' : Hp) (p : Addr), Same H H' → H p = none → H' p = some (.lst (ni (lets h t ds L ds.length))) → Q (.ref p) H'
abbrev s__law_lets : Stmt := topS 33
theorem sc__law_lets : FnScope (["_law_sea_here", "_law_lot_here", "_law_depth", "_law_other_depth", "_law_draughts", "_law_found", "_law_whom", "_law_deep", "_law_near", "_law_mate"] : List Str) (["_law_sea_here", "_law_lot_here"] : List Str) (defScope s__law_lets) := ⟨rfl, rfl, rfl, by decide +kernel, rfl, by decide +kernel, by decide +kernel⟩
theorem b__law_lets (kV doc pm : Value) (an : Option Addr) (cdv ct : Value) (us : List Value) (hl : us.length = (["_law_sea_here", "_law_lot_here"] : List Str).length) : bindArgs (PySem.W.fnOf "_law_lets" "_law_lets" (defArgs s__law_lets) (defBody s__law_lets) (defScope s__law_lets) .none kV doc pm an cdv ct) ⟨us, []⟩ = pure ((["_law_sea_here", "_law_lot_here"] : List Str).zip us) :=
  match us, hl with | [_, _], _ => rfl
section
variable {P : Program} {w : World} {K : PySem.W.Frag} {mg : Str → Option Value} {base : Heap}
theorem ok_lets {k : Nat} (D : Df K mg "_law_lets" s__law_lets) (T : Bt mg) : Ok P w K mg base (k + 1) "_law_lets" s__law_lets ["_law_sea_here", "_law_lot_here"] (spLets K) := by
  refine D.ok sc__law_lets b__law_lets (fun vs H Q E h => ?_) (fun f cdv A outer s H vs Q E hr h => ?_)
  · obtain ⟨v, l, h, t, ds, L, rfl, _⟩ := h
    rfl
  · obtain ⟨v, l, h, t, ds, L, rfl, ⟨p, q, rfl, hp, hq⟩, ⟨pl, rfl, hl⟩, d1, l1, k⟩ := h
    refine ⟨_, (pss_cons (ps_asg (pv 0) (pg_seq rfl (pgs_cons (pg_name (i := 2) sc__law_lets.nd rfl (.inl rfl)) (pgs_cons (pg_name (i := 3) sc__law_lets.nd rfl (.inl rfl)) (pgs_cons (pg_name (i := 4) sc__law_lets.nd rfl (.inl rfl)) pgs_nil)))))
      (pss_cons (ps_set (i := 5) sc__law_lets.nd rfl (.inl rfl) (pe_lst pa_nil))
      (pss_cons (ps_for PassesOwn.never rfl (pi_enumA (by rfl) T.enumerate_ (pa_cons (pv 4) pa_nil)) (pg_seq rfl (pgs_cons (pg_name (i := 6) sc__law_lets.nd rfl (.inr rfl)) (pgs_cons (pg_name (i := 7) sc__law_lets.nd rfl (.inl rfl)) pgs_nil)))
        (pss_cons (ps_set (i := 8) sc__law_lets.nd rfl (.inl rfl) (pe_callB call_len_seq (by rfl) T.len_ PySem.boot_len (pa_cons (pe_lc (own := [("_law_mate", 9)]) (g := (gName 9)) (by rfl) sc__law_lets.nd (pi_seq (pv 1)) (blkOk_by (own := [("_law_mate", 9)]) (N := (["_law_sea_here", "_law_lot_here", "_law_depth", "_law_other_depth", "_law_draughts", "_law_found", "_law_whom", "_law_deep", "_law_near", "_law_mate"] : List Str)) (sc := defScope s__law_lets) (by decide +kernel)) (fun _ _ _ _ _ => (pg_name (i := 9) sc__law_lets.nd rfl (.inl rfl))) (fun _ _ _ _ _ => (pts_one (pt_cmpR op_ne (pv 9) (pv 6) (nomark _)))) (fun _ _ _ _ _ => (pv 9))) pa_nil)))
          (pss_one (ps_if (PW.pt (pw_and (pt_cmpR op_le (pv 7) (pe_op op_add (pv 2) (pv 8)) (nomark _)) (pw_and1 (pt_cmpR op_le (pv 7) (pe_op op_sub (pe_op op_sub (pe_op op_add (pv 3) (pe_callB call_len_seq (by rfl) T.len_ PySem.boot_len (pa_cons (pv 4) pa_nil))) pe_int) (pv 8)) (nomark _)))))
            (pss_one (ps_expr (pe_bm PySem.F.plainAttrs_list PySem.F.slot_list_append PySem.F.type_list_append mt_append (pv 5) (pa_cons (pv 6) pa_nil))))
            pss_nil))))
      (pss_one (ps_ret (pv 5)))))), ?_⟩
    refine ⟨_, rfl, p, _, rfl, hp, rfl, _, _, rfl, _, _, rfl, _, _, rfl, rfl, ?_⟩
    refine ⟨Nat.zero_le _, fun F nF => ?_⟩
    have s1 : Same H (upd H F (.lst [])) := same_new nF
    refine ⟨_, rfl, q, _, H, rfl, hq, .ofS s1, fun J hJ => ?_⟩
    obtain ⟨G, g, W⟩ := hJ.walk
    refine for_it W (fun i σ H' => ∃ y6 y7 y8 y9 : Option V, σ = [some (.ref p), some (.ref pl), some (.int h), some (.int t), some (.ref q), some (.ref F), y6, y7, y8, y9] ∧ Same H H' ∧ H' F = some (.lst (ni (lets h t ds L i))))
      ⟨none, none, none, none, rfl, s1, upd_same⟩ (fun i σ H' _ ⟨_, _, _, _, _, z, _⟩ => g H' (.ofS z)) ?_ ?_
    · rintro i x σ H1 H2 hi ⟨y6, y7, y8, y9, rfl, sm, hF⟩ ⟨u, x1, x2, rfl, nu, rfl, g1, g2⟩
      rw [List.length_map] at hi
      obtain rfl : .int (i : Nat) = x1 := Option.some.inj g1
      obtain rfl : .int ds[i] = x2 := by
        have g3 : (ds.map V.int)[i]? = some (.int ds[i]) := by simp [hi]
        exact Option.some.inj (g3.symm.trans g2)
      have ed : ds.getD i 0 = ds[i] := by simp [hi]
      have s2 : Same H1 (upd H1 u (.tup [.int (i : Nat), .int ds[i]])) := same_new nu
      refine ⟨u, _, rfl, SqA.t upd_same, rfl, _, _, rfl, _, _, rfl, rfl, ?_⟩
      have sm2 := sm.trans s2
      have hF2 := s2 _ _ hF
      generalize upd H1 u (.tup [.int (i : Nat), .int ds[i]]) = H2 at sm2 hF2
      -- near
      refine ⟨_, rfl, pl, _, H, rfl, hl, .ofS sm2, fun J2 hJ2 C nC => ?_⟩
      obtain ⟨G2, gg, W2⟩ := hJ2.walk
      refine lc_it W2 (fun j H' => Same H2 H' ∧ H' C = some (.lst (ni ((L.take j).filter fun m => !decide (m = i))))) ⟨same_new nC, upd_same⟩ (fun j H' _ z => gg H' (.ofS (sm2.trans z.1))) ?_ ?_
      · rintro j x H3 H4 hj ⟨s3, hC⟩ ⟨rfl, gx⟩
        rw [ni_len] at hj
        obtain rfl : .int ((L[j] : Nat) : Int) = x := Option.some.inj ((ni_get hj).symm.trans gx)
        refine ⟨rfl, ?_⟩
        refine ⟨_, rfl, _, rfl, rfl, _, rfl, ite2 (fun c => ?_) (fun c => ?_)⟩
        · have c0 : ¬ L[j] = i := fun e => by
            rw [e] at c
            simp at c
          refine ⟨_, rfl, _, hC, ?_, same_over s3 nC, ?_⟩
          · rw [ni_len]
            have h1 := List.length_filter_le (fun m => !decide (m = i)) (L.take j)
            rw [List.length_take] at h1
            exact small1000 (by omega)
          · rw [upd_same, take_succ_get hj, List.filter_append, ni_app, List.filter_cons_of_pos (by simpa using c0)]
            rfl
        · have c0 : L[j] = i := by
            have c1 : ¬ (!decide (V.int ((L[j] : Nat) : Int) = V.int (i : Nat))) = true := c
            have c2 : decide (V.int ((L[j] : Nat) : Int) = V.int (i : Nat)) = true := by
              cases e : decide (V.int ((L[j] : Nat) : Int) = V.int (i : Nat)) with
              | true => rfl
              | false => rw [e] at c1; exact absurd rfl c1
            have c3 := V.int.inj (of_decide_eq_true c2)
            omega
          refine ⟨s3, ?_⟩
          rw [hC, take_succ_get hj, List.filter_append, List.filter_cons_of_neg (by simpa using c0)]
          simp
      rintro H3 ⟨s3, hC⟩
      rw [ni_len, List.take_length] at hC
      refine ⟨C, _, rfl, .inl (SqL.of hC), ?_⟩
      rw [ni_len]
      have sm3 := sm2.trans s3
      have hF3 := s3 _ _ hF2
      -- the test
      have fin : ∀ bb : Bool, mayB h t ds L i = bb → (if bb = true then H3 F = some (.lst (ni (lets h t ds L i))) else H3 F = some (.lst (ni (lets h t ds L (i + 1))))) := fun bb e => by
        cases bb with
        | true => rw [if_pos rfl]; exact hF3
        | false =>
          rw [if_neg Bool.false_ne_true, hF3]
          unfold lets
          rw [filter_succ, e]
          simp
      refine ⟨_, rfl, _, rfl, _, rfl, h, _, rfl, rfl, ds[i], _, rfl, rfl, _, rfl, ite2 (fun c => ?_) (fun c => ?_)⟩
      · have c0 : ds[i] ≤ h + (near L i : Int) := of_decide_eq_true c
        refine ⟨_, rfl, _, rfl, _, rfl, q, _, rfl, Same.sqA sm3 hq, t, _, rfl, rfl, _, 1, rfl, rfl, _, rfl, _, _, rfl, rfl, ds[i], _, rfl, rfl, _, rfl, ite2 (fun c => ?_) (fun c => ?_)⟩
        · have c1 : ds[i] ≤ t + (ds.length : Int) - 1 - (near L i : Int) := by
            have z := of_decide_eq_true c
            rw [List.length_map] at z
            exact z
          have e : mayB h t ds L i = true := by
            unfold mayB
            rw [ed, decide_eq_true c0, decide_eq_true c1]
            rfl
          refine ⟨_, rfl, .inl ⟨rfl, _, SqL.of hF3⟩, _, rfl, F, _, _, rfl, rfl, hF3, ?_, _, _, _, _, rfl, same_over sm3 nF, ?_⟩
          · rw [ni_len]
            exact Nat.lt_of_le_of_lt (filter_len _ _) (small1000 (by omega))
          · rw [upd_same]
            unfold lets
            rw [filter_succ, if_pos e, ni_app]
            rfl
        · have c1 : ¬ ds[i] ≤ t + (ds.length : Int) - 1 - (near L i : Int) := fun z => c (decide_eq_true (by rw [List.length_map]; exact z))
          have e : mayB h t ds L i = false := by
            unfold mayB
            rw [ed, decide_eq_false c1, Bool.and_false]
          exact ⟨_, _, _, _, rfl, sm3, fin false e⟩
      · have c0 : ¬ ds[i] ≤ h + (near L i : Int) := fun z => c (decide_eq_true z)
        have e : mayB h t ds L i = false := by
          unfold mayB
          rw [ed, decide_eq_false c0, Bool.false_and]
        exact iteF ⟨_, _, _, _, rfl, sm3, fin false e⟩
    · rintro σ H1 ⟨y6, y7, y8, y9, rfl, sm, hF⟩
      rw [List.length_map] at hF
      exact ⟨_, rfl, k H1 F sm nF hF⟩
end
end Sh

namespace Sh
open PySem PySem.Spec PyProof.Rows L2
/-! ### who is afloat -/
theorem Lot.mem_eq {c : Nat} {L : List Nat} (h : Lot c L) : L = (List.range c).filter fun j => decide (j ∈ L) := by
  have h2 : Lot c ((List.range c).filter fun j => decide (j ∈ L)) := (Lot.all c).filter _
  refine List.Perm.eq_of_pairwise (le := (· < ·)) (fun a b _ _ h1 h2 => absurd (Nat.lt_trans h1 h2) (Nat.lt_irrefl _)) h.up h2.up ?_
  refine (List.perm_ext_iff_of_nodup (h.up.imp Nat.ne_of_lt) (h2.up.imp Nat.ne_of_lt)).mpr fun a => ?_
  rw [List.mem_filter, List.mem_range, decide_eq_true_eq]
  exact ⟨fun q => ⟨h.lt a q, q⟩, fun q => q.2⟩
theorem filter_filter_len (p q : Nat → Bool) : ∀ l : List Nat, (l.filter p).length = (l.filter fun j => p j && q j).length + (l.filter fun j => p j && !q j).length
  | [] => rfl
  | a :: l => by
    have ih := filter_filter_len p q l
    cases hp : p a <;> cases hq : q a <;> simp [List.filter_cons, hp, hq, ih] <;> omega
/-- how many mates: here, or there -/
def mates (c : Nat) (L : List Nat) (i : Nat) : List Nat := (List.range c).filter fun j => !decide (j = i) && (decide (j ∈ L) == decide (i ∈ L))
theorem near_in {c : Nat} {L : List Nat} (h : Lot c L) (i : Nat) : near L i = ((List.range c).filter fun j => decide (j ∈ L) && !decide (j = i)).length := by
  unfold near
  conv => lhs; rw [h.mem_eq]
  rw [List.filter_filter]
  congr 1
  refine List.filter_congr fun a _ => ?_
  cases decide (a ∈ L) <;> cases decide (a = i) <;> rfl
theorem mates_here {c : Nat} {L : List Nat} (h : Lot c L) {i : Nat} (hi : i ∈ L) : (mates c L i).length = near L i := by
  rw [near_in h, mates]
  congr 1
  refine List.filter_congr fun a _ => ?_
  rw [decide_eq_true hi]
  cases decide (a ∈ L) <;> cases decide (a = i) <;> rfl
theorem one_of {c i : Nat} (hi : i < c) : ((List.range c).filter fun j => decide (j = i)).length = 1 := by
  have e : ((List.range c).filter fun j => decide (j = i)) = [i] := by
    refine List.Perm.eq_of_pairwise (le := (· < ·)) (fun a b _ _ h1 h2 => absurd (Nat.lt_trans h1 h2) (Nat.lt_irrefl _)) (List.pairwise_lt_range.filter _) (List.pairwise_singleton _ _) ?_
    refine (List.perm_ext_iff_of_nodup ((List.pairwise_lt_range.filter _).imp Nat.ne_of_lt) (by simp)).mpr fun a => ?_
    rw [List.mem_filter, List.mem_range, decide_eq_true_eq, List.mem_singleton]
    exact ⟨fun q => q.2, fun q => ⟨q ▸ hi, q⟩⟩
  rw [e]
  rfl
theorem mates_there {c : Nat} {L : List Nat} (h : Lot c L) {i : Nat} (hc : i < c) (hi : i ∉ L) : ((mates c L i).length : Int) = (c : Int) - 1 - (near L i : Int) := by
  have e1 := filter_filter_len (fun j => !decide (j = i)) (fun j => decide (j ∈ L)) (List.range c)
  have e2 := filter_filter_len (fun _ => true) (fun j => decide (j = i)) (List.range c)
  have e3 : ((List.range c).filter fun j => true && decide (j = i)).length = 1 := one_of hc
  have e4 : ((List.range c).filter fun _ => true).length = c := by rw [List.filter_eq_self.mpr fun _ _ => rfl, List.length_range]
  have e5 : ((List.range c).filter fun j => !decide (j = i) && decide (j ∈ L)).length = near L i := by
    rw [near_in h]
    congr 1
    exact List.filter_congr fun a _ => Bool.and_comm _ _
  have e6 : ((List.range c).filter fun j => !decide (j = i) && !decide (j ∈ L)).length = (mates c L i).length := by
    unfold mates
    congr 1
    refine List.filter_congr fun a _ => ?_
    rw [decide_eq_false hi]
    cases decide (a ∈ L) <;> cases decide (a = i) <;> rfl
  have e7 : ((List.range c).filter fun j => true && !decide (j = i)).length = ((List.range c).filter fun j => !decide (j = i)).length := rfl
  rw [e5, e6] at e1
  rw [e3, e4, e7] at e2
  omega
/-- afloat where it lies -/
def aflB (h t : Int) (ds : List Int) (L : List Nat) (i : Nat) : Bool := if i ∈ L then decide (ds.getD i 0 ≤ h + (near L i : Int)) else decide (ds.getD i 0 ≤ t + ((ds.length : Int) - 1 - (near L i : Int)))
def afl (h t : Int) (ds : List Int) (L : List Nat) (n : Nat) : List Nat := (List.range n).filter (aflB h t ds L)
theorem aflB_mates {h t : Int} {ds : List Int} {L : List Nat} {i : Nat} (hL : Lot ds.length L) (hi : i < ds.length) :
    aflB h t ds L i = decide (ds.getD i 0 ≤ (if i ∈ L then h else t) + ((mates ds.length L i).length : Int)) := by
  unfold aflB
  by_cases z : i ∈ L
  · rw [if_pos z, if_pos z, mates_here hL z]
  · rw [if_neg z, if_neg z, mates_there hL hi z]
theorem in_ni {i : Nat} {L : List Nat} : inV (.int (i : Int)) (ni L) = decide (i ∈ L) := by
  unfold inV ni
  rw [List.any_map, Bool.eq_iff_iff, List.any_eq_true, decide_eq_true_eq]
  constructor
  · rintro ⟨x, hx, e⟩
    have e' : ((x : Int) == (i : Int)) = true := e
    have : x = i := by have := beq_iff_eq.mp e'; omega
    rw [← this]
    exact hx
  · intro hx
    exact ⟨i, hx, beq_self_eq_true (i : Int)⟩
def spAfl (K : PySem.W.Frag) : Sp := fun vs H Q _ => ∃ (v l : V) (h t : Int) (ds : List Int) (L : List Nat), vs = [v, l] ∧ SeaA K H v h t ds ∧ LotA K H l L ∧ ds.length ≤ 1000 ∧ Lot ds.length L ∧
  ∀ (H' : Hp) (p : Addr), Same H H' → H p = none → H' p = some (.lst (ni (afl h t ds L ds.length))) → Q (.ref p) H'
/-- the same of who may go: of a standing -/
def spMay (K : PySem.W.Frag) : Sp := fun vs H Q _ => ∃ (v l : V) (h t : Int) (ds : List Int) (L : List Nat), vs = [v, l] ∧ SeaA K H v h t ds ∧ LotA K H l L ∧ ds.length ≤ 1000 ∧ Lot ds.length L ∧
  ∀ (H' : Hp) (p : Addr), Same H H' → H p = none → H' p = some (.lst (ni (lets h t ds L ds.length))) → Q (.ref p) H'
end Sh

namespace Sh
open PySem PySem.Spec PyProof.Rows L2
theorem eqv_nil (ns : List Int) : PyData.eqv (.list (ns.map .int)) (.list []) = ns.isEmpty := by cases ns <;> rfl
end Sh

namespace Sh
open PySem PySem.Spec PyProof.Rows L2
/-! ### the program: steps -/
def mk (h t : Int) (k : Nat) (s : Int) : Int := if t + ((k : Int) - 1 - s) < h + s then t + ((k : Int) - 1 - s) else h + s
def gs (m : Int) (ds : List Int) (n : Nat) : List Nat := (List.range n).filter fun i => decide (ds.getD i 0 ≤ m)
def topI (h t : Int) (k : Nat) : Int := if (if (t + ((k : Int) - 1) - h) / 2 < (k : Int) - 1 then (t + ((k : Int) - 1) - h) / 2 else (k : Int) - 1) > 0 then (if (t + ((k : Int) - 1) - h) / 2 < (k : Int) - 1 then (t + ((k : Int) - 1) - h) / 2 else (k : Int) - 1) else 0
def lowI (h d : Int) : Int := if d - h > 0 then d - h else 0
def highI (t : Int) (k : Nat) (d : Int) : Int := if t + ((k : Int) - 1) - d < (k : Int) - 1 then t + ((k : Int) - 1) - d else (k : Int) - 1
def spMark (K : PySem.W.Frag) : Sp := fun vs H Q _ => ∃ (v : V) (h t s : Int) (ds : List Int), vs = [v, .int s] ∧ SeaA K H v h t ds ∧ Q (.int (mk h t ds.length s)) H
def spGoers (K : PySem.W.Frag) : Sp := fun vs H Q _ => ∃ (v : V) (h t s : Int) (ds : List Int), vs = [v, .int s] ∧ SeaA K H v h t ds ∧ ds.length ≤ 1000 ∧
  ∀ (H' : Hp) (p : Addr), Same H H' → H p = none → H' p = some (.lst (((gs (mk h t ds.length s) ds ds.length).map fun (i : Nat) => (i : Int)).map V.int)) → Q (.ref p) H'
def spTop (K : PySem.W.Frag) : Sp := fun vs H Q _ => ∃ (v : V) (h t : Int) (ds : List Int), vs = [v] ∧ SeaA K H v h t ds ∧ Q (.int (topI h t ds.length)) H
def spWindow (K : PySem.W.Frag) : Sp := fun vs H Q _ => ∃ (v : V) (h t d : Int) (j : Nat) (ds : List Int), vs = [v, .int (j : Int)] ∧ SeaA K H v h t ds ∧ ds[j]? = some d ∧
  (lowI h d > highI t ds.length d → Q .non H) ∧ (¬ lowI h d > highI t ds.length d → ∀ p, H p = none → Q (.ref p) (upd H p (.tup [.int (lowI h d), .int (highI t ds.length d)])))
theorem gs_succ {m : Int} {ds : List Int} {n : Nat} : gs m ds (n + 1) = gs m ds n ++ (if ds.getD n 0 ≤ m then [n] else []) := by
  unfold gs
  rw [List.range_succ, List.filter_append]
  congr 1
  by_cases h : ds.getD n 0 ≤ m
  · rw [if_pos h, List.filter_cons_of_pos (by simpa using h)]
    rfl
  · rw [if_neg h, List.filter_cons_of_neg (by simpa using h)]
    rfl
theorem gs_len {m : Int} {ds : List Int} {n : Nat} : (gs m ds n).length ≤ n := by
  unfold gs
  exact Nat.le_trans (List.length_filter_le _ _) (by simp)
theorem mk_alt (h t : Int) (k : Nat) (s : Int) : (if t + (k : Int) - 1 - s < h + s then t + (k : Int) - 1 - s else h + s) = mk h t k s := by
  unfold mk
  rw [show t + (k : Int) - 1 - s = t + ((k : Int) - 1 - s) by omega]
end Sh

namespace Sh
open PySem PySem.Spec PyProof.Rows L2
/-! ### steps: the mathematics -/
def ml (h t : Int) (k n : Nat) : List Int := (List.range n).map fun (i : Nat) => mk h t k (i : Int)
theorem ml_succ (h t : Int) (k n : Nat) : ml h t k (n + 1) = ml h t k n ++ [mk h t k (n : Int)] := by
  unfold ml
  rw [List.range_succ, List.map_append]
  rfl
theorem ml_len (h t : Int) (k n : Nat) : (ml h t k n).length = n := by
  unfold ml
  simp
theorem ml_get {h t : Int} {k n i : Nat} (hi : i < n) : (ml h t k n)[i]? = some (mk h t k (i : Int)) := by
  unfold ml
  simp [hi]
theorem top_lo (h t : Int) (k : Nat) : 0 ≤ topI h t k := by
  unfold topI
  split <;> omega
theorem top_hi (h t : Int) {k : Nat} (hk : 0 < k) : topI h t k < (k : Int) := by
  unfold topI
  repeat' split
  all_goals omega
theorem top_max (h t : Int) {k i : Nat} (hi : i < k) : mk h t k (i : Int) ≤ mk h t k (topI h t k) := by
  unfold mk topI
  repeat' split
  all_goals omega
theorem top_least (h t : Int) {k i : Nat} (hi : (i : Int) < topI h t k) : mk h t k (i : Int) < mk h t k (topI h t k) := by
  unfold mk topI at *
  repeat' split
  all_goals (repeat' split at hi)
  all_goals omega
theorem win_iff (h t d : Int) {k i : Nat} (hi : i < k) : d ≤ mk h t k (i : Int) ↔ lowI h d ≤ (i : Int) ∧ (i : Int) ≤ highI t k d := by
  unfold mk lowI highI
  constructor
  · intro z
    split at z <;> (constructor <;> split <;> omega)
  · intro z
    split <;> (obtain ⟨z1, z2⟩ := z; split at z1 <;> split at z2 <;> omega)
/-- the steps at which it may go -/
def fl (h t d : Int) (k n : Nat) : List Nat := (List.range n).filter fun (i : Nat) => decide (d ≤ mk h t k (i : Int))
theorem fl_succ {h t d : Int} {k n : Nat} : fl h t d k (n + 1) = fl h t d k n ++ (if d ≤ mk h t k (n : Int) then [n] else []) := by
  unfold fl
  rw [List.range_succ, List.filter_append]
  congr 1
  by_cases z : d ≤ mk h t k (n : Int)
  · rw [if_pos z, List.filter_cons_of_pos (by simpa using z)]
    rfl
  · rw [if_neg z, List.filter_cons_of_neg (by simpa using z)]
    rfl
theorem fl_len {h t d : Int} {k n : Nat} : (fl h t d k n).length ≤ n := by
  unfold fl
  exact Nat.le_trans (List.length_filter_le _ _) (by simp)
theorem fl_mem {h t d : Int} {k i : Nat} : i ∈ fl h t d k k ↔ i < k ∧ lowI h d ≤ (i : Int) ∧ (i : Int) ≤ highI t k d := by
  unfold fl
  rw [List.mem_filter, List.mem_range, decide_eq_true_eq]
  constructor
  · rintro ⟨a, b⟩
    exact ⟨a, (win_iff h t d a).mp b⟩
  · rintro ⟨a, b⟩
    exact ⟨a, (win_iff h t d a).mpr b⟩
theorem fl_sorted (h t d : Int) (k : Nat) : (fl h t d k k).Pairwise (· < ·) := by
  unfold fl
  exact List.Pairwise.filter _ List.pairwise_lt_range
theorem high_lt (t d : Int) {k : Nat} (hk : 0 < k) : highI t k d < (k : Int) := by
  unfold highI
  split <;> omega
theorem low_nn (h d : Int) : 0 ≤ lowI h d := by
  unfold lowI
  split <;> omega
theorem fl_nil {h t d : Int} {k : Nat} (z : lowI h d > highI t k d) : fl h t d k k = [] := by
  cases e : fl h t d k k with
  | nil => rfl
  | cons x r =>
    have m : x ∈ fl h t d k k := by rw [e]; exact List.mem_cons_self
    obtain ⟨_, a, b⟩ := fl_mem.mp m
    omega
/-- a rising list has its least first, its greatest last -/
theorem fl_ends {h t d : Int} {k : Nat} (hk : 0 < k) (z : ¬ lowI h d > highI t k d) : ∃ (l : List Nat) (r : List Nat) (a b : Nat), fl h t d k k = a :: r ∧ fl h t d k k = l ++ [b] ∧ (a : Int) = lowI h d ∧ (b : Int) = highI t k d := by
  have hh := high_lt t d hk
  have hl := low_nn h d
  have ml' : (lowI h d).toNat ∈ fl h t d k k := fl_mem.mpr ⟨by omega, by omega, by omega⟩
  have mh : (highI t k d).toNat ∈ fl h t d k k := fl_mem.mpr ⟨by omega, by omega, by omega⟩
  have ne : fl h t d k k ≠ [] := List.ne_nil_of_mem ml'
  have st := fl_sorted h t d k
  obtain ⟨a, r, e1⟩ : ∃ a r, fl h t d k k = a :: r := by
    cases e : fl h t d k k with
    | nil => exact absurd e ne
    | cons x r => exact ⟨x, r, rfl⟩
  have e2 : fl h t d k k = (fl h t d k k).dropLast ++ [(fl h t d k k).getLast ne] := (List.dropLast_concat_getLast ne).symm
  refine ⟨_, r, a, _, e1, e2, ?_, ?_⟩
  · have ma : a ∈ fl h t d k k := by rw [e1]; exact List.mem_cons_self
    obtain ⟨_, g1, g2⟩ := fl_mem.mp ma
    have le : a ≤ (lowI h d).toNat := by
      rw [e1] at ml' st
      rcases List.mem_cons.mp ml' with q | q
      · omega
      · have := (List.pairwise_cons.mp st).1 _ q
        omega
    omega
  · have mb := List.getLast_mem ne
    obtain ⟨_, g1, g2⟩ := fl_mem.mp mb
    have le : (highI t k d).toNat ≤ (fl h t d k k).getLast ne := by
      have st2 := st
      rw [e2] at mh st2
      rcases List.mem_append.mp mh with q | q
      · have := (List.pairwise_append.mp st2).2.2 _ q _ List.mem_cons_self
        omega
      · have : (highI t k d).toNat = (fl h t d k k).getLast ne := by simpa using q
        omega
    omega
end Sh

namespace Sh
open PySem PySem.Spec PyProof.Rows L2
/-! ### sorted lists of ships -/
theorem nat_list {c : Nat} : ∀ {ns : List Int}, (∀ z ∈ ns, 0 ≤ z ∧ z < (c : Int)) → ∃ L : List Nat, ns = L.map (fun (i : Nat) => (i : Int)) ∧ ∀ i ∈ L, i < c
  | [], _ => ⟨[], rfl, fun _ h => by cases h⟩
  | z :: ns, h => by
    obtain ⟨L, e, hL⟩ := nat_list (ns := ns) fun y hy => h y (List.mem_cons_of_mem _ hy)
    have hz := h z List.mem_cons_self
    refine ⟨z.toNat :: L, ?_, fun i hi => ?_⟩
    · rw [List.map_cons, ← e]
      congr 1
      omega
    · rcases List.mem_cons.mp hi with q | q
      · omega
      · exact hL i q
theorem map_inj {L M : List Nat} (h : (L.map fun (i : Nat) => (i : Int)).Perm (M.map fun (i : Nat) => (i : Int))) : L.Perm M := by
  have h2 := h.map Int.toNat
  rw [List.map_map, List.map_map] at h2
  have e : (Int.toNat ∘ fun (i : Nat) => (i : Int)) = id := by
    funext i
    exact Int.toNat_natCast i
  rw [e, List.map_id, List.map_id] at h2
  exact h2
/-- sorted ints that are a rearrangement of different ships: a lot -/
theorem lot_sorted {c : Nat} {ns : List Int} {M : List Nat} (pm : ns.Perm (M.map fun (i : Nat) => (i : Int))) (up : ns.Pairwise (· ≤ ·)) (nd : M.Nodup) (lt : ∀ i ∈ M, i < c) :
    ∃ L : List Nat, ns = L.map (fun (i : Nat) => (i : Int)) ∧ L.Perm M ∧ Lot c L := by
  obtain ⟨L, rfl, hL⟩ := nat_list (c := c) (ns := ns) fun z hz => by
    obtain ⟨i, hi, rfl⟩ := List.mem_map.mp (pm.mem_iff.mp hz)
    have := lt i hi
    omega
  have p2 := map_inj pm
  refine ⟨L, rfl, p2, ?_, hL⟩
  have ndL : L.Nodup := p2.nodup_iff.mpr nd
  have up2 : L.Pairwise (· ≤ ·) := by
    rw [List.pairwise_map] at up
    exact up.imp fun h => by omega
  exact (up2.and ndL).imp fun h => Nat.lt_of_le_of_ne h.1 h.2
theorem cut_take (xs : List V) (l : Nat) : cutV xs none (some (l : Int)) = xs.take l := by
  unfold cutV
  rw [HT.sIx_none, HT.sIx_nat]
  show (xs.drop 0).take (min l xs.length - 0) = xs.take l
  rw [List.drop_zero, Nat.sub_zero]
  by_cases h : l ≤ xs.length
  · rw [Nat.min_eq_left h]
  · rw [Nat.min_eq_right (by omega), List.take_length, List.take_of_length_le (by omega)]
theorem near_out {L : List Nat} {i : Nat} (h : i ∉ L) : near L i = L.length := by
  unfold near
  rw [List.filter_eq_self.mpr fun a ha => ?_]
  have : ¬ a = i := fun e => h (e ▸ ha)
  simpa using this
theorem near_perm {L M : List Nat} (i : Nat) (h : L.Perm M) : near L i = near M i := (h.filter _).length_eq
theorem near_add {L : List Nat} {i : Nat} (h : i ∉ L) : near (L ++ [i]) i = L.length := by
  rw [← near_out h]
  unfold near
  rw [List.filter_append]
  simp
end Sh

namespace Th
/-! ### counting ships below k -/
def cnt (k : Nat) (S : Nat → Bool) : Nat := (List.range k).countP S
theorem cnt_zero (S : Nat → Bool) : cnt 0 S = 0 := rfl
theorem cnt_succ (k : Nat) (S : Nat → Bool) : cnt (k + 1) S = cnt k S + (if S k = true then 1 else 0) := by
  unfold cnt
  rw [List.range_succ, List.countP_append]
  congr 1
  cases h : S k <;> simp [h]
theorem cnt_le (k : Nat) (S : Nat → Bool) : cnt k S ≤ k := by
  induction k with
  | zero => exact Nat.le_refl _
  | succ k ih => rw [cnt_succ]; split <;> omega
theorem cnt_congr {k : Nat} {S U : Nat → Bool} (h : ∀ i, i < k → S i = U i) : cnt k S = cnt k U := by
  induction k with
  | zero => rfl
  | succ k ih => rw [cnt_succ, cnt_succ, ih fun i hi => h i (by omega), h k (by omega)]
theorem cnt_mono {k : Nat} {S U : Nat → Bool} (h : ∀ i, i < k → S i = true → U i = true) : cnt k S ≤ cnt k U := by
  induction k with
  | zero => exact Nat.le_refl _
  | succ k ih =>
    have := ih fun i hi => h i (by omega)
    rw [cnt_succ, cnt_succ]
    by_cases e : S k = true
    · rw [if_pos e, if_pos (h k (by omega) e)]
      omega
    · rw [if_neg e]
      omega
/-- as many, and all of the one among the other: the same -/
theorem cnt_eq {k : Nat} {S U : Nat → Bool} (h : ∀ i, i < k → S i = true → U i = true) (e : cnt k U ≤ cnt k S) : ∀ i, i < k → U i = true → S i = true := by
  induction k with
  | zero => intro i hi; omega
  | succ k ih =>
    have hm := cnt_mono (k := k) fun i hi => h i (by omega)
    rw [cnt_succ, cnt_succ] at e
    intro i hi hu
    by_cases ek : S k = true
    · have uk := h k (by omega) ek
      rw [if_pos ek, if_pos uk] at e
      by_cases z : i = k
      · rw [z]; exact ek
      · exact ih (fun i hi => h i (by omega)) (by omega) i (by omega) hu
    · rw [if_neg ek] at e
      by_cases uk : U k = true
      · rw [if_pos uk] at e
        omega
      · rw [if_neg uk] at e
        by_cases z : i = k
        · rw [z] at hu; exact absurd hu uk
        · exact ih (fun i hi => h i (by omega)) (by omega) i (by omega) hu
theorem cnt_ex {k : Nat} {S U : Nat → Bool} (e : cnt k S < cnt k U) : ∃ i, i < k ∧ U i = true ∧ S i = false := by
  induction k with
  | zero => rw [cnt_zero, cnt_zero] at e; omega
  | succ k ih =>
    rw [cnt_succ, cnt_succ] at e
    by_cases uk : U k = true
    · by_cases sk : S k = true
      · rw [if_pos uk, if_pos sk] at e
        obtain ⟨i, h1, h2⟩ := ih (by omega)
        exact ⟨i, by omega, h2⟩
      · exact ⟨k, by omega, uk, by simpa using sk⟩
    · rw [if_neg uk] at e
      obtain ⟨i, h1, h2⟩ := ih (by omega)
      exact ⟨i, by omega, h2⟩
theorem cnt_pos_ex {k : Nat} {S : Nat → Bool} (e : 0 < cnt k S) : ∃ i, i < k ∧ S i = true := by
  induction k with
  | zero => rw [cnt_zero] at e; omega
  | succ k ih =>
    by_cases sk : S k = true
    · exact ⟨k, by omega, sk⟩
    · rw [cnt_succ, if_neg sk] at e
      obtain ⟨i, h1, h2⟩ := ih (by omega)
      exact ⟨i, by omega, h2⟩
def flip (S : Nat → Bool) (i : Nat) : Nat → Bool := fun j => if j = i then !S j else S j
theorem flip_self (S : Nat → Bool) (i : Nat) : flip S i i = !S i := by unfold flip; rw [if_pos rfl]
theorem flip_ne (S : Nat → Bool) {i j : Nat} (h : j ≠ i) : flip S i j = S j := by unfold flip; rw [if_neg h]
theorem flip_flip (S : Nat → Bool) (i : Nat) : flip (flip S i) i = S := by
  funext j
  by_cases h : j = i
  · subst h
    rw [flip_self, flip_self, Bool.not_not]
  · rw [flip_ne _ h, flip_ne _ h]
theorem cnt_flip_up {k : Nat} {S : Nat → Bool} {i : Nat} (hi : i < k) (h : S i = false) : cnt k (flip S i) = cnt k S + 1 := by
  induction k with
  | zero => omega
  | succ k ih =>
    rw [cnt_succ, cnt_succ]
    by_cases z : i = k
    · subst z
      rw [flip_self, h]
      rw [cnt_congr (k := i) (S := flip S i) (U := S) fun j hj => flip_ne S (by omega)]
      simp
    · rw [ih (by omega), flip_ne S (show k ≠ i by omega)]
      omega
theorem cnt_flip_dn {k : Nat} {S : Nat → Bool} {i : Nat} (hi : i < k) (h : S i = true) : cnt k (flip S i) + 1 = cnt k S := by
  have e : flip S i i = false := by rw [flip_self, h]; rfl
  have := cnt_flip_up hi e
  rw [flip_flip] at this
  omega
theorem cnt_pos {k : Nat} {S : Nat → Bool} {i : Nat} (hi : i < k) (h : S i = true) : 0 < cnt k S := by
  have := cnt_flip_dn hi h
  omega
theorem cnt_or_not {k : Nat} (S U : Nat → Bool) : cnt k (fun i => S i || U i) = cnt k S + cnt k (fun i => U i && !S i) := by
  induction k with
  | zero => rfl
  | succ k ih =>
    rw [cnt_succ, cnt_succ, cnt_succ, ih]
    cases S k <;> cases U k <;> simp <;> omega
theorem cnt_split {k : Nat} (S U : Nat → Bool) : cnt k S = cnt k (fun i => S i && U i) + cnt k (fun i => S i && !U i) := by
  induction k with
  | zero => rfl
  | succ k ih =>
    rw [cnt_succ, cnt_succ, cnt_succ, ih]
    cases S k <;> cases U k <;> simp <;> omega
theorem cnt_not {k : Nat} (S : Nat → Bool) : cnt k S + cnt k (fun i => !S i) = k := by
  induction k with
  | zero => rfl
  | succ k ih =>
    rw [cnt_succ, cnt_succ]
    cases S k <;> simp <;> omega

/-! ### crossings -/
section
variable (k : Nat) (G : Nat → Nat → Bool)
inductive Step : (Nat → Bool) → (Nat → Bool) → Prop
  | up {S : Nat → Bool} {i : Nat} (hi : i < k) (hs : S i = false) (hg : G (cnt k S) i = true) : Step S (flip S i)
  | dn {S : Nat → Bool} {i : Nat} (hi : i < k) (hs : S i = true) (hg : G (cnt k S - 1) i = true) : Step S (flip S i)
inductive Reach : (Nat → Bool) → (Nat → Bool) → Prop
  | refl (S : Nat → Bool) : Reach S S
  | step {S U W : Nat → Bool} : Reach S U → Step k G U W → Reach S W
end
section
variable {k : Nat} {G : Nat → Nat → Bool} {S U W : Nat → Bool}
theorem Step.symm (h : Step k G S U) : Step k G U S := by
  cases h with
  | @up i hi hs hg =>
    have e : Step k G (flip S i) (flip (flip S i) i) := .dn hi (by rw [flip_self, hs]; rfl) (by rw [cnt_flip_up hi hs, Nat.add_sub_cancel]; exact hg)
    rwa [flip_flip] at e
  | @dn i hi hs hg =>
    have e : Step k G (flip S i) (flip (flip S i) i) := .up hi (by rw [flip_self, hs]; rfl) (by have := cnt_flip_dn hi hs; rw [show cnt k (flip S i) = cnt k S - 1 by omega]; exact hg)
    rwa [flip_flip] at e
theorem Reach.trans (a : Reach k G S U) (b : Reach k G U W) : Reach k G S W := by
  induction b with
  | refl => exact a
  | step _ s ih => exact .step ih s
theorem Reach.one (s : Step k G S U) : Reach k G S U := .step (.refl _) s
theorem Reach.symm (a : Reach k G S U) : Reach k G U S := by
  induction a with
  | refl => exact .refl _
  | step _ s ih => exact (Reach.one s.symm).trans ih
/-- whatever every crossing keeps -/
theorem Reach.inv {P : (Nat → Bool) → Prop} (hp : ∀ S U, P S → Step k G S U → P U) (a : Reach k G S U) (h : P S) : P U := by
  induction a with
  | refl => exact h
  | step _ s ih => exact hp _ _ ih s
/-! ### filled from below -/
/-- between a and b goers grow -/
def Grow (G : Nat → Nat → Bool) (b : Nat) : Prop := ∀ s s' i, s ≤ s' → s' ≤ b → G s i = true → G s' i = true
/-- S can be filled to N, if at each number on the way somebody lacks -/
theorem fill {T : Nat} (gr : Grow G T) (N : Nat) (hN : N ≤ T + 1) (h0 : cnt k S ≤ N) (hl : ∀ n, cnt k S ≤ n → n < N → n < cnt k (fun i => S i || G n i)) :
    ∃ U, Reach k G S U ∧ cnt k U = N ∧ (∀ i, S i = true → U i = true) ∧ ∀ i, i < k → U i = true → S i = true ∨ (0 < N ∧ G (N - 1) i = true) := by
  induction N with
  | zero => exact ⟨S, .refl _, by omega, fun _ h => h, fun _ _ h => .inl h⟩
  | succ N ih =>
    by_cases e : cnt k S = N + 1
    · exact ⟨S, .refl _, e, fun _ h => h, fun _ _ h => .inl h⟩
    · obtain ⟨U, r, c, h1, h2⟩ := ih (by omega) (by omega) fun n a b => hl n a (by omega)
      have hlt := hl N (by omega) (by omega)
      obtain ⟨i, hi, g, u⟩ := cnt_ex (k := k) (S := U) (U := fun i => S i || G N i) (by omega)
      have gi : G N i = true := by
        cases hs : S i with
        | true => rw [h1 i hs] at u; cases u
        | false => rw [hs] at g; exact g
      refine ⟨flip U i, r.step (.up hi u (by rw [c]; exact gi)), by rw [cnt_flip_up hi u, c], fun j hj => ?_, fun j hj hf => ?_⟩
      · by_cases z : j = i
        · subst z
          rw [h1 j hj] at u
          cases u
        · rw [flip_ne _ z]
          exact h1 j hj
      · by_cases z : j = i
        · exact .inr ⟨by omega, by rw [z]; exact gi⟩
        · rw [flip_ne _ z] at hf
          rcases h2 j hj hf with q | ⟨q, g2⟩
          · exact .inl q
          · exact .inr ⟨by omega, gr _ _ _ (by omega) (by omega) g2⟩
/-- stuck at N: the fullest one is S with all goers at N -/
theorem stuck {T N : Nat} (gr : Grow G T) (hN : N ≤ T) (h0 : cnt k S ≤ N) (hl : ∀ n, cnt k S ≤ n → n < N → n < cnt k (fun i => S i || G n i)) (hs : cnt k (fun i => S i || G N i) ≤ N) :
    ∃ U, Reach k G S U ∧ cnt k U = N ∧ ∀ i, i < k → U i = (S i || G N i) := by
  obtain ⟨U, r, c, h1, h2⟩ := fill gr N (by omega) h0 hl
  have hm : ∀ i, i < k → U i = true → (S i || G N i) = true := fun i hi hu => by
    rcases h2 i hi hu with q | ⟨_, q⟩
    · rw [q]; rfl
    · rw [gr _ _ _ (by omega) hN q, Bool.or_true]
  have he := cnt_eq (k := k) (S := U) (U := fun i => S i || G N i) hm (by omega)
  refine ⟨U, r, c, fun i hi => ?_⟩
  cases hu : U i with
  | true => exact (hm i hi hu).symm
  | false =>
    cases hq : (S i || G N i) with
    | false => rfl
    | true => rw [he i hi hq] at hu; cases hu
/-- under a low bar at N nobody gets out -/
theorem low_inv {T N : Nat} (gr : Grow G T) (hN : N ≤ T) {F : Nat → Bool} (hF : cnt k F = N) (hG : ∀ i, i < k → G N i = true → F i = true) :
    ∀ S U, (cnt k S ≤ N ∧ ∀ i, i < k → (S i || G N i) = F i) → Step k G S U → (cnt k U ≤ N ∧ ∀ i, i < k → (U i || G N i) = F i) := by
  rintro S U ⟨c, h⟩ s
  have sub : ∀ i, i < k → S i = true → F i = true := fun i hi hs => by rw [← h i hi, hs]; rfl
  cases s with
  | @up i hi hs hg =>
    by_cases z : cnt k S = N
    · exfalso
      rw [z] at hg
      have := cnt_eq sub (by omega) i hi (hG i hi hg)
      rw [hs] at this
      cases this
    · refine ⟨by rw [cnt_flip_up hi hs]; omega, fun j hj => ?_⟩
      by_cases e : j = i
      · subst e
        have gN := gr _ _ _ (by omega) hN hg
        rw [gN, Bool.or_true, hG j hj gN]
      · rw [flip_ne _ e]
        exact h j hj
  | @dn i hi hs hg =>
    have := cnt_flip_dn hi hs
    refine ⟨by omega, fun j hj => ?_⟩
    by_cases e : j = i
    · subst e
      have gN := gr _ _ _ (by omega) hN hg
      rw [gN, Bool.or_true, hG j hj gN]
    · rw [flip_ne _ e]
      exact h j hj
end
end Th
namespace Th
section
variable {k : Nat} {G : Nat → Nat → Bool} {S U W : Nat → Bool}
/-! ### met from the other basin -/
def co (S : Nat → Bool) : Nat → Bool := fun i => !S i
def dual (k : Nat) (G : Nat → Nat → Bool) : Nat → Nat → Bool := fun s i => G (k - 1 - s) i
theorem co_co (S : Nat → Bool) : co (co S) = S := by funext i; exact Bool.not_not _
theorem cnt_co (k : Nat) (S : Nat → Bool) : cnt k S + cnt k (co S) = k := cnt_not S
theorem flip_co (S : Nat → Bool) (i : Nat) : flip (co S) i = co (flip S i) := by
  funext j
  unfold co flip
  split <;> rfl
theorem Step.dual (h : Step k G S U) : Step k (dual k G) (co S) (co U) := by
  cases h with
  | @up i hi hs hg =>
    rw [← flip_co]
    have c1 := cnt_co k S
    have c2 := cnt_le k (flip S i)
    rw [cnt_flip_up hi hs] at c2
    refine .dn hi (by unfold co; rw [hs]; rfl) ?_
    unfold Th.dual
    rw [show k - 1 - (cnt k (co S) - 1) = cnt k S by omega]
    exact hg
  | @dn i hi hs hg =>
    rw [← flip_co]
    have c1 := cnt_co k S
    have c2 := cnt_pos hi hs
    refine .up hi (by unfold co; rw [hs]; rfl) ?_
    unfold Th.dual
    rw [show k - 1 - cnt k (co S) = cnt k S - 1 by omega]
    exact hg
theorem dual_dual_at {s : Nat} (hs : s < k) (i : Nat) : Th.dual k (Th.dual k G) s i = G s i := by
  unfold Th.dual
  rw [show k - 1 - (k - 1 - s) = s by omega]
theorem Reach.dual (h : Reach k G S U) : Reach k (Th.dual k G) (co S) (co U) := by
  induction h with
  | refl => exact .refl _
  | step _ s ih => exact .step ih s.dual
theorem Step.congr {G' : Nat → Nat → Bool} (hg : ∀ s i, s < k → G s i = G' s i) (h : Step k G S U) : Step k G' S U := by
  cases h with
  | @up i hi hs g =>
    have := cnt_le k (flip S i)
    rw [cnt_flip_up hi hs] at this
    exact .up hi hs (by rw [← hg _ _ (by omega)]; exact g)
  | @dn i hi hs g =>
    have := cnt_le k S
    have := cnt_pos hi hs
    exact .dn hi hs (by rw [← hg _ _ (by omega)]; exact g)
theorem Reach.congr {G' : Nat → Nat → Bool} (hg : ∀ s i, s < k → G s i = G' s i) (h : Reach k G S U) : Reach k G' S U := by
  induction h with
  | refl => exact .refl _
  | step _ s ih => exact .step ih (s.congr hg)
theorem Reach.codual (h : Reach k (Th.dual k G) (co S) (co U)) : Reach k G S U := by
  have h2 := h.dual
  rw [co_co, co_co] at h2
  exact h2.congr fun s i hs => dual_dual_at hs i
/-! ### at the top -/
structure Top (k : Nat) (G : Nat → Nat → Bool) (T : Nat) : Prop where
  lt : T < k
  up : Grow G T
  dn : ∀ s s' i, T ≤ s → s ≤ s' → s' < k → G s' i = true → G s i = true
theorem Top.all {T : Nat} (t : Top k G T) {s i : Nat} (hs : s < k) (h : G s i = true) : G T i = true := by
  by_cases z : s ≤ T
  · exact t.up s T i z (Nat.le_refl _) h
  · exact t.dn T s i (Nat.le_refl _) (by omega) hs h
theorem Top.dual {T : Nat} (t : Top k G T) : Top k (Th.dual k G) (k - 1 - T) := by
  have := t.lt
  refine ⟨by omega, fun s s' i a b g => ?_, fun s s' i a b c g => ?_⟩
  · exact t.dn (k - 1 - s') (k - 1 - s) i (by omega) (by omega) (by omega) g
  · exact t.up (k - 1 - s') (k - 1 - s) i (by omega) (by omega) g
/-- who isn't a goer at the top never goes -/
theorem fast_inv {T : Nat} (t : Top k G T) (h : Reach k G S U) : ∀ i, i < k → G T i = false → U i = S i := by
  intro i hi hg
  refine Reach.inv (P := fun W => W i = S i) (fun A B e s => ?_) h rfl
  cases s with
  | @up j hj hs g =>
    have c := cnt_le k (flip A j)
    rw [cnt_flip_up hj hs] at c
    have : i ≠ j := fun z => by
      subst z
      rw [t.all (by omega) g] at hg
      cases hg
    rw [flip_ne _ this]
    exact e
  | @dn j hj hs g =>
    have c := cnt_le k A
    have c2 := cnt_pos hj hs
    have : i ≠ j := fun z => by
      subst z
      rw [t.all (by omega) g] at hg
      cases hg
    rw [flip_ne _ this]
    exact e
def diff (k : Nat) (S U : Nat → Bool) : Nat := cnt k (fun i => S i && !U i)
theorem reach_out (h : Reach k G S U) : ∀ i, ¬ i < k → U i = S i := by
  intro i hi
  refine Reach.inv (P := fun W => W i = S i) (fun A B e s => ?_) h rfl
  cases s with
  | @up j hj hs g =>
    rw [flip_ne _ (show i ≠ j by omega)]
    exact e
  | @dn j hj hs g =>
    rw [flip_ne _ (show i ≠ j by omega)]
    exact e
/-- at the top's own number goers can be exchanged -/
theorem swap {T : Nat} (t : Top k G T) : ∀ (n : Nat) (S U : Nat → Bool), diff k S U ≤ n → cnt k S = T → cnt k U = T → (∀ i, i < k → G T i = false → U i = S i) → (∀ i, ¬ i < k → U i = S i) → Reach k G S U := by
  intro n
  induction n with
  | zero =>
    intro S U hd cs cu hf ho
    have hsub : ∀ i, i < k → S i = true → U i = true := fun i hi hs => by
      cases hu : U i with
      | true => rfl
      | false =>
        have := cnt_pos (k := k) (S := fun i => S i && !U i) hi (by show (S i && !U i) = true; rw [hs, hu]; rfl)
        unfold diff at hd
        omega
    have heq := cnt_eq hsub (by omega)
    have : U = S := by
      funext i
      by_cases hi : i < k
      · cases hs : S i with
        | true => exact hsub i hi hs
        | false =>
          cases hu : U i with
          | false => rfl
          | true => rw [heq i hi hu] at hs; cases hs
      · exact ho i hi
    rw [this]
    exact .refl _
  | succ n ih =>
    intro S U hd cs cu hf ho
    by_cases z : diff k S U = 0
    · exact ih S U (by omega) cs cu hf ho
    · obtain ⟨i, hi, h1⟩ := cnt_pos_ex (k := k) (S := fun i => S i && !U i) (by unfold diff at z; omega)
      have si : S i = true := by revert h1; cases S i <;> simp
      have ui : U i = false := by revert h1; cases U i <;> simp
      have e1 := cnt_split (k := k) S U
      have e2 := cnt_split (k := k) U S
      have e3 : cnt k (fun i => S i && U i) = cnt k (fun i => U i && S i) := cnt_congr fun i _ => Bool.and_comm _ _
      obtain ⟨j, hj, h2⟩ := cnt_pos_ex (k := k) (S := fun i => U i && !S i) (by unfold diff at z; omega)
      have uj : U j = true := by revert h2; cases U j <;> simp
      have sj : S j = false := by revert h2; cases S j <;> simp
      have gi : G T i = true := by
        cases g : G T i with
        | true => rfl
        | false => rw [hf i hi g, si] at ui; cases ui
      have gj : G T j = true := by
        cases g : G T j with
        | true => rfl
        | false => rw [hf j hj g, sj] at uj; cases uj
      have ij : i ≠ j := fun e => by rw [e, sj] at si; cases si
      have s1 : Step k G S (flip S j) := .up hj sj (by rw [cs]; exact gj)
      have c1 : cnt k (flip S j) = T + 1 := by rw [cnt_flip_up hj sj, cs]
      have s2 : Step k G (flip S j) (flip (flip S j) i) := .dn hi (by rw [flip_ne _ ij]; exact si) (by rw [c1, Nat.add_sub_cancel]; exact gi)
      have c2 := cnt_flip_dn (k := k) (S := flip S j) hi (by rw [flip_ne _ ij]; exact si)
      refine ((Reach.one s1).trans (Reach.one s2)).trans (ih _ U ?_ (by omega) cu (fun l hl g => ?_) (fun l hl => ?_))
      · have e : (fun l => flip (flip S j) i l && !U l) = flip (fun l => S l && !U l) i := by
          funext l
          by_cases li : l = i
          · subst li
            rw [flip_self, flip_self, flip_ne _ ij, si, ui]
            rfl
          · rw [flip_ne _ li, flip_ne _ li]
            by_cases lj : l = j
            · subst lj
              rw [flip_self, sj, uj]
              rfl
            · rw [flip_ne _ lj]
        unfold diff
        rw [e]
        have := cnt_flip_dn (k := k) (S := fun l => S l && !U l) hi h1
        unfold diff at hd
        omega
      · have li : l ≠ i := fun e => by rw [e, gi] at g; cases g
        have lj : l ≠ j := fun e => by rw [e, gj] at g; cases g
        rw [flip_ne _ li, flip_ne _ lj]
        exact hf l hl g
      · rw [flip_ne _ (show l ≠ i by omega), flip_ne _ (show l ≠ j by omega)]
        exact ho l hl
/-! ### which lot a standing is in -/
/-- from below it gets to the top's number -/
def Rises (k : Nat) (G : Nat → Nat → Bool) (T : Nat) (S : Nat → Bool) : Prop := cnt k S ≤ T ∧ ∀ n, cnt k S ≤ n → n < T → n < cnt k (fun i => S i || G n i)
/-- from above -/
def Sinks (k : Nat) (G : Nat → Nat → Bool) (T : Nat) (S : Nat → Bool) : Prop := T < cnt k S ∧ ∀ s, T ≤ s → s < cnt k S → cnt k (fun i => S i && !G s i) ≤ s
theorem Rises.to {T : Nat} (t : Top k G T) (h : Rises k G T S) : ∃ U, Reach k G S U ∧ cnt k U = T := by
  obtain ⟨U, r, c, _⟩ := fill t.up T (by omega) h.1 h.2
  exact ⟨U, r, c⟩
theorem co_or (S : Nat → Bool) (f : Nat → Bool) : (fun i => co S i || f i) = co (fun i => S i && !f i) := by
  funext i
  show (!S i || f i) = !(S i && !f i)
  cases S i <;> cases f i <;> rfl
theorem Sinks.to {T : Nat} (t : Top k G T) (h : Sinks k G T S) : ∃ U, Reach k G S U ∧ cnt k U = T := by
  have tl := t.lt
  have c0 := cnt_co k S
  have cle := cnt_le k S
  obtain ⟨h1, h2⟩ := h
  obtain ⟨U, r, c, _⟩ := fill (k := k) (G := Th.dual k G) (S := co S) t.dual.up (k - 1 - T + 1) (by omega) (by omega) fun n a b => by
    have e : (fun i => co S i || Th.dual k G n i) = co (fun i => S i && !G (k - 1 - n) i) := co_or S _
    rw [e]
    have q := h2 (k - 1 - n) (by omega) (by omega)
    have c1 := cnt_co k (fun i => S i && !G (k - 1 - n) i)
    omega
  refine ⟨co U, ?_, ?_⟩
  · refine Reach.codual ?_
    rw [co_co]
    exact r
  · have := cnt_co k U
    omega
/-- two that get to the top's number and have the same fast ones here come to one another -/
theorem open_reach {T : Nat} (t : Top k G T) (hS : Rises k G T S ∨ Sinks k G T S) (hU : Rises k G T U ∨ Sinks k G T U) (hf : ∀ i, i < k → G T i = false → U i = S i) (ho : ∀ i, ¬ i < k → U i = S i) : Reach k G S U := by
  obtain ⟨S', rS, cS⟩ := hS.elim (fun h => h.to t) (fun h => h.to t)
  obtain ⟨U', rU, cU⟩ := hU.elim (fun h => h.to t) (fun h => h.to t)
  refine rS.trans (Reach.trans ?_ rU.symm)
  refine swap t _ S' U' (Nat.le_refl _) cS cU (fun i hi g => ?_) (fun i hi => ?_)
  · rw [fast_inv t rS i hi g, fast_inv t rU i hi g, hf i hi g]
  · rw [reach_out rS i hi, reach_out rU i hi, ho i hi]
/-- the first number at which filling is stuck -/
def StuckLow (k : Nat) (G : Nat → Nat → Bool) (N : Nat) (S : Nat → Bool) : Prop := cnt k S ≤ N ∧ (∀ n, cnt k S ≤ n → n < N → n < cnt k (fun i => S i || G n i)) ∧ cnt k (fun i => S i || G N i) ≤ N
theorem StuckLow.full {N : Nat} (h : StuckLow k G N S) {T : Nat} (t : Top k G T) (hN : N ≤ T) : ∃ U, Reach k G S U ∧ cnt k U = N ∧ ∀ i, i < k → U i = (S i || G N i) := stuck t.up hN h.1 h.2.1 h.2.2
theorem StuckLow.cnt_full {N : Nat} (h : StuckLow k G N S) {T : Nat} (t : Top k G T) (hN : N ≤ T) : cnt k (fun i => S i || G N i) = N := by
  obtain ⟨U, _, c, e⟩ := h.full t hN
  exact (cnt_congr e).symm.trans c
/-- nobody leaves the lot under it -/
theorem StuckLow.under {N T : Nat} (h : StuckLow k G N S) (t : Top k G T) (hN : N ≤ T) (r : Reach k G S U) : cnt k U ≤ N ∧ ∀ i, i < k → (U i || G N i) = (S i || G N i) := by
  refine Reach.inv (P := fun W => cnt k W ≤ N ∧ ∀ i, i < k → (W i || G N i) = (S i || G N i)) (low_inv t.up hN (h.cnt_full t hN) fun i _ g => by rw [g, Bool.or_true]) r ⟨h.1, fun _ _ => rfl⟩
/-- all of a lot are stuck alike -/
theorem StuckLow.same {N T : Nat} (h : StuckLow k G N S) (t : Top k G T) (hN : N ≤ T) (r : Reach k G S U) : StuckLow k G N U := by
  obtain ⟨c, e⟩ := h.under t hN r
  have ce : cnt k (fun i => U i || G N i) = N := by
    rw [cnt_congr e]
    exact h.cnt_full t hN
  refine ⟨c, fun n a b => ?_, by omega⟩
  -- stuck earlier it would never get to S's fullest one
  by_cases z : n < cnt k (fun i => U i || G n i)
  · exact z
  · exfalso
    -- the first such number
    have ex : ∃ m, cnt k U ≤ m ∧ m < N ∧ ¬ m < cnt k (fun i => U i || G m i) ∧ ∀ m', cnt k U ≤ m' → m' < m → m' < cnt k (fun i => U i || G m' i) := by
      clear ce e
      induction n using Nat.strongRecOn with
      | _ n ih =>
        by_cases q : ∀ m', cnt k U ≤ m' → m' < n → m' < cnt k (fun i => U i || G m' i)
        · exact ⟨n, a, b, z, q⟩
        · have : ∃ m', cnt k U ≤ m' ∧ m' < n ∧ ¬ m' < cnt k (fun i => U i || G m' i) := by
            refine Classical.byContradiction fun w => q fun m' x y => ?_
            refine Classical.byContradiction fun v => w ⟨m', x, y, v⟩
          obtain ⟨m', x, y, v⟩ := this
          exact ih m' y x (by omega) v
    obtain ⟨m, x, y, v, u⟩ := ex
    have sl : StuckLow k G m U := ⟨x, u, by omega⟩
    obtain ⟨F, rF, cF, _⟩ := h.full t hN
    have := (sl.under t (by omega) (r.symm.trans rF)).1
    omega
theorem StuckLow.iff {N T : Nat} (h : StuckLow k G N S) (t : Top k G T) (hN : N ≤ T) (ho : ∀ i, ¬ i < k → U i = S i) : Reach k G S U ↔ StuckLow k G N U ∧ ∀ i, i < k → (U i || G N i) = (S i || G N i) := by
  constructor
  · intro r
    exact ⟨h.same t hN r, (h.under t hN r).2⟩
  · rintro ⟨hu, e⟩
    obtain ⟨A, rA, _, eA⟩ := h.full t hN
    obtain ⟨B, rB, _, eB⟩ := hu.full t hN
    have : A = B := by
      funext i
      by_cases hi : i < k
      · rw [eA i hi, eB i hi, e i hi]
      · rw [reach_out rA i hi, reach_out rB i hi, ho i hi]
    rw [this] at rA
    exact rA.trans rB.symm
/-- each standing of no more than the top's number is stuck below it, or gets there -/
theorem low_or {T : Nat} (h : cnt k S ≤ T) : (∃ N, N < T ∧ StuckLow k G N S) ∨ Rises k G T S := by
  by_cases q : ∀ n, cnt k S ≤ n → n < T → n < cnt k (fun i => S i || G n i)
  · exact .inr ⟨h, q⟩
  · refine .inl ?_
    have : ∃ m, cnt k S ≤ m ∧ m < T ∧ ¬ m < cnt k (fun i => S i || G m i) := by
      refine Classical.byContradiction fun w => q fun m' x y => ?_
      refine Classical.byContradiction fun v => w ⟨m', x, y, v⟩
    obtain ⟨n, a, b, z⟩ := this
    clear q
    induction n using Nat.strongRecOn with
    | _ n ih =>
      by_cases q : ∀ m', cnt k S ≤ m' → m' < n → m' < cnt k (fun i => S i || G m' i)
      · exact ⟨n, b, a, q, by omega⟩
      · have : ∃ m', cnt k S ≤ m' ∧ m' < n ∧ ¬ m' < cnt k (fun i => S i || G m' i) := by
          refine Classical.byContradiction fun w => q fun m' x y => ?_
          refine Classical.byContradiction fun v => w ⟨m', x, y, v⟩
        obtain ⟨m', x, y, v⟩ := this
        exact ih m' y x (by omega) v
end
end Th
namespace Th
section
variable {k : Nat} {G : Nat → Nat → Bool} {S U W : Nat → Bool}
/-- i may go at U -/
def May (k : Nat) (G : Nat → Nat → Bool) (U : Nat → Bool) (i : Nat) : Prop := G (if U i = true then cnt k U - 1 else cnt k U) i = true
theorem May.step {i : Nat} (hi : i < k) (h : May k G U i) : Step k G U (flip U i) := by
  unfold May at h
  cases e : U i with
  | true => rw [e, if_pos rfl] at h; exact .dn hi e h
  | false => rw [e, if_neg Bool.false_ne_true] at h; exact .up hi e h
/-- ever goes -/
def Moves (k : Nat) (G : Nat → Nat → Bool) (S : Nat → Bool) (i : Nat) : Prop := ∃ U, Reach k G S U ∧ May k G U i
theorem moves_low {N T i : Nat} (h : StuckLow k G N S) (t : Top k G T) (hN : N ≤ T) (hi : i < k) : Moves k G S i ↔ 0 < N ∧ G (N - 1) i = true := by
  constructor
  · rintro ⟨U, r, m⟩
    obtain ⟨c, e⟩ := h.under t hN r
    unfold May at m
    cases u : U i with
    | true =>
      rw [u, if_pos rfl] at m
      have := cnt_pos hi u
      exact ⟨by omega, t.up _ _ _ (by omega) (by omega) m⟩
    | false =>
      rw [u, if_neg Bool.false_ne_true] at m
      by_cases z : cnt k U = N
      · exfalso
        rw [z] at m
        have cf := h.cnt_full t hN
        have hsub : ∀ j, j < k → U j = true → (S j || G N j) = true := fun j hj uj => by rw [← e j hj, uj]; rfl
        have := cnt_eq hsub (by omega) i hi (by rw [m, Bool.or_true])
        rw [u] at this
        cases this
      · exact ⟨by omega, t.up _ _ _ (by omega) (by omega) m⟩
  · rintro ⟨n0, g⟩
    obtain ⟨F, r, c, e⟩ := h.full t hN
    refine ⟨F, r, ?_⟩
    have fi : F i = true := by rw [e i hi, t.up _ _ _ (show N - 1 ≤ N by omega) hN g, Bool.or_true]
    unfold May
    rw [fi, if_pos rfl, c]
    exact g
/-- gets to the top's number, and there's somebody out who may go there -/
theorem moves_open {T i : Nat} (t : Top k G T) (hS : Rises k G T S ∨ Sinks k G T S) (hc : T < cnt k (fun i => S i || G T i)) (hi : i < k) : Moves k G S i ↔ G T i = true := by
  constructor
  · rintro ⟨U, r, m⟩
    unfold May at m
    have := cnt_le k U
    by_cases u : U i = true
    · rw [if_pos u] at m
      have := cnt_pos hi u
      exact t.all (by omega) m
    · rw [if_neg u] at m
      have u' : U i = false := by simpa using u
      have c := cnt_le k (flip U i)
      rw [cnt_flip_up hi u'] at c
      exact t.all (by omega) m
  · intro g
    obtain ⟨U, r, c⟩ := hS.elim (fun h => h.to t) (fun h => h.to t)
    by_cases u : U i = true
    · -- somebody j is out: exchange them
      have hf := fast_inv t r
      have ce : cnt k (fun i => U i || G T i) = cnt k (fun i => S i || G T i) := cnt_congr fun j hj => by
        cases q : G T j with
        | true => rw [Bool.or_true, Bool.or_true]
        | false => rw [Bool.or_false, Bool.or_false, hf j hj q]
      obtain ⟨j, hj, h1, h2⟩ := cnt_ex (k := k) (S := U) (U := fun i => U i || G T i) (by omega)
      have gj : G T j = true := by rw [h2] at h1; exact h1
      have ij : i ≠ j := fun e => by rw [e, h2] at u; cases u
      have s1 : Step k G U (flip U j) := .up hj h2 (by rw [c]; exact gj)
      have c1 : cnt k (flip U j) = T + 1 := by rw [cnt_flip_up hj h2, c]
      refine ⟨flip U j, r.step s1, ?_⟩
      unfold May
      rw [flip_ne _ ij, u, if_pos rfl, c1, Nat.add_sub_cancel]
      exact g
    · refine ⟨U, r, ?_⟩
      unfold May
      rw [if_neg u, c]
      exact g
/-- stuck at some number up to N, or not before it -/
theorem stuck_or (N : Nat) : (∃ n, n < N ∧ StuckLow k G n S) ∨ ∀ n, cnt k S ≤ n → n < N → n < cnt k (fun i => S i || G n i) := by
  by_cases h : cnt k S ≤ N
  · rcases low_or (k := k) (G := G) (S := S) h with ⟨n, a, b⟩ | r
    · exact .inl ⟨n, a, b⟩
    · exact .inr r.2
  · exact .inr fun n a b => by omega
/-- the three sorts of lots -/
theorem sorts {T : Nat} (t : Top k G T) : (∃ N, N ≤ T ∧ StuckLow k G N S) ∨ (∃ N, N ≤ k - 1 - T ∧ StuckLow k (Th.dual k G) N (co S)) ∨ ((Rises k G T S ∨ Sinks k G T S) ∧ T < cnt k (fun i => S i || G T i)) := by
  have tl := t.lt
  by_cases h : cnt k S ≤ T
  · rcases stuck_or (k := k) (G := G) (S := S) (T + 1) with ⟨N, a, b⟩ | r
    · exact .inl ⟨N, by omega, b⟩
    · exact .inr (.inr ⟨.inl ⟨h, fun n a b => r n a (by omega)⟩, r T h (by omega)⟩)
  · have c0 := cnt_co k S
    rcases stuck_or (k := k) (G := Th.dual k G) (S := co S) (k - 1 - T + 1) with ⟨N, a, b⟩ | r
    · exact .inr (.inl ⟨N, by omega, b⟩)
    · refine .inr (.inr ⟨.inr ⟨by omega, fun s a b => ?_⟩, ?_⟩)
      · have cle := cnt_le k S
        have q := r (k - 1 - s) (by omega) (by omega)
        have e : (fun i => co S i || Th.dual k G (k - 1 - s) i) = co (fun i => S i && !G s i) := by
          rw [co_or]
          funext i
          show (!(S i && !Th.dual k G (k - 1 - s) i)) = !(S i && !G s i)
          have := dual_dual_at (G := G) (k := k) (s := s) (by omega) i
          unfold Th.dual at this ⊢
          rw [this]
        rw [e] at q
        have c1 := cnt_co k (fun i => S i && !G s i)
        omega
      · have := cnt_mono (k := k) (S := S) (U := fun i => S i || G T i) fun i _ hs => by show (S i || G T i) = true; rw [hs]; rfl
        omega
theorem may_co {i : Nat} (hi : i < k) : May k (Th.dual k G) (co U) i ↔ May k G U i := by
  have c0 := cnt_co k U
  have cl := cnt_le k U
  unfold May Th.dual
  cases u : U i with
  | true =>
    have := cnt_pos hi u
    have e : co U i = false := by unfold co; rw [u]; rfl
    rw [e, if_neg Bool.false_ne_true, if_pos rfl, show k - 1 - cnt k (co U) = cnt k U - 1 by omega]
  | false =>
    have e : co U i = true := by unfold co; rw [u]; rfl
    have := cnt_pos (S := co U) hi e
    rw [e, if_pos rfl, if_neg Bool.false_ne_true, show k - 1 - (cnt k (co U) - 1) = cnt k U by omega]
theorem moves_co {i : Nat} (hi : i < k) : Moves k (Th.dual k G) (co S) i ↔ Moves k G S i := by
  constructor
  · rintro ⟨U, r, m⟩
    refine ⟨co U, ?_, ?_⟩
    · refine Reach.codual ?_
      rw [co_co]
      exact r
    · rw [← may_co hi, co_co]
      exact m
  · rintro ⟨U, r, m⟩
    exact ⟨co U, r.dual, (may_co hi).mpr m⟩
/-- stuck from above at N (of the turned sea): who moves -/
theorem moves_high {N T i : Nat} (h : StuckLow k (Th.dual k G) N (co S)) (t : Top k G T) (hN : N ≤ k - 1 - T) (hi : i < k) : Moves k G S i ↔ 0 < N ∧ G (k - N) i = true := by
  have tl := t.lt
  rw [← moves_co hi, moves_low h t.dual hN hi]
  constructor
  · rintro ⟨a, b⟩
    refine ⟨a, ?_⟩
    unfold Th.dual at b
    rw [show k - N = k - 1 - (N - 1) by omega]
    exact b
  · rintro ⟨a, b⟩
    refine ⟨a, ?_⟩
    unfold Th.dual
    rw [show k - 1 - (N - 1) = k - N by omega]
    exact b
end
end Th
namespace Th
section
variable {k : Nat} {G : Nat → Nat → Bool} {S U W : Nat → Bool}
def Sub (k : Nat) (A B : Nat → Bool) : Prop := ∀ i, i < k → A i = true → B i = true
/-- so many of Z, such that each set of a nested family is among them or they among it -/
theorem chain (F : Nat → Nat → Bool) (P : Nat → Prop) (nest : ∀ s s', P s → P s' → Sub k (F s) (F s') ∨ Sub k (F s') (F s)) (Z : Nat → Bool) (inZ : ∀ s, P s → Sub k (F s) Z) :
    ∀ m, m ≤ cnt k Z → ∃ A : Nat → Bool, Sub k A Z ∧ cnt k A = m ∧ (∀ i, ¬ i < k → A i = false) ∧ ∀ s, P s → Sub k A (F s) ∨ Sub k (F s) A := by
  intro m
  induction m with
  | zero =>
    intro _
    have e : ∀ n, cnt n (fun _ => false) = 0 := fun n => by
      induction n with
      | zero => rfl
      | succ n ih => rw [cnt_succ, ih]; rfl
    exact ⟨fun _ => false, (fun _ _ h => by cases h), e k, (fun _ _ => rfl), fun s _ => .inl (fun _ _ h => by cases h)⟩
  | succ m ih =>
    intro hm
    obtain ⟨A, a1, a2, a3, a4⟩ := ih (by omega)
    -- a smallest set of the family that isn't among them, or Z
    have pick : ∃ i, i < k ∧ A i = false ∧ Z i = true ∧ ∀ s, P s → ¬ Sub k (F s) A → F s i = true := by
      -- by how many members
      have go : ∀ n, (∃ s, P s ∧ ¬ Sub k (F s) A ∧ cnt k (F s) ≤ n) → ∃ i, i < k ∧ A i = false ∧ Z i = true ∧ ∀ s, P s → ¬ Sub k (F s) A → F s i = true := by
        intro n
        induction n using Nat.strongRecOn with
        | _ n ih2 =>
          rintro ⟨s, ps, hs, hn⟩
          by_cases q : ∃ s', P s' ∧ ¬ Sub k (F s') A ∧ cnt k (F s') < cnt k (F s)
          · obtain ⟨s', ps', hs', hlt⟩ := q
            exact ih2 (cnt k (F s')) (by omega) ⟨s', ps', hs', Nat.le_refl _⟩
          · have : ∃ i, i < k ∧ F s i = true ∧ A i = false := by
              refine Classical.byContradiction fun w => hs fun i hi f => ?_
              cases e : A i with
              | true => rfl
              | false => exact absurd ⟨i, hi, f, e⟩ w
            obtain ⟨i, hi, f, e⟩ := this
            refine ⟨i, hi, e, inZ s ps i hi f, fun s' ps' hs' => ?_⟩
            rcases nest s s' ps ps' with w | w
            · exact w i hi f
            · have hge : cnt k (F s) ≤ cnt k (F s') := by
                refine Classical.byContradiction fun v => q ⟨s', ps', hs', by omega⟩
              exact cnt_eq w hge i hi f
      by_cases q : ∃ s, P s ∧ ¬ Sub k (F s) A
      · obtain ⟨s, ps, hs⟩ := q
        exact go _ ⟨s, ps, hs, Nat.le_refl _⟩
      · obtain ⟨i, hi, z, e⟩ := cnt_ex (k := k) (S := A) (U := Z) (by omega)
        exact ⟨i, hi, e, z, fun s ps hs => absurd ⟨s, ps, hs⟩ q⟩
    obtain ⟨i, hi, e, z, hp⟩ := pick
    refine ⟨flip A i, fun j hj h => ?_, by rw [cnt_flip_up hi e, a2], fun j hj => ?_, fun s ps => ?_⟩
    · by_cases q : j = i
      · rw [q]; exact z
      · rw [flip_ne _ q] at h
        exact a1 j hj h
    · rw [flip_ne _ (show j ≠ i by omega)]
      exact a3 j hj
    · by_cases q : Sub k (F s) A
      · refine .inr fun j hj h => ?_
        by_cases w : j = i
        · subst w
          have := q j hj h
          rw [e] at this
          cases this
        · rw [flip_ne _ w]
          exact q j hj h
      · rcases a4 s ps with w | w
        · refine .inl fun j hj h => ?_
          by_cases v : j = i
          · rw [v]; exact hp s ps q
          · rw [flip_ne _ v] at h
            exact w j hj h
        · exact absurd w q
theorem cnt_diff {A B : Nat → Bool} (h : Sub k B A) : cnt k (fun i => A i && !B i) + cnt k B = cnt k A := by
  have e := cnt_split (k := k) A B
  have e2 : cnt k (fun i => A i && B i) = cnt k B := cnt_congr fun i hi => by
    cases b : B i with
    | true => rw [h i hi b]; rfl
    | false => rw [Bool.and_false]
  omega
theorem cnt_none {A : Nat → Bool} (h : ∀ i, i < k → A i = false) : cnt k A = 0 := by
  have := cnt_congr (k := k) (S := A) (U := fun _ => false) h
  have e : ∀ n, cnt n (fun _ => false) = 0 := fun n => by
    induction n with
    | zero => rfl
    | succ n ih => rw [cnt_succ, ih]; rfl
  rw [this, e]
/-- how few can come to lie here, of a lot that is stuck at N -/
theorem low_counts {N T n : Nat} (h : StuckLow k G N S) (t : Top k G T) (hN : N ≤ T) (hn : n ≤ N) : (∃ U, Reach k G S U ∧ cnt k U = n) ↔ ∀ m, m < N → m + 1 ≤ n + cnt k (G m) := by
  constructor
  · rintro ⟨U, r, c⟩ m hm
    by_cases z : n ≤ m
    · have q := (h.same t hN r).2.1 m (by omega) hm
      have e := cnt_or_not (k := k) U (G m)
      have e2 := cnt_mono (k := k) (S := fun i => G m i && !U i) (U := G m) fun i _ hh => by revert hh; cases G m i <;> simp
      omega
    · omega
  · intro hc
    have cf := h.cnt_full t hN
    -- the goers at N, so many of them out: the shallowest ones
    have cR : cnt k (fun i => S i && !G N i) + cnt k (G N) = N := by
      have e := cnt_or_not (k := k) (G N) S
      have e1 : (fun i => G N i || S i) = (fun i => S i || G N i) := funext fun i => Bool.or_comm _ _
      rw [e1] at e
      omega
    have hle : N - n ≤ cnt k (G N) := by
      by_cases z : N = 0
      · omega
      · have q := hc (N - 1) (by omega)
        have := cnt_mono (k := k) (S := G (N - 1)) (U := G N) fun i _ g => t.up _ _ _ (by omega) hN g
        omega
    obtain ⟨A, a1, a2, a3, a4⟩ := chain (k := k) G (fun m => m ≤ N) (fun s s' hs hs' => by
      by_cases z : s ≤ s'
      · exact .inl fun i _ g => t.up _ _ _ z (by omega) g
      · exact .inr fun i _ g => t.up _ _ _ (by omega) (by omega) g) (G N) (fun s hs i _ g => t.up _ _ _ hs hN g) (N - n) hle
    -- all others of the fullest one
    have hout : ∀ i, ¬ i < k → (fun i => if i < k then (S i || G N i) && !A i else S i) i = S i := fun i hi => by show (if i < k then (S i || G N i) && !A i else S i) = S i; rw [if_neg hi]
    have hin : ∀ i, i < k → (fun i => if i < k then (S i || G N i) && !A i else S i) i = ((S i || G N i) && !A i) := fun i hi => by show (if i < k then (S i || G N i) && !A i else S i) = _; rw [if_pos hi]
    have subA : Sub k A (fun i => S i || G N i) := fun i hi q => by show (S i || G N i) = true; rw [a1 i hi q, Bool.or_true]
    have cU : cnt k (fun i => if i < k then (S i || G N i) && !A i else S i) = n := by
      rw [cnt_congr hin]
      have := cnt_diff subA
      omega
    have or_eq : ∀ i, i < k → ((fun i => if i < k then (S i || G N i) && !A i else S i) i || G N i) = (S i || G N i) := fun i hi => by
      rw [hin i hi]
      cases q : A i with
      | true =>
        have := a1 i hi q
        rw [this, Bool.or_true, Bool.or_true]
      | false => cases S i <;> cases G N i <;> rfl
    have sl : StuckLow k G N (fun i => if i < k then (S i || G N i) && !A i else S i) := by
      refine ⟨by omega, fun m x y => ?_, ?_⟩
      · have q := hc m y
        -- all of the fullest one but those of A that aren't goers at m
        have e1 : cnt k (fun i => (fun i => if i < k then (S i || G N i) && !A i else S i) i || G m i) = cnt k (fun i => (S i || G N i) && !(A i && !G m i)) := cnt_congr fun i hi => by
          rw [hin i hi]
          cases g : G m i with
          | true =>
            rw [t.up _ _ _ (show m ≤ N by omega) hN g]
            cases S i <;> cases A i <;> rfl
          | false => cases S i <;> cases G N i <;> cases A i <;> rfl
        have sub2 : Sub k (fun i => A i && !G m i) (fun i => S i || G N i) := fun i hi w => subA i hi (by have w' : (A i && !G m i) = true := w; revert w'; cases A i <;> simp)
        have e2 := cnt_diff sub2
        rw [e1]
        rcases a4 m (by omega) with w | w
        · have e3 : cnt k (fun i => A i && !G m i) = 0 := cnt_none fun i hi => by
            cases q : A i with
            | false => rfl
            | true => rw [w i hi q]; rfl
          omega
        · have e3 := cnt_diff w
          omega
      · rw [cnt_congr or_eq]
        omega
    exact ⟨_, (h.iff t hN hout).mpr ⟨sl, or_eq⟩, cU⟩
/-- how many can come to lie here, of a lot that gets to the top's number -/
theorem open_counts {T n : Nat} (t : Top k G T) (hS : Rises k G T S ∨ Sinks k G T S) (hn : T ≤ n) : (∃ U, Reach k G S U ∧ cnt k U = n) ↔ n ≤ cnt k (fun i => S i || G T i) ∧ ∀ s, T ≤ s → s < k → n ≤ s + cnt k (G s) := by
  obtain ⟨V, rV, cV⟩ := hS.elim (fun h => h.to t) (fun h => h.to t)
  have tl := t.lt
  constructor
  · rintro ⟨U, r, c⟩
    have sub : Sub k U (fun i => S i || G T i) := fun i hi u => by
      cases g : G T i with
      | true => show (S i || G T i) = true; rw [g, Bool.or_true]
      | false =>
        rw [fast_inv t r i hi g] at u
        show (S i || G T i) = true
        rw [u]; rfl
    refine ⟨by rw [← c]; exact cnt_mono sub, fun s hs hk => ?_⟩
    by_cases z : n ≤ s
    · omega
    · -- U isn't stuck from above
      have c0 := cnt_co k U
      have cle := cnt_le k U
      rcases stuck_or (k := k) (G := Th.dual k G) (S := co U) (k - 1 - T + 1) with ⟨N, a, b⟩ | q
      · exfalso
        have hr := (rV.symm.trans r).symm.dual
        have := (b.under t.dual (by omega) hr).1
        have c1 := cnt_co k V
        omega
      · have q2 := q (k - 1 - s) (by omega) (by omega)
        have e : (fun i => co U i || Th.dual k G (k - 1 - s) i) = co (fun i => U i && !G s i) := by
          rw [co_or]
          funext i
          show (!(U i && !Th.dual k G (k - 1 - s) i)) = !(U i && !G s i)
          have := dual_dual_at (G := G) (k := k) (s := s) hk i
          unfold Th.dual at this ⊢
          rw [this]
        rw [e] at q2
        have c1 := cnt_co k (fun i => U i && !G s i)
        have c2 := cnt_split (k := k) U (G s)
        have c3 := cnt_mono (k := k) (S := fun i => U i && G s i) (U := G s) fun i _ h => by revert h; cases U i <;> simp
        omega
  · rintro ⟨h1, h2⟩
    have cR : cnt k (fun i => S i && !G T i) + cnt k (G T) = cnt k (fun i => S i || G T i) := by
      have e := cnt_or_not (k := k) (G T) S
      have e1 : (fun i => G T i || S i) = (fun i => S i || G T i) := funext fun i => Bool.or_comm _ _
      rw [e1] at e
      omega
    have rT : cnt k (fun i => S i && !G T i) ≤ T := by
      refine Nat.le_trans (cnt_mono (U := V) fun i hi q => ?_) (Nat.le_of_eq cV)
      have q' : (S i && !G T i) = true := q
      have g : G T i = false := by revert q'; cases G T i <;> cases S i <;> simp
      have s : S i = true := by revert q'; cases G T i <;> cases S i <;> simp
      rw [fast_inv t rV i hi g]
      exact s
    obtain ⟨A, a1, a2, a3, a4⟩ := chain (k := k) G (fun s => T ≤ s ∧ s < k) (fun s s' hs hs' => by
      by_cases z : s ≤ s'
      · exact .inr fun i _ g => t.dn _ _ _ hs.1 z hs'.2 g
      · exact .inl fun i _ g => t.dn _ _ _ hs'.1 (by omega) hs.2 g) (G T) (fun s hs i _ g => t.dn _ _ _ (Nat.le_refl _) hs.1 hs.2 g) (n - cnt k (fun i => S i && !G T i)) (by omega)
    have hout : ∀ i, ¬ i < k → (fun i => if i < k then (S i && !G T i) || A i else S i) i = S i := fun i hi => by show (if i < k then (S i && !G T i) || A i else S i) = S i; rw [if_neg hi]
    have hin : ∀ i, i < k → (fun i => if i < k then (S i && !G T i) || A i else S i) i = ((S i && !G T i) || A i) := fun i hi => by show (if i < k then (S i && !G T i) || A i else S i) = _; rw [if_pos hi]
    have cU : cnt k (fun i => if i < k then (S i && !G T i) || A i else S i) = n := by
      rw [cnt_congr hin, cnt_or_not]
      have : cnt k (fun i => A i && !(S i && !G T i)) = cnt k A := cnt_congr fun i hi => by
        cases q : A i with
        | false => rfl
        | true => rw [a1 i hi q]; cases S i <;> rfl
      omega
    refine ⟨_, open_reach t hS ?_ (fun i hi g => ?_) hout, cU⟩
    · by_cases z : n = T
      · exact .inl ⟨by omega, fun m x y => by omega⟩
      · refine .inr ⟨by omega, fun s x y => ?_⟩
        rw [cU] at y
        have sk : s < k := by
          have := cnt_le k (fun i => if i < k then (S i && !G T i) || A i else S i)
          omega
        have q := h2 s x sk
        have e1 : cnt k (fun i => (fun i => if i < k then (S i && !G T i) || A i else S i) i && !G s i) ≤ cnt k (fun i => S i && !G T i) + cnt k (fun i => A i && !G s i) := by
          have e : cnt k (fun i => (fun i => if i < k then (S i && !G T i) || A i else S i) i && !G s i) ≤ cnt k (fun i => (S i && !G T i) || (A i && !G s i)) := cnt_mono fun i hi w => by
            rw [hin i hi] at w
            show ((S i && !G T i) || (A i && !G s i)) = true
            revert w
            cases S i <;> cases G T i <;> cases A i <;> cases G s i <;> simp
          have e2 := cnt_or_not (k := k) (fun i => S i && !G T i) (fun i => A i && !G s i)
          have e3 := cnt_mono (k := k) (S := fun i => (A i && !G s i) && !(S i && !G T i)) (U := fun i => A i && !G s i) fun i _ w => by revert w; cases (A i && !G s i) <;> simp
          omega
        rcases a4 s ⟨x, sk⟩ with w | w
        · have e3 : cnt k (fun i => A i && !G s i) = 0 := cnt_none fun i hi => by
            cases q : A i with
            | false => rfl
            | true => rw [w i hi q]; rfl
          omega
        · have e3 := cnt_diff w
          omega
    · show (if i < k then S i && !G T i || A i else S i) = S i
      rw [if_pos hi, g]
      cases q : A i with
      | true => rw [a1 i hi q] at g; cases g
      | false => cases S i <;> rfl
end
end Th

namespace Sh
open PySem PySem.Spec PyProof.Rows L2
def spRight : Sp := fun vs H Q _ => ∃ b : Addr, vs = [.ref b] ∧ BoxAt H b 100000 ∧ ∀ H', But b H H' → Q (.bl true) H'
end Sh

namespace Sh
open PySem PySem.Spec PyProof.Rows L2
theorem lv_ni {n : Nat} (L : List Nat) (h : L.length ≤ 100000) : Lv (n + 2) (.list ((L.map fun (i : Nat) => (i : Int)).map .int)) := lv_ints _ (by rw [List.length_map]; exact h)
theorem lv_two {n : Nat} {a b : PyData} (ha : Lv n a) (hb : Lv n b) : Lv (n + 1) (.list [a, b]) := ⟨by show 2 ≤ 100000; decide, fun e he => by
  rcases List.mem_cons.mp he with z | z
  · rw [z]; exact ha
  · rw [List.mem_singleton.mp z]; exact hb⟩
end Sh

namespace Sh
open PySem PySem.Spec PyProof.Rows L2
/-! ### windows, goers, seas beside the box -/
theorem may_mk {h t : Int} {ds : List Int} {L : List Nat} {i : Nat} : mayB h t ds L i = decide (ds.getD i 0 ≤ mk h t ds.length (near L i : Int)) := by
  unfold mayB mk
  rw [Bool.eq_iff_iff, Bool.and_eq_true, decide_eq_true_eq, decide_eq_true_eq, decide_eq_true_eq]
  constructor
  · rintro ⟨a, b⟩
    split <;> omega
  · intro a
    split at a <;> omega
theorem in_lets {h t : Int} {ds : List Int} {L : List Nat} {i : Nat} (hi : i < ds.length) : inV (.int (i : Int)) (ni (lets h t ds L ds.length)) = mayB h t ds L i := by
  rw [in_ni, Bool.eq_iff_iff, decide_eq_true_eq]
  unfold lets
  rw [List.mem_filter, List.mem_range]
  exact ⟨fun q => q.2, fun q => ⟨hi, q⟩⟩
theorem in_gs {m : Int} {ds : List Int} {i : Nat} (hi : i < ds.length) : inV (.int (i : Int)) (((gs m ds ds.length).map fun (i : Nat) => (i : Int)).map V.int) = decide (ds.getD i 0 ≤ m) := by
  rw [← ni_ints, in_ni, Bool.eq_iff_iff, decide_eq_true_eq, decide_eq_true_eq]
  unfold gs
  rw [List.mem_filter, List.mem_range, decide_eq_true_eq]
  exact ⟨fun q => q.2, fun q => ⟨hi, q⟩⟩
/-- a sea that is none of the box -/
def SeaB (K : PySem.W.Frag) (H : Hp) (b : Addr) (v : V) (h t : Int) (ds : List Int) : Prop := ∃ p q, v = .ref p ∧ SqA K H p [.int h, .int t, .ref q] ∧ SqA K H q (ds.map V.int) ∧ p ≠ b ∧ q ≠ b
theorem SeaB.but {K : PySem.W.Frag} {H H' : Hp} {b : Addr} {v : V} {h t : Int} {ds : List Int} (s : SeaB K H b v h t ds) (u : But b H H') : SeaB K H' b v h t ds := let ⟨p, q, e, hp, hq, pb, qb⟩ := s; ⟨p, q, e, (Kp.ofB u pb).sa hp, (Kp.ofB u qb).sa hq, pb, qb⟩
theorem SeaB.a {K : PySem.W.Frag} {H : Hp} {b : Addr} {v : V} {h t : Int} {ds : List Int} (s : SeaB K H b v h t ds) : SeaA K H v h t ds := let ⟨p, q, e, hp, hq, _, _⟩ := s; ⟨p, q, e, hp, hq⟩
/-- a window as it is told: None, or a new pair -/
def WinAt (H H' : Hp) (sp : V) (lo hi : Int) : Prop := (lo > hi ∧ sp = .non) ∨ (¬ lo > hi ∧ ∃ a, sp = .ref a ∧ H a = none ∧ H' a = some (.tup [.int lo, .int hi]))
def spWin (K : PySem.W.Frag) : Sp := fun vs H Q _ => ∃ (v : V) (h t d : Int) (j : Nat) (ds : List Int), vs = [v, .int (j : Int)] ∧ SeaA K H v h t ds ∧ ds[j]? = some d ∧ ∀ (sp : V) (H' : Hp), Same H H' → WinAt H H' sp (lowI h d) (highI t ds.length d) → Q sp H'
theorem win_imp {K : PySem.W.Frag} (vs : List V) (H : Hp) (Q : VK) (E : XK) (z : spWin K vs H Q E) : spWindow K vs H Q E := by
  obtain ⟨v, h, t, d, j, ds, rfl, hv, hj, q⟩ := z
  exact ⟨v, h, t, d, j, ds, rfl, hv, hj, fun c => q .non H (Same.refl _) (.inl ⟨c, rfl⟩), fun c p np => q (.ref p) _ (same_new np) (.inr ⟨c, p, rfl, np, upd_same⟩)⟩
end Sh

namespace Sh
open PySem PySem.Spec PyProof.Rows L2
/-! ### lots as sets, crossings of lots -/
def mem (L : List Nat) : Nat → Bool := fun i => decide (i ∈ L)
theorem cnt_mem {c : Nat} {L : List Nat} (h : Lot c L) : Th.cnt c (mem L) = L.length := by
  unfold Th.cnt mem
  rw [List.countP_eq_length_filter]
  exact congrArg List.length h.mem_eq.symm
theorem mem_out {c : Nat} {L : List Nat} (h : Lot c L) {i : Nat} (hi : ¬ i < c) : mem L i = false := decide_eq_false fun z => hi (h.lt i z)
theorem lot_ext {c : Nat} {L M : List Nat} (h : Lot c L) (h' : Lot c M) (e : ∀ i, i < c → mem L i = mem M i) : L = M := by
  rw [h.mem_eq, h'.mem_eq]
  exact List.filter_congr fun i hi => e i (List.mem_range.mp hi)
/-- who goes at a step -/
def Gof (h t : Int) (ds : List Int) : Nat → Nat → Bool := fun s i => decide (ds.getD i 0 ≤ mk h t ds.length (s : Int))
theorem near_cnt {c : Nat} {L : List Nat} (h : Lot c L) {i : Nat} (hi : i < c) : near L i = if i ∈ L then L.length - 1 else L.length := by
  by_cases z : i ∈ L
  · rw [if_pos z, near_in h]
    have e := filter_filter_len (fun j => decide (j ∈ L)) (fun j => decide (j = i)) (List.range c)
    have e1 : ((List.range c).filter fun j => decide (j ∈ L)).length = L.length := congrArg List.length h.mem_eq.symm
    have e2 : ((List.range c).filter fun j => decide (j ∈ L) && decide (j = i)).length = 1 := by
      rw [← one_of hi]
      congr 1
      refine List.filter_congr fun a _ => ?_
      by_cases q : a = i
      · subst q
        rw [decide_eq_true z]
        rfl
      · rw [decide_eq_false q, Bool.and_false]
    omega
  · rw [if_neg z]
    exact near_out z
theorem may_G {h t : Int} {ds : List Int} {L : List Nat} {i : Nat} : mayB h t ds L i = Gof h t ds (near L i) i := may_mk
/-- the standing behind i's going over -/
def gone (L : List Nat) (i : Nat) : List Nat := if i ∈ L then L.filter (fun j => !decide (j = i)) else L.filter (fun j => decide (j < i)) ++ i :: L.filter (fun j => decide (i < j))
theorem gone_lot {c : Nat} {L : List Nat} (h : Lot c L) {i : Nat} (hi : i < c) : Lot c (gone L i) := by
  unfold gone
  split
  · exact h.filter _
  · refine ⟨List.pairwise_append.mpr ⟨h.up.filter _, List.pairwise_cons.mpr ⟨fun a ha => ?_, h.up.filter _⟩, fun a ha b hb => ?_⟩, fun a ha => ?_⟩
    · simpa using (List.mem_filter.mp ha).2
    · have h1 : a < i := by simpa using (List.mem_filter.mp ha).2
      rcases List.mem_cons.mp hb with q | q
      · omega
      · have : i < b := by simpa using (List.mem_filter.mp q).2
        omega
    · rcases List.mem_append.mp ha with q | q
      · exact h.lt a (List.mem_filter.mp q).1
      · rcases List.mem_cons.mp q with q | q
        · omega
        · exact h.lt a (List.mem_filter.mp q).1
theorem gone_mem {L : List Nat} {i : Nat} : mem (gone L i) = Th.flip (mem L) i := by
  funext j
  unfold mem gone
  by_cases z : i ∈ L
  · rw [if_pos z]
    by_cases e : j = i
    · subst e
      rw [Th.flip_self]
      simp [z]
    · rw [Th.flip_ne _ e]
      simp [e]
  · rw [if_neg z]
    by_cases e : j = i
    · subst e
      rw [Th.flip_self]
      simp [z]
    · rw [Th.flip_ne _ e]
      by_cases q : j < i
      · simp [e, q]
        omega
      · have : i < j := by omega
        simp [e, q, this]
/-- one comes to the other -/
def Rl (h t : Int) (ds : List Int) (L M : List Nat) : Prop := Th.Reach ds.length (Gof h t ds) (mem L) (mem M)
theorem rl_one {h t : Int} {ds : List Int} {L : List Nat} {i : Nat} (hL : Lot ds.length L) (hi : i < ds.length) (m : mayB h t ds L i = true) : Rl h t ds L (gone L i) := by
  unfold Rl
  rw [gone_mem]
  rw [may_G, near_cnt hL hi] at m
  refine .one ?_
  by_cases z : i ∈ L
  · rw [if_pos z] at m
    exact .dn hi (decide_eq_true z) (by rw [cnt_mem hL]; exact m)
  · rw [if_neg z] at m
    exact .up hi (decide_eq_false z) (by rw [cnt_mem hL]; exact m)
/-- behind its going over it may go back -/
theorem may_back {h t : Int} {ds : List Int} {L : List Nat} {i : Nat} (hL : Lot ds.length L) (hi : i < ds.length) : near (gone L i) i = near L i := by
  rw [near_cnt (gone_lot hL hi) hi, near_cnt hL hi]
  have m : mem (gone L i) i = !mem L i := by rw [gone_mem, Th.flip_self]
  have c1 := cnt_mem hL
  have c2 := cnt_mem (gone_lot hL hi)
  rw [gone_mem] at c2
  by_cases z : i ∈ L
  · have z2 : ¬ i ∈ gone L i := fun q => by
      have : mem (gone L i) i = true := decide_eq_true q
      rw [m, show mem L i = true from decide_eq_true z] at this
      cases this
    have := Th.cnt_flip_dn (k := ds.length) (S := mem L) hi (decide_eq_true z)
    rw [if_pos z, if_neg z2]
    omega
  · have z2 : i ∈ gone L i := by
      have : mem (gone L i) i = true := by rw [m, show mem L i = false from decide_eq_false z]; rfl
      exact of_decide_eq_true this
    have := Th.cnt_flip_up (k := ds.length) (S := mem L) hi (decide_eq_false z)
    rw [if_neg z, if_pos z2]
    omega
theorem top_of (h t : Int) (ds : List Int) (hk : 0 < ds.length) : Th.Top ds.length (Gof h t ds) (topI h t ds.length).toNat := by
  have t0 := top_lo h t ds.length
  have t1 := top_hi h t hk
  refine ⟨by omega, fun s s' i a b g => ?_, fun s s' i a b c g => ?_⟩
  · have g' : ds.getD i 0 ≤ mk h t ds.length (s : Int) := of_decide_eq_true g
    refine decide_eq_true (Int.le_trans g' ?_)
    have b' : (s' : Int) ≤ topI h t ds.length := by omega
    clear g g' t0 t1
    unfold mk topI at *
    repeat' split
    all_goals (repeat' split at b')
    all_goals omega
  · have g' : ds.getD i 0 ≤ mk h t ds.length (s' : Int) := of_decide_eq_true g
    refine decide_eq_true (Int.le_trans g' ?_)
    have b' : topI h t ds.length ≤ (s : Int) := by omega
    clear g g' t0 t1
    unfold mk topI at *
    repeat' split
    all_goals (repeat' split at b')
    all_goals omega
/-! ### what is told of it -/
def IsMost (h t : Int) (ds : List Int) (L : List Nat) (m : Nat) : Prop := (∃ M, Lot ds.length M ∧ Rl h t ds L M ∧ M.length = m) ∧ ∀ M, Lot ds.length M → Rl h t ds L M → M.length ≤ m
def IsLeast (h t : Int) (ds : List Int) (L : List Nat) (m : Nat) : Prop := (∃ M, Lot ds.length M ∧ Rl h t ds L M ∧ M.length = m) ∧ ∀ M, Lot ds.length M → Rl h t ds L M → m ≤ M.length
def IsMovers (h t : Int) (ds : List Int) (L ms : List Nat) : Prop := Lot ds.length ms ∧ ∀ i, i < ds.length → (i ∈ ms ↔ ∃ M, Lot ds.length M ∧ Rl h t ds L M ∧ mayB h t ds M i = true)
theorem IsMost.uniq {h t : Int} {ds : List Int} {L L' : List Nat} {m m' : Nat} (r : Rl h t ds L L') (a : IsMost h t ds L m) (b : IsMost h t ds L' m') : m = m' := by
  obtain ⟨⟨M, l1, r1, e1⟩, h1⟩ := a
  obtain ⟨⟨M', l2, r2, e2⟩, h2⟩ := b
  have := h1 M' l2 (r.trans r2)
  have := h2 M l1 (r.symm.trans r1)
  omega
theorem IsLeast.uniq {h t : Int} {ds : List Int} {L L' : List Nat} {m m' : Nat} (r : Rl h t ds L L') (a : IsLeast h t ds L m) (b : IsLeast h t ds L' m') : m = m' := by
  obtain ⟨⟨M, l1, r1, e1⟩, h1⟩ := a
  obtain ⟨⟨M', l2, r2, e2⟩, h2⟩ := b
  have := h1 M' l2 (r.trans r2)
  have := h2 M l1 (r.symm.trans r1)
  omega
theorem IsMovers.uniq {h t : Int} {ds : List Int} {L L' ms ms' : List Nat} (r : Rl h t ds L L') (a : IsMovers h t ds L ms) (b : IsMovers h t ds L' ms') : ms = ms' := by
  refine lot_ext a.1 b.1 fun i hi => ?_
  unfold mem
  rw [decide_eq_decide, a.2 i hi, b.2 i hi]
  exact ⟨fun ⟨M, l, q, m⟩ => ⟨M, l, r.symm.trans q, m⟩, fun ⟨M, l, q, m⟩ => ⟨M, l, r.trans q, m⟩⟩
/-- a sea whose draughts are a tuple is handed in -/
def SeaD (K : PySem.W.Frag) (H : Hp) (v : V) (h t : Int) (ds : List Int) : Prop := ∃ p q, v = .ref p ∧ SqA K H p [.int h, .int t, .ref q] ∧ SqT K H q (ds.map V.int)
theorem SeaD.same {K : PySem.W.Frag} {H H' : Hp} {v : V} {h t : Int} {ds : List Int} (s : SeaD K H v h t ds) (e : Same H H') : SeaD K H' v h t ds := let ⟨p, q, a, b, c⟩ := s; ⟨p, q, a, Same.sqA e b, Same.tup e c⟩
theorem SeaD.a {K : PySem.W.Frag} {H : Hp} {v : V} {h t : Int} {ds : List Int} (s : SeaD K H v h t ds) : SeaA K H v h t ds := let ⟨p, q, a, b, c⟩ := s; ⟨p, q, a, b, .inr c⟩
def spMost (K : PySem.W.Frag) : Sp := fun vs H Q _ => ∃ (v l : V) (h t : Int) (ds : List Int) (L : List Nat), vs = [v, l] ∧ SeaD K H v h t ds ∧ LotA K H l L ∧ ds.length ≤ 60 ∧ 0 < ds.length ∧ Lot ds.length L ∧ ∀ (H' : Hp) (m : Nat), Same H H' → IsMost h t ds L m → Q (.int (m : Int)) H'
def spLeast (K : PySem.W.Frag) : Sp := fun vs H Q _ => ∃ (v l : V) (h t : Int) (ds : List Int) (L : List Nat), vs = [v, l] ∧ SeaD K H v h t ds ∧ LotA K H l L ∧ ds.length ≤ 60 ∧ 0 < ds.length ∧ Lot ds.length L ∧ ∀ (H' : Hp) (m : Nat), Same H H' → IsLeast h t ds L m → Q (.int (m : Int)) H'
def spMovers (K : PySem.W.Frag) : Sp := fun vs H Q _ => ∃ (v l : V) (h t : Int) (ds : List Int) (L : List Nat), vs = [v, l] ∧ SeaD K H v h t ds ∧ LotA K H l L ∧ ds.length ≤ 60 ∧ 0 < ds.length ∧ Lot ds.length L ∧
  ∀ (H' : Hp) (p : Addr) (ms : List Nat), Same H H' → H p = none → H' p = some (.lst (ni ms)) → IsMovers h t ds L ms → Q (.ref p) H'
def spComes (K : PySem.W.Frag) : Sp := fun vs H Q _ => ∃ (v l m : V) (h t : Int) (ds : List Int) (L M : List Nat), vs = [v, l, m] ∧ SeaD K H v h t ds ∧ LotA K H l L ∧ LotA K H m M ∧ ds.length ≤ 60 ∧ 0 < ds.length ∧ Lot ds.length L ∧ Lot ds.length M ∧
  ∀ (H' : Hp) (b : Bool), Same H H' → (b = true ↔ Rl h t ds L M) → Q (.bl b) H'
/-! ### turned about -/
def away (c : Nat) (L : List Nat) : List Nat := (List.range c).filter fun i => !decide (i ∈ L)
theorem away_lot (c : Nat) (L : List Nat) : Lot c (away c L) := (Lot.all c).filter _
theorem mk_turn {h t : Int} {k s : Nat} (hs : s < k) : mk t h k (s : Int) = mk h t k ((k - 1 - s : Nat) : Int) := by
  unfold mk
  split <;> split <;> omega
theorem mem_away {c : Nat} {L : List Nat} {i : Nat} (hi : i < c) : mem (away c L) i = !mem L i := by
  unfold mem away
  rw [Bool.eq_iff_iff, decide_eq_true_eq, List.mem_filter, List.mem_range]
  simp [hi]
end Sh

namespace Sh
/-! ### fleets: sums over sorts, and ships one by one -/
abbrev Srt := Int × Nat × Nat
def mny (ss : List Srt) : Nat := (ss.map fun x => x.2.1 + x.2.2).sum
theorem mny_cons (x : Srt) (l : List Srt) : mny (x :: l) = x.2.1 + x.2.2 + mny l := by
  unfold mny
  rw [List.map_cons, List.sum_cons]
theorem mny_snoc (l : List Srt) (x : Srt) : mny (l ++ [x]) = mny l + (x.2.1 + x.2.2) := by
  unfold mny
  rw [List.map_append, List.sum_append]
  simp
def ourn (ss : List Srt) : Nat := (ss.map fun x => x.2.1).sum
def gmF (ss : List Srt) (m : Int) : Nat := ((ss.filter fun x => decide (x.1 ≤ m)).map fun x => x.2.1 + x.2.2).sum
def filF (ss : List Srt) (m : Int) : Nat := (ss.map fun x => x.2.1 + if x.1 ≤ m then x.2.2 else 0).sum
def fxF (ss : List Srt) (m : Int) : List Nat := (ss.filter fun x => decide (x.1 > m)).map fun x => x.2.1
def turnF (ss : List Srt) : List Srt := ss.map fun x => (x.1, x.2.2, x.2.1)
theorem mny_turn (ss : List Srt) : mny (turnF ss) = mny ss := by
  unfold mny turnF
  rw [List.map_map]
  congr 1
  exact List.map_congr_left fun x _ => Nat.add_comm _ _
theorem turn_turn (ss : List Srt) : turnF (turnF ss) = ss := by
  unfold turnF
  rw [List.map_map]
  exact (List.map_congr_left fun x _ => rfl).trans (List.map_id ss)
/-- the ships of a fleet one by one -/
structure Rp (ss : List Srt) (k : Nat) (D : Nat → Int) (S : Nat → Bool) : Prop where
  here : ∀ P : Int → Bool, ((ss.filter fun x => P x.1).map fun x => x.2.1).sum = Th.cnt k (fun i => P (D i) && S i)
  there : ∀ P : Int → Bool, ((ss.filter fun x => P x.1).map fun x => x.2.2).sum = Th.cnt k (fun i => P (D i) && !S i)
theorem sum_two (f g : Srt → Nat) : ∀ l : List Srt, (l.map fun x => f x + g x).sum = (l.map f).sum + (l.map g).sum
  | [] => rfl
  | a :: l => by
    simp only [List.map_cons, List.sum_cons, sum_two f g l]
    omega
theorem sum_filter (P : Srt → Bool) (f : Srt → Nat) : ∀ l : List Srt, (l.map fun x => if P x = true then f x else 0).sum = ((l.filter P).map f).sum
  | [] => rfl
  | a :: l => by
    cases h : P a <;> simp [h, sum_filter P f l]
section
variable {ss : List Srt} {k : Nat} {D : Nat → Int} {S : Nat → Bool}
theorem Rp.gm (r : Rp ss k D S) (m : Int) : gmF ss m = Th.cnt k (fun i => decide (D i ≤ m)) := by
  unfold gmF
  rw [sum_two (fun x => x.2.1) (fun x => x.2.2), r.here fun d => decide (d ≤ m), r.there fun d => decide (d ≤ m)]
  exact (Th.cnt_split _ S).symm
theorem Rp.ourn (r : Rp ss k D S) : ourn ss = Th.cnt k S := by
  have e := r.here fun _ => true
  rw [List.filter_eq_self.mpr fun _ _ => rfl] at e
  exact e
theorem Rp.mny (r : Rp ss k D S) : mny ss = k := by
  have e := r.there fun _ => true
  rw [List.filter_eq_self.mpr fun _ _ => rfl] at e
  unfold Sh.mny
  rw [sum_two (fun x => x.2.1) (fun x => x.2.2), e]
  have e2 := r.ourn
  unfold Sh.ourn at e2
  rw [e2]
  exact Th.cnt_not S
theorem Rp.fil (r : Rp ss k D S) (m : Int) : filF ss m = Th.cnt k (fun i => S i || decide (D i ≤ m)) := by
  unfold filF
  rw [sum_two (fun x => x.2.1) (fun x => if x.1 ≤ m then x.2.2 else 0)]
  have e1 := r.ourn
  unfold Sh.ourn at e1
  have e2 : (ss.map fun x => if x.1 ≤ m then x.2.2 else 0).sum = Th.cnt k (fun i => decide (D i ≤ m) && !S i) := by
    rw [← r.there fun d => decide (d ≤ m), ← sum_filter]
    congr 1
    refine List.map_congr_left fun x _ => ?_
    by_cases z : x.1 ≤ m
    · rw [if_pos z, if_pos (decide_eq_true z)]
    · rw [if_neg z, if_neg (by simpa using z)]
  rw [e1, e2, Th.cnt_or_not]
theorem Rp.fx (r : Rp ss k D S) (m : Int) : (fxF ss m).sum = Th.cnt k (fun i => S i && !decide (D i ≤ m)) := by
  unfold fxF
  rw [r.here fun d => decide (d > m)]
  refine Th.cnt_congr fun i _ => ?_
  rw [Bool.and_comm]
  congr 1
  by_cases z : D i ≤ m
  · rw [decide_eq_true z, decide_eq_false (by omega)]; rfl
  · rw [decide_eq_false z, decide_eq_true (by omega)]; rfl
theorem Rp.turn (r : Rp ss k D S) : Rp (turnF ss) k D (Th.co S) := by
  refine ⟨fun P => ?_, fun P => ?_⟩
  · have e := r.there P
    unfold turnF
    rw [List.filter_map, List.map_map]
    exact e
  · have e := r.here P
    unfold turnF
    rw [List.filter_map, List.map_map]
    refine Eq.trans e ?_
    refine Th.cnt_congr fun i _ => ?_
    unfold Th.co
    rw [Bool.not_not]
end
/-- who goes at a step -/
def Gd (h t : Int) (k : Nat) (D : Nat → Int) : Nat → Nat → Bool := fun s i => decide (D i ≤ mk h t k (s : Int))
theorem top_lo' (h t : Int) (k : Nat) : 0 ≤ topI h t k := by
  unfold topI
  split <;> omega
theorem top_hi' (h t : Int) {k : Nat} (hk : 0 < k) : topI h t k < (k : Int) := by
  unfold topI
  repeat' split
  all_goals omega
theorem mk_le {h t : Int} {k : Nat} {s s' : Int} (s0 : 0 ≤ s) (a : s ≤ s') (b : s' ≤ topI h t k) : mk h t k s ≤ mk h t k s' := by
  unfold mk topI at *
  repeat' split
  all_goals (repeat' split at b)
  all_goals omega
theorem mk_dn {h t : Int} {k : Nat} {s s' : Int} (c : topI h t k ≤ s) (a : s ≤ s') (d : s' < (k : Int)) : mk h t k s' ≤ mk h t k s := by
  unfold mk topI at *
  repeat' split
  all_goals (repeat' split at c)
  all_goals omega
theorem mk_turn' {h t : Int} {k : Nat} {s : Int} : mk t h k s = mk h t k ((k : Int) - 1 - s) := by
  unfold mk
  split <;> split <;> omega
/-- up to the top the water here bounds -/
theorem mk_low {h t : Int} {k : Nat} {s : Int} (s0 : 0 ≤ s) (b : s < topI h t k) : mk h t k s = h + s := by
  unfold mk topI at *
  repeat' split at b
  all_goals split
  all_goals omega
theorem mk_high {h t : Int} {k : Nat} {s : Int} (s0 : 0 ≤ s) (b : s < (k : Int) - 1 - topI h t k) : mk t h k s = t + s := by
  unfold mk topI at *
  repeat' split at b
  all_goals split
  all_goals omega
theorem top_D (h t : Int) {k : Nat} (D : Nat → Int) (hk : 0 < k) : Th.Top k (Gd h t k D) (topI h t k).toNat := by
  have t0 := top_lo' h t k
  have t1 := top_hi' h t hk
  refine ⟨by omega, fun s s' i a b g => ?_, fun s s' i a b c g => ?_⟩
  · have g' : D i ≤ mk h t k (s : Int) := of_decide_eq_true g
    exact decide_eq_true (Int.le_trans g' (mk_le (by omega) (by omega) (by omega)))
  · have g' : D i ≤ mk h t k (s' : Int) := of_decide_eq_true g
    exact decide_eq_true (Int.le_trans g' (mk_dn (by omega) (by omega) (by omega)))
theorem Gd_turn {h t : Int} {k : Nat} {D : Nat → Int} {s i : Nat} (hs : s < k) : Gd t h k D s i = Th.dual k (Gd h t k D) s i := by
  unfold Gd Th.dual
  rw [mk_turn', show ((k : Int) - 1 - (s : Int)) = ((k - 1 - s : Nat) : Int) by omega]
/-! ### stuck, by sums -/
def StuckF (h t : Int) (ss : List Srt) (N : Nat) : Prop := ourn ss ≤ N ∧ (∀ n : Nat, ourn ss ≤ n → n < N → n < filF ss (mk h t (mny ss) (n : Int))) ∧ filF ss (mk h t (mny ss) (N : Int)) ≤ N
theorem Rp.stuck {ss : List Srt} {k : Nat} {D : Nat → Int} {S : Nat → Bool} (r : Rp ss k D S) (h t : Int) (N : Nat) : StuckF h t ss N ↔ Th.StuckLow k (Gd h t k D) N S := by
  unfold StuckF Th.StuckLow
  rw [r.ourn, r.mny, r.fil]
  have e : ∀ n : Nat, filF ss (Sh.mk h t k (n : Int)) = Th.cnt k (fun i => S i || Gd h t k D n i) := fun n => r.fil _
  simp only [e]
  exact Iff.rfl
end Sh
namespace Th
theorem StuckLow.congr {k : Nat} {G G' : Nat → Nat → Bool} {S : Nat → Bool} {N : Nat} (hN : N < k) (e : ∀ s i, s < k → G s i = G' s i) (h : StuckLow k G N S) : StuckLow k G' N S := by
  have e2 : ∀ n, n < k → cnt k (fun i => S i || G n i) = cnt k (fun i => S i || G' n i) := fun n hn => cnt_congr fun i _ => by rw [e n i hn]
  refine ⟨h.1, fun n a b => ?_, ?_⟩
  · rw [← e2 n (by omega)]
    exact h.2.1 n a b
  · rw [← e2 N hN]
    exact h.2.2
/-- gets to the top's number, and somebody may go there -/
def Open (k : Nat) (G : Nat → Nat → Bool) (T : Nat) (S : Nat → Bool) : Prop := (Rises k G T S ∨ Sinks k G T S) ∧ T < cnt k (fun i => S i || G T i)
theorem Open.congr {k : Nat} {G G' : Nat → Nat → Bool} {T : Nat} {S : Nat → Bool} (hT : T < k) (e : ∀ s i, s < k → G s i = G' s i) (h : Open k G T S) : Open k G' T S := by
  have e2 : ∀ n, n < k → cnt k (fun i => S i || G n i) = cnt k (fun i => S i || G' n i) := fun n hn => cnt_congr fun i _ => by rw [e n i hn]
  have e3 : ∀ n, n < k → cnt k (fun i => S i && !G n i) = cnt k (fun i => S i && !G' n i) := fun n hn => cnt_congr fun i _ => by rw [e n i hn]
  have cl := cnt_le k S
  refine ⟨h.1.imp (fun q => ⟨q.1, fun n a b => ?_⟩) (fun q => ⟨q.1, fun s a b => ?_⟩), ?_⟩
  · rw [← e2 n (by omega)]
    exact q.2 n a b
  · rw [← e3 s (by omega)]
    exact q.2 s a b
  · rw [← e2 T hT]
    exact h.2
theorem cnt_and_or {k : Nat} (S f : Nat → Bool) : cnt k (fun i => S i && !f i) + cnt k f = cnt k (fun i => S i || f i) := by
  have e := cnt_or_not (k := k) f S
  have e1 : (fun i => f i || S i) = (fun i => S i || f i) := funext fun i => Bool.or_comm _ _
  rw [e1] at e
  omega
theorem Open.dual {k : Nat} {G : Nat → Nat → Bool} {T : Nat} {S : Nat → Bool} (t : Top k G T) (h : Open k G T S) : Open k (Th.dual k G) (k - 1 - T) (co S) := by
  have tl := t.lt
  have c0 := cnt_co k S
  have cle := cnt_le k S
  have key : ∀ n, n < k → cnt k (fun i => co S i && !Th.dual k G (k - 1 - n) i) + cnt k (fun i => S i || G n i) = k := fun n hn => by
    have e : (fun i => co S i && !Th.dual k G (k - 1 - n) i) = co (fun i => S i || G n i) := by
      funext i
      have := dual_dual_at (G := G) (k := k) (s := n) hn i
      unfold Th.dual at this
      show (!S i && !G (k - 1 - (k - 1 - n)) i) = !(S i || G n i)
      rw [this]
      cases S i <;> cases G n i <;> rfl
    rw [e, Nat.add_comm]
    exact cnt_co k _
  have key2 : ∀ n, n < k → cnt k (fun i => co S i || Th.dual k G (k - 1 - n) i) + cnt k (fun i => S i && !G n i) = k := fun n hn => by
    have e : (fun i => co S i || Th.dual k G (k - 1 - n) i) = co (fun i => S i && !G n i) := by
      rw [co_or]
      funext i
      have := dual_dual_at (G := G) (k := k) (s := n) hn i
      unfold Th.dual at this
      show (!(S i && !G (k - 1 - (k - 1 - n)) i)) = !(S i && !G n i)
      rw [this]
    rw [e, Nat.add_comm]
    exact cnt_co k _
  obtain ⟨rs, hc⟩ := h
  have hf : cnt k (fun i => S i && !G T i) ≤ T := by
    rcases rs with q | q
    · exact Nat.le_trans (cnt_mono fun i _ w => by revert w; cases S i <;> simp) q.1
    · exact q.2 T (Nat.le_refl _) q.1
  refine ⟨?_, ?_⟩
  · rcases rs with ⟨q1, q2⟩ | ⟨q1, q2⟩
    · refine .inr ⟨by omega, fun s a b => ?_⟩
      have hk := key (k - 1 - s) (by omega)
      rw [show k - 1 - (k - 1 - s) = s by omega] at hk
      have : k - 1 - s < cnt k (fun i => S i || G (k - 1 - s) i) := by
        by_cases z : k - 1 - s = T
        · rw [z]; exact hc
        · exact q2 _ (by omega) (by omega)
      omega
    · refine .inl ⟨by omega, fun n a b => ?_⟩
      have hk := key2 (k - 1 - n) (by omega)
      rw [show k - 1 - (k - 1 - n) = n by omega] at hk
      have := q2 (k - 1 - n) (by omega) (by omega)
      omega
  · have hk := key2 T tl
    omega
/-- how few can come to lie here, of a lot that gets to the top's number -/
theorem open_counts_low {k : Nat} {G : Nat → Nat → Bool} {T n : Nat} {S : Nat → Bool} (t : Top k G T) (h : Open k G T S) (hn : n ≤ T + 1) : (∃ U, Reach k G S U ∧ cnt k U = n) ↔ cnt k (fun i => S i && !G T i) ≤ n ∧ ∀ m, m ≤ T → m + 1 ≤ n + cnt k (G m) := by
  have tl := t.lt
  have hd := h.dual t
  have oc := open_counts (n := k - n) t.dual hd.1 (by omega)
  have e1 : (∃ U, Reach k G S U ∧ cnt k U = n) ↔ ∃ U, Reach k (Th.dual k G) (co S) U ∧ cnt k U = k - n := by
    constructor
    · rintro ⟨U, r, c⟩
      refine ⟨co U, r.dual, ?_⟩
      have := cnt_co k U
      omega
    · rintro ⟨U, r, c⟩
      refine ⟨co U, ?_, ?_⟩
      · refine Reach.codual ?_
        rw [co_co]
        exact r
      · have := cnt_co k U
        omega
  have e2 : cnt k (fun i => co S i || Th.dual k G (k - 1 - T) i) + cnt k (fun i => S i && !G T i) = k := by
    have e : (fun i => co S i || Th.dual k G (k - 1 - T) i) = co (fun i => S i && !G T i) := by
      rw [co_or]
      funext i
      have := dual_dual_at (G := G) (k := k) (s := T) tl i
      unfold Th.dual at this
      show (!(S i && !G (k - 1 - (k - 1 - T)) i)) = !(S i && !G T i)
      rw [this]
    rw [e, Nat.add_comm]
    exact cnt_co k _
  rw [e1, oc]
  constructor
  · rintro ⟨a, b⟩
    refine ⟨by omega, fun m hm => ?_⟩
    have := b (k - 1 - m) (by omega) (by omega)
    unfold Th.dual at this
    rw [show k - 1 - (k - 1 - m) = m by omega] at this
    have this' : k - n ≤ k - 1 - m + cnt k (G m) := this
    omega
  · rintro ⟨a, b⟩
    refine ⟨by omega, fun s hs hk => ?_⟩
    have := b (k - 1 - s) (by omega)
    show k - n ≤ s + cnt k (G (k - 1 - s))
    omega
def IsMin (k : Nat) (G : Nat → Nat → Bool) (S : Nat → Bool) (n : Nat) : Prop := (∃ U, Reach k G S U ∧ cnt k U = n) ∧ ∀ U, Reach k G S U → n ≤ cnt k U
def IsMax (k : Nat) (G : Nat → Nat → Bool) (S : Nat → Bool) (n : Nat) : Prop := (∃ U, Reach k G S U ∧ cnt k U = n) ∧ ∀ U, Reach k G S U → cnt k U ≤ n
theorem IsMin.co {k : Nat} {G : Nat → Nat → Bool} {S : Nat → Bool} {n : Nat} (h : IsMin k (Th.dual k G) (co S) n) : n ≤ k ∧ IsMax k G S (k - n) := by
  obtain ⟨⟨U, r, c⟩, hm⟩ := h
  have cu := cnt_le k U
  refine ⟨by omega, ⟨Th.co U, ?_, ?_⟩, fun W rW => ?_⟩
  · refine Reach.codual ?_
    rw [co_co]
    exact r
  · have := cnt_co k U
    omega
  · have := hm _ rW.dual
    have := cnt_co k W
    omega
theorem IsMin.congr {k : Nat} {G G' : Nat → Nat → Bool} {S : Nat → Bool} {n : Nat} (e : ∀ s i, s < k → G s i = G' s i) (h : IsMin k G S n) : IsMin k G' S n := by
  obtain ⟨⟨U, r, c⟩, hm⟩ := h
  exact ⟨⟨U, r.congr e, c⟩, fun W rW => hm W (rW.congr fun s i hs => (e s i hs).symm)⟩
theorem stuck_min_high {k : Nat} {G : Nat → Nat → Bool} {T N : Nat} {S : Nat → Bool} (t : Top k G T) (hN : N ≤ T) (h : StuckLow k G N S) : IsMax k G S N := by
  obtain ⟨U, r, c, _⟩ := h.full t hN
  exact ⟨⟨U, r, c⟩, fun W rW => (h.under t hN rW).1⟩
end Th
namespace Sh
/-! ### the least number, as it's told -/
/-- m is the greatest of what least_in looks at -/
def LeastI (h t : Int) (ss : List Srt) (step : Int) (m : Int) : Prop :=
  (m = ((fxF ss (mk h t (mny ss) step)).sum : Int) ∨ ∃ e : Int, (e = step ∨ (∃ x ∈ ss, e = x.1 - h ∧ e < step)) ∧ 0 < e ∧ m = e - (gmF ss (mk h t (mny ss) (e - 1)) : Int)) ∧
  ((fxF ss (mk h t (mny ss) step)).sum : Int) ≤ m ∧ ∀ e : Int, (e = step ∨ (∃ x ∈ ss, e = x.1 - h ∧ e < step)) → 0 < e → e - (gmF ss (mk h t (mny ss) (e - 1)) : Int) ≤ m
/-- the ends are enough -/
theorem least_ends {h t : Int} {ss : List Srt} {N : Nat} {m0 : Int} (hm : ∀ m : Nat, m < N → mk h t (mny ss) (m : Int) = h + m)
    (ub : ∀ e : Int, (e = (N : Int) ∨ (∃ x ∈ ss, e = x.1 - h ∧ e < (N : Int))) → 0 < e → e - (gmF ss (mk h t (mny ss) (e - 1)) : Int) ≤ m0) :
    ∀ (j m : Nat), m < N → N - m = j → (m : Int) + 1 - (gmF ss (mk h t (mny ss) (m : Int)) : Int) ≤ m0 := by
  intro j
  induction j with
  | zero => intro m a b; omega
  | succ j ih =>
    intro m a b
    by_cases z : m + 1 = N
    · have := ub N (.inl rfl) (by omega)
      rw [show (N : Int) - 1 = (m : Int) by omega] at this
      omega
    · by_cases q : ∃ x ∈ ss, x.1 - h = (m : Int) + 1
      · obtain ⟨x, hx, e⟩ := q
        have := ub ((m : Int) + 1) (.inr ⟨x, hx, e.symm, by omega⟩) (by omega)
        rw [show (m : Int) + 1 - 1 = (m : Int) by omega] at this
        exact this
      · have i2 := ih (m + 1) (by omega) (by omega)
        rw [hm (m + 1) (by omega)] at i2
        rw [hm m a]
        have e : gmF ss (h + ((m + 1 : Nat) : Int)) = gmF ss (h + (m : Int)) := by
          unfold gmF
          congr 2
          refine List.filter_congr fun x hx => ?_
          rw [decide_eq_decide]
          have : ¬ x.1 - h = (m : Int) + 1 := fun w => q ⟨x, hx, w⟩
          omega
        rw [e] at i2
        omega
section
variable {ss : List Srt} {k : Nat} {D : Nat → Int} {S : Nat → Bool} {h t : Int}
theorem least_low (r : Rp ss k D S) {T N : Nat} (tp : Th.Top k (Gd h t k D) T) (hN : N ≤ T) (sl : Th.StuckLow k (Gd h t k D) N S) (hm : ∀ m : Nat, m < N → mk h t k (m : Int) = h + m) {m0 : Int} (L : LeastI h t ss (N : Int) m0) :
    ∃ n : Nat, m0 = (n : Int) ∧ Th.IsMin k (Gd h t k D) S n := by
  obtain ⟨l1, l2, l3⟩ := L
  have km := r.mny
  have hends := least_ends (h := h) (t := t) (ss := ss) (N := N) (by rw [km]; exact hm) l3
  have efx := r.fx (mk h t (mny ss) (N : Int))
  rw [km] at efx hends l1 l2 l3
  have gme : ∀ m : Nat, gmF ss (mk h t k (m : Int)) = Th.cnt k (Gd h t k D m) := fun m => r.gm _
  have fxle : (fxF ss (mk h t k (N : Int))).sum ≤ Th.cnt k S := by
    rw [efx]
    exact Th.cnt_mono fun i _ w => by revert w; cases S i <;> simp
  have m0N : m0 ≤ (N : Int) := by
    have := sl.1
    rcases l1 with e | ⟨e, he, e0, e1⟩
    · omega
    · rcases he with he | ⟨x, _, _, he⟩ <;> omega
  have cond : ∀ m, m < N → m + 1 ≤ m0.toNat + Th.cnt k (Gd h t k D m) := fun m a => by
    have := hends _ m a rfl
    rw [gme] at this
    omega
  refine ⟨m0.toNat, by omega, (Th.low_counts sl tp hN (by omega)).mpr cond, fun U rU => ?_⟩
  have ur := sl.under tp hN rU
  have lc := (Th.low_counts sl tp hN ur.1).mp ⟨U, rU, rfl⟩
  rcases l1 with e | ⟨e, he, e0, e1⟩
  · have : Th.cnt k (fun i => S i && !Gd h t k D N i) ≤ Th.cnt k U := Th.cnt_mono fun i hi w => by
      have := ur.2 i hi
      revert w this
      cases S i <;> cases U i <;> cases Gd h t k D N i <;> simp
    have e3 : (fxF ss (mk h t k (N : Int))).sum = Th.cnt k (fun i => S i && !Gd h t k D N i) := efx
    omega
  · have eN : e ≤ (N : Int) := by rcases he with he | ⟨x, _, _, he⟩ <;> omega
    have := lc (e - 1).toNat (by omega)
    rw [show e - 1 = (((e - 1).toNat : Nat) : Int) by omega, gme] at e1
    omega
theorem least_open (r : Rp ss k D S) {T : Nat} (tp : Th.Top k (Gd h t k D) T) (op : Th.Open k (Gd h t k D) T S) (hm : ∀ m : Nat, m < T → mk h t k (m : Int) = h + m) {m0 : Int} (L : LeastI h t ss (T : Int) m0) :
    ∃ n : Nat, m0 = (n : Int) ∧ Th.IsMin k (Gd h t k D) S n := by
  obtain ⟨l1, l2, l3⟩ := L
  have km := r.mny
  have hends := least_ends (h := h) (t := t) (ss := ss) (N := T) (by rw [km]; exact hm) l3
  have efx := r.fx (mk h t (mny ss) (T : Int))
  rw [km] at efx hends l1 l2 l3
  have e3 : (fxF ss (mk h t k (T : Int))).sum = Th.cnt k (fun i => S i && !Gd h t k D T i) := efx
  have gme : ∀ m : Nat, gmF ss (mk h t k (m : Int)) = Th.cnt k (Gd h t k D m) := fun m => r.gm _
  have fT : Th.cnt k (fun i => S i && !Gd h t k D T i) ≤ T := by
    rcases op.1 with q | q
    · exact Nat.le_trans (Th.cnt_mono fun i _ w => by revert w; cases S i <;> simp) q.1
    · exact q.2 T (Nat.le_refl _) q.1
  have m0N : m0 ≤ (T : Int) := by
    rcases l1 with e | ⟨e, he, e0, e1⟩
    · omega
    · rcases he with he | ⟨x, _, _, he⟩ <;> omega
  have ca := Th.cnt_and_or (k := k) S (Gd h t k D T)
  have opc := op.2
  refine ⟨m0.toNat, by omega, (Th.open_counts_low tp op (by omega)).mpr ⟨by omega, fun m a => ?_⟩, fun U rU => ?_⟩
  · by_cases z : m = T
    · subst z
      omega
    · have := hends _ m (by omega) rfl
      rw [gme] at this
      omega
  · by_cases z : Th.cnt k U ≤ T + 1
    · have lc := (Th.open_counts_low tp op z).mp ⟨U, rU, rfl⟩
      rcases l1 with e | ⟨e, he, e0, e1⟩
      · have := lc.1
        omega
      · have eN : e ≤ (T : Int) := by rcases he with he | ⟨x, _, _, he⟩ <;> omega
        have := lc.2 (e - 1).toNat (by omega)
        rw [show e - 1 = (((e - 1).toNat : Nat) : Int) by omega, gme] at e1
        omega
    · omega
end
end Sh

namespace Sh
open PySem PySem.Spec PyProof.Rows L2
theorem may_May {h t : Int} {ds : List Int} {L : List Nat} {i : Nat} (hL : Lot ds.length L) (hi : i < ds.length) : mayB h t ds L i = true ↔ Th.May ds.length (Gof h t ds) (mem L) i := by
  rw [may_G, near_cnt hL hi]
  unfold Th.May
  rw [cnt_mem hL]
  unfold mem
  by_cases z : i ∈ L
  · rw [if_pos z, decide_eq_true z, if_pos rfl]
  · rw [if_neg z, decide_eq_false z, if_neg Bool.false_ne_true]
/-- the lot of a set -/
def lotOf (c : Nat) (U : Nat → Bool) : List Nat := (List.range c).filter U
theorem lotOf_lot (c : Nat) (U : Nat → Bool) : Lot c (lotOf c U) := (Lot.all c).filter _
theorem lotOf_mem {c : Nat} {U : Nat → Bool} {i : Nat} (hi : i < c) : mem (lotOf c U) i = U i := by
  unfold mem lotOf
  rw [Bool.eq_iff_iff, decide_eq_true_eq, List.mem_filter, List.mem_range]
  exact ⟨fun q => q.2, fun q => ⟨hi, q⟩⟩
theorem lotOf_eq {h t : Int} {ds : List Int} {L : List Nat} {U : Nat → Bool} (hL : Lot ds.length L) (r : Th.Reach ds.length (Gof h t ds) (mem L) U) : mem (lotOf ds.length U) = U := by
  funext i
  by_cases hi : i < ds.length
  · exact lotOf_mem hi
  · rw [Th.reach_out r i hi, mem_out hL hi, mem_out (lotOf_lot _ _) hi]
/-- to be one of those that ever go, by lots or by sets -/
theorem ex_moves {h t : Int} {ds : List Int} {L : List Nat} (hL : Lot ds.length L) {i : Nat} (hi : i < ds.length) : (∃ M, Lot ds.length M ∧ Rl h t ds L M ∧ mayB h t ds M i = true) ↔ Th.Moves ds.length (Gof h t ds) (mem L) i := by
  constructor
  · rintro ⟨M, l, r, m⟩
    exact ⟨mem M, r, (may_May l hi).mp m⟩
  · rintro ⟨U, r, m⟩
    have e := lotOf_eq hL r
    refine ⟨lotOf ds.length U, lotOf_lot _ _, ?_, ?_⟩
    · unfold Rl
      rw [e]
      exact r
    · rw [may_May (lotOf_lot _ _) hi, e]
      exact m
theorem movers_moves {h t : Int} {ds : List Int} {L ms : List Nat} (hL : Lot ds.length L) (im : IsMovers h t ds L ms) {i : Nat} (hi : i < ds.length) : i ∈ ms ↔ Th.Moves ds.length (Gof h t ds) (mem L) i := by
  rw [im.2 i hi, ex_moves hL hi]
/-- the most, the least, by sets -/
theorem isMost_of {h t : Int} {ds : List Int} {L : List Nat} {n : Nat} (hL : Lot ds.length L) (q : Th.IsMax ds.length (Gof h t ds) (mem L) n) : IsMost h t ds L n := by
  obtain ⟨⟨U, r, c⟩, hm⟩ := q
  have e := lotOf_eq hL r
  refine ⟨⟨lotOf ds.length U, lotOf_lot _ _, ?_, ?_⟩, fun M l rM => ?_⟩
  · unfold Rl
    rw [e]
    exact r
  · rw [← cnt_mem (lotOf_lot _ _), e]
    exact c
  · rw [← cnt_mem l]
    exact hm _ rM
theorem isLeast_of {h t : Int} {ds : List Int} {L : List Nat} {n : Nat} (hL : Lot ds.length L) (q : Th.IsMin ds.length (Gof h t ds) (mem L) n) : IsLeast h t ds L n := by
  obtain ⟨⟨U, r, c⟩, hm⟩ := q
  have e := lotOf_eq hL r
  refine ⟨⟨lotOf ds.length U, lotOf_lot _ _, ?_, ?_⟩, fun M l rM => ?_⟩
  · unfold Rl
    rw [e]
    exact r
  · rw [← cnt_mem (lotOf_lot _ _), e]
    exact c
  · rw [← cnt_mem l]
    exact hm _ rM
end Sh

namespace Sh
open PySem PySem.Spec PyProof.Rows L2
def spGone (K : PySem.W.Frag) : Sp := fun vs H Q _ => ∃ (l : V) (L : List Nat) (c i : Nat), vs = [l, .int (i : Int)] ∧ LotA K H l L ∧ Lot c L ∧ c ≤ 1000 ∧ i < c ∧ ∀ (H' : Hp) (p : Addr), Same H H' → H p = none → H' p = some (.tup (ni (gone L i))) → Q (.ref p) H'
abbrev s__law_gone : Stmt := topS 34
theorem sc__law_gone : FnScope (["_law_lot_here", "_law_whom", "_law_mate"] : List Str) (["_law_lot_here", "_law_whom"] : List Str) (defScope s__law_gone) := ⟨rfl, rfl, rfl, by decide +kernel, rfl, by decide +kernel, by decide +kernel⟩
theorem b__law_gone (kV doc pm : Value) (an : Option Addr) (cdv ct : Value) (us : List Value) (hl : us.length = (["_law_lot_here", "_law_whom"] : List Str).length) : bindArgs (PySem.W.fnOf "_law_gone" "_law_gone" (defArgs s__law_gone) (defBody s__law_gone) (defScope s__law_gone) .none kV doc pm an cdv ct) ⟨us, []⟩ = pure ((["_law_lot_here", "_law_whom"] : List Str).zip us) :=
  match us, hl with | [_, _], _ => rfl
section
variable {P : Program} {w : World} {K : PySem.W.Frag} {mg : Str → Option Value} {base : Heap}
theorem ok_gone {k : Nat} (D : Df K mg "_law_gone" s__law_gone) (T : Bt mg) : Ok P w K mg base (k + 1) "_law_gone" s__law_gone ["_law_lot_here", "_law_whom"] (spGone K) := by
  refine D.ok sc__law_gone b__law_gone (fun vs H Q E h => ?_) (fun f cdv A outer s H vs Q E hr h => ?_)
  · obtain ⟨l, L, c, i, rfl, _⟩ := h
    rfl
  · obtain ⟨l, L, c, i, rfl, ⟨pl, rfl, hl⟩, hL, c1, hi, q⟩ := h
    have ll := hL.len
    refine ⟨_, (pss_cons (ps_if (pt_cmpR op_in_seq (pv 1) (pv 0) (by rfl))
        (pss_one (ps_ret (pe_callTy call_tuple_of (by rfl) T.tuple_ (by decide +kernel) (pa_cons (pe_lc (own := [("_law_mate", 2)]) (g := (gName 2)) (by rfl) sc__law_gone.nd (pi_seq (pv 0)) (blkOk_by (own := [("_law_mate", 2)]) (N := (["_law_lot_here", "_law_whom", "_law_mate"] : List Str)) (sc := defScope s__law_gone) (by decide +kernel)) (fun _ _ _ _ _ => (pg_name (i := 2) sc__law_gone.nd rfl (.inl rfl))) (fun _ _ _ _ _ => (pts_one (pt_cmpR op_ne (pv 2) (pv 1) (nomark _)))) (fun _ _ _ _ _ => (pv 2))) pa_nil))))
        pss_nil)
      (pss_one (ps_ret (pe_callTy call_tuple_of (by rfl) T.tuple_ (by decide +kernel) (pa_cons (pe_callB cr_sortedI (by rfl) T.sorted_ (by decide +kernel) (pa_cons (pe_op op_cat (pe_callTy call_list_of (by rfl) T.list_ (by decide +kernel) (pa_cons (pv 0) pa_nil)) (pe_lst (pa_cons (pv 1) pa_nil))) pa_nil)) pa_nil))))), ?_⟩
    refine ⟨_, rfl, _, rfl, pl, _, rfl, hl, rfl, ni_flat L, _, rfl, ?_⟩
    rw [if_neg Bool.false_ne_true, in_ni]
    by_cases z : i ∈ L
    · rw [decide_eq_true z]
      refine iteT ?_
      refine ⟨_, rfl, pl, _, H, rfl, hl, Kp.refl _ _, fun J hJ C nC => ?_⟩
      obtain ⟨G, g, W⟩ := hJ.walk
      refine lc_it W (fun j H' => Same H H' ∧ H' C = some (.lst (ni ((L.take j).filter fun m => !decide (m = i))))) ⟨same_new nC, upd_same⟩ (fun j H' _ z => g H' (.ofS z.1)) ?_ ?_
      · rintro j x H3 H4 hj ⟨s3, hC⟩ ⟨rfl, gx⟩
        rw [ni_len] at hj
        obtain rfl : .int ((L[j] : Nat) : Int) = x := Option.some.inj ((ni_get hj).symm.trans gx)
        refine ⟨rfl, ?_⟩
        refine ⟨_, rfl, _, rfl, rfl, _, rfl, ite2 (fun c => ?_) (fun c => ?_)⟩
        · have c0 : ¬ L[j] = i := fun e => by
            rw [e] at c
            simp at c
          refine ⟨_, rfl, _, hC, ?_, same_over s3 nC, ?_⟩
          · rw [ni_len]
            have h1 := List.length_filter_le (fun m => !decide (m = i)) (L.take j)
            rw [List.length_take] at h1
            exact small1000 (by omega)
          · rw [upd_same, take_succ_get hj, List.filter_append, ni_app, List.filter_cons_of_pos (by simpa using c0)]
            rfl
        · have c0 : L[j] = i := by
            by_cases e : L[j] = i
            · exact e
            · exfalso
              refine c ?_
              have z2 : ¬ V.int ((L[j] : Nat) : Int) = V.int (i : Int) := fun w => e (by have := V.int.inj w; omega)
              rw [decide_eq_false z2]
              rfl
          refine ⟨s3, ?_⟩
          rw [hC, take_succ_get hj, List.filter_append, List.filter_cons_of_neg (by simpa using c0)]
          simp
      rintro H3 ⟨s3, hC⟩
      rw [ni_len, List.take_length] at hC
      refine ⟨C, _, rfl, .inl ⟨SqL.of hC, fun p np => ?_⟩⟩
      refine q _ p (s3.trans (same_new np)) (s3.free np) ?_
      rw [upd_same, gone, if_pos z]
    · rw [decide_eq_false z]
      refine iteF ?_
      refine ⟨_, rfl, pl, _, rfl, hl, fun a na => ?_⟩
      have s1 : Same H (upd H a (.lst (ni L))) := same_new na
      have e1 : upd H a (.lst (ni L)) a = _ := upd_same
      generalize upd H a (.lst (ni L)) = H1 at s1 e1
      refine ⟨_, rfl, (by show 1 ≤ sizeLine; decide), fun o no => ?_⟩
      have s2 : Same H1 (upd H1 o (.lst [.int (i : Int)])) := same_new no
      have e2 : upd H1 o (.lst [.int (i : Int)]) o = _ := upd_same
      generalize upd H1 o (.lst [.int (i : Int)]) = H2 at s2 e2
      refine ⟨a, o, _, _, rfl, rfl, s2 _ _ e1, e2, ?_, fun ct nct => ?_⟩
      · rw [ni_len]
        show L.length + 1 ≤ sizeLine
        exact Nat.le_trans (show L.length + 1 ≤ 1001 by omega) (by decide)
      have s3 : Same H2 (upd H2 ct (.lst (ni L ++ [.int (i : Int)]))) := same_new nct
      have e3 : upd H2 ct (.lst (ni L ++ [.int (i : Int)])) ct = some (.lst (((L ++ [i]).map fun (i : Nat) => (i : Int)).map V.int)) := by
        rw [upd_same, ← ni_ints, ni_app]
        rfl
      generalize upd H2 ct (.lst (ni L ++ [.int (i : Int)])) = H3 at s3 e3
      refine ⟨ct, _, rfl, SqL.of e3, fun ns2 p2 pm2 up2 np2 => ?_⟩
      obtain ⟨L2, rfl, pL2, hL2⟩ := lot_sorted (c := c) pm2 up2 (List.nodup_append.mpr ⟨hL.up.imp Nat.ne_of_lt, by simp, fun a ha y hy => by rw [List.mem_singleton.mp hy]; exact fun e => z (e ▸ ha)⟩) fun j hj => by
        rcases List.mem_append.mp hj with y | y
        · exact hL.lt j y
        · rw [List.mem_singleton.mp y]
          exact hi
      have eg : L2 = gone L i := by
        refine lot_ext hL2 (gone_lot hL hi) fun j _ => ?_
        rw [gone_mem]
        unfold mem
        by_cases e : j = i
        · subst e
          rw [Th.flip_self]
          simp [z, pL2.mem_iff]
        · rw [Th.flip_ne _ e]
          simp [e, pL2.mem_iff]
      have s4 : Same H3 (upd H3 p2 (.lst ((L2.map fun (i : Nat) => (i : Int)).map V.int))) := same_new np2
      have e4 : upd H3 p2 (.lst ((L2.map fun (i : Nat) => (i : Int)).map V.int)) p2 = some (.lst (ni L2)) := by rw [upd_same, ni_ints]
      generalize upd H3 p2 (.lst ((L2.map fun (i : Nat) => (i : Int)).map V.int)) = H4 at s4 e4
      refine ⟨p2, _, rfl, .inl ⟨SqL.of e4, fun p np => ?_⟩⟩
      have s14 := s1.trans (s2.trans (s3.trans s4))
      refine q _ p (s14.trans (same_new np)) (s14.free np) ?_
      rw [upd_same, eg]
end
end Sh

/-! {t: v} with a tuple as key -/
namespace Sh
open PySem PySem.Spec PyProof.Rows L2
def tDispT (tk tv : TE) : TE := fun σ H Q => ∀ p, H p = none → tk σ (upd H p (.dT [])) fun x H1 => tv σ H1 fun y H2 => ∃ (kk : List Key) (b : Addr), x = .ref b ∧ H2 b = some (.tup (kk.map kV)) ∧ H2 p = some (.dT []) ∧ Q (.ref p) (upd H2 p (.dT [(kk, y)]))
theorem pe_dispT {X : Cx} {k v : Expr} {tk tv : TE} {pos : Pos} (hu : X.A.units + 1 < cLine) (hk : PE X k tk) (hv : PE X v tv) : PE X (.Dict [some k] [v] pos) (tDispT tk tv) := by
  refine ⟨fun pins s σ H Q I q => ?_⟩
  have hn := I.hok.fresh (Nat.le_refl s.heap.objs.size)
  have I1 := I.laid (a := s.heap.objs.size) (o := .dT []) (h' := s.heap.push { cls := .type "dict", data := .dict #[] }) (t' := s.toks) (fun _ _ q => Heap.get?_push_of_some _ q) (Nat.le_refl _) (dt_empty s.heap I.big)
  rw [arm_eval_Dict, zip_pairTrees [some k] [v] X.env pos rfl rfl, dictDisplay_pairs _ (by intro z; cases z) (by show 1 < 17; decide)]
  refine wpAny_bind (wpAny_standAt (wpAny_bind ?_))
  unfold subDict
  refine wpAny_bind (wpAny_alloc (wpAny_bind (wpAny_holding ?_)))
  rw [if_pos (show (pairTrees [some k] [v] X.env pos).length ≤ 15 by show 1 ≤ 15; decide)]
  refine wpAny_bind (pairTrees_cons_walk (thn (hk.run pins _ σ _ _ I1 (q _ hn)) fun u s1 ⟨x, H1, J1, rx, q1⟩ => thn (hv.run pins s1 σ H1 _ J1 q1) fun r s2 ⟨y, H2, I2, ry, q2⟩ => pairTrees_nil_walk ?_))
  obtain ⟨kk, b, rfl, eb, ep, q3⟩ := q2
  obtain rfl : u = Value.ref b := rx
  obtain ⟨z, hd, xs, rel, dd⟩ := dt_of I2.hok ep
  cases rel
  refine wpAny_holding (wpAny_bind ?_)
  rw [List.forIn_cons]
  refine wpAny_bind (wpAny_bind (wpAny_dictSet_heap (hsz := Nat.zero_le _) (show (tupleKind (mixKind X.prog X.w)).room X.A from Nat.lt_of_succ_lt hu) (key_of I2.hok eb) dd fun h' dd' hs => wpAny_pure ?_))
  show wpAny _ _ (forIn [] PUnit.unit _) _ _ _
  rw [List.forIn_nil]
  refine wpAny_pure (wpAny_pure (wpAny_pure (wpAny_pure ⟨.ref s.heap.objs.size, _, ?_, rfl, q3⟩)))
  obtain ⟨o, es, ep2, ho, h2, h3, h4, _, h5⟩ := dd'
  refine d_write I2 (by rw [ep]; exact True.intro) hs ⟨o, ho⟩ ⟨(by show 1 ≤ sizeLine; decide), hd, _, .cons ⟨rfl, ?_, ry⟩ .nil, o, es, ep2, ho, h2, h3, h4, h5⟩
  rw [upd_ne (ne_of eb ep (fun z => nomatch z))]
  exact eb
end Sh

namespace Sh
open PySem PySem.Spec PyProof.Rows L2
/-! ### all that a standing comes to, layer by layer: the mathematics -/
def kL (L : List Nat) : List Key := L.map fun (i : Nat) => Sum.inl (i : Int)
theorem kL_ni (L : List Nat) : (kL L).map kV = ni L := by
  unfold kL ni
  rw [List.map_map]
  rfl
theorem kL_inj {L M : List Nat} (h : kL L = kL M) : L = M := by
  have e := congrArg (List.map fun k : Key => match k with | .inl i => i.toNat | .inr _ => 0) h
  unfold kL at e
  rw [List.map_map, List.map_map] at e
  have id' : ((fun k : Key => match k with | .inl i => i.toNat | .inr _ => 0) ∘ fun (i : Nat) => (Sum.inl (i : Int) : Key)) = id := by
    funext i
    exact Int.toNat_natCast i
  rw [id', List.map_id, List.map_id] at e
  exact e
/-- an entry: a standing, how far -/
def ent (p : List Nat × Nat) : List Key × V := (kL p.1, .int (p.2 : Int))
theorem val_none {F : List (List Nat × Nat)} {M : List Nat} : valV (F.map ent) (kL M) = none ↔ ¬ M ∈ F.map (·.1) := by
  induction F with
  | nil => exact ⟨fun _ h => (by cases h), fun _ => rfl⟩
  | cons p F ih =>
    rw [List.map_cons, List.map_cons]
    by_cases e : kL p.1 = kL M
    · rw [valV_pos e]
      exact ⟨fun h => (by cases h), fun h => absurd (by rw [kL_inj e]; exact List.mem_cons_self) h⟩
    · rw [valV_neg e, ih]
      have ne : M ≠ p.1 := fun z => e (by rw [z])
      rw [List.mem_cons]
      exact ⟨fun h z => z.elim ne h, fun h z => h (.inr z)⟩
theorem val_some {F : List (List Nat × Nat)} {M : List Nat} (h : M ∈ F.map (·.1)) : ∃ n : Nat, valV (F.map ent) (kL M) = some (.int (n : Int)) := by
  induction F with
  | nil => cases h
  | cons p F ih =>
    rw [List.map_cons]
    by_cases e : kL p.1 = kL M
    · exact ⟨p.2, by rw [valV_pos e]; rfl⟩
    · rw [valV_neg e]
      rcases List.mem_cons.mp h with z | z
      · exact absurd (by rw [z]) e
      · exact ih z
/-- all lots of so many ships -/
def allLots : Nat → List (List Nat)
  | 0 => [[]]
  | c + 1 => allLots c ++ (allLots c).map fun L => L ++ [c]
theorem allLots_len : ∀ c, (allLots c).length = 2 ^ c
  | 0 => rfl
  | c + 1 => by
    show (allLots c ++ (allLots c).map fun L => L ++ [c]).length = 2 ^ (c + 1)
    rw [List.length_append, List.length_map, allLots_len c, Nat.pow_succ]
    omega
theorem lot_all : ∀ {c : Nat} {L : List Nat}, Lot c L → L ∈ allLots c
  | 0, L, h => by
    cases L with
    | nil => exact List.mem_cons_self
    | cons a r => exact absurd (h.lt a List.mem_cons_self) (by omega)
  | c + 1, L, h => by
    show L ∈ allLots c ++ (allLots c).map fun L => L ++ [c]
    by_cases z : c ∈ L
    · refine List.mem_append.mpr (.inr (List.mem_map.mpr ⟨L.filter (fun i => decide (i < c)), lot_all ⟨h.up.filter _, fun i hi => of_decide_eq_true (List.mem_filter.mp hi).2⟩, ?_⟩))
      refine lot_ext (c := c + 1) ⟨List.pairwise_append.mpr ⟨h.up.filter _, List.pairwise_singleton _ _, fun a ha b hb => ?_⟩, fun i hi => ?_⟩ h fun i hi => ?_
      · rw [List.mem_singleton.mp hb]
        exact of_decide_eq_true (List.mem_filter.mp ha).2
      · rcases List.mem_append.mp hi with q | q
        · exact h.lt i (List.mem_filter.mp q).1
        · rw [List.mem_singleton.mp q]
          omega
      · unfold mem
        rw [decide_eq_decide, List.mem_append, List.mem_filter, List.mem_singleton, decide_eq_true_eq]
        constructor
        · rintro (q | q)
          · exact q.1
          · rw [q]; exact z
        · intro q
          by_cases e : i = c
          · exact .inr e
          · exact .inl ⟨q, by omega⟩
    · refine List.mem_append.mpr (.inl (lot_all ⟨h.up, fun i hi => ?_⟩))
      have := h.lt i hi
      have : i ≠ c := fun e => z (e ▸ hi)
      omega
theorem nodup_len {α : Type} [DecidableEq α] : ∀ {l m : List α}, l.Nodup → (∀ x ∈ l, x ∈ m) → l.length ≤ m.length
  | [], _, _, _ => Nat.zero_le _
  | a :: l, m, nd, h => by
    obtain ⟨n1, n2⟩ := List.nodup_cons.mp nd
    have ha := h a List.mem_cons_self
    have e := nodup_len (l := l) (m := m.erase a) n2 fun x hx => (List.mem_erase_of_ne (fun e : x = a => n1 (e ▸ hx))).mpr (h x (List.mem_cons_of_mem _ hx))
    rw [List.length_erase_of_mem ha] at e
    have : 0 < m.length := List.length_pos_iff.mpr (List.ne_nil_of_mem ha)
    rw [List.length_cons]
    omega
/-- what has been found so far -/
structure Lay (h t : Int) (ds : List Int) (L : List Nat) (F : List (List Nat × Nat)) : Prop where
  lot : ∀ M ∈ F.map (·.1), Lot ds.length M ∧ Rl h t ds L M
  nd : (F.map (·.1)).Nodup
  beg : L ∈ F.map (·.1)
theorem Lay.len {h t : Int} {ds : List Int} {L : List Nat} {F : List (List Nat × Nat)} (y : Lay h t ds L F) : F.length ≤ 2 ^ ds.length := by
  have := nodup_len y.nd (m := allLots ds.length) fun M hM => lot_all (y.lot M hM).1
  rw [List.length_map, allLots_len] at this
  exact this
theorem Lay.one {h t : Int} {ds : List Int} {L : List Nat} (hL : Lot ds.length L) : Lay h t ds L [(L, 0)] := ⟨fun M hM => by
  obtain rfl : M = L := List.mem_singleton.mp hM
  exact ⟨hL, .refl _⟩, by simp, List.mem_cons_self⟩
theorem Lay.add {h t : Int} {ds : List Int} {L : List Nat} {F : List (List Nat × Nat)} (y : Lay h t ds L F) {M : List Nat} {n : Nat} (a : Lot ds.length M) (b : Rl h t ds L M) (c : ¬ M ∈ F.map (·.1)) : Lay h t ds L (F ++ [(M, n)]) := by
  refine ⟨fun X hX => ?_, ?_, ?_⟩
  · rw [List.map_append] at hX
    rcases List.mem_append.mp hX with z | z
    · exact y.lot X z
    · obtain rfl : X = M := List.mem_singleton.mp z
      exact ⟨a, b⟩
  · rw [List.map_append]
    refine List.nodup_append.mpr ⟨y.nd, by simp, fun x hx z hz => ?_⟩
    have e : z = M := List.mem_singleton.mp hz
    exact fun q => c (by rw [← e, ← q]; exact hx)
  · rw [List.map_append]
    exact List.mem_append.mpr (.inl y.beg)
/-- closed under all crossings -/
def Closed (h t : Int) (ds : List Int) (X : List (List Nat)) : Prop := ∀ M ∈ X, ∀ i, i < ds.length → mayB h t ds M i = true → gone M i ∈ X
theorem Lay.all {h t : Int} {ds : List Int} {L : List Nat} {F : List (List Nat × Nat)} (y : Lay h t ds L F) (hL : Lot ds.length L) (c : Closed h t ds (F.map (·.1))) {M : List Nat} (hM : Lot ds.length M) : M ∈ F.map (·.1) ↔ Rl h t ds L M := by
  constructor
  · exact fun h => (y.lot M h).2
  · intro r
    have key : ∀ {U : Nat → Bool}, Th.Reach ds.length (Gof h t ds) (mem L) U → lotOf ds.length U ∈ F.map (·.1) := fun {U} r => by
      induction r with
      | refl =>
        rw [show lotOf ds.length (mem L) = L from lot_ext (lotOf_lot _ _) hL fun i hi => lotOf_mem hi]
        exact y.beg
      | @step B W rB st ih =>
        have eB := lotOf_eq hL rB
        have lB := lotOf_lot ds.length B
        have cB := cnt_mem lB
        rw [eB] at cB
        have fin : ∀ i, i < ds.length → Gof h t ds (if B i = true then Th.cnt ds.length B - 1 else Th.cnt ds.length B) i = true → lotOf ds.length (Th.flip B i) ∈ F.map (·.1) := fun i hi g => by
          have mb : mayB h t ds (lotOf ds.length B) i = true := by
            rw [may_May lB hi, eB]
            exact g
          have e : lotOf ds.length (Th.flip B i) = gone (lotOf ds.length B) i := lot_ext (lotOf_lot _ _) (gone_lot lB hi) fun j hj => by
            rw [lotOf_mem hj, gone_mem, eB]
          rw [e]
          exact c _ ih i hi mb
        cases st with
        | @up i hi hs hg => exact fin i hi (by rw [hs, if_neg Bool.false_ne_true]; exact hg)
        | @dn i hi hs hg => exact fin i hi (by rw [hs, if_pos rfl]; exact hg)
    have := key r
    rw [show lotOf ds.length (mem M) = M from lot_ext (lotOf_lot _ _) hM fun i hi => lotOf_mem hi] at this
    exact this
theorem shaped_lots (Ls : List (List Nat)) : SeqAt.shaped (.list (Ls.map fun M => .tuple ((M.map fun (i : Nat) => (i : Int)).map .int))) = true := by
  have a : PyData.canLayAll0 (Ls.map fun M => .tuple ((M.map fun (i : Nat) => (i : Int)).map .int)) = true ∧ PyData.depthAll (Ls.map fun M => .tuple ((M.map fun (i : Nat) => (i : Int)).map .int)) ≤ 1 := by
    induction Ls with
    | nil => exact ⟨rfl, Nat.zero_le _⟩
    | cons M Ls ih =>
      obtain ⟨l1, l2⟩ := lay_ints (M.map fun (i : Nat) => (i : Int))
      constructor
      · show (PyData.canLayAll0 ((M.map fun (i : Nat) => (i : Int)).map .int) && _) = true
        rw [l1, ih.1]
        rfl
      · show max (PyData.depthAll ((M.map fun (i : Nat) => (i : Int)).map .int) + 1) _ ≤ 1
        rw [l2]
        exact Nat.max_le.mpr ⟨Nat.le_refl _, ih.2⟩
  unfold SeqAt.shaped
  rw [show PyData.canLay0 (.list (Ls.map fun M => .tuple ((M.map fun (i : Nat) => (i : Int)).map .int))) = _ from a.1, show PyData.depth (.list (Ls.map fun M => .tuple ((M.map fun (i : Nat) => (i : Int)).map .int))) = PyData.depthAll (Ls.map fun M => .tuple ((M.map fun (i : Nat) => (i : Int)).map .int)) + 1 from rfl]
  have : PyData.depthAll (Ls.map fun M => .tuple ((M.map fun (i : Nat) => (i : Int)).map .int)) + 1 ≤ 64 := by omega
  simpa using this
theorem dp_lots {K : PySem.W.Frag} {H : Hp} : ∀ {Ls : List (Addr × List Nat)}, (∀ p ∈ Ls, H p.1 = some (.tup (ni p.2))) → DpAll K H (Ls.map fun p => V.ref p.1) ((Ls.map (·.2)).map fun M => .tuple ((M.map fun (i : Nat) => (i : Int)).map .int))
  | [], _ => .nil
  | p :: Ls, h => by
    refine .cons ?_ (dp_lots fun q hq => h q (List.mem_cons_of_mem _ hq))
    have e := h p List.mem_cons_self
    rw [ni_ints] at e
    exact .tup (SqT.of e) (DpAll.ints _)
theorem eqv_lnil (Ls : List PyData) : PyData.eqv (.list Ls) (.list []) = Ls.isEmpty := by cases Ls <;> rfl
end Sh

namespace Sh
open PySem PySem.Spec PyProof.Rows L2
/-! ### all that a standing comes to, layer by layer: the law's own going -/
def spLayers (K : PySem.W.Frag) : Sp := fun vs H Q _ => ∃ (v : V) (pb : Addr) (h t : Int) (ds : List Int) (L : List Nat), vs = [v, .ref pb] ∧ SeaA K H v h t ds ∧ H pb = some (.tup (ni L)) ∧ ds.length ≤ 9 ∧ Lot ds.length L ∧
  ∀ (H' : Hp) (d : Addr) (F : List (List Nat × Nat)), Same H H' → H d = none → H' d = some (.dT (F.map ent)) → Lay h t ds L F → Closed h t ds (F.map (·.1)) → Q (.ref d) H'
abbrev s__law_layers : Stmt := topS 35
theorem sc__law_layers : FnScope (["_law_sea_here", "_law_begin", "_law_found", "_law_layer", "_law_later", "_law_lot_here", "_law_whom", "_law_there"] : List Str) (["_law_sea_here", "_law_begin"] : List Str) (defScope s__law_layers) := ⟨rfl, rfl, rfl, by decide +kernel, rfl, by decide +kernel, by decide +kernel⟩
theorem b__law_layers (kV doc pm : Value) (an : Option Addr) (cdv ct : Value) (us : List Value) (hl : us.length = (["_law_sea_here", "_law_begin"] : List Str).length) : bindArgs (PySem.W.fnOf "_law_layers" "_law_layers" (defArgs s__law_layers) (defBody s__law_layers) (defScope s__law_layers) .none kV doc pm an cdv ct) ⟨us, []⟩ = pure ((["_law_sea_here", "_law_begin"] : List Str).zip us) :=
  match us, hl with | [_, _], _ => rfl
/-- those of the list stand as tuples, and have been found -/
def Front (H : Hp) (F : List (List Nat × Nat)) (Ls : List (Addr × List Nat)) : Prop := ∀ p ∈ Ls, H p.1 = some (.tup (ni p.2)) ∧ p.2 ∈ F.map (·.1)
theorem Front.same {H H' : Hp} {F : List (List Nat × Nat)} {Ls : List (Addr × List Nat)} (f : Front H F Ls) (e : Same H H') : Front H' F Ls := fun p hp => ⟨e _ _ (f p hp).1, (f p hp).2⟩
theorem Front.putL {H : Hp} {F : List (List Nat × Nat)} {Ls : List (Addr × List Nat)} {a : Addr} {xs ys : List V} (f : Front H F Ls) (e : H a = some (.lst xs)) : Front (upd H a (.lst ys)) F Ls := fun p hp => ⟨by
  have q := (f p hp).1
  rw [upd_ne (ne_of q e (by intro z; cases z))]
  exact q, (f p hp).2⟩
theorem Front.putD {H : Hp} {F : List (List Nat × Nat)} {Ls : List (Addr × List Nat)} {a : Addr} {xs ys : List (List Key × V)} (f : Front H F Ls) (e : H a = some (.dT xs)) : Front (upd H a (.dT ys)) F Ls := fun p hp => ⟨by
  have q := (f p hp).1
  rw [upd_ne (ne_of q e (by intro z; cases z))]
  exact q, (f p hp).2⟩
theorem Front.mono {H : Hp} {F F' : List (List Nat × Nat)} {Ls : List (Addr × List Nat)} (f : Front H F Ls) (m : ∀ M ∈ F.map (·.1), M ∈ F'.map (·.1)) : Front H F' Ls := fun p hp => ⟨(f p hp).1, m _ (f p hp).2⟩
/-- how it stands in a turn: what was found in it is in the later layer -/
structure Turn (h t : Int) (ds : List Int) (L : List Nat) (F F' : List (List Nat × Nat)) (Lt : List (Addr × List Nat)) : Prop where
  lay : Lay h t ds L F'
  sub : ∀ M ∈ F.map (·.1), M ∈ F'.map (·.1)
  len : F'.length = F.length + Lt.length
  new : ∀ M ∈ F'.map (·.1), M ∈ F.map (·.1) ∨ M ∈ Lt.map (·.2)
section
variable {P : Program} {w : World} {K : PySem.W.Frag} {mg : Str → Option Value} {base : Heap}
set_option maxHeartbeats 8000000 in
theorem ok_layers {k : Nat} (D : Df K mg "_law_layers" s__law_layers) (T : Bt mg) (O__law_lets : Ok P w K mg base k "_law_lets" s__law_lets ["_law_sea_here", "_law_lot_here"] (spLets K)) (O__law_gone : Ok P w K mg base k "_law_gone" s__law_gone ["_law_lot_here", "_law_whom"] (spGone K)) :
    Ok P w K mg base (k + 1) "_law_layers" s__law_layers ["_law_sea_here", "_law_begin"] (spLayers K) := by
  refine D.ok sc__law_layers b__law_layers (fun vs H Q E h => ?_) (fun f cdv A outer s H vs Q E hr h => ?_)
  · obtain ⟨v, pb, h, t, ds, L, rfl, _⟩ := h
    rfl
  · obtain ⟨v, pb, h, t, ds, L, rfl, hv, hb, d9, hL, q⟩ := h
    have p9 : 2 ^ ds.length ≤ 512 := Nat.le_trans (Nat.pow_le_pow_right (by decide) d9) (by decide)
    refine ⟨_, (pss_cons (ps_par (i := 2) (j := 3) (by rfl) sc__law_layers.nd rfl rfl (by decide) rfl rfl (pa_cons (pe_dispT (hu_of hr) (pv 1) pe_int) (pa_cons (pe_lst (pa_cons (pv 1) pa_nil)) pa_nil)) (by rfl))
      (pss_cons (ps_while PassesOwn.never (pt_cmpR (op_neD hr.units) (pv 3) (pe_lst pa_nil) (nomark _))
        (pss_cons (ps_set (i := 4) sc__law_layers.nd rfl (.inl rfl) (pe_lst pa_nil))
          (pss_cons (ps_for PassesOwn.never rfl (pi_seq (pv 3)) (pg_name (i := 5) sc__law_layers.nd rfl (.inl rfl))
            (pss_one (ps_for PassesOwn.never rfl (pi_seq (pe_fn O__law_lets (hr.mono (by omega)) (pa_cons (pv 0) (pa_cons (pv 5) pa_nil)))) (pg_name (i := 6) sc__law_layers.nd rfl (.inl rfl))
                (pss_cons (ps_set (i := 7) sc__law_layers.nd rfl (.inl rfl) (pe_fn O__law_gone (hr.mono (by omega)) (pa_cons (pv 5) (pa_cons (pv 6) pa_nil))))
                  (pss_one (ps_if (pt_cmp (pc_dnotin (hu_of hr) (pv 7) (pv 2)))
                    (pss_cons (ps_dput (hu_of hr) (pv 2) (pv 7) (pe_op op_add (pe_dget (hu_of hr) (pv 2) (pv 5) (fun _ _ => rfl)) pe_int) rfl)
                      (pss_one (ps_expr (pe_bm PySem.F.plainAttrs_list PySem.F.slot_list_append PySem.F.type_list_append mt_append (pv 4) (pa_cons (pv 7) pa_nil)))))
                    pss_nil))))))
          (pss_one (ps_set (i := 3) sc__law_layers.nd rfl (.inl rfl) (pv 4))))))
      (pss_one (ps_ret (pv 2))))), ?_⟩
    -- {begin: 0}
    intro d nd
    have bd : pb ≠ d := ne_of_none hb nd
    refine ⟨_, rfl, kL L, pb, rfl, by rw [upd_ne bd, kL_ni]; exact hb, upd_same, ?_⟩
    have s1 : Same H (upd (upd H d (.dT [])) d (.dT [(kL L, .int 0)])) := fun a o e => by
      rw [upd_ne (ne_of_none e nd), upd_ne (ne_of_none e nd)]
      exact e
    have e1 : upd (upd H d (.dT [])) d (.dT [(kL L, .int 0)]) d = some (.dT ([(L, 0)].map ent)) := upd_same
    generalize upd (upd H d (.dT [])) d (.dT [(kL L, .int 0)]) = H1 at s1 e1
    refine ⟨_, rfl, (by show 1 ≤ sizeLine; decide), fun lay nlay => ⟨_, _, rfl, ?_⟩⟩
    have s2 : Same H1 (upd H1 lay (.lst [.ref pb])) := same_new nlay
    have e2 : upd H1 lay (.lst [.ref pb]) lay = some (.lst ([(pb, L)].map fun p => V.ref p.1)) := upd_same
    generalize upd H1 lay (.lst [.ref pb]) = H2 at s2 e2
    have s02 := s1.trans s2
    -- the loop
    refine ⟨fun m σ H' => ∃ (lay : Addr) (y4 y5 y6 y7 : Option V) (F : List (List Nat × Nat)) (Ls : List (Addr × List Nat)), σ = [some v, some (.ref pb), some (.ref d), some (.ref lay), y4, y5, y6, y7] ∧ Same H H' ∧ H' d = some (.dT (F.map ent)) ∧ H' lay = some (.lst (Ls.map fun p => V.ref p.1)) ∧ Front H' F Ls ∧ Lay h t ds L F ∧
        (∀ M ∈ F.map (·.1), M ∈ Ls.map (·.2) ∨ ∀ i, i < ds.length → mayB h t ds M i = true → gone M i ∈ F.map (·.1)) ∧ m = 2 * (512 - F.length) + (if Ls = [] then 0 else 1) ∧ H lay = none,
      ⟨_, lay, none, none, none, none, [(L, 0)], [(pb, L)], rfl, s02, s2 _ _ e1, e2, ?_, Lay.one hL, ?_, rfl, s1.free nlay⟩, ?_⟩
    · intro p hp
      obtain rfl : p = (pb, L) := List.mem_singleton.mp hp
      exact ⟨s02 _ _ hb, List.mem_cons_self⟩
    · intro M hM
      exact .inl (show M ∈ [L] from hM)
    rintro m σ H3 ⟨lay, y4, y5, y6, y7, F, Ls, rfl, s3, hd, hlay, fr, ly, cl, rfl, nlay⟩
    refine ⟨_, rfl, Nat.zero_le _, fun z nz => ?_⟩
    have s4 : Same H3 (upd H3 z (.lst [])) := same_new nz
    have e4 : upd H3 z (.lst []) z = some (.lst []) := upd_same
    generalize upd H3 z (.lst []) = H4 at s4 e4
    have fr4 := fr.same s4
    have hd4 := s4 _ _ hd
    have hlay4 := s4 _ _ hlay
    have s04 := s3.trans s4
    refine ⟨_, .list [], .lst (SqL.of hlay4) (dp_lots fun p hp => (fr4 p hp).1), .lst (SqL.of e4) .nil, shaped_lots _, rfl, _, rfl, ?_⟩
    rw [eqv_lnil]
    cases Ls with
    | nil =>
      refine iteF ⟨_, rfl, q H4 d F s04 nd hd4 ly fun M hM i hi mb => ?_⟩
      rcases cl M hM with w | w
      · cases w
      · exact w i hi mb
    | cons p0 Ls0 =>
      refine iteT ⟨fun σ' H' => ∃ (lay : Addr) (y4 y5 y6 y7 : Option V) (F' : List (List Nat × Nat)) (Ls : List (Addr × List Nat)), σ' = [some v, some (.ref pb), some (.ref d), some (.ref lay), y4, y5, y6, y7] ∧ Same H H' ∧ H' d = some (.dT (F'.map ent)) ∧ H' lay = some (.lst (Ls.map fun p => V.ref p.1)) ∧ Front H' F' Ls ∧ Lay h t ds L F' ∧
        (∀ M ∈ F'.map (·.1), M ∈ Ls.map (·.2) ∨ ∀ i, i < ds.length → mayB h t ds M i = true → gone M i ∈ F'.map (·.1)) ∧ 2 * (512 - F'.length) + (if Ls = [] then 0 else 1) < 2 * (512 - F.length) + (if p0 :: Ls0 = [] then 0 else 1) ∧ H lay = none,
        fun σ' H' ⟨lay', y4', y5', y6', y7', F', Ls', z1, z2, z3, z4, z5, z6, z7, z8, z9⟩ => ⟨_, z8, lay', y4', y5', y6', y7', F', Ls', z1, z2, z3, z4, z5, z6, z7, rfl, z9⟩, ?_⟩
      generalize hLs : p0 :: Ls0 = Ls at fr4 cl hlay4
      -- later
      refine ⟨Nat.zero_le _, fun lt nlt => ?_⟩
      have s5 : Same H4 (upd H4 lt (.lst [])) := same_new nlt
      have e5 : upd H4 lt (.lst []) lt = some (.lst (([] : List (Addr × List Nat)).map fun p => V.ref p.1)) := upd_same
      generalize upd H4 lt (.lst []) = H5 at s5 e5
      have s05 := s04.trans s5
      have nlt0 : H lt = none := s04.free nlt
      have layd : lay ≠ d := ne_of hlay4 hd4 (by intro z; cases z)
      have layt : lay ≠ lt := ne_of_none hlay4 nlt
      refine ⟨_, rfl, lay, _, H5, rfl, SqA.l (s5 _ _ hlay4), Kp.refl _ _, fun J hJ => ?_⟩
      obtain ⟨G, g, W⟩ := hJ.walk
      refine for_it W (fun i σ H' => ∃ (y5 y6 y7 : Option V) (F' : List (List Nat × Nat)) (Lt : List (Addr × List Nat)), σ = [some v, some (.ref pb), some (.ref d), some (.ref lay), some (.ref lt), y5, y6, y7] ∧ Same H H' ∧ H' d = some (.dT (F'.map ent)) ∧ H' lay = some (.lst (Ls.map fun p => V.ref p.1)) ∧ H' lt = some (.lst (Lt.map fun p => V.ref p.1)) ∧ Front H' F' Ls ∧ Front H' F' Lt ∧ Turn h t ds L F F' Lt ∧
          (∀ p ∈ Ls.take i, ∀ x, x < ds.length → mayB h t ds p.2 x = true → gone p.2 x ∈ F'.map (·.1)))
        ⟨_, _, _, F, [], rfl, s05, s5 _ _ hd4, s5 _ _ hlay4, e5, fr4.same s5, fun p hp => (by cases hp), ⟨ly, fun M hM => hM, rfl, fun M hM => .inl hM⟩, fun p hp => (by simp at hp)⟩
        (fun i σ H' _ ⟨_, _, _, _, _, _, _, _, z, _⟩ => g H' fun o e => by rw [s5 _ _ hlay4] at e; cases e; exact z) ?_ ?_
      · rintro i x σ H6' H6 hi ⟨y5, y6, y7, F', Lt, rfl, s6, hd6, hlay6, hlt6, fr6, ft6, tu, cl6⟩ ⟨rfl, gx⟩
        rw [List.length_map] at hi
        obtain rfl : .ref Ls[i].1 = x := by
          have g3 : (Ls.map fun p => V.ref p.1)[i]? = some (.ref Ls[i].1) := by rw [List.getElem?_map, List.getElem?_eq_getElem hi]; rfl
          exact Option.some.inj (g3.symm.trans gx)
        obtain ⟨hM, kM⟩ := fr6 Ls[i] (List.getElem_mem hi)
        have lM := (tu.lay.lot _ kM).1
        have rM := (tu.lay.lot _ kM).2
        have lenM := lM.len
        -- lets
        refine ⟨_, rfl, _, rfl, v, .ref Ls[i].1, h, t, ds, Ls[i].2, rfl, hv.same s6, ⟨Ls[i].1, rfl, SqA.t hM⟩, by omega, by omega, fun H7 lp s7 nlp hlp => ?_⟩
        refine ⟨lp, _, H7, rfl, SqA.l hlp, Kp.refl _ _, fun J2 hJ2 => ?_⟩
        obtain ⟨G2, g2, W2⟩ := hJ2.walk
        have s07 := s6.trans s7
        have lpd : lp ≠ d := fun e => by rw [e, hd6] at nlp; cases nlp
        have lpt : lp ≠ lt := fun e => by rw [e, hlt6] at nlp; cases nlp
        refine for_it W2 (fun j σ H' => ∃ (y6 y7 : Option V) (F' : List (List Nat × Nat)) (Lt : List (Addr × List Nat)), σ = [some v, some (.ref pb), some (.ref d), some (.ref lay), some (.ref lt), some (.ref Ls[i].1), y6, y7] ∧ Same H H' ∧ H' d = some (.dT (F'.map ent)) ∧ H' lay = some (.lst (Ls.map fun p => V.ref p.1)) ∧ H' lt = some (.lst (Lt.map fun p => V.ref p.1)) ∧ H' lp = some (.lst (ni (lets h t ds Ls[i].2 ds.length))) ∧ Front H' F' Ls ∧ Front H' F' Lt ∧ Turn h t ds L F F' Lt ∧
            (∀ p ∈ Ls.take i, ∀ x, x < ds.length → mayB h t ds p.2 x = true → gone p.2 x ∈ F'.map (·.1)) ∧ (∀ x ∈ (lets h t ds Ls[i].2 ds.length).take j, gone Ls[i].2 x ∈ F'.map (·.1)))
          ⟨_, _, F', Lt, rfl, s07, s7 _ _ hd6, s7 _ _ hlay6, s7 _ _ hlt6, hlp, fr6.same s7, ft6.same s7, tu, cl6, fun x hx => (by simp at hx)⟩
          (fun j σ H' _ ⟨_, _, _, _, _, _, _, _, _, z, _⟩ => g2 H' fun o e => by rw [hlp] at e; cases e; exact z) ?_ ?_
        · rintro j x σ H8' H8 hj ⟨y6, y7, F8, Lt8, rfl, s8, hd8, hlay8, hlt8, hlp8, fr8, ft8, tu8, cl8, in8⟩ ⟨rfl, gx⟩
          rw [ni_len] at hj
          generalize hX : lets h t ds Ls[i].2 ds.length = X at hj in8 hlp8 gx
          obtain rfl : .int ((X[j] : Nat) : Int) = x := Option.some.inj ((ni_get hj).symm.trans gx)
          have xm : X[j] ∈ lets h t ds Ls[i].2 ds.length := by rw [hX]; exact List.getElem_mem hj
          have xk : X[j] < ds.length := List.mem_range.mp (List.mem_filter.mp xm).1
          have xmay : mayB h t ds Ls[i].2 X[j] = true := (List.mem_filter.mp xm).2
          obtain ⟨hM8, kM8⟩ := fr8 Ls[i] (List.getElem_mem hi)
          -- gone
          refine ⟨_, rfl, _, rfl, .ref Ls[i].1, Ls[i].2, ds.length, X[j], rfl, ⟨Ls[i].1, rfl, SqA.t hM8⟩, lM, by omega, xk, fun H9 th s9 nth hth => ?_⟩
          have lg := gone_lot lM xk
          have rg : Rl h t ds L (gone Ls[i].2 X[j]) := rM.trans (rl_one lM xk xmay)
          have s09 := s8.trans s9
          have hd9 := s9 _ _ hd8
          refine ⟨_, rfl, _, rfl, d, _, rfl, DGet.t (k := kL (gone Ls[i].2 X[j])) hd9 (by rw [kL_ni]; exact hth), _, rfl, ?_⟩
          by_cases c : gone Ls[i].2 X[j] ∈ F8.map (·.1)
          · obtain ⟨n, en⟩ := val_some c
            rw [en]
            refine iteF ⟨_, _, F8, Lt8, rfl, s09, hd9, s9 _ _ hlay8, s9 _ _ hlt8, s9 _ _ hlp8, fr8.same s9, ft8.same s9, tu8, cl8, fun x hx => ?_⟩
            rw [take_succ_get hj] at hx
            rcases List.mem_append.mp hx with w | w
            · exact in8 x w
            · rw [List.mem_singleton.mp w]
              exact c
          · rw [val_none.mpr c]
            refine iteT ?_
            obtain ⟨n, en⟩ := val_some kM8
            have len8 := tu8.lay.len
            refine ⟨_, rfl, _, rfl, d, _, rfl, (by rw [← en]; exact DGet.t hd9 (by rw [kL_ni]; exact s9 _ _ hM8)), _, 1, rfl, rfl, ?_⟩
            refine ⟨_, rfl, _, rfl, d, _, rfl, DPut.t (k := kL (gone Ls[i].2 X[j])) hd9 (by rw [kL_ni]; exact hth) ?_, ?_⟩
            · rw [List.length_map]
              exact small1000 (by omega)
            rw [putK_new _ (val_none.mpr c)]
            have ye := tu8.lay.add (n := n + 1) lg rg c
            have sub10 : ∀ M ∈ F8.map (·.1), M ∈ (F8 ++ [(gone Ls[i].2 X[j], n + 1)]).map (·.1) := fun M hM => by
              rw [List.map_append]
              exact List.mem_append.mpr (.inl hM)
            have in10 : gone Ls[i].2 X[j] ∈ (F8 ++ [(gone Ls[i].2 X[j], n + 1)]).map (·.1) := by
              rw [List.map_append]
              exact List.mem_append.mpr (.inr List.mem_cons_self)
            have hlt9 := s9 _ _ hlt8
            have ltd : lt ≠ d := ne_of hlt9 hd9 (by intro z; cases z)
            have thd : th ≠ d := ne_of hth hd9 (by intro z; cases z)
            have tht : th ≠ lt := ne_of hth hlt9 (by intro z; cases z)
            have e10 : upd H9 d (.dT (F8.map ent ++ [(kL (gone Ls[i].2 X[j]), .int ((n : Int) + 1))])) d = some (.dT ((F8 ++ [(gone Ls[i].2 X[j], n + 1)]).map ent)) := by
              rw [upd_same, List.map_append]
              rfl
            have f10 : upd H9 d (.dT (F8.map ent ++ [(kL (gone Ls[i].2 X[j]), .int ((n : Int) + 1))])) lt = some (.lst (Lt8.map fun p => V.ref p.1)) := by rw [upd_ne ltd]; exact hlt9
            have g10 : upd H9 d (.dT (F8.map ent ++ [(kL (gone Ls[i].2 X[j]), .int ((n : Int) + 1))])) lay = some (.lst (Ls.map fun p => V.ref p.1)) := by rw [upd_ne layd]; exact s9 _ _ hlay8
            have h10 : upd H9 d (.dT (F8.map ent ++ [(kL (gone Ls[i].2 X[j]), .int ((n : Int) + 1))])) lp = some (.lst (ni X)) := by rw [upd_ne lpd]; exact s9 _ _ hlp8
            have t10 : upd H9 d (.dT (F8.map ent ++ [(kL (gone Ls[i].2 X[j]), .int ((n : Int) + 1))])) th = some (.tup (ni (gone Ls[i].2 X[j]))) := by rw [upd_ne thd]; exact hth
            have fr10 := ((fr8.same s9).mono sub10).putD (ys := F8.map ent ++ [(kL (gone Ls[i].2 X[j]), .int ((n : Int) + 1))]) hd9
            have ft10 := ((ft8.same s9).mono sub10).putD (ys := F8.map ent ++ [(kL (gone Ls[i].2 X[j]), .int ((n : Int) + 1))]) hd9
            have s010 : Same H (upd H9 d (.dT (F8.map ent ++ [(kL (gone Ls[i].2 X[j]), .int ((n : Int) + 1))]))) := same_over s09 nd
            generalize upd H9 d (.dT (F8.map ent ++ [(kL (gone Ls[i].2 X[j]), .int ((n : Int) + 1))])) = H10 at e10 f10 g10 h10 t10 fr10 ft10 s010
            -- later.append
            refine ⟨_, rfl, .inl ⟨rfl, _, SqL.of f10⟩, _, rfl, lt, _, _, rfl, rfl, f10, ?_, ?_⟩
            · rw [List.length_map]
              have := tu8.len
              exact small1000 (by omega)
            refine ⟨_, _, F8 ++ [(gone Ls[i].2 X[j], n + 1)], Lt8 ++ [(th, gone Ls[i].2 X[j])], rfl, same_over s010 nlt0, ?_, ?_, ?_, ?_, fr10.putL f10, ?_, ⟨ye, fun M hM => sub10 M (tu8.sub M hM), ?_, ?_⟩, ?_, ?_⟩
            · rw [upd_ne ltd.symm]
              exact e10
            · rw [upd_ne layt]
              exact g10
            · rw [upd_same, List.map_append]
              rfl
            · rw [upd_ne lpt]
              exact h10
            · intro p hp
              rcases List.mem_append.mp hp with w | w
              · exact (ft10.putL f10) p w
              · rw [List.mem_singleton.mp w]
                exact ⟨by rw [upd_ne tht]; exact t10, in10⟩
            · rw [List.length_append, List.length_append, tu8.len]
              show F.length + Lt8.length + 1 = F.length + (Lt8.length + 1)
              omega
            · intro M hM
              rw [List.map_append] at hM
              rw [List.map_append]
              rcases List.mem_append.mp hM with w | w
              · rcases tu8.new M w with w | w
                · exact .inl w
                · exact .inr (List.mem_append.mpr (.inl w))
              · exact .inr (List.mem_append.mpr (.inr w))
            · exact fun p hp x hx mb => sub10 _ (cl8 p hp x hx mb)
            · intro x hx
              rw [take_succ_get hj] at hx
              rcases List.mem_append.mp hx with w | w
              · exact sub10 _ (in8 x w)
              · rw [List.mem_singleton.mp w]
                exact in10
        · rintro σ H8 ⟨y6, y7, F8, Lt8, rfl, s8, hd8, hlay8, hlt8, hlp8, fr8, ft8, tu8, cl8, in8⟩
          rw [ni_len, List.take_length] at in8
          refine ⟨_, _, _, F8, Lt8, rfl, s8, hd8, hlay8, hlt8, fr8, ft8, tu8, fun p hp x hx mb => ?_⟩
          rw [take_succ_get hi] at hp
          rcases List.mem_append.mp hp with w | w
          · exact cl8 p w x hx mb
          · rw [List.mem_singleton.mp w] at mb ⊢
            exact in8 x (List.mem_filter.mpr ⟨List.mem_range.mpr hx, mb⟩)
      · rintro σ H6 ⟨y5, y6, y7, F', Lt, rfl, s6, hd6, hlay6, hlt6, fr6, ft6, tu, cl6⟩
        rw [List.length_map, List.take_length] at cl6
        refine ⟨_, rfl, lt, _, _, _, _, F', Lt, rfl, s6, hd6, hlt6, ft6, tu.lay, fun M hM => ?_, ?_, nlt0⟩
        · rcases tu.new M hM with w | w
          · rcases cl M w with w2 | w2
            · obtain ⟨p, hp, rfl⟩ := List.mem_map.mp w2
              exact .inr fun x hx mb => cl6 p hp x hx mb
            · exact .inr fun x hx mb => tu.sub _ (w2 x hx mb)
          · exact .inl w
        · have l1 := tu.len
          have l2 := tu.lay.len
          have ne : Ls ≠ [] := by rw [← hLs]; intro z; cases z
          rw [if_neg ne]
          cases Lt with
          | nil =>
            rw [if_pos rfl]
            have : ([] : List (Addr × List Nat)).length = 0 := rfl
            omega
          | cons a b =>
            rw [if_neg (by intro z; cases z)]
            have : (a :: b).length = b.length + 1 := rfl
            omega
end
end Sh

/-! set(xs) of a list of ints, by the walk of the list -/
namespace Sh
open PySem PySem.Spec PyProof.Rows L2
section
variable {P : Program} {w : World} {A : Around} {E : Value → Shared → Prop} {s : Shared}
/-- a set as it is born -/
abbrev Bare (w : World) : Obj := { cls := .type "set", dict := none, data := .set #[] 0 (.fresh 0 0 (!w.params.followText "set-order")) }
/-- what is left: a set of the ints; all that stood stands -/
def Made (w : World) (s : Shared) (ns : List Int) (t : Shared) : Prop := ∃ (h' : Heap) (tk c : Nat), t = { s with heap := h', toks := tk } ∧ SetR w h' s.heap.objs.size (fun j => decide (j ∈ ns)) c ∧ c ≤ ns.length ∧ ∀ b o, s.heap.get? b = some o → h'.get? b = some o
/-- the ints of the list, one by one, into the set that was born at the end of the heap -/
theorem fill_lst {A3 : Around} {l : Addr} {items : Array Value} {ns : List Int} {R : Result → Shared → Prop} (hh : A3.in1.handled = none) (hl : s.heap.IsList l items) (hit : IntsAre items.toList ns) (hb : ns.length + 1 < scanBound)
    (hR : ∀ t, Made w s ns t → R (.ok (.ret .none)) t) :
    codeAny (model P w) A3 (.builtin "set.update.loop" ⟨[.ref s.heap.objs.size, .ref (s.heap.push (Bare w)).objs.size], []⟩) R { s with heap := (s.heap.push (Bare w)).push { cls := .type "list_iterator", data := .fields #[.ref l, .int 0 0] } } := by
  have n1 : items.size = ns.length := by rw [← Array.length_toList]; exact hit.length
  obtain ⟨ol, e1, e2, e3⟩ := id hl
  have l1 : l < s.heap.objs.size := Heap.lt_size e1
  have z1 : (s.heap.push (Bare w)).objs.size = s.heap.objs.size + 1 := Heap.size_push ..
  have l2 : l ≠ (s.heap.push (Bare w)).objs.size := by rw [z1]; exact Nat.ne_of_lt (Nat.lt_succ_of_lt l1)
  have vals : ∀ (i : Nat) (v : Value), items[i]? = some v → ∃ k t, ns[i]? = some k ∧ v = .int k t := by
    intro i v hv
    have hi : i < ns.length := n1 ▸ (Array.getElem?_eq_some_iff.mp hv).1
    obtain ⟨t, e⟩ := IntsAre.int_at hit i v (by rw [Array.getElem?_toList]; exact hv)
    exact ⟨ns[i], t, List.getElem?_eq_getElem hi, by rw [e, List.getD_eq_getElem?_getD, List.getElem?_eq_getElem hi]; rfl⟩
  have born : ((s.heap.push (Bare w)).push { cls := .type "list_iterator", data := .fields #[.ref l, .int 0 0] }).get? s.heap.objs.size = some (Bare w) := Heap.get?_push_of_some _ (Heap.get?_push_size _ rfl)
  refine set_update_ints ((Walks.list hh _ l l2 items).toS) s.heap.objs.size (by rw [z1]; simp only [List.mem_cons, List.not_mem_nil, or_false, not_or]; exact ⟨Nat.ne_of_lt (Nat.lt_succ_self _), Nat.ne_of_gt l1⟩) ns n1 hb vals (items.size - 0) 0 _ (by omega) (Nat.zero_le _) ⟨⟨_, Heap.get?_push_size _ rfl, rfl, rfl⟩, (hl.push _).push _⟩ ⟨0, Nat.le_refl 0, setR_new_at born⟩ ?_
  rintro ⟨h', g2, d', tk', os'⟩ c' mv hc' hS'
  obtain rfl : g2 = s.gens := mv.gens
  obtain rfl : d' = s.drawn := mv.drawn
  obtain rfl : os' = s.os := mv.os
  refine hR _ ⟨h', tk', c', rfl, hS', by omega, fun b o e => ?_⟩
  have b0 := Heap.lt_size e
  exact mv.heap b o (by rw [z1]; simp only [List.mem_cons, List.not_mem_nil, or_false, not_or]; exact ⟨Nat.ne_of_lt b0, Nat.ne_of_lt (Nat.lt_succ_of_lt b0)⟩) (Heap.get?_push_of_some _ (Heap.get?_push_of_some _ e))
set_option maxHeartbeats 4000000 in
/-- set(xs) -/
theorem call_set_lst {l : Addr} {items : Array Value} {ns : List Int} {Q : Value → Shared → Prop} (hh : A.handled = none) (hl : s.heap.IsList l items) (hit : IntsAre items.toList ns) (hb : ns.length + 1 < scanBound)
    (h : ∀ t, Made w s ns t → Q (.ref s.heap.objs.size) t) : wpAny (model P w) A (call (.type "set") [.ref l]) Q E s := by
  have ⟨_, _, m1⟩ := F.called_set.mro; have m2 := F.called_set.made; have m3 := F.called_set.sub; have m4 := F.called_set.notType; have m5 := F.called_set.canCreate; have m6 := F.typeCall_set_1 (.ref l)
  refine wpAny_call (codeAny_of_tree (show wpAny _ _ (callAny (.type "set") _) _ _ _ from wpAny_pure ⟨Code.quiet_builtin _ (by decide +kernel), codeAny_builtin F.entry_type_call ?_⟩))
  rw [Around.under_plain (weight_type_call_type "set" [.ref l] []) rfl]
  repeat (any_goals (first | assumption | wp_step))
  refine codeAny_mono (code_set_led1 (.ref l) (E := E) (Q₁ := fun x t => x = .ref s.heap.objs.size ∧ t = { s with heap := s.heap.push (Bare w) }) ⟨rfl, rfl⟩) fun r t hr => ?_
  rcases r with e | fl
  · exact hr
  · rcases fl with x | _ | _ | _
    all_goals try exact hr.elim
    obtain ⟨rfl, rfl⟩ := hr
    have born : (s.heap.push (Bare w)).get? s.heap.objs.size = some (Bare w) := Heap.get?_push_size _ rfl
    have ty : Shared.TypeIs { s with heap := s.heap.push (Bare w) } (.ref s.heap.objs.size) "set" := ⟨_, born, rfl⟩
    have i1 := F.called_set.init.lookup; have i2 := F.called_set.init.bind (.ref s.heap.objs.size)
    repeat (any_goals (first | assumption | wp_step))
    refine codeAny_mono (codeAny_call_builtin (R := wants (fun x t => x = .none ∧ Made w s ns t) E) F.called_set.init.plain F.entry_set_init (check_set_init_1 ty ?_)) fun r2 t2 hr2 => ?_
    · obtain ⟨⟨ocls, odict, odata, oslots⟩, e1, e2, nl, e3⟩ := id hl
      simp only at e2 e3
      subst e2 e3
      have l1 : (s.heap.push (Bare w)).IsList l items := hl.push _
      have e4 : (s.heap.push (Bare w)).get? l = some { cls := .type "list", dict := odict, data := .seq items nl, slots := oslots } := Heap.get?_push_of_some _ e1
      have f1 := F.sub_list_set; have f2 := F.sub_list_frozenset; have f3 : (Value.type "list" == Value.type "dict") = false := by decide
      unfold Builtin.«set.__init__» noKeywords Builtin.Frozenset.updateFrom
      generalize eI : pyIter = it; wp_walk; subst eI
      refine wpAny_pyIter_list l1 (wpAny_bind (wpAny_runValue (fill_lst (by simp [hh]) hl hit hb fun t m => ?_)))
      exact wpAny_pure (wpAny_pure ⟨rfl, m⟩)
    · rcases r2 with e | fl
      · exact hr2
      · rcases fl with x | _ | _ | _
        all_goals try exact hr2.elim
        obtain ⟨rfl, m⟩ := hr2
        repeat (any_goals (first | assumption | wp_step))
        exact h _ m
/-- the members, each once -/
theorem SetR.keys {h : Heap} {a : Addr} {ns : List Int} {c : Nat} (R : SetR w h a (fun j => decide (j ∈ ns)) c) : ∃ ks : List Int, ks.Nodup ∧ (∀ k, k ∈ ks ↔ k ∈ ns) ∧ c = ks.length := by
  obtain ⟨o, es, ep, t, _, _, _, _, nd, hm, _, _, hn, _⟩ := R
  refine ⟨es.toList.map keyOf, nd, fun k => ?_, ?_⟩
  · rw [← hm k, decide_eq_true_eq]
  · rw [List.length_map, Array.length_toList, hn]
/-- set(xs) of a list or a tuple of ints, as a thing that stands -/
def rSetA (K : PySem.W.Frag) (w : World) : List V → Hp → VK → Prop := fun xs H Q => ∃ (q : Addr) (ns : List Int), xs = [.ref q] ∧ SqA K H q (ns.map V.int) ∧ ns.length ≤ 1000 ∧ ∀ (a : Addr) (ks : List Int), H a = none → ks.Nodup → (∀ k, k ∈ ks ↔ k ∈ ns) → Q (.ref a) (upd H a (SetO w a (fun j => decide (j ∈ ns)) ks.length))
theorem cr_setA {X : Cx} (hc : X.calm = true) : CallR X (.type "set") (rSetA X.K X.w) := by
  intro pins s σ H xs us Q I r h
  obtain ⟨q, ns, rfl, hq | hq, hl, k⟩ := h
  · rw [Vals.ref1 r]
    obtain ⟨its, rv, pl, hz⟩ := I.list hq
    refine call_set_lst (ns := ns) (I.ok.hd hc) pl.isList (ints_of_vals rv) (by unfold scanBound; omega) ?_
    rintro t ⟨h', tk, c, rfl, R1, hcn, kk⟩
    obtain ⟨ks, k1, k2, rfl⟩ := SetR.keys R1
    exact ⟨.ref _, upd H s.heap.objs.size (SetO X.w s.heap.objs.size _ ks.length), I.laid (t' := tk) kk (Nat.le_refl _) (setO_new R1), rfl, k _ _ (I.hok.fresh (Nat.le_refl _)) k1 k2⟩
  · rw [Vals.ref1 r]
    obtain ⟨its, rv, pt, hz⟩ := I.tuple hq
    refine call_set_tupI ns (I.ok.hd hc) (show s.heap.IsTuple q its.toArray from pt) (ints_of_vals rv) (by unfold scanBound; omega) fun h' tk c R1 hcn kk => ?_
    obtain ⟨ks, k1, k2, rfl⟩ := SetR.keys R1
    exact ⟨.ref _, upd H s.heap.objs.size (SetO X.w s.heap.objs.size _ ks.length), I.laid (t' := tk) kk (Nat.le_refl _) (setO_new R1), rfl, k _ _ (I.hok.fresh (Nat.le_refl _)) k1 k2⟩
theorem cr_setAw {X : Cx} (w : World) (hc : X.calm = true) (hw : X.w = w := by rfl) : CallR X (.type "set") (rSetA X.K w) := hw ▸ cr_setA hc
end
end Sh

namespace Sh
open PySem PySem.Spec PyProof.Rows L2
/-! ### comprehensions in short -/
/-- [x for x in xs if test], xs ships: those of whom the test says p -/
theorem lc_filter {σ : L2.St} {H : Hp} {C : Addr} {vs : List Nat} {i : Nat} {tt : TT} {Qd : Hp → Prop} {X : List Nat} {J : It} {G : Hp → Prop} (p : Nat → Bool) (W : Walk J (ni X).length G (YAt (ni X))) (g : ∀ H', Same H H' → G H') (nC : H C = none) (lX : X.length ≤ 1000)
    (hw : ∀ v, wipe ((wipe σ vs).set i (some v)) vs = wipe σ vs) (hv : ∀ v : V, ((wipe σ vs).set i (some v))[i]? = some (some v))
    (ht : ∀ x ∈ X, ∀ H', Same H H' → ∀ Q : Bool → Hp → Prop, Q (p x) H' → tt ((wipe σ vs).set i (some (.int (x : Int)))) H' Q) (hd : ∀ H', Same H H' → H' C = some (.lst (ni (X.filter p))) → Qd H') :
    ∃ W : Nat → Nat → Hp → Prop, (∃ m, W 0 m (upd H C (.lst []))) ∧ ∀ j m H, W j m H →
      (J.stop j H ∧ Qd H) ∨ (J.go j H ∧ ∃ Nx : Hp → Prop, (∀ H', Nx H' → ∃ m', m' < m ∧ W (j + 1) m' H') ∧ ∀ x H', J.yld j H x H' → gName i x (wipe σ vs) H' fun σ2 H2 => wipe σ2 vs = wipe σ vs ∧ tt σ2 H2 fun b H3 =>
        if b = true then tVar i σ2 H3 fun y H4 => ∃ acc, H4 C = some (.lst acc) ∧ acc.length < sizeLine ∧ Nx (upd H4 C (.lst (acc ++ [y]))) else Nx H3) := by
  refine lc_it W (fun j H' => Same H H' ∧ H' C = some (.lst (ni ((X.take j).filter p)))) ⟨same_new nC, upd_same⟩ (fun j H' _ z => g H' z.1) ?_ ?_
  · rintro j x H3 H4 hj ⟨s3, hC⟩ ⟨rfl, gx⟩
    rw [ni_len] at hj
    obtain rfl : .int ((X[j] : Nat) : Int) = x := Option.some.inj ((ni_get hj).symm.trans gx)
    refine ⟨hw _, ht X[j] (List.getElem_mem hj) _ s3 _ ?_⟩
    cases e : p X[j] with
    | true =>
      rw [if_pos rfl]
      refine ⟨_, hv _, _, hC, ?_, same_over s3 nC, ?_⟩
      · rw [ni_len]
        have h1 := List.length_filter_le p (X.take j)
        rw [List.length_take] at h1
        exact small1000 (by omega)
      · rw [upd_same, take_succ_get hj, List.filter_append, ni_app, List.filter_cons_of_pos e]
        rfl
    | false =>
      rw [if_neg Bool.false_ne_true]
      refine ⟨s3, ?_⟩
      rw [hC, take_succ_get hj, List.filter_append, List.filter_cons_of_neg (by rw [e]; exact Bool.false_ne_true)]
      simp
  · rintro H3 ⟨s3, hC⟩
    rw [ni_len, List.take_length] at hC
    exact hd H3 s3 hC
/-- all ships below n, as range walks them -/
theorem walk_rg (n : Nat) : Walk (Itr 0 n) (ni (List.range n)).length (fun _ => True) (YAt (ni (List.range n))) := by
  have e : (ni (List.range n)).length = n := by rw [ni_len, List.length_range]
  rw [e]
  refine ⟨fun _ _ hi _ => hi, fun _ _ => Nat.le_refl _, fun i H x H' hi _ y => ⟨y.1, ?_⟩⟩
  rw [ni_get (by rw [List.length_range]; exact hi), y.2, List.getElem_range, Int.zero_add]
/-- truths, one a ship: all([..]) -/
theorem lc_truths {σ : L2.St} {H : Hp} {C : Addr} {vs : List Nat} {i : Nat} {te : TE} {Qd : Hp → Prop} {X : List Nat} {J : It} {G : Hp → Prop} (W : Walk J (ni X).length G (YAt (ni X))) (g : ∀ H', Same H H' → G H') (nC : H C = none) (lX : X.length ≤ 1000)
    (hw : ∀ v, wipe ((wipe σ vs).set i (some v)) vs = wipe σ vs)
    (ht : ∀ x ∈ X, ∀ H', Same H H' → ∀ Q : V → Hp → Prop, (∀ H2, Same H' H2 → Q (.bl true) H2) → te ((wipe σ vs).set i (some (.int (x : Int)))) H' Q) (hd : ∀ H', Same H H' → H' C = some (.lst ((List.replicate X.length true).map V.bl)) → Qd H') :
    ∃ W : Nat → Nat → Hp → Prop, (∃ m, W 0 m (upd H C (.lst []))) ∧ ∀ j m H, W j m H →
      (J.stop j H ∧ Qd H) ∨ (J.go j H ∧ ∃ Nx : Hp → Prop, (∀ H', Nx H' → ∃ m', m' < m ∧ W (j + 1) m' H') ∧ ∀ x H', J.yld j H x H' → gName i x (wipe σ vs) H' fun σ2 H2 => wipe σ2 vs = wipe σ vs ∧ tYes σ2 H2 fun b H3 =>
        if b = true then te σ2 H3 fun y H4 => ∃ acc, H4 C = some (.lst acc) ∧ acc.length < sizeLine ∧ Nx (upd H4 C (.lst (acc ++ [y]))) else Nx H3) := by
  refine lc_it W (fun j H' => Same H H' ∧ H' C = some (.lst ((List.replicate j true).map V.bl))) ⟨same_new nC, upd_same⟩ (fun j H' _ z => g H' z.1) ?_ ?_
  · rintro j x H3 H4 hj ⟨s3, hC⟩ ⟨rfl, gx⟩
    rw [ni_len] at hj
    obtain rfl : .int ((X[j] : Nat) : Int) = x := Option.some.inj ((ni_get hj).symm.trans gx)
    refine ⟨hw _, tyes (iteT (ht X[j] (List.getElem_mem hj) _ s3 _ fun H5 s5 => ?_))⟩
    refine ⟨_, s5 _ _ hC, ?_, same_over (s3.trans s5) nC, ?_⟩
    · rw [List.length_map, List.length_replicate]
      exact small1000 (by omega)
    · rw [upd_same, List.replicate_succ', List.map_append]
      rfl
  · rintro H3 ⟨s3, hC⟩
    rw [ni_len] at hC
    exact hd H3 s3 hC
theorem all_true (n : Nat) : (List.replicate n true).all id = true := by simp
end Sh

namespace Sh
open PySem PySem.Spec PyProof.Rows L2
/-! ### who goes over in some row: the law's own, by all layers -/
def spLMovers (K : PySem.W.Frag) : Sp := fun vs H Q _ => ∃ (v : V) (pb : Addr) (h t : Int) (ds : List Int) (L : List Nat), vs = [v, .ref pb] ∧ SeaA K H v h t ds ∧ H pb = some (.tup (ni L)) ∧ ds.length ≤ 9 ∧ Lot ds.length L ∧
  ∀ (H' : Hp) (p : Addr) (ms : List Nat), Same H H' → H p = none → H' p = some (.lst (ni ms)) → IsMovers h t ds L ms → Q (.ref p) H'
abbrev s__law_movers : Stmt := topS 37
theorem sc__law_movers : FnScope (["_law_pond", "_law_lot_here", "_law_found", "_law_there", "_law_whom"] : List Str) (["_law_pond", "_law_lot_here"] : List Str) (defScope s__law_movers) := ⟨rfl, rfl, rfl, by decide +kernel, rfl, by decide +kernel, by decide +kernel⟩
theorem b__law_movers (kV doc pm : Value) (an : Option Addr) (cdv ct : Value) (us : List Value) (hl : us.length = (["_law_pond", "_law_lot_here"] : List Str).length) : bindArgs (PySem.W.fnOf "_law_movers" "_law_movers" (defArgs s__law_movers) (defBody s__law_movers) (defScope s__law_movers) .none kV doc pm an cdv ct) ⟨us, []⟩ = pure ((["_law_pond", "_law_lot_here"] : List Str).zip us) :=
  match us, hl with | [_, _], _ => rfl
section
variable {P : Program} {w : World} {K : PySem.W.Frag} {mg : Str → Option Value} {base : Heap}
theorem ok_lmovers {k : Nat} (D : Df K mg "_law_movers" s__law_movers) (T : Bt mg) (O__law_layers : Ok P w K mg base k "_law_layers" s__law_layers ["_law_sea_here", "_law_begin"] (spLayers K)) (O__law_lets : Ok P w K mg base k "_law_lets" s__law_lets ["_law_sea_here", "_law_lot_here"] (spLets K)) :
    Ok P w K mg base (k + 1) "_law_movers" s__law_movers ["_law_pond", "_law_lot_here"] (spLMovers K) := by
  refine D.ok sc__law_movers b__law_movers (fun vs H Q E h => ?_) (fun f cdv A outer s H vs Q E hr h => ?_)
  · obtain ⟨v, pb, h, t, ds, L, rfl, _⟩ := h
    rfl
  · obtain ⟨v, pb, h, t, ds, L, rfl, hv, hpb, d9, hL, k1⟩ := h
    refine ⟨_, (pss_cons (ps_set (i := 2) sc__law_movers.nd rfl (.inr rfl) (pe_lst pa_nil))
      (pss_cons (ps_for PassesOwn.never rfl (pi_keys (pe_freeze (pe_fn O__law_layers (hr.mono (by omega)) (pa_cons (pv 0) (pa_cons (pv 1) pa_nil))))) (pg_name (i := 3) sc__law_movers.nd rfl (.inl rfl))
        (pss_one (ps_set (i := 2) sc__law_movers.nd rfl (.inr rfl) (pe_op op_cat (pv 2) (pe_lc (own := [("_law_whom", 4)]) (g := (gName 4)) (by rfl) sc__law_movers.nd (pi_seq (pe_fn O__law_lets (hr.mono (by omega)) (pa_cons (pv 0) (pa_cons (pv 3) pa_nil)))) (blkOk_by (own := [("_law_whom", 4)]) (N := (["_law_pond", "_law_lot_here", "_law_found", "_law_there", "_law_whom"] : List Str)) (sc := defScope s__law_movers) (by decide +kernel)) (fun _ _ _ _ _ => (pg_name (i := 4) sc__law_movers.nd rfl (.inl rfl))) (fun _ _ _ _ _ => (pts_one (pt_cmpR (op_notInK K) (pv 4) (pv 2) (by rfl)))) (fun _ _ _ _ _ => (pv 4)))))))
      (pss_one (ps_ret (pe_callB cr_sortedI (by rfl) T.sorted_ (by decide +kernel) (pa_cons (pv 2) pa_nil)))))), ?_⟩
    refine ⟨Nat.zero_le _, fun pf npf => ?_⟩
    have s1 : Same H (upd H pf (.lst [])) := same_new npf
    have e1 : upd H pf (.lst []) pf = some (.lst []) := upd_same
    generalize upd H pf (.lst []) = H1 at s1 e1
    refine ⟨_, rfl, _, rfl, v, pb, h, t, ds, L, rfl, hv.same s1, s1 _ _ hpb, d9, hL, fun H2 d F s2 nd hd ly cl => ?_⟩
    refine ⟨d, _, rfl, hd, trivial, fun od => ?_⟩
    have s3 : Same H (upd H2 d (.frz od (.dT (F.map ent)))) := fun a o e => by
      have e2 := s2 _ _ (s1 _ _ e)
      rw [upd_ne (fun z => by rw [z] at e; have := s1 _ _ e; rw [nd] at this; cases this)]
      exact e2
    have pfd : pf ≠ d := fun z => by rw [← z, e1] at nd; cases nd
    have e3 : upd H2 d (.frz od (.dT (F.map ent))) pf = some (.lst (ni [])) := by
      rw [upd_ne pfd]
      exact s2 _ _ e1
    have d3 : upd H2 d (.frz od (.dT (F.map ent))) d = some (.frz od (.dT (F.map ent))) := upd_same
    refine ⟨d, od, rfl, .inr ⟨F.map ent, upd_same, ?_⟩⟩
    generalize upd H2 d (.frz od (.dT (F.map ent))) = H3 at s3 e3 d3
    have W : Walk (Itkt d od (F.map ent)) (F.map ent).length (fun H' => H' d = some (.frz od (.dT (F.map ent)))) (fun i H' x H'' => H'' = H' ∧ ∃ (M : List Nat) (q : Addr), (F.map (·.1))[i]? = some M ∧ x = .ref q ∧ H' q = some (.tup (ni M))) :=
      ⟨fun i H' hi g => ⟨g, hi⟩, fun H' g => ⟨g, Nat.le_refl _⟩, fun i H' x H'' hi g ⟨e, kk, vv, q, gk, ex, hq⟩ => by
        rw [List.getElem?_map] at gk
        cases ef : F[i]? with
        | none => rw [ef] at gk; cases gk
        | some pr =>
          rw [ef] at gk
          have e2 : ent pr = (kk, vv) := Option.some.inj gk
          refine ⟨e, pr.1, q, by rw [List.getElem?_map, ef]; rfl, ex, ?_⟩
          rw [hq, ← show (ent pr).1 = kk by rw [e2]]
          exact congrArg (fun z => some (HO.tup z)) (kL_ni pr.1)⟩
    refine for_it W (fun i σ H' => ∃ (pf : Addr) (X : List Nat) (y3 y4 : Option V), σ = [some v, some (.ref pb), some (.ref pf), y3, y4] ∧ Same H3 H' ∧ H' pf = some (.lst (ni X)) ∧ X.Nodup ∧ (∀ j ∈ X, j < ds.length) ∧ ∀ j, j < ds.length → (j ∈ X ↔ ∃ M, M ∈ (F.map fun (x : List Nat × Nat) => x.1).take i ∧ mayB h t ds M j = true))
      ⟨pf, [], none, none, rfl, Same.refl _, e3, List.nodup_nil, fun j z => (by cases z), fun j _ => ⟨fun z => (by cases z), fun ⟨M, z, _⟩ => (by cases z)⟩⟩ (fun i σ H' _ ⟨_, _, _, _, _, z, _⟩ => z _ _ d3) ?_ ?_
    · rintro i x σ Ha Hb hi ⟨pf', X, y3, y4, rfl, sa, ea, ndX, ltX, mx⟩ ⟨rfl, M, q, gM, rfl, hq⟩
      have inM : M ∈ F.map (·.1) := List.mem_of_getElem? gM
      obtain ⟨hM, rM⟩ := ly.lot M inM
      have s3a := s3.trans sa
      have lM := hM.len
      refine ⟨_, rfl, _, rfl, _, rfl, v, .ref q, h, t, ds, M, rfl, hv.same s3a, ⟨q, rfl, SqA.t hq⟩, by omega, by omega, fun Hc pl sc npl hpl => ?_⟩
      refine ⟨pl, _, Hc, rfl, SqA.l hpl, .refl _ _, fun J hJ C nC => ?_⟩
      obtain ⟨G, gg, W2⟩ := hJ.walk
      have ll : (lets h t ds M ds.length).length ≤ ds.length := by
        have h1 := List.length_filter_le (mayB h t ds M) (List.range ds.length)
        rw [List.length_range] at h1
        exact h1
      refine lc_filter (fun j => !decide (j ∈ X)) W2 (fun H' z => gg H' (.ofS z)) nC (by omega) (fun _ => rfl) (fun _ => rfl) (fun y hy H' s' Q' q' => ?_) (fun Hd sd hC => ?_)
      · refine ⟨_, rfl, _, rfl, pf', _, rfl, .inl (SqL.of (s' _ _ (sc _ _ ea))), rfl, ni_flat _, _, rfl, ?_⟩
        rw [if_pos rfl, in_ni]
        exact q'
      generalize hY : (lets h t ds M ds.length).filter (fun j => !decide (j ∈ X)) = Y at hC
      have yM : ∀ j, j ∈ Y ↔ (j < ds.length ∧ mayB h t ds M j = true) ∧ ¬ j ∈ X := fun j => by
        rw [← hY, List.mem_filter, Bool.not_eq_true', decide_eq_false_iff_not]
        unfold lets
        rw [List.mem_filter, List.mem_range]
      have ndY : Y.Nodup := by
        rw [← hY]
        exact (List.nodup_range.filter _).filter _
      have lX : X.length ≤ ds.length := by
        have := nodup_len ndX (m := List.range ds.length) fun j hj => List.mem_range.mpr (ltX j hj)
        rw [List.length_range] at this
        exact this
      have lY : Y.length ≤ ds.length := by
        rw [← hY]
        exact Nat.le_trans (List.length_filter_le _ _) ll
      have scd := sc.trans sd
      refine ⟨pf', C, _, _, rfl, rfl, scd _ _ ea, hC, ?_, fun ct nct => ?_⟩
      · rw [ni_len, ni_len]
        exact Nat.le_trans (show X.length + Y.length ≤ 1001 by omega) (by decide)
      refine ⟨ct, X ++ Y, _, _, rfl, (sa.trans scd).trans (same_new nct), by rw [upd_same, ni_app], List.nodup_append.mpr ⟨ndX, ndY, fun a ha b hb => fun e => ((yM b).mp hb).2 (e ▸ ha)⟩, fun j hj => ?_, fun j hj => ?_⟩
      · rcases List.mem_append.mp hj with z | z
        · exact ltX j z
        · exact ((yM j).mp z).1.1
      · rw [List.mem_append, yM j, mx j hj, List.take_add_one, gM]
        constructor
        · rintro (⟨M', z1, z2⟩ | ⟨⟨_, z⟩, _⟩)
          · exact ⟨M', List.mem_append_left _ z1, z2⟩
          · exact ⟨M, List.mem_append_right _ (List.mem_singleton.mpr rfl), z⟩
        · rintro ⟨M', z1, z2⟩
          by_cases c : ∃ M ∈ (F.map (·.1)).take i, mayB h t ds M j = true
          · exact .inl c
          · rcases List.mem_append.mp z1 with z | z
            · exact absurd ⟨M', z, z2⟩ c
            · obtain rfl : M' = M := List.mem_singleton.mp z
              exact .inr ⟨⟨hj, z2⟩, fun y => c y⟩
    rintro σ Ha ⟨pf', X, y3, y4, rfl, sa, ea, ndX, ltX, mx⟩
    rw [List.length_map, show (F.map (·.1)).take F.length = F.map (·.1) from List.take_of_length_le (by rw [List.length_map]; exact Nat.le_refl _)] at mx
    rw [ni_ints] at ea
    refine ⟨_, rfl, pf', _, rfl, SqL.of ea, fun ns2 p2 pm2 up2 np2 => ?_⟩
    obtain ⟨L2, rfl, pL2, hL2⟩ := lot_sorted (c := ds.length) pm2 up2 ndX ltX
    refine k1 _ p2 L2 ((s3.trans sa).trans (same_new np2)) ((s3.trans sa).free np2) (by rw [upd_same, ni_ints]) ⟨hL2, fun j hj => ?_⟩
    rw [pL2.mem_iff, mx j hj]
    exact ⟨fun ⟨M, z1, z2⟩ => ⟨M, (ly.lot M z1).1, (ly.lot M z1).2, z2⟩, fun ⟨M, z1, z2, z3⟩ => ⟨M, (ly.all hL cl z1).mpr z2, z3⟩⟩
end
end Sh

namespace Sh
open PySem PySem.Spec PyProof.Rows L2
/-! ### the program: water -/
def spMarkOf : Sp := fun vs H Q _ => ∃ (h t s : Int) (n : Nat), vs = [.int h, .int t, .int (n : Int), .int s] ∧ Q (.int (mk h t n s)) H
def spTopOf : Sp := fun vs H Q _ => ∃ (h t : Int) (n : Nat), vs = [.int h, .int t, .int (n : Int)] ∧ Q (.int (topI h t n)) H
abbrev s_mark_of : Stmt := topS 1
theorem sc_mark_of : FnScope (["here", "there", "many", "step"] : List Str) (["here", "there", "many", "step"] : List Str) (defScope s_mark_of) := ⟨rfl, rfl, rfl, by decide +kernel, rfl, by decide +kernel, by decide +kernel⟩
theorem b_mark_of (kV doc pm : Value) (an : Option Addr) (cdv ct : Value) (us : List Value) (hl : us.length = (["here", "there", "many", "step"] : List Str).length) : bindArgs (PySem.W.fnOf "mark_of" "mark_of" (defArgs s_mark_of) (defBody s_mark_of) (defScope s_mark_of) .none kV doc pm an cdv ct) ⟨us, []⟩ = pure ((["here", "there", "many", "step"] : List Str).zip us) :=
  match us, hl with | [_, _, _, _], _ => rfl
abbrev s_top_of : Stmt := topS 2
theorem sc_top_of : FnScope (["here", "there", "many", "last", "meeting"] : List Str) (["here", "there", "many"] : List Str) (defScope s_top_of) := ⟨rfl, rfl, rfl, by decide +kernel, rfl, by decide +kernel, by decide +kernel⟩
theorem b_top_of (kV doc pm : Value) (an : Option Addr) (cdv ct : Value) (us : List Value) (hl : us.length = (["here", "there", "many"] : List Str).length) : bindArgs (PySem.W.fnOf "top_of" "top_of" (defArgs s_top_of) (defBody s_top_of) (defScope s_top_of) .none kV doc pm an cdv ct) ⟨us, []⟩ = pure ((["here", "there", "many"] : List Str).zip us) :=
  match us, hl with | [_, _, _], _ => rfl
section
variable {P : Program} {w : World} {K : PySem.W.Frag} {mg : Str → Option Value} {base : Heap}
theorem ok_mark_of {k : Nat} (D : Df K mg "mark_of" s_mark_of) (T : Bt mg) : Ok P w K mg base (k + 1) "mark_of" s_mark_of ["here", "there", "many", "step"] spMarkOf := by
  refine D.ok sc_mark_of b_mark_of (fun vs H Q E h => ?_) (fun f cdv A outer s H vs Q E hr h => ?_)
  · obtain ⟨h, t, s, n, rfl, _⟩ := h
    rfl
  · obtain ⟨h, t, s, n, rfl, k⟩ := h
    refine ⟨_, (pss_one (ps_ret (pe_callB (call_min2 rfl) (by rfl) T.min_ (by decide +kernel) (pa_cons (pe_op op_add (pv 0) (pv 3)) (pa_cons (pe_op op_sub (pe_op op_sub (pe_op op_add (pv 1) (pv 2)) pe_int) (pv 3)) pa_nil))))), ?_⟩
    refine ⟨_, rfl, _, rfl, h, s, rfl, rfl, _, rfl, _, rfl, t, _, rfl, rfl, _, 1, rfl, rfl, _, rfl, _, s, rfl, rfl, _, _, rfl, ?_⟩
    rw [← mk_alt] at k
    exact k
theorem ok_top_of {k : Nat} (D : Df K mg "top_of" s_top_of) (T : Bt mg) : Ok P w K mg base (k + 1) "top_of" s_top_of ["here", "there", "many"] spTopOf := by
  refine D.ok sc_top_of b_top_of (fun vs H Q E h => ?_) (fun f cdv A outer s H vs Q E hr h => ?_)
  · obtain ⟨h, t, n, rfl, _⟩ := h
    rfl
  · obtain ⟨h, t, n, rfl, k⟩ := h
    refine ⟨_, (pss_cons (ps_set (i := 3) sc_top_of.nd rfl (.inl rfl) (pe_op op_sub (pv 2) pe_int))
      (pss_cons (ps_set (i := 4) sc_top_of.nd rfl (.inl rfl) (pe_op op_fdiv (pe_op op_sub (pe_op op_add (pv 1) (pv 3)) (pv 0)) pe_int))
      (pss_one (ps_ret (pe_callB (call_max2 rfl) (by rfl) T.max_ (by decide +kernel) (pa_cons pe_int (pa_cons (pe_callB (call_min2 rfl) (by rfl) T.min_ (by decide +kernel) (pa_cons (pv 3) (pa_cons (pv 4) pa_nil))) pa_nil))))))), ?_⟩
    refine ⟨_, rfl, _, 1, rfl, rfl, ?_⟩
    refine ⟨_, rfl, _, rfl, t, _, rfl, rfl, _, rfl, _, h, rfl, rfl, _, 2, rfl, rfl, ⟨by decide, by decide⟩, ?_⟩
    refine ⟨_, rfl, _, rfl, _, _, rfl, 0, _, rfl, ?_⟩
    exact k
end
end Sh

namespace Sh
open PySem PySem.Spec PyProof.Rows L2
/-! ### the program: steps -/
section
variable {P : Program} {w : World} {K : PySem.W.Frag} {mg : Str → Option Value} {base : Heap}
end
end Sh

namespace Sh
open PySem PySem.Spec PyProof.Rows L2
/-! ### fleets as they are handed in -/
def SrtV (x : Srt) : List V := [.int x.1, .int (x.2.1 : Int), .int (x.2.2 : Int)]
def SrtsA (K : PySem.W.Frag) (H : Hp) (rs : List Addr) (ss : List Srt) : Prop := rs.length = ss.length ∧ ∀ (i : Nat) (r : Addr) (x : Srt), rs[i]? = some r → ss[i]? = some x → SqA K H r (SrtV x)
theorem SrtsA.same {K : PySem.W.Frag} {H H' : Hp} {rs : List Addr} {ss : List Srt} (w : SrtsA K H rs ss) (e : Same H H') : SrtsA K H' rs ss := ⟨w.1, fun i r x a b => Same.sqA e (w.2 i r x a b)⟩
theorem srt_at {K : PySem.W.Frag} {H : Hp} {rs : List Addr} {ss : List Srt} {i : Nat} {v : V} (w : SrtsA K H rs ss) (g : (rs.map V.ref)[i]? = some v) : ∃ (r : Addr) (hi : i < ss.length), v = .ref r ∧ SqA K H r (SrtV ss[i]) := by
  rw [List.getElem?_map] at g
  cases e : rs[i]? with
  | none => rw [e] at g; cases g
  | some r =>
    rw [e] at g
    have hi : i < rs.length := (List.getElem?_eq_some_iff.mp e).1
    have hi2 : i < ss.length := w.1 ▸ hi
    exact ⟨r, hi2, (Option.some.inj g).symm, w.2 i r _ e (List.getElem?_eq_getElem hi2)⟩
/-- a fleet (lists or tuples) is handed in -/
def FltA (K : PySem.W.Frag) (H : Hp) (v : V) (h t : Int) (ss : List Srt) : Prop := ∃ (p q : Addr) (rs : List Addr), v = .ref p ∧ SqA K H p [.int h, .int t, .ref q] ∧ SqA K H q (rs.map V.ref) ∧ SrtsA K H rs ss
theorem FltA.same {K : PySem.W.Frag} {H H' : Hp} {v : V} {h t : Int} {ss : List Srt} (s : FltA K H v h t ss) (e : Same H H') : FltA K H' v h t ss := let ⟨p, q, rs, a, b, c, d⟩ := s; ⟨p, q, rs, a, Same.sqA e b, Same.sqA e c, d.same e⟩
/-- new sorts, as tuples -/
def SrtsN (H : Hp) (rs : List Addr) (ss : List Srt) : Prop := rs.length = ss.length ∧ ∀ (i : Nat) (r : Addr) (x : Srt), rs[i]? = some r → ss[i]? = some x → H r = some (.tup (SrtV x))
theorem SrtsN.a {K : PySem.W.Frag} {H : Hp} {rs : List Addr} {ss : List Srt} (w : SrtsN H rs ss) : SrtsA K H rs ss := ⟨w.1, fun i r x a b => SqA.t (w.2 i r x a b)⟩
theorem SrtsN.same {H H' : Hp} {rs : List Addr} {ss : List Srt} (w : SrtsN H rs ss) (e : Same H H') : SrtsN H' rs ss := ⟨w.1, fun i r x a b => e _ _ (w.2 i r x a b)⟩
theorem SrtsN.put {H : Hp} {rs : List Addr} {ss : List Srt} {C : Addr} {xs ys : List V} (w : SrtsN H rs ss) (h : H C = some (.lst xs)) : SrtsN (upd H C (.lst ys)) rs ss := ⟨w.1, fun i r x a b => by
  have q := w.2 i r x a b
  rw [upd_ne (ne_of q h (by intro z; cases z))]
  exact q⟩
theorem SrtsN.push {H : Hp} {rs : List Addr} {ss : List Srt} {u : Addr} {x : Srt} (w : SrtsN H rs ss) (n : H u = none) : SrtsN (upd H u (.tup (SrtV x))) (rs ++ [u]) (ss ++ [x]) := by
  refine ⟨by rw [List.length_append, List.length_append, w.1]; rfl, fun i r y a b => ?_⟩
  by_cases z : i < rs.length
  · rw [List.getElem?_append_left z] at a
    rw [List.getElem?_append_left (by rw [← w.1]; exact z)] at b
    exact same_new n _ _ (w.2 i r y a b)
  · have e : i = rs.length := by
      have := (List.getElem?_eq_some_iff.mp a).1
      rw [List.length_append] at this
      simp at this
      omega
    subst e
    rw [List.getElem?_append_right (Nat.le_refl _), Nat.sub_self] at a
    rw [List.getElem?_append_right (by rw [w.1]; exact Nat.le_refl _), w.1, Nat.sub_self] at b
    obtain rfl : u = r := Option.some.inj a
    obtain rfl : x = y := Option.some.inj b
    exact upd_same
theorem SrtsN.push' {H : Hp} {rs : List Addr} {ss : List Srt} {u : Addr} {x : Srt} {o : HO} (w : SrtsN H rs ss) (n : H u = none) (e : o = .tup (SrtV x)) : SrtsN (upd H u o) (rs ++ [u]) (ss ++ [x]) := by
  subst e
  exact w.push n
end Sh

namespace Sh
open PySem PySem.Spec PyProof.Rows L2
/-! ### the program: lots, of fleets as they are handed in -/
theorem isum (f : Srt → Nat) : ∀ l : List Srt, (l.map fun x => (f x : Int)).sum = ((l.map f).sum : Int)
  | [] => rfl
  | a :: l => by
    rw [List.map_cons, List.sum_cons, isum f l, List.map_cons, List.sum_cons]
    rfl
theorem tm {β : Type} (f : Srt → β) {ss : List Srt} {i : Nat} (hi : i < ss.length) : (ss.take (i + 1)).map f = (ss.take i).map f ++ [f ss[i]] := by rw [take_succ_get hi, List.map_append]; rfl
theorem tfm {β : Type} (p : Srt → Bool) (f : Srt → β) {ss : List Srt} {i : Nat} (hi : i < ss.length) : ((ss.take (i + 1)).filter p).map f = ((ss.take i).filter p).map f ++ (if p ss[i] = true then [f ss[i]] else []) := by
  rw [take_succ_get hi, List.filter_append, List.map_append]
  congr 1
  by_cases c : p ss[i] = true
  · rw [if_pos c, List.filter_cons_of_pos c]; rfl
  · rw [if_neg c, List.filter_cons_of_neg c]; rfl
theorem take_le {ss : List Srt} {i : Nat} (hi : i < ss.length) : (ss.take i).length < ss.length := by rw [List.length_take]; omega
theorem tf_le {p : Srt → Bool} {ss : List Srt} {i : Nat} (hi : i < ss.length) : ((ss.take i).filter p).length < ss.length := Nat.lt_of_le_of_lt (List.length_filter_le _ _) (take_le hi)
def spShips (K : PySem.W.Frag) : Sp := fun vs H Q _ => ∃ (v : V) (h t : Int) (ss : List Srt), vs = [v] ∧ FltA K H v h t ss ∧ ss.length ≤ 1000 ∧ ∀ H', Same H H' → Q (.int (mny ss : Int)) H'
def spMarkIn (K : PySem.W.Frag) : Sp := fun vs H Q _ => ∃ (v : V) (h t s : Int) (ss : List Srt), vs = [v, .int s] ∧ FltA K H v h t ss ∧ ss.length ≤ 1000 ∧ ∀ H', Same H H' → Q (.int (mk h t (mny ss) s)) H'
def spGoersMany (K : PySem.W.Frag) : Sp := fun vs H Q _ => ∃ (v : V) (h t s : Int) (ss : List Srt), vs = [v, .int s] ∧ FltA K H v h t ss ∧ ss.length ≤ 1000 ∧ ∀ H', Same H H' → Q (.int (gmF ss (mk h t (mny ss) s) : Int)) H'
def spTopIn (K : PySem.W.Frag) : Sp := fun vs H Q _ => ∃ (v : V) (h t : Int) (ss : List Srt), vs = [v] ∧ FltA K H v h t ss ∧ ss.length ≤ 1000 ∧ ∀ H', Same H H' → Q (.int (topI h t (mny ss))) H'
def spFilled (K : PySem.W.Frag) : Sp := fun vs H Q _ => ∃ (v : V) (h t s : Int) (ss : List Srt), vs = [v, .int s] ∧ FltA K H v h t ss ∧ ss.length ≤ 1000 ∧ ∀ H', Same H H' → Q (.int (filF ss (mk h t (mny ss) s) : Int)) H'
/-- marks rise up to top -/
def Rise (h t : Int) (n : Nat) (top : Int) : Prop := ∀ s s' : Int, 0 ≤ s → s ≤ s' → s' ≤ top → mk h t n s ≤ mk h t n s'
def spLowStop (K : PySem.W.Frag) : Sp := fun vs H Q _ => ∃ (v : V) (h t top : Int) (ss : List Srt), vs = [v, .int top] ∧ FltA K H v h t ss ∧ ss.length ≤ 1000 ∧ Rise h t (mny ss) top ∧
  (∀ (H' : Hp) (N : Nat), Same H H' → (N : Int) ≤ top → StuckF h t ss N → Q (.int (N : Int)) H') ∧ (∀ H', Same H H' → (∀ N : Nat, (N : Int) ≤ top → ¬ StuckF h t ss N) → Q .non H')
def spTurnedF (K : PySem.W.Frag) : Sp := fun vs H Q _ => ∃ (v : V) (h t : Int) (ss : List Srt), vs = [v] ∧ FltA K H v h t ss ∧ ss.length ≤ 1000 ∧ ∀ (H' : Hp) (z : V), Same H H' → FltA K H' z t h (turnF ss) → Q z H'
theorem fil_mono {ss : List Srt} {m m' : Int} (e : m ≤ m') : filF ss m ≤ filF ss m' := by
  unfold filF
  induction ss with
  | nil => exact Nat.le_refl _
  | cons a l ih =>
    simp only [List.map_cons, List.sum_cons]
    have : (if a.1 ≤ m then a.2.2 else 0) ≤ (if a.1 ≤ m' then a.2.2 else 0) := by
      by_cases z : a.1 ≤ m
      · rw [if_pos z, if_pos (by omega)]
        exact Nat.le_refl _
      · rw [if_neg z]
        exact Nat.zero_le _
    omega
theorem fil_ge {ss : List Srt} {m : Int} : ourn ss ≤ filF ss m := by
  unfold filF ourn
  induction ss with
  | nil => exact Nat.le_refl _
  | cons a l ih =>
    simp only [List.map_cons, List.sum_cons]
    omega
theorem fil_le {ss : List Srt} {m : Int} : filF ss m ≤ mny ss := by
  unfold filF mny
  induction ss with
  | nil => exact Nat.le_refl _
  | cons a l ih =>
    simp only [List.map_cons, List.sum_cons]
    have : (if a.1 ≤ m then a.2.2 else 0) ≤ a.2.2 := by split <;> omega
    omega
abbrev s_ships_many : Stmt := topS 9
theorem sc_ships_many : FnScope (["fleet", "draught", "ours", "theirs"] : List Str) (["fleet"] : List Str) (defScope s_ships_many) := ⟨rfl, rfl, rfl, by decide +kernel, rfl, by decide +kernel, by decide +kernel⟩
theorem b_ships_many (kV doc pm : Value) (an : Option Addr) (cdv ct : Value) (us : List Value) (hl : us.length = (["fleet"] : List Str).length) : bindArgs (PySem.W.fnOf "ships_many" "ships_many" (defArgs s_ships_many) (defBody s_ships_many) (defScope s_ships_many) .none kV doc pm an cdv ct) ⟨us, []⟩ = pure ((["fleet"] : List Str).zip us) :=
  match us, hl with | [_], _ => rfl
abbrev s_mark_in : Stmt := topS 10
theorem sc_mark_in : FnScope (["fleet", "step", "here", "there", "sorts"] : List Str) (["fleet", "step"] : List Str) (defScope s_mark_in) := ⟨rfl, rfl, rfl, by decide +kernel, rfl, by decide +kernel, by decide +kernel⟩
theorem b_mark_in (kV doc pm : Value) (an : Option Addr) (cdv ct : Value) (us : List Value) (hl : us.length = (["fleet", "step"] : List Str).length) : bindArgs (PySem.W.fnOf "mark_in" "mark_in" (defArgs s_mark_in) (defBody s_mark_in) (defScope s_mark_in) .none kV doc pm an cdv ct) ⟨us, []⟩ = pure ((["fleet", "step"] : List Str).zip us) :=
  match us, hl with | [_, _], _ => rfl
abbrev s_top_in : Stmt := topS 11
theorem sc_top_in : FnScope (["fleet", "here", "there", "sorts"] : List Str) (["fleet"] : List Str) (defScope s_top_in) := ⟨rfl, rfl, rfl, by decide +kernel, rfl, by decide +kernel, by decide +kernel⟩
theorem b_top_in (kV doc pm : Value) (an : Option Addr) (cdv ct : Value) (us : List Value) (hl : us.length = (["fleet"] : List Str).length) : bindArgs (PySem.W.fnOf "top_in" "top_in" (defArgs s_top_in) (defBody s_top_in) (defScope s_top_in) .none kV doc pm an cdv ct) ⟨us, []⟩ = pure ((["fleet"] : List Str).zip us) :=
  match us, hl with | [_], _ => rfl
abbrev s_filled_at : Stmt := topS 12
theorem sc_filled_at : FnScope (["fleet", "step", "mark", "draught", "ours", "theirs"] : List Str) (["fleet", "step"] : List Str) (defScope s_filled_at) := ⟨rfl, rfl, rfl, by decide +kernel, rfl, by decide +kernel, by decide +kernel⟩
theorem b_filled_at (kV doc pm : Value) (an : Option Addr) (cdv ct : Value) (us : List Value) (hl : us.length = (["fleet", "step"] : List Str).length) : bindArgs (PySem.W.fnOf "filled_at" "filled_at" (defArgs s_filled_at) (defBody s_filled_at) (defScope s_filled_at) .none kV doc pm an cdv ct) ⟨us, []⟩ = pure ((["fleet", "step"] : List Str).zip us) :=
  match us, hl with | [_, _], _ => rfl
abbrev s_low_stop : Stmt := topS 13
theorem sc_low_stop : FnScope (["fleet", "top", "step", "filled", "draught", "ours", "theirs"] : List Str) (["fleet", "top"] : List Str) (defScope s_low_stop) := ⟨rfl, rfl, rfl, by decide +kernel, rfl, by decide +kernel, by decide +kernel⟩
theorem b_low_stop (kV doc pm : Value) (an : Option Addr) (cdv ct : Value) (us : List Value) (hl : us.length = (["fleet", "top"] : List Str).length) : bindArgs (PySem.W.fnOf "low_stop" "low_stop" (defArgs s_low_stop) (defBody s_low_stop) (defScope s_low_stop) .none kV doc pm an cdv ct) ⟨us, []⟩ = pure ((["fleet", "top"] : List Str).zip us) :=
  match us, hl with | [_, _], _ => rfl
abbrev s_turned_fleet : Stmt := topS 8
theorem sc_turned_fleet : FnScope (["fleet", "here", "there", "sorts", "draught", "ours", "theirs"] : List Str) (["fleet"] : List Str) (defScope s_turned_fleet) := ⟨rfl, rfl, rfl, by decide +kernel, rfl, by decide +kernel, by decide +kernel⟩
theorem b_turned_fleet (kV doc pm : Value) (an : Option Addr) (cdv ct : Value) (us : List Value) (hl : us.length = (["fleet"] : List Str).length) : bindArgs (PySem.W.fnOf "turned_fleet" "turned_fleet" (defArgs s_turned_fleet) (defBody s_turned_fleet) (defScope s_turned_fleet) .none kV doc pm an cdv ct) ⟨us, []⟩ = pure ((["fleet"] : List Str).zip us) :=
  match us, hl with | [_], _ => rfl
section
variable {P : Program} {w : World} {K : PySem.W.Frag} {mg : Str → Option Value} {base : Heap}
theorem ok_ships {k : Nat} (D : Df K mg "ships_many" s_ships_many) (T : Bt mg) : Ok P w K mg base (k + 1) "ships_many" s_ships_many ["fleet"] (spShips K) := by
  refine D.ok sc_ships_many b_ships_many (fun vs H Q E h => ?_) (fun f cdv A outer s H vs Q E hr h => ?_)
  · obtain ⟨v, h, t, ss, rfl, _⟩ := h
    rfl
  · obtain ⟨v, h, t, ss, rfl, ⟨p, q, rs, rfl, hp, hq, hs⟩, l1, k⟩ := h
    refine ⟨_, (pss_one (ps_ret (pe_callB (cr_sum rfl) (by rfl) T.sum_ (by decide +kernel) (pa_cons (pe_lc (own := [("draught", 1), ("ours", 2), ("theirs", 3)]) (g := (gSeq K 3 (gCons (gName 1) (gCons (gName 2) (gCons (gName 3) gNil))))) (tt := tYes) (by rfl) sc_ships_many.nd (pi_seq (pe_ix ix_lt (pv 0) pe_int (fun _ _ => rfl))) (blkOk_by (own := [("draught", 1), ("ours", 2), ("theirs", 3)]) (N := (["fleet", "draught", "ours", "theirs"] : List Str)) (sc := defScope s_ships_many) (by decide +kernel)) (fun _ _ _ _ _ => (pg_seq rfl (pgs_cons (pg_name (i := 1) sc_ships_many.nd rfl (.inl rfl)) (pgs_cons (pg_name (i := 2) sc_ships_many.nd rfl (.inl rfl)) (pgs_cons (pg_name (i := 3) sc_ships_many.nd rfl (.inl rfl)) pgs_nil))))) (fun _ _ _ _ _ => pts_nil) (fun _ _ _ _ _ => (pe_op op_add (pv 2) (pv 3)))) pa_nil)))), ?_⟩
    refine ⟨_, rfl, p, _, 2, .ref q, rfl, rfl, hp, rfl, q, _, H, rfl, hq, Kp.refl _ _, fun J hJ C nC => ?_⟩
    obtain ⟨G, g, W⟩ := hJ.walk
    refine lc_it W (fun i H' => Same H H' ∧ H' C = some (.lst (((ss.take i).map fun x => ((x.2.1 + x.2.2 : Nat) : Int)).map V.int))) ⟨same_new nC, upd_same⟩ (fun i H' _ z => g H' (.ofS z.1)) ?_ ?_
    · rintro i x H1 H2 _ ⟨sm, hC⟩ ⟨rfl, gx⟩
      obtain ⟨r, hi, rfl, hr1⟩ := srt_at (hs.same sm) gx
      refine ⟨r, _, rfl, hr1, rfl, _, _, rfl, _, _, rfl, _, _, rfl, rfl, rfl, tyes (iteT ⟨_, rfl, _, rfl, _, _, rfl, rfl, _, hC, ?_, same_over sm nC, ?_⟩)⟩
      · rw [List.length_map, List.length_map]
        exact Nat.lt_of_lt_of_le (take_le hi) (Nat.le_trans l1 (by decide))
      · rw [upd_same, tm _ hi, List.map_append]
        rfl
    · rintro H1 ⟨sm, hC⟩
      rw [List.length_map, hs.1, List.take_length] at hC
      refine ⟨C, _, rfl, SqL.of hC, ?_⟩
      rw [isum]
      exact k H1 sm
theorem ok_mark_in {k : Nat} (D : Df K mg "mark_in" s_mark_in) (T : Bt mg) (O_mark_of : Ok P w K mg base k "mark_of" s_mark_of ["here", "there", "many", "step"] spMarkOf) (O_ships_many : Ok P w K mg base k "ships_many" s_ships_many ["fleet"] (spShips K)) :
    Ok P w K mg base (k + 1) "mark_in" s_mark_in ["fleet", "step"] (spMarkIn K) := by
  refine D.ok sc_mark_in b_mark_in (fun vs H Q E h => ?_) (fun f cdv A outer s H vs Q E hr h => ?_)
  · obtain ⟨v, h, t, s, ss, rfl, _⟩ := h
    rfl
  · obtain ⟨v, h, t, s, ss, rfl, hv, l1, k⟩ := h
    obtain ⟨p, q, rs, rfl, hp, hq, hs⟩ := id hv
    refine ⟨_, (pss_cons (ps_asg (pv 0) (pg_seq rfl (pgs_cons (pg_name (i := 2) sc_mark_in.nd rfl (.inl rfl)) (pgs_cons (pg_name (i := 3) sc_mark_in.nd rfl (.inl rfl)) (pgs_cons (pg_name (i := 4) sc_mark_in.nd rfl (.inl rfl)) pgs_nil)))))
      (pss_one (ps_ret (pe_fn O_mark_of (hr.mono (by omega)) (pa_cons (pv 2) (pa_cons (pv 3) (pa_cons (pe_fn O_ships_many (hr.mono (by omega)) (pa_cons (pv 0) pa_nil)) (pa_cons (pv 1) pa_nil)))))))), ?_⟩
    refine ⟨_, rfl, p, _, rfl, hp, rfl, _, _, rfl, _, _, rfl, _, _, rfl, rfl, ?_⟩
    exact ⟨_, rfl, _, rfl, _, rfl, .ref p, h, t, ss, rfl, hv, l1, fun H' s1 => ⟨_, rfl, h, t, s, mny ss, rfl, k H' s1⟩⟩
theorem ok_top_in {k : Nat} (D : Df K mg "top_in" s_top_in) (T : Bt mg) (O_top_of : Ok P w K mg base k "top_of" s_top_of ["here", "there", "many"] spTopOf) (O_ships_many : Ok P w K mg base k "ships_many" s_ships_many ["fleet"] (spShips K)) :
    Ok P w K mg base (k + 1) "top_in" s_top_in ["fleet"] (spTopIn K) := by
  refine D.ok sc_top_in b_top_in (fun vs H Q E h => ?_) (fun f cdv A outer s H vs Q E hr h => ?_)
  · obtain ⟨v, h, t, ss, rfl, _⟩ := h
    rfl
  · obtain ⟨v, h, t, ss, rfl, hv, l1, k⟩ := h
    obtain ⟨p, q, rs, rfl, hp, hq, hs⟩ := id hv
    refine ⟨_, (pss_cons (ps_asg (pv 0) (pg_seq rfl (pgs_cons (pg_name (i := 1) sc_top_in.nd rfl (.inl rfl)) (pgs_cons (pg_name (i := 2) sc_top_in.nd rfl (.inl rfl)) (pgs_cons (pg_name (i := 3) sc_top_in.nd rfl (.inl rfl)) pgs_nil)))))
      (pss_one (ps_ret (pe_fn O_top_of (hr.mono (by omega)) (pa_cons (pv 1) (pa_cons (pv 2) (pa_cons (pe_fn O_ships_many (hr.mono (by omega)) (pa_cons (pv 0) pa_nil)) pa_nil))))))), ?_⟩
    refine ⟨_, rfl, p, _, rfl, hp, rfl, _, _, rfl, _, _, rfl, _, _, rfl, rfl, ?_⟩
    exact ⟨_, rfl, _, rfl, _, rfl, .ref p, h, t, ss, rfl, hv, l1, fun H' s1 => ⟨h, t, mny ss, rfl, k H' s1⟩⟩
theorem ok_filled {k : Nat} (D : Df K mg "filled_at" s_filled_at) (T : Bt mg) (O_mark_in : Ok P w K mg base k "mark_in" s_mark_in ["fleet", "step"] (spMarkIn K)) :
    Ok P w K mg base (k + 1) "filled_at" s_filled_at ["fleet", "step"] (spFilled K) := by
  refine D.ok sc_filled_at b_filled_at (fun vs H Q E h => ?_) (fun f cdv A outer s H vs Q E hr h => ?_)
  · obtain ⟨v, h, t, s, ss, rfl, _⟩ := h
    rfl
  · obtain ⟨v, h, t, s, ss, rfl, hv, l1, k⟩ := h
    refine ⟨_, (pss_cons (ps_set (i := 2) sc_filled_at.nd rfl (.inr rfl) (pe_fn O_mark_in (hr.mono (by omega)) (pa_cons (pv 0) (pa_cons (pv 1) pa_nil))))
      (pss_one (ps_ret (pe_callB (cr_sum rfl) (by rfl) T.sum_ (by decide +kernel) (pa_cons (pe_lc (own := [("draught", 3), ("ours", 4), ("theirs", 5)]) (g := (gSeq K 3 (gCons (gName 3) (gCons (gName 4) (gCons (gName 5) gNil))))) (tt := tYes) (by rfl) sc_filled_at.nd (pi_seq (pe_ix ix_lt (pv 0) pe_int (fun _ _ => rfl))) (blkOk_by (own := [("draught", 3), ("ours", 4), ("theirs", 5)]) (N := (["fleet", "step", "mark", "draught", "ours", "theirs"] : List Str)) (sc := defScope s_filled_at) (by decide +kernel)) (fun _ _ _ _ _ => (pg_seq rfl (pgs_cons (pg_name (i := 3) sc_filled_at.nd rfl (.inl rfl)) (pgs_cons (pg_name (i := 4) sc_filled_at.nd rfl (.inl rfl)) (pgs_cons (pg_name (i := 5) sc_filled_at.nd rfl (.inl rfl)) pgs_nil))))) (fun _ _ _ _ _ => pts_nil) (fun _ _ _ _ _ => (pe_op op_add (pv 4) (pe_ifExp (pt_cmpR op_le (pv 3) (pv 2) (nomark _)) (pv 5) pe_int)))) pa_nil))))), ?_⟩
    refine ⟨_, rfl, _, rfl, v, h, t, s, ss, rfl, hv, l1, fun H0 s0 => ?_⟩
    obtain ⟨p, q, rs, rfl, hp, hq, hs⟩ := hv.same s0
    generalize mk h t (mny ss) s = m at k
    refine ⟨_, rfl, p, _, 2, .ref q, rfl, rfl, hp, rfl, q, _, H0, rfl, hq, Kp.refl _ _, fun J hJ C nC => ?_⟩
    obtain ⟨G, g, W⟩ := hJ.walk
    refine lc_it W (fun i H' => Same H0 H' ∧ H' C = some (.lst (((ss.take i).map fun x => ((x.2.1 + if x.1 ≤ m then x.2.2 else 0 : Nat) : Int)).map V.int))) ⟨same_new nC, upd_same⟩ (fun i H' _ z => g H' (.ofS z.1)) ?_ ?_
    · rintro i x H1 H2 _ ⟨sm, hC⟩ ⟨rfl, gx⟩
      obtain ⟨r, hi, rfl, hr1⟩ := srt_at (hs.same sm) gx
      have len : (((ss.take i).map fun x => ((x.2.1 + if x.1 ≤ m then x.2.2 else 0 : Nat) : Int)).map V.int).length < sizeLine := by
        rw [List.length_map, List.length_map]
        exact Nat.lt_of_lt_of_le (take_le hi) (Nat.le_trans l1 (by decide))
      refine ⟨r, _, rfl, hr1, rfl, _, _, rfl, _, _, rfl, _, _, rfl, rfl, rfl, tyes (iteT ⟨_, rfl, _, rfl, _, rfl, _, _, rfl, rfl, _, rfl, ite2 (fun c => ⟨_, rfl, _, _, rfl, rfl, _, hC, len, same_over sm nC, ?_⟩) (fun c => ⟨_, _, rfl, rfl, _, hC, len, same_over sm nC, ?_⟩)⟩)⟩
      · have c0 : ss[i].1 ≤ m := of_decide_eq_true c
        rw [upd_same, tm _ hi, List.map_append, if_pos c0]
        rfl
      · have c0 : ¬ ss[i].1 ≤ m := fun z => c (decide_eq_true z)
        rw [upd_same, tm _ hi, List.map_append, if_neg c0]
        rfl
    · rintro H1 ⟨sm, hC⟩
      rw [List.length_map, hs.1, List.take_length] at hC
      refine ⟨C, _, rfl, SqL.of hC, ?_⟩
      rw [isum]
      exact k H1 (s0.trans sm)
theorem ok_low_stop {k : Nat} (D : Df K mg "low_stop" s_low_stop) (T : Bt mg) (O_filled_at : Ok P w K mg base k "filled_at" s_filled_at ["fleet", "step"] (spFilled K)) :
    Ok P w K mg base (k + 1) "low_stop" s_low_stop ["fleet", "top"] (spLowStop K) := by
  refine D.ok sc_low_stop b_low_stop (fun vs H Q E h => ?_) (fun f cdv A outer s H vs Q E hr h => ?_)
  · obtain ⟨v, h, t, top, ss, rfl, _⟩ := h
    rfl
  · obtain ⟨v, h, t, top, ss, rfl, hv, l1, ris, k1, k2⟩ := h
    refine ⟨_, (pss_cons (ps_set (i := 2) sc_low_stop.nd rfl (.inl rfl) (pe_callB (cr_sum rfl) (by rfl) T.sum_ (by decide +kernel) (pa_cons (pe_lc (own := [("draught", 4), ("ours", 5), ("theirs", 6)]) (g := (gSeq K 3 (gCons (gName 4) (gCons (gName 5) (gCons (gName 6) gNil))))) (tt := tYes) (by rfl) sc_low_stop.nd (pi_seq (pe_ix ix_lt (pv 0) pe_int (fun _ _ => rfl))) (blkOk_by (own := [("draught", 4), ("ours", 5), ("theirs", 6)]) (N := (["fleet", "top", "step", "filled", "draught", "ours", "theirs"] : List Str)) (sc := defScope s_low_stop) (by decide +kernel)) (fun _ _ _ _ _ => (pg_seq rfl (pgs_cons (pg_name (i := 4) sc_low_stop.nd rfl (.inl rfl)) (pgs_cons (pg_name (i := 5) sc_low_stop.nd rfl (.inl rfl)) (pgs_cons (pg_name (i := 6) sc_low_stop.nd rfl (.inl rfl)) pgs_nil))))) (fun _ _ _ _ _ => pts_nil) (fun _ _ _ _ _ => (pv 5))) pa_nil)))
      (pss_cons (ps_while PassesOwn.never (pt_cmpR op_le (pv 2) (pv 1) (nomark _))
        (pss_cons (ps_set (i := 3) sc_low_stop.nd rfl (.inl rfl) (pe_fn O_filled_at (hr.mono (by omega)) (pa_cons (pv 0) (pa_cons (pv 2) pa_nil))))
          (pss_cons (ps_if (pt_cmpR op_eq (pv 3) (pv 2) (nomark _))
            (pss_one (ps_ret (pv 2)))
            pss_nil)
          (pss_one (ps_set (i := 2) sc_low_stop.nd rfl (.inl rfl) (pv 3))))))
      (pss_one (ps_ret pe_non)))), ?_⟩
    obtain ⟨p, q, rs, rfl, hp, hq, hs⟩ := id hv
    refine ⟨_, rfl, p, _, 2, .ref q, rfl, rfl, hp, rfl, q, _, H, rfl, hq, Kp.refl _ _, fun J hJ C nC => ?_⟩
    obtain ⟨G, g, W⟩ := hJ.walk
    refine lc_it W (fun i H' => Same H H' ∧ H' C = some (.lst (((ss.take i).map fun x => ((x.2.1 : Nat) : Int)).map V.int))) ⟨same_new nC, upd_same⟩ (fun i H' _ z => g H' (.ofS z.1)) ?_ ?_
    · rintro i x H1 H2 _ ⟨sm, hC⟩ ⟨rfl, gx⟩
      obtain ⟨r, hi, rfl, hr1⟩ := srt_at (hs.same sm) gx
      refine ⟨r, _, rfl, hr1, rfl, _, _, rfl, _, _, rfl, _, _, rfl, rfl, rfl, tyes (iteT ⟨_, rfl, _, hC, ?_, same_over sm nC, ?_⟩)⟩
      · rw [List.length_map, List.length_map]
        exact Nat.lt_of_lt_of_le (take_le hi) (Nat.le_trans l1 (by decide))
      · rw [upd_same, tm _ hi, List.map_append]
        rfl
    rintro H1 ⟨sm, hC⟩
    rw [List.length_map, hs.1, List.take_length] at hC
    refine ⟨C, _, rfl, SqL.of hC, ?_⟩
    rw [isum]
    -- the loop: step is no less than those here; at no step between is it stuck
    refine ⟨fun m σ H' => ∃ (y : Option V) (n : Nat), σ = [some (.ref p), some (.int top), some (.int (n : Int)), y, none, none, none] ∧ Same H H' ∧ ourn ss ≤ n ∧ n ≤ mny ss ∧ mny ss - n = m ∧ (∀ j : Nat, ourn ss ≤ j → j < n → (j : Int) ≤ top → j < filF ss (mk h t (mny ss) (j : Int))) ∧ ((n : Int) ≤ top → n ≤ filF ss (mk h t (mny ss) (n : Int))),
      ⟨_, none, ourn ss, rfl, sm, Nat.le_refl _, ?_, rfl, fun j a b => by omega, fun _ => fil_ge⟩, ?_⟩
    · exact Nat.le_trans (fil_ge (m := 0)) fil_le
    rintro m σ H2 ⟨y, n, rfl, s2, n0, n1, rfl, hj, hn⟩
    refine ⟨_, rfl, _, rfl, _, _, rfl, rfl, _, rfl, ite2 (fun c => ?_) (fun c => ?_)⟩
    · have c0 : (n : Int) ≤ top := of_decide_eq_true c
      refine ⟨fun σ' H' => ∃ (y : Option V) (n' : Nat), σ' = [some (.ref p), some (.int top), some (.int (n' : Int)), y, none, none, none] ∧ Same H H' ∧ ourn ss ≤ n' ∧ n' ≤ mny ss ∧ n < n' ∧ (∀ j : Nat, ourn ss ≤ j → j < n' → (j : Int) ≤ top → j < filF ss (mk h t (mny ss) (j : Int))) ∧ ((n' : Int) ≤ top → n' ≤ filF ss (mk h t (mny ss) (n' : Int))),
        fun σ' H' ⟨y', n', z1, z2, z3, z4, z5, z6, z7⟩ => ⟨_, by omega, y', n', z1, z2, z3, z4, rfl, z6, z7⟩, ?_⟩
      refine ⟨_, rfl, _, rfl, .ref p, h, t, (n : Int), ss, rfl, hv.same s2, l1, fun H3 s3 => ?_⟩
      have s23 := s2.trans s3
      refine ⟨_, rfl, _, rfl, rfl, _, rfl, ite2 (fun c2 => ?_) (fun c2 => ?_)⟩
      · have e : (filF ss (mk h t (mny ss) (n : Int)) : Int) = (n : Int) := V.int.inj (of_decide_eq_true c2)
        exact ⟨_, rfl, k1 H3 n s23 c0 ⟨n0, fun j a b => hj j a b (by omega), by omega⟩⟩
      · have e : ¬ (filF ss (mk h t (mny ss) (n : Int)) : Int) = (n : Int) := fun z => c2 (decide_eq_true (by rw [z]))
        have hn' := hn c0
        refine ⟨_, rfl, _, filF ss (mk h t (mny ss) (n : Int)), rfl, s23, fil_ge, fil_le, by omega, fun j a b d => ?_, fun d => ?_⟩
        · by_cases z : j < n
          · exact hj j a z d
          · have := fil_mono (ss := ss) (ris (n : Int) (j : Int) (by omega) (by omega) d)
            omega
        · exact fil_mono (ris _ _ (by omega) (by omega) d)
    · have c0 : ¬ (n : Int) ≤ top := fun z => c (decide_eq_true z)
      refine k2 H2 s2 fun N a ⟨b1, b2, b3⟩ => ?_
      have := hj N b1 (by omega) a
      omega
theorem ok_turned_fleet {k : Nat} (D : Df K mg "turned_fleet" s_turned_fleet) (T : Bt mg) : Ok P w K mg base (k + 1) "turned_fleet" s_turned_fleet ["fleet"] (spTurnedF K) := by
  refine D.ok sc_turned_fleet b_turned_fleet (fun vs H Q E h => ?_) (fun f cdv A outer s H vs Q E hr h => ?_)
  · obtain ⟨v, h, t, ss, rfl, _⟩ := h
    rfl
  · obtain ⟨v, h, t, ss, rfl, hv, l1, k⟩ := h
    obtain ⟨p, q, rs, rfl, hp, hq, hs⟩ := id hv
    refine ⟨_, (pss_cons (ps_asg (pv 0) (pg_seq rfl (pgs_cons (pg_name (i := 1) sc_turned_fleet.nd rfl (.inl rfl)) (pgs_cons (pg_name (i := 2) sc_turned_fleet.nd rfl (.inl rfl)) (pgs_cons (pg_name (i := 3) sc_turned_fleet.nd rfl (.inl rfl)) pgs_nil)))))
      (pss_one (ps_ret (pe_tup (pa_cons (pv 2) (pa_cons (pv 1) (pa_cons (pe_callTy call_tuple_of (by rfl) T.tuple_ (by decide +kernel) (pa_cons (pe_lc (own := [("draught", 4), ("ours", 5), ("theirs", 6)]) (g := (gSeq K 3 (gCons (gName 4) (gCons (gName 5) (gCons (gName 6) gNil))))) (tt := tYes) (by rfl) sc_turned_fleet.nd (pi_seq (pv 3)) (blkOk_by (own := [("draught", 4), ("ours", 5), ("theirs", 6)]) (N := (["fleet", "here", "there", "sorts", "draught", "ours", "theirs"] : List Str)) (sc := defScope s_turned_fleet) (by decide +kernel)) (fun _ _ _ _ _ => (pg_seq rfl (pgs_cons (pg_name (i := 4) sc_turned_fleet.nd rfl (.inl rfl)) (pgs_cons (pg_name (i := 5) sc_turned_fleet.nd rfl (.inl rfl)) (pgs_cons (pg_name (i := 6) sc_turned_fleet.nd rfl (.inl rfl)) pgs_nil))))) (fun _ _ _ _ _ => pts_nil) (fun _ _ _ _ _ => (pe_tup (pa_cons (pv 4) (pa_cons (pv 6) (pa_cons (pv 5) pa_nil)))))) pa_nil)) pa_nil))))))), ?_⟩
    refine ⟨_, rfl, p, _, rfl, hp, rfl, _, _, rfl, _, _, rfl, _, _, rfl, rfl, ?_⟩
    refine ⟨_, rfl, _, rfl, _, rfl, q, _, H, rfl, hq, Kp.refl _ _, fun J hJ C nC => ?_⟩
    obtain ⟨G, g, W⟩ := hJ.walk
    refine lc_it W (fun i H' => Same H H' ∧ ∃ us : List Addr, H' C = some (.lst (us.map V.ref)) ∧ SrtsN H' us (turnF (ss.take i))) ⟨same_new nC, [], upd_same, ?_⟩ (fun i H' _ z => g H' (.ofS z.1)) ?_ ?_
    · exact ⟨rfl, fun i r x a _ => by simp at a⟩
    · rintro i x H1 H2 _ ⟨sm, us, hC, hu⟩ ⟨rfl, gx⟩
      obtain ⟨r, hi, rfl, hr1⟩ := srt_at (hs.same sm) gx
      have lu : us.length = i := by
        rw [hu.1]
        unfold turnF
        rw [List.length_map, List.length_take]
        omega
      refine ⟨r, _, rfl, hr1, rfl, _, _, rfl, _, _, rfl, _, _, rfl, rfl, rfl, tyes (iteT ⟨_, rfl, _, rfl, _, rfl, (by show 3 ≤ sizeLine; decide), fun u nu => ⟨_, same_new nu _ _ hC, ?_, ?_, us ++ [u], ?_, ?_⟩⟩)⟩
      · rw [List.length_map, lu]
        exact Nat.lt_of_lt_of_le hi (Nat.le_trans l1 (by decide))
      · exact same_over (sm.trans (same_new nu)) nC
      · rw [upd_same, List.map_append]
        rfl
      · have e : turnF (ss.take (i + 1)) = turnF (ss.take i) ++ [(ss[i].1, ss[i].2.2, ss[i].2.1)] := tm _ hi
        rw [e]
        exact (hu.push (x := (ss[i].1, ss[i].2.2, ss[i].2.1)) nu).put (same_new nu _ _ hC)
    · rintro H1 ⟨sm, us, hC, hu⟩
      rw [List.length_map, hs.1, List.take_length] at hu
      refine ⟨C, _, rfl, .inl ⟨SqL.of hC, fun a na => ⟨(by show 3 ≤ sizeLine; decide), fun b nb => ?_⟩⟩⟩
      have s1 : Same H1 (upd H1 a (.tup (us.map V.ref))) := same_new na
      have s2 := s1.trans (same_new nb (o := .tup [.int t, .int h, .ref a]))
      exact k _ _ (sm.trans s2) ⟨b, a, us, rfl, SqA.t upd_same, SqA.t (same_new nb _ _ upd_same), (hu.same s2).a⟩
end
end Sh

namespace Sh
open PySem PySem.Spec PyProof.Rows L2
/-! ### which lot: its kind and its step -/
/-- constants of the top -/
structure Cn (mg : Str → Option Value) : Prop where
  low : ∃ t, mg "LOW" = some (.str "low" t)
  high : ∃ t, mg "HIGH" = some (.str "high" t)
  top : ∃ t, mg "TOP" = some (.str "top" t)
structure Ck (mg : Str → Option Value) (K : PySem.W.Frag) (w : World) : Prop where
  kinds : ∃ a, mg "TURNED_KINDS" = some (.ref a) ∧ KDct K w a "low" (.str "high") ∧ KDct K w a "high" (.str "low") ∧ KDct K w a "top" (.str "top")
section
variable {K : PySem.W.Frag} {mg : Str → Option Value} {w : World}
theorem with_cn {R : Prop} {h : Heap} {t1 t2 t3 : Tok} (X : K.In h) (G : h.Ns mainGlobals mg) (a : PySem.W.nsIn K mainGlobals "LOW" = some (some (.str "low" t1))) (b : PySem.W.nsIn K mainGlobals "HIGH" = some (some (.str "high" t2)))
    (c : PySem.W.nsIn K mainGlobals "TOP" = some (some (.str "top" t3))) (r : Cn mg → R) : R := r ⟨⟨_, PySem.W.mg_of X G a⟩, ⟨_, PySem.W.mg_of X G b⟩, ⟨_, PySem.W.mg_of X G c⟩⟩
theorem with_ck {R : Prop} {h : Heap} {p : Addr} {es : Array DictEntry} {n : Nat} {t1 t2 t3 : Tok} (X : K.In h) (G : h.Ns mainGlobals mg) (a : PySem.W.nsIn K mainGlobals "TURNED_KINDS" = some (some (.ref p))) (l : K.lookup p = some ⟨.type "dict", none, .dict es n, #[]⟩)
    (k : PySem.W.KeysLit w.params es.toList) (d1 : PySem.W.nsIn K p "low" = some (some (.str "high" t1))) (d2 : PySem.W.nsIn K p "high" = some (some (.str "low" t2))) (d3 : PySem.W.nsIn K p "top" = some (some (.str "top" t3))) (r : Ck mg K w → R) : R :=
  r ⟨⟨p, PySem.W.mg_of X G a, ⟨es, n, _, l, k, d1, _, rfl⟩, ⟨es, n, _, l, k, d2, _, rfl⟩, ⟨es, n, _, l, k, d3, _, rfl⟩⟩⟩
end
inductive Kd where
  | low | high | top
def Kd.str : Kd → Str
  | .low => "low"
  | .high => "high"
  | .top => "top"
def Kd.turn : Kd → Kd
  | .low => .high
  | .high => .low
  | .top => .top
theorem Kd.str_inj {a b : Kd} (h : a.str = b.str) : a = b := by
  cases a <;> cases b <;> first | rfl | (exfalso; revert h; decide)
/-- the lot of a fleet -/
def LotF (h t : Int) (ss : List Srt) : Kd → Int → Prop
  | .low, s => ∃ N : Nat, s = (N : Int) ∧ (N : Int) ≤ topI h t (mny ss) ∧ StuckF h t ss N
  | .high, s => ∃ N : Nat, s = (mny ss : Int) - 1 - (N : Int) ∧ (N : Int) ≤ (mny ss : Int) - 1 - topI h t (mny ss) ∧ StuckF t h (turnF ss) N
  | .top, s => s = topI h t (mny ss) ∧ (∀ N : Nat, (N : Int) ≤ topI h t (mny ss) → ¬ StuckF h t ss N) ∧ ∀ N : Nat, (N : Int) ≤ (mny ss : Int) - 1 - topI h t (mny ss) → ¬ StuckF t h (turnF ss) N
/-- a lot told or handed in -/
def LtA (K : PySem.W.Frag) (H : Hp) (v : V) (kd : Kd) (s : Int) : Prop := ∃ p, v = .ref p ∧ SqA K H p [.str kd.str, .int s]
theorem LtA.same {K : PySem.W.Frag} {H H' : Hp} {v : V} {kd : Kd} {s : Int} (l : LtA K H v kd s) (e : Same H H') : LtA K H' v kd s := let ⟨p, a, b⟩ := l; ⟨p, a, Same.sqA e b⟩
theorem rise_top (h t : Int) (n : Nat) : Rise h t n (topI h t n) := fun _ _ a b c => mk_le a b c
theorem rise_turn (h t : Int) (n : Nat) : Rise t h n ((n : Int) - 1 - topI h t n) := fun s s' a b c => by
  rw [mk_turn' (h := h) (t := t), mk_turn' (h := h) (t := t)]
  exact mk_dn (by omega) (by omega) (by omega)
theorem isumN : ∀ l : List Nat, (l.map fun (n : Nat) => (n : Int)).sum = (l.sum : Int)
  | [] => rfl
  | a :: l => by
    rw [List.map_cons, List.sum_cons, isumN l, List.sum_cons]
    rfl
def spLotOf (K : PySem.W.Frag) : Sp := fun vs H Q _ => ∃ (v : V) (h t : Int) (ss : List Srt), vs = [v] ∧ FltA K H v h t ss ∧ ss.length ≤ 1000 ∧
  ∀ (H' : Hp) (p : Addr) (kd : Kd) (s : Int), Same H H' → H p = none → H' p = some (.tup [.str kd.str, .int s]) → LotF h t ss kd s → Q (.ref p) H'
def spTurnedLot (K : PySem.W.Frag) : Sp := fun vs H Q _ => ∃ (v l : V) (h t s : Int) (ss : List Srt) (kd : Kd), vs = [v, l] ∧ FltA K H v h t ss ∧ ss.length ≤ 1000 ∧ LtA K H l kd s ∧
  ∀ (H' : Hp) (z : V), Same H H' → LtA K H' z kd.turn ((mny ss : Int) - 1 - s) → Q z H'
def spFixed (K : PySem.W.Frag) : Sp := fun vs H Q _ => ∃ (v l : V) (h t s : Int) (ss : List Srt) (kd : Kd), vs = [v, l] ∧ FltA K H v h t ss ∧ ss.length ≤ 1000 ∧ LtA K H l kd s ∧
  ∀ (H' : Hp) (p : Addr), Same H H' → H p = none → H' p = some (.lst (((fxF ss (mk h t (mny ss) s)).map fun (n : Nat) => (n : Int)).map V.int)) → Q (.ref p) H'
def spLeastIn (K : PySem.W.Frag) : Sp := fun vs H Q _ => ∃ (v l : V) (h t s : Int) (ss : List Srt) (kd : Kd), vs = [v, l] ∧ FltA K H v h t ss ∧ ss.length ≤ 1000 ∧ LtA K H l kd s ∧
  (kd = .high → ∀ H', Same H H' → Q (.int (s + 1)) H') ∧ (kd ≠ .high → ∀ (H' : Hp) (m : Int), Same H H' → LeastI h t ss s m → Q (.int m) H')
def spMostIn (K : PySem.W.Frag) : Sp := fun vs H Q _ => ∃ (v l : V) (h t s : Int) (ss : List Srt) (kd : Kd), vs = [v, l] ∧ FltA K H v h t ss ∧ ss.length ≤ 1000 ∧ LtA K H l kd s ∧
  (kd = .low → ∀ H', Same H H' → Q (.int s) H') ∧ (kd ≠ .low → ∀ (H' : Hp) (m : Int), Same H H' → LeastI t h (turnF ss) ((mny ss : Int) - 1 - s) m → Q (.int ((mny ss : Int) - m)) H')
/-- the step next to which one goes -/
def nextS : Kd → Int → Int
  | .low, s => s - 1
  | .high, s => s + 1
  | .top, s => s
def spMoving (K : PySem.W.Frag) : Sp := fun vs H Q _ => ∃ (v l : V) (h t s : Int) (ss : List Srt) (kd : Kd), vs = [v, l] ∧ FltA K H v h t ss ∧ ss.length ≤ 1000 ∧ LtA K H l kd s ∧
  ((nextS kd s < 0 ∨ (mny ss : Int) ≤ nextS kd s) → ∀ H', Same H H' → Q .non H') ∧ (0 ≤ nextS kd s → nextS kd s < (mny ss : Int) → ∀ H', Same H H' → Q (.int (mk h t (mny ss) (nextS kd s))) H')
abbrev s_lot_of : Stmt := topS 14
theorem sc_lot_of : FnScope (["fleet", "last", "top", "stop"] : List Str) (["fleet"] : List Str) (defScope s_lot_of) := ⟨rfl, rfl, rfl, by decide +kernel, rfl, by decide +kernel, by decide +kernel⟩
theorem b_lot_of (kV doc pm : Value) (an : Option Addr) (cdv ct : Value) (us : List Value) (hl : us.length = (["fleet"] : List Str).length) : bindArgs (PySem.W.fnOf "lot_of" "lot_of" (defArgs s_lot_of) (defBody s_lot_of) (defScope s_lot_of) .none kV doc pm an cdv ct) ⟨us, []⟩ = pure ((["fleet"] : List Str).zip us) :=
  match us, hl with | [_], _ => rfl
abbrev s_moving_mark : Stmt := topS 15
theorem sc_moving_mark : FnScope (["fleet", "lot", "kind", "step"] : List Str) (["fleet", "lot"] : List Str) (defScope s_moving_mark) := ⟨rfl, rfl, rfl, by decide +kernel, rfl, by decide +kernel, by decide +kernel⟩
theorem b_moving_mark (kV doc pm : Value) (an : Option Addr) (cdv ct : Value) (us : List Value) (hl : us.length = (["fleet", "lot"] : List Str).length) : bindArgs (PySem.W.fnOf "moving_mark" "moving_mark" (defArgs s_moving_mark) (defBody s_moving_mark) (defScope s_moving_mark) .none kV doc pm an cdv ct) ⟨us, []⟩ = pure ((["fleet", "lot"] : List Str).zip us) :=
  match us, hl with | [_, _], _ => rfl
section
variable {P : Program} {w : World} {K : PySem.W.Frag} {mg : Str → Option Value} {base : Heap}
theorem ok_lot_of {k : Nat} (D : Df K mg "lot_of" s_lot_of) (T : Bt mg) (C : Cn mg) (O_ships_many : Ok P w K mg base k "ships_many" s_ships_many ["fleet"] (spShips K)) (O_top_in : Ok P w K mg base k "top_in" s_top_in ["fleet"] (spTopIn K))
    (O_low_stop : Ok P w K mg base k "low_stop" s_low_stop ["fleet", "top"] (spLowStop K)) (O_turned_fleet : Ok P w K mg base k "turned_fleet" s_turned_fleet ["fleet"] (spTurnedF K)) : Ok P w K mg base (k + 1) "lot_of" s_lot_of ["fleet"] (spLotOf K) := by
  obtain ⟨_, g_LOW⟩ := C.low
  obtain ⟨_, g_HIGH⟩ := C.high
  obtain ⟨_, g_TOP⟩ := C.top
  refine D.ok sc_lot_of b_lot_of (fun vs H Q E h => ?_) (fun f cdv A outer s H vs Q E hr h => ?_)
  · obtain ⟨v, h, t, ss, rfl, _⟩ := h
    rfl
  · obtain ⟨v, h, t, ss, rfl, hv, l1, k⟩ := h
    refine ⟨_, (pss_cons (ps_set (i := 1) sc_lot_of.nd rfl (.inl rfl) (pe_op op_sub (pe_fn O_ships_many (hr.mono (by omega)) (pa_cons (pv 0) pa_nil)) pe_int))
      (pss_cons (ps_set (i := 2) sc_lot_of.nd rfl (.inl rfl) (pe_fn O_top_in (hr.mono (by omega)) (pa_cons (pv 0) pa_nil)))
      (pss_cons (ps_set (i := 3) sc_lot_of.nd rfl (.inl rfl) (pe_fn O_low_stop (hr.mono (by omega)) (pa_cons (pv 0) (pa_cons (pv 2) pa_nil))))
      (pss_cons (ps_if (pt_cmpR op_notN (pv 3) pe_non (nomark _))
        (pss_one (ps_ret (pe_tup (pa_cons (pe_glob (v := .str "low") (by rfl) g_LOW ⟨_, rfl⟩) (pa_cons (pv 3) pa_nil)))))
        pss_nil)
      (pss_cons (ps_set (i := 3) sc_lot_of.nd rfl (.inl rfl) (pe_fn O_low_stop (hr.mono (by omega)) (pa_cons (pe_fn O_turned_fleet (hr.mono (by omega)) (pa_cons (pv 0) pa_nil)) (pa_cons (pe_op op_sub (pv 1) (pv 2)) pa_nil))))
      (pss_cons (ps_if (pt_cmpR op_notN (pv 3) pe_non (nomark _))
        (pss_one (ps_ret (pe_tup (pa_cons (pe_glob (v := .str "high") (by rfl) g_HIGH ⟨_, rfl⟩) (pa_cons (pe_op op_sub (pv 1) (pv 3)) pa_nil)))))
        pss_nil)
      (pss_one (ps_ret (pe_tup (pa_cons (pe_glob (v := .str "top") (by rfl) g_TOP ⟨_, rfl⟩) (pa_cons (pv 2) pa_nil))))))))))), ?_⟩
    refine ⟨_, rfl, v, h, t, ss, rfl, hv, l1, fun H1 s1 => ⟨_, 1, rfl, rfl, ?_⟩⟩
    refine ⟨_, rfl, v, h, t, ss, rfl, hv.same s1, l1, fun H2 s2 => ?_⟩
    have s02 := s1.trans s2
    refine ⟨_, rfl, _, rfl, v, h, t, topI h t (mny ss), ss, rfl, hv.same s02, l1, rise_top _ _ _, fun H3 N s3 a b => ?_, fun H3 s3 no => ?_⟩
    · refine ⟨_, rfl, rfl, _, rfl, iteT ⟨_, rfl, (by show 2 ≤ sizeLine; decide), fun p np => ?_⟩⟩
      have s03 := s02.trans s3
      exact k _ p .low (N : Int) (s03.trans (same_new np)) (s03.free np) upd_same ⟨N, rfl, a, b⟩
    · have s03 := s02.trans s3
      refine ⟨_, rfl, rfl, _, rfl, iteF ?_⟩
      refine ⟨_, rfl, v, h, t, ss, rfl, hv.same s03, l1, fun H4 z s4 hz => ?_⟩
      have s04 := s03.trans s4
      refine ⟨_, rfl, _, rfl, _, _, rfl, rfl, z, t, h, (mny ss : Int) - 1 - topI h t (mny ss), turnF ss, rfl, hz, ?_, ?_, fun H5 N s5 a b => ?_, fun H5 s5 no2 => ?_⟩
      · unfold turnF
        rw [List.length_map]
        exact l1
      · rw [mny_turn]
        exact rise_turn h t _
      · refine ⟨_, rfl, rfl, _, rfl, iteT ⟨_, rfl, _, rfl, _, _, rfl, rfl, (by show 2 ≤ sizeLine; decide), fun p np => ?_⟩⟩
        have s05 := s04.trans s5
        exact k _ p .high _ (s05.trans (same_new np)) (s05.free np) upd_same ⟨N, rfl, a, b⟩
      · refine ⟨_, rfl, rfl, _, rfl, iteF ⟨_, rfl, (by show 2 ≤ sizeLine; decide), fun p np => ?_⟩⟩
        have s05 := s04.trans s5
        exact k _ p .top _ (s05.trans (same_new np)) (s05.free np) upd_same ⟨rfl, no, no2⟩
theorem ok_moving {k : Nat} (D : Df K mg "moving_mark" s_moving_mark) (T : Bt mg) (C : Cn mg) (O_ships_many : Ok P w K mg base k "ships_many" s_ships_many ["fleet"] (spShips K)) (O_mark_in : Ok P w K mg base k "mark_in" s_mark_in ["fleet", "step"] (spMarkIn K)) :
    Ok P w K mg base (k + 1) "moving_mark" s_moving_mark ["fleet", "lot"] (spMoving K) := by
  obtain ⟨_, g_LOW⟩ := C.low
  obtain ⟨_, g_HIGH⟩ := C.high
  refine D.ok sc_moving_mark b_moving_mark (fun vs H Q E h => ?_) (fun f cdv A outer s H vs Q E hr h => ?_)
  · obtain ⟨v, l, h, t, s, ss, kd, rfl, _⟩ := h
    rfl
  · obtain ⟨v, l, h, t, s, ss, kd, rfl, hv, l1, ⟨pl, rfl, hpl⟩, k1, k2⟩ := h
    refine ⟨_, (pss_cons (ps_asg (pv 1) (pg_seq rfl (pgs_cons (pg_name (i := 2) sc_moving_mark.nd rfl (.inl rfl)) (pgs_cons (pg_name (i := 3) sc_moving_mark.nd rfl (.inl rfl)) pgs_nil))))
      (pss_cons (ps_if (pt_cmpR op_eq (pv 2) (pe_glob (v := .str "low") (by rfl) g_LOW ⟨_, rfl⟩) (nomark _))
        (pss_one (ps_aug (i := 3) sc_moving_mark.nd rfl (.inl rfl) pe_int ip_sub))
        pss_nil)
      (pss_cons (ps_if (pt_cmpR op_eq (pv 2) (pe_glob (v := .str "high") (by rfl) g_HIGH ⟨_, rfl⟩) (nomark _))
        (pss_one (ps_aug (i := 3) sc_moving_mark.nd rfl (.inl rfl) pe_int ip_add))
        pss_nil)
      (pss_cons (ps_if (PW.pt (pw_or (pt_cmpR op_lt (pv 3) pe_int (nomark _)) (pw_or1 (pt_cmpR op_ge (pv 3) (pe_fn O_ships_many (hr.mono (by omega)) (pa_cons (pv 0) pa_nil)) (nomark _)))))
        (pss_one (ps_ret pe_non))
        pss_nil)
      (pss_one (ps_ret (pe_fn O_mark_in (hr.mono (by omega)) (pa_cons (pv 0) (pa_cons (pv 3) pa_nil))))))))), ?_⟩
    refine ⟨_, rfl, pl, _, rfl, hpl, rfl, _, _, rfl, _, _, rfl, rfl, ?_⟩
    cases kd with
    | low =>
      refine ⟨_, rfl, rfl, _, rfl, iteT ⟨_, rfl, _, 1, rfl, rfl, ?_⟩⟩
      refine ⟨_, rfl, rfl, _, rfl, iteF ?_⟩
      refine ⟨_, rfl, _, 0, rfl, rfl, _, rfl, ite2 (fun c => ?_) (fun c => ?_)⟩
      · exact k1 (.inl (of_decide_eq_true c)) H (Same.refl _)
      · have c0 : 0 ≤ nextS .low s := by have : ¬ s - 1 < 0 := fun z => c (decide_eq_true z); show 0 ≤ s - 1; omega
        refine ⟨_, rfl, _, rfl, v, h, t, ss, rfl, hv, l1, fun H1 s1 => ⟨_, _, rfl, rfl, _, rfl, ite2 (fun c2 => ?_) (fun c2 => ?_)⟩⟩
        · exact k1 (.inr (of_decide_eq_true c2)) H1 s1
        · have c3 : nextS .low s < (mny ss : Int) := by have : ¬ (s - 1 ≥ (mny ss : Int)) := fun z => c2 (decide_eq_true z); show s - 1 < _; omega
          exact ⟨_, rfl, _, rfl, v, h, t, _, ss, rfl, hv.same s1, l1, fun H2 s2 => k2 c0 c3 H2 (s1.trans s2)⟩
    | high =>
      refine ⟨_, rfl, rfl, _, rfl, iteF ?_⟩
      refine ⟨_, rfl, rfl, _, rfl, iteT ⟨_, rfl, _, 1, rfl, rfl, ?_⟩⟩
      refine ⟨_, rfl, _, 0, rfl, rfl, _, rfl, ite2 (fun c => ?_) (fun c => ?_)⟩
      · exact k1 (.inl (of_decide_eq_true c)) H (Same.refl _)
      · have c0 : 0 ≤ nextS .high s := by have : ¬ s + 1 < 0 := fun z => c (decide_eq_true z); show 0 ≤ s + 1; omega
        refine ⟨_, rfl, _, rfl, v, h, t, ss, rfl, hv, l1, fun H1 s1 => ⟨_, _, rfl, rfl, _, rfl, ite2 (fun c2 => ?_) (fun c2 => ?_)⟩⟩
        · exact k1 (.inr (of_decide_eq_true c2)) H1 s1
        · have c3 : nextS .high s < (mny ss : Int) := by have : ¬ (s + 1 ≥ (mny ss : Int)) := fun z => c2 (decide_eq_true z); show s + 1 < _; omega
          exact ⟨_, rfl, _, rfl, v, h, t, _, ss, rfl, hv.same s1, l1, fun H2 s2 => k2 c0 c3 H2 (s1.trans s2)⟩
    | top =>
      refine ⟨_, rfl, rfl, _, rfl, iteF ?_⟩
      refine ⟨_, rfl, rfl, _, rfl, iteF ?_⟩
      refine ⟨_, rfl, _, 0, rfl, rfl, _, rfl, ite2 (fun c => ?_) (fun c => ?_)⟩
      · exact k1 (.inl (of_decide_eq_true c)) H (Same.refl _)
      · have c0 : 0 ≤ nextS .top s := by have : ¬ s < 0 := fun z => c (decide_eq_true z); show 0 ≤ s; omega
        refine ⟨_, rfl, _, rfl, v, h, t, ss, rfl, hv, l1, fun H1 s1 => ⟨_, _, rfl, rfl, _, rfl, ite2 (fun c2 => ?_) (fun c2 => ?_)⟩⟩
        · exact k1 (.inr (of_decide_eq_true c2)) H1 s1
        · have c3 : nextS .top s < (mny ss : Int) := by have : ¬ (s ≥ (mny ss : Int)) := fun z => c2 (decide_eq_true z); show s < _; omega
          exact ⟨_, rfl, _, rfl, v, h, t, _, ss, rfl, hv.same s1, l1, fun H2 s2 => k2 c0 c3 H2 (s1.trans s2)⟩
end
end Sh

namespace Sh
open PySem PySem.Spec PyProof.Rows L2
/-! ### a sea's fleet -/
theorem len_os {k : Nat} {L : List Nat} (hL : Lot k L) (D : Nat → Int) (d : Int) : ((L.map D).filter fun o => decide (o = d)).length = Th.cnt k (fun i => mem L i && decide (D i = d)) := by
  rw [List.filter_map, List.length_map]
  conv => lhs; rw [hL.mem_eq]
  rw [List.filter_filter]
  unfold Th.cnt
  rw [List.countP_eq_length_filter]
  congr 1
  refine List.filter_congr fun a _ => ?_
  show (decide (D a = d) && decide (a ∈ L)) = (mem L a && decide (D a = d))
  rw [Bool.and_comm]
  rfl
theorem ds_map (ds : List Int) : ds = (List.range ds.length).map fun i => ds.getD i 0 := by
  refine List.ext_getElem (by simp) fun i h1 h2 => ?_
  simp [h1]
theorem len_ds (ds : List Int) (d : Int) : (ds.filter fun o => decide (o = d)).length = Th.cnt ds.length (fun i => decide (ds.getD i 0 = d)) := by
  conv => lhs; rw [ds_map ds]
  rw [List.filter_map, List.length_map]
  unfold Th.cnt
  rw [List.countP_eq_length_filter]
  rfl
theorem sum_if (P : Int → Bool) (x : Int) (b : Bool) : ∀ {ns : List Int}, ns.Nodup → x ∈ ns → ((ns.filter P).map fun d => if (b && decide (x = d)) = true then 1 else 0).sum = if (P x && b) = true then 1 else 0 := by
  have none : ∀ {ns : List Int}, ¬ x ∈ ns → ((ns.filter P).map fun d => if (b && decide (x = d)) = true then 1 else 0).sum = 0 := by
    intro ns
    induction ns with
    | nil => intro _; rfl
    | cons a l ih =>
      intro h
      have h1 : ¬ x = a := fun e => h (e ▸ List.mem_cons_self)
      have h2 := ih fun q => h (List.mem_cons_of_mem _ q)
      by_cases c : P a = true
      · rw [List.filter_cons_of_pos c, List.map_cons, List.sum_cons, h2, decide_eq_false h1, Bool.and_false]
        rfl
      · rw [List.filter_cons_of_neg c]
        exact h2
  intro ns
  induction ns with
  | nil => intro _ h; cases h
  | cons a l ih =>
    intro nd h
    obtain ⟨n1, n2⟩ := List.nodup_cons.mp nd
    by_cases e : x = a
    · subst e
      have h0 := none n1
      by_cases c : P x = true
      · rw [List.filter_cons_of_pos c, List.map_cons, List.sum_cons, h0, decide_eq_true rfl, Bool.and_true, c, Bool.true_and, Nat.add_zero]
      · rw [List.filter_cons_of_neg c, h0]
        have c' : P x = false := by simpa using c
        rw [c', Bool.false_and]
        rfl
    · have hx : x ∈ l := by
        rcases List.mem_cons.mp h with q | q
        · exact absurd q e
        · exact q
      have h2 := ih n2 hx
      by_cases c : P a = true
      · rw [List.filter_cons_of_pos c, List.map_cons, List.sum_cons, h2, decide_eq_false e, Bool.and_false]
        show 0 + _ = _
        rw [Nat.zero_add]
      · rw [List.filter_cons_of_neg c]
        exact h2
theorem sum_two' {α : Type} (f g : α → Nat) : ∀ l : List α, (l.map fun x => f x + g x).sum = (l.map f).sum + (l.map g).sum
  | [] => rfl
  | a :: l => by
    simp only [List.map_cons, List.sum_cons, sum_two' f g l]
    omega
theorem sum_zero {α : Type} : ∀ l : List α, (l.map fun _ => 0).sum = 0
  | [] => rfl
  | a :: l => by rw [List.map_cons, List.sum_cons, sum_zero l]
theorem sum_cnt (P : Int → Bool) (D : Nat → Int) (R : Nat → Bool) {ns : List Int} (nd : ns.Nodup) : ∀ k : Nat, (∀ i, i < k → D i ∈ ns) → ((ns.filter P).map fun d => Th.cnt k (fun i => R i && decide (D i = d))).sum = Th.cnt k (fun i => P (D i) && R i)
  | 0, _ => sum_zero _
  | k + 1, h => by
    have ih := sum_cnt P D R nd k fun i hi => h i (by omega)
    have e : ((ns.filter P).map fun d => Th.cnt (k + 1) (fun i => R i && decide (D i = d))).sum = ((ns.filter P).map fun d => Th.cnt k (fun i => R i && decide (D i = d)) + if (R k && decide (D k = d)) = true then 1 else 0).sum := by
      congr 1
      exact List.map_congr_left fun d _ => Th.cnt_succ _ _
    rw [e, sum_two', ih, sum_if P (D k) (R k) nd (h k (by omega)), Th.cnt_succ]
/-- the sorts of a sea's ships -/
def sortsOf (ds : List Int) (L : List Nat) (ns : List Int) : List Srt := ns.map fun d => (d, ((L.map fun i => ds.getD i 0).filter fun o => decide (o = d)).length, (ds.filter fun o => decide (o = d)).length - ((L.map fun i => ds.getD i 0).filter fun o => decide (o = d)).length)
theorem sorts_rp {ds : List Int} {L : List Nat} {ns : List Int} (hL : Lot ds.length L) (nd : ns.Nodup) (hm : ∀ d : Int, d ∈ ds → d ∈ ns) : Rp (sortsOf ds L ns) ds.length (fun i => ds.getD i 0) (mem L) := by
  have hD : ∀ i, i < ds.length → ds.getD i 0 ∈ ns := fun i hi => hm _ (by
    have : ds.getD i 0 = ds[i] := by simp [hi]
    rw [this]
    exact List.getElem_mem hi)
  refine ⟨fun P => ?_, fun P => ?_⟩
  · unfold sortsOf
    rw [List.filter_map, List.map_map, ← sum_cnt P (fun i => ds.getD i 0) (mem L) nd ds.length hD]
    congr 1
    exact List.map_congr_left fun d _ => len_os hL _ d
  · unfold sortsOf
    rw [List.filter_map, List.map_map, ← sum_cnt P (fun i => ds.getD i 0) (fun i => !mem L i) nd ds.length hD]
    congr 1
    refine List.map_congr_left fun d _ => ?_
    show (ds.filter fun o => decide (o = d)).length - ((L.map fun i => ds.getD i 0).filter fun o => decide (o = d)).length = _
    rw [len_os hL, len_ds]
    have e := Th.cnt_split (k := ds.length) (fun i => decide (ds.getD i 0 = d)) (mem L)
    have e1 : Th.cnt ds.length (fun i => decide (ds.getD i 0 = d) && mem L i) = Th.cnt ds.length (fun i => mem L i && decide (ds.getD i 0 = d)) := Th.cnt_congr fun i _ => Bool.and_comm _ _
    have e2 : Th.cnt ds.length (fun i => decide (ds.getD i 0 = d) && !mem L i) = Th.cnt ds.length (fun i => !mem L i && decide (ds.getD i 0 = d)) := Th.cnt_congr fun i _ => Bool.and_comm _ _
    omega
theorem lying_le {ds : List Int} {L : List Nat} (hL : Lot ds.length L) (d : Int) : ((L.map fun i => ds.getD i 0).filter fun o => decide (o = d)).length ≤ (ds.filter fun o => decide (o = d)).length := by
  rw [len_os hL, len_ds]
  exact Th.cnt_mono fun i _ h => by
    revert h
    cases mem L i <;> simp
/-! ### what a lot tells of its standings -/
section
variable {ss : List Srt} {k : Nat} {D : Nat → Int} {S : Nat → Bool} {h t : Int}
theorem low_low (r : Rp ss k D S) {N : Nat} (st : StuckF h t ss N) : Th.StuckLow k (Gd h t k D) N S := (r.stuck h t N).mp st
theorem high_high (r : Rp ss k D S) (hk : 0 < k) {N : Nat} (hN : (N : Int) ≤ (k : Int) - 1 - topI h t k) (st : StuckF t h (turnF ss) N) : Th.StuckLow k (Th.dual k (Gd h t k D)) N (Th.co S) := by
  have t0 := top_lo' h t k
  exact Th.StuckLow.congr (by omega) (fun s i hs => Gd_turn hs) ((r.turn.stuck t h N).mp st)
theorem high_back (r : Rp ss k D S) (hk : 0 < k) {N : Nat} (hN : (N : Int) ≤ (k : Int) - 1 - topI h t k) (st : Th.StuckLow k (Th.dual k (Gd h t k D)) N (Th.co S)) : StuckF t h (turnF ss) N := by
  have t0 := top_lo' h t k
  exact (r.turn.stuck t h N).mpr (Th.StuckLow.congr (by omega) (fun s i hs => (Gd_turn hs).symm) st)
/-- a lot by its kind, in terms of ships -/
def LotS (h t : Int) (k : Nat) (D : Nat → Int) (S : Nat → Bool) : Kd → Int → Prop
  | .low, s => ∃ N : Nat, s = (N : Int) ∧ N ≤ (topI h t k).toNat ∧ Th.StuckLow k (Gd h t k D) N S
  | .high, s => ∃ N : Nat, s = (k : Int) - 1 - (N : Int) ∧ N ≤ k - 1 - (topI h t k).toNat ∧ Th.StuckLow k (Th.dual k (Gd h t k D)) N (Th.co S)
  | .top, s => s = topI h t k ∧ Th.Open k (Gd h t k D) (topI h t k).toNat S
theorem LotF.ships (r : Rp ss k D S) (hk : 0 < k) {kd : Kd} {s : Int} (l : LotF h t ss kd s) : LotS h t k D S kd s := by
  have t0 := top_lo' h t k
  have t1 := top_hi' h t hk
  have tp := top_D h t D hk
  unfold LotF at l
  cases kd with
  | low =>
    obtain ⟨N, e, a, b⟩ := l
    rw [r.mny] at a
    exact ⟨N, e, by omega, low_low r b⟩
  | high =>
    obtain ⟨N, e, a, b⟩ := l
    rw [r.mny] at a e
    exact ⟨N, e, by omega, high_high r hk a b⟩
  | top =>
    obtain ⟨e, a, b⟩ := l
    rw [r.mny] at a e b
    refine ⟨e, ?_⟩
    rcases Th.sorts (S := S) tp with ⟨N, hN, sl⟩ | ⟨N, hN, sl⟩ | q
    · exact absurd ((r.stuck h t N).mpr sl) (a N (by omega))
    · exact absurd (high_back r hk (by omega) sl) (b N (by omega))
    · exact q
end
end Sh
namespace Th
section
variable {k : Nat} {G : Nat → Nat → Bool} {S U : Nat → Bool} {T : Nat}
/-- where one stops tells from the other -/
theorem low_uniq {N N' : Nat} (a : StuckLow k G N S) (b : StuckLow k G N' S) : N = N' := by
  obtain ⟨a1, a2, a3⟩ := a
  obtain ⟨b1, b2, b3⟩ := b
  by_cases z : N < N'
  · have := b2 N a1 z
    omega
  · by_cases z2 : N' < N
    · have := a2 N' b1 z2
      omega
    · omega
theorem low_high {N N' : Nat} (t : Top k G T) (hN : N ≤ T) (a : StuckLow k G N S) (hN' : N' ≤ k - 1 - T) (b : StuckLow k (Th.dual k G) N' (co S)) : False := by
  have := a.1
  have := b.1
  have := cnt_co k S
  have := t.lt
  omega
theorem low_open {N : Nat} (t : Top k G T) (hN : N ≤ T) (a : StuckLow k G N S) (b : Open k G T S) : False := by
  obtain ⟨rs, c⟩ := b
  rcases rs with q | q
  · by_cases z : N = T
    · subst z
      have := a.2.2
      omega
    · have := q.2 N a.1 (by omega)
      have := a.2.2
      omega
  · have := a.1
    have := q.1
    omega
theorem high_open {N : Nat} (t : Top k G T) (hN : N ≤ k - 1 - T) (a : StuckLow k (Th.dual k G) N (co S)) (b : Open k G T S) : False := low_open t.dual hN a (b.dual t)
theorem Reach.out (r : Reach k G S U) : ∀ i, ¬ i < k → U i = S i := reach_out r
/-- the lot of an open one is kept -/
theorem Open.same (t : Top k G T) (a : Open k G T S) (r : Reach k G S U) : Open k G T U := by
  rcases sorts (S := U) t with ⟨N, hN, sl⟩ | ⟨N, hN, sl⟩ | q
  · exact absurd a fun a => low_open t hN (sl.same t hN r.symm) a
  · exact absurd a fun a => high_open t hN (sl.same t.dual hN r.symm.dual) a
  · exact q
theorem high_iff {N : Nat} (t : Top k G T) (hN : N ≤ k - 1 - T) (h : StuckLow k (Th.dual k G) N (co S)) (ho : ∀ i, ¬ i < k → U i = S i) : Reach k G S U ↔ StuckLow k (Th.dual k G) N (co U) ∧ ∀ i, i < k → (co U i || Th.dual k G N i) = (co S i || Th.dual k G N i) := by
  rw [← h.iff (U := co U) t.dual hN fun i hi => by unfold co; rw [ho i hi]]
  exact ⟨fun r => r.dual, fun r => r.codual⟩
end
end Th
namespace Sh
open PySem PySem.Spec PyProof.Rows L2
section
variable {ss : List Srt} {k : Nat} {D : Nat → Int} {S U : Nat → Bool} {h t : Int}
/-- a lot's kind and step are kept by crossings -/
theorem LotS.same (hk : 0 < k) {kd : Kd} {s : Int} (l : LotS h t k D S kd s) (r : Th.Reach k (Gd h t k D) S U) : LotS h t k D U kd s := by
  have tp := top_D h t D hk
  cases kd with
  | low =>
    obtain ⟨N, e, a, b⟩ := l
    exact ⟨N, e, a, b.same tp a r⟩
  | high =>
    obtain ⟨N, e, a, b⟩ := l
    exact ⟨N, e, a, b.same tp.dual a r.dual⟩
  | top =>
    obtain ⟨e, a⟩ := l
    exact ⟨e, a.same tp r⟩
theorem LotS.uniq (hk : 0 < k) {kd kd' : Kd} {s s' : Int} (l : LotS h t k D S kd s) (l' : LotS h t k D S kd' s') : kd = kd' ∧ s = s' := by
  have tp := top_D h t D hk
  cases kd with
  | low =>
    obtain ⟨N, e, a, b⟩ := l
    cases kd' with
    | low =>
      obtain ⟨N', e', a', b'⟩ := l'
      have := Th.low_uniq b b'
      exact ⟨rfl, by omega⟩
    | high =>
      obtain ⟨N', e', a', b'⟩ := l'
      exact (Th.low_high tp a b a' b').elim
    | top => exact (Th.low_open tp a b l'.2).elim
  | high =>
    obtain ⟨N, e, a, b⟩ := l
    cases kd' with
    | low =>
      obtain ⟨N', e', a', b'⟩ := l'
      exact (Th.low_high tp a' b' a b).elim
    | high =>
      obtain ⟨N', e', a', b'⟩ := l'
      have := Th.low_uniq b b'
      exact ⟨rfl, by omega⟩
    | top => exact (Th.high_open tp a b l'.2).elim
  | top =>
    obtain ⟨e, a⟩ := l
    cases kd' with
    | low =>
      obtain ⟨N', e', a', b'⟩ := l'
      exact (Th.low_open tp a' b' a).elim
    | high =>
      obtain ⟨N', e', a', b'⟩ := l'
      exact (Th.high_open tp a' b' a).elim
    | top => exact ⟨rfl, by rw [e, l'.1]⟩
/-- one comes to the other just where the lots' words are the same and those that don't go lie alike -/
theorem LotS.reach (hk : 0 < k) {kd : Kd} {s : Int} (l : LotS h t k D S kd s) (l' : LotS h t k D U kd s) (ho : ∀ i, ¬ i < k → U i = S i) : Th.Reach k (Gd h t k D) S U ↔ ∀ i, i < k → ¬ D i ≤ mk h t k s → U i = S i := by
  have tp := top_D h t D hk
  have t0 := top_lo' h t k
  have t1 := top_hi' h t hk
  cases kd with
  | low =>
    obtain ⟨N, e, a, b⟩ := l
    obtain ⟨N', e', a', b'⟩ := l'
    obtain rfl : N = N' := by omega
    rw [b.iff tp a ho]
    have key : ∀ i, ((U i || Gd h t k D N i) = (S i || Gd h t k D N i)) ↔ (¬ D i ≤ mk h t k s → U i = S i) := fun i => by
      unfold Gd
      rw [← e]
      by_cases z : D i ≤ mk h t k s
      · rw [decide_eq_true z, Bool.or_true, Bool.or_true]
        exact ⟨fun _ w => absurd z w, fun _ => rfl⟩
      · rw [decide_eq_false z, Bool.or_false, Bool.or_false]
        exact ⟨fun q _ => q, fun q => q z⟩
    exact ⟨fun q i hi => (key i).mp (q.2 i hi), fun q => ⟨b', fun i hi => (key i).mpr (q i hi)⟩⟩
  | high =>
    obtain ⟨N, e, a, b⟩ := l
    obtain ⟨N', e', a', b'⟩ := l'
    obtain rfl : N = N' := by omega
    rw [Th.high_iff tp a b ho]
    have key : ∀ i, ((Th.co U i || Th.dual k (Gd h t k D) N i) = (Th.co S i || Th.dual k (Gd h t k D) N i)) ↔ (¬ D i ≤ mk h t k s → U i = S i) := fun i => by
      show ((!U i || decide (D i ≤ mk h t k ((k - 1 - N : Nat) : Int))) = (!S i || decide (D i ≤ mk h t k ((k - 1 - N : Nat) : Int)))) ↔ _
      rw [show ((k - 1 - N : Nat) : Int) = s by omega]
      by_cases z : D i ≤ mk h t k s
      · rw [decide_eq_true z, Bool.or_true, Bool.or_true]
        exact ⟨fun _ w => absurd z w, fun _ => rfl⟩
      · rw [decide_eq_false z, Bool.or_false, Bool.or_false]
        refine ⟨fun q _ => ?_, fun q => by rw [q z]⟩
        revert q
        cases U i <;> cases S i <;> simp
    exact ⟨fun q i hi => (key i).mp (q.2 i hi), fun q => ⟨b', fun i hi => (key i).mpr (q i hi)⟩⟩
  | top =>
    obtain ⟨e, a⟩ := l
    obtain ⟨_, a'⟩ := l'
    have key : ∀ i, (Gd h t k D (topI h t k).toNat i = false) ↔ ¬ D i ≤ mk h t k s := fun i => by
      unfold Gd
      rw [show (((topI h t k).toNat : Nat) : Int) = s by omega, decide_eq_false_iff_not]
    exact ⟨fun r i hi z => Th.fast_inv tp r i hi ((key i).mpr z), fun q => Th.open_reach tp a.1 a'.1 (fun i hi g => q i hi ((key i).mp g)) ho⟩
theorem LotS.comes (hk : 0 < k) {kd kd' : Kd} {s s' : Int} (l : LotS h t k D S kd s) (l' : LotS h t k D U kd' s') (ho : ∀ i, ¬ i < k → U i = S i) : Th.Reach k (Gd h t k D) S U ↔ (kd = kd' ∧ s = s') ∧ ∀ i, i < k → ¬ D i ≤ mk h t k s → U i = S i := by
  constructor
  · intro r
    obtain ⟨e1, e2⟩ := (l.same hk r).uniq hk l'
    subst e1
    subst e2
    exact ⟨⟨rfl, rfl⟩, (l.reach hk l' ho).mp r⟩
  · rintro ⟨⟨e1, e2⟩, q⟩
    subst e1
    subst e2
    exact (l.reach hk l' ho).mpr q
/-- who ever goes -/
theorem LotS.moves (hk : 0 < k) {kd : Kd} {s : Int} (l : LotS h t k D S kd s) {i : Nat} (hi : i < k) : Th.Moves k (Gd h t k D) S i ↔ 0 ≤ nextS kd s ∧ nextS kd s < (k : Int) ∧ D i ≤ mk h t k (nextS kd s) := by
  have tp := top_D h t D hk
  have t0 := top_lo' h t k
  have t1 := top_hi' h t hk
  cases kd with
  | low =>
    obtain ⟨N, e, a, b⟩ := l
    rw [Th.moves_low b tp a hi]
    show (0 < N ∧ decide (D i ≤ mk h t k ((N - 1 : Nat) : Int)) = true) ↔ 0 ≤ s - 1 ∧ s - 1 < (k : Int) ∧ D i ≤ mk h t k (s - 1)
    rw [decide_eq_true_eq]
    constructor
    · rintro ⟨n0, g⟩
      rw [show ((N - 1 : Nat) : Int) = s - 1 by omega] at g
      exact ⟨by omega, by omega, g⟩
    · rintro ⟨n0, n1, g⟩
      refine ⟨by omega, ?_⟩
      rw [show ((N - 1 : Nat) : Int) = s - 1 by omega]
      exact g
  | high =>
    obtain ⟨N, e, a, b⟩ := l
    rw [Th.moves_high b tp a hi]
    show (0 < N ∧ decide (D i ≤ mk h t k ((k - N : Nat) : Int)) = true) ↔ 0 ≤ s + 1 ∧ s + 1 < (k : Int) ∧ D i ≤ mk h t k (s + 1)
    rw [decide_eq_true_eq]
    constructor
    · rintro ⟨n0, g⟩
      rw [show ((k - N : Nat) : Int) = s + 1 by omega] at g
      exact ⟨by omega, by omega, g⟩
    · rintro ⟨n0, n1, g⟩
      refine ⟨by omega, ?_⟩
      rw [show ((k - N : Nat) : Int) = s + 1 by omega]
      exact g
  | top =>
    obtain ⟨e, a⟩ := l
    rw [Th.moves_open tp a.1 a.2 hi]
    show decide (D i ≤ mk h t k (((topI h t k).toNat : Nat) : Int)) = true ↔ 0 ≤ s ∧ s < (k : Int) ∧ D i ≤ mk h t k s
    rw [decide_eq_true_eq, show (((topI h t k).toNat : Nat) : Int) = s by omega]
    exact ⟨fun g => ⟨by omega, by omega, g⟩, fun g => g.2.2⟩
/-- how few -/
theorem LotS.min (r : Rp ss k D S) (hk : 0 < k) {kd : Kd} {s m : Int} (l : LotS h t k D S kd s) (hm : (kd = .high ∧ m = s + 1) ∨ (kd ≠ .high ∧ LeastI h t ss s m)) : ∃ n : Nat, m = (n : Int) ∧ Th.IsMin k (Gd h t k D) S n := by
  have tp := top_D h t D hk
  have t0 := top_lo' h t k
  have t1 := top_hi' h t hk
  cases kd with
  | low =>
    obtain ⟨N, e, a, b⟩ := l
    rcases hm with ⟨z, _⟩ | ⟨_, L⟩
    · cases z
    · rw [e] at L
      exact least_low r tp a b (fun m' hm' => mk_low (by omega) (by omega)) L
  | high =>
    obtain ⟨N, e, a, b⟩ := l
    rcases hm with ⟨_, z⟩ | ⟨z, _⟩
    · have mx := Th.stuck_min_high tp.dual a b
      refine ⟨k - N, by omega, ?_⟩
      obtain ⟨⟨U, rU, cU⟩, hU⟩ := mx
      refine ⟨⟨Th.co U, ?_, ?_⟩, fun W rW => ?_⟩
      · refine Th.Reach.codual ?_
        rw [Th.co_co]
        exact rU
      · have := Th.cnt_co k U
        omega
      · have := hU _ rW.dual
        have := Th.cnt_co k W
        omega
    · exact absurd rfl z
  | top =>
    obtain ⟨e, a⟩ := l
    rcases hm with ⟨z, _⟩ | ⟨_, L⟩
    · cases z
    · rw [show s = (((topI h t k).toNat : Nat) : Int) by omega] at L
      exact least_open r tp a (fun m' hm' => mk_low (by omega) (by omega)) L
/-- how many, by the turned one -/
theorem LotS.max (r : Rp ss k D S) (hk : 0 < k) {kd : Kd} {s m : Int} (l : LotS h t k D S kd s) (hm : (kd = .low ∧ m = s) ∨ (kd ≠ .low ∧ ∃ m', LeastI t h (turnF ss) ((k : Int) - 1 - s) m' ∧ m = (k : Int) - m')) : ∃ n : Nat, m = (n : Int) ∧ Th.IsMax k (Gd h t k D) S n := by
  have tp := top_D h t D hk
  have t0 := top_lo' h t k
  have t1 := top_hi' h t hk
  have gt : ∀ s i, s < k → Gd t h k D s i = Th.dual k (Gd h t k D) s i := fun s i hs => Gd_turn hs
  have gt' : ∀ s i, s < k → Th.dual k (Gd h t k D) s i = Gd t h k D s i := fun s i hs => (Gd_turn hs).symm
  have tpd : Th.Top k (Gd t h k D) (k - 1 - (topI h t k).toNat) := by
    have q := tp.dual
    refine ⟨q.lt, fun s s' i a b g => ?_, fun s s' i a b c g => ?_⟩
    · rw [gt _ _ (by omega)]
      exact q.up s s' i a b (by rw [← gt _ _ (by omega)]; exact g)
    · rw [gt _ _ (by omega)]
      exact q.dn s s' i a b c (by rw [← gt _ _ (by omega)]; exact g)
  cases kd with
  | low =>
    obtain ⟨N, e, a, b⟩ := l
    rcases hm with ⟨_, z⟩ | ⟨z, _⟩
    · exact ⟨N, by omega, Th.stuck_min_high tp a b⟩
    · exact absurd rfl z
  | high =>
    obtain ⟨N, e, a, b⟩ := l
    rcases hm with ⟨z, _⟩ | ⟨_, m', L, em⟩
    · cases z
    · rw [show (k : Int) - 1 - s = (N : Int) by omega] at L
      obtain ⟨n, en, q⟩ := least_low r.turn tpd a (b.congr (by omega) gt') (fun m' hm' => mk_high (h := h) (t := t) (k := k) (by omega) (by omega)) L
      obtain ⟨q1, q2⟩ := (q.congr gt).co
      exact ⟨k - n, by omega, q2⟩
  | top =>
    obtain ⟨e, a⟩ := l
    rcases hm with ⟨z, _⟩ | ⟨_, m', L, em⟩
    · cases z
    · rw [show (k : Int) - 1 - s = ((k - 1 - (topI h t k).toNat : Nat) : Int) by omega] at L
      have od : Th.Open k (Gd t h k D) (k - 1 - (topI h t k).toNat) (Th.co S) := (a.dual tp).congr tp.dual.lt gt'
      obtain ⟨n, en, q⟩ := least_open r.turn tpd od (fun m' hm' => mk_high (h := h) (t := t) (k := k) (by omega) (by omega)) L
      obtain ⟨q1, q2⟩ := (q.congr gt).co
      exact ⟨k - n, by omega, q2⟩
end
end Sh

namespace Sh
open PySem PySem.Spec PyProof.Rows L2
/-! ### the program: fleets of seas, reach -/
theorem eqv_ints : ∀ ns ms : List Int, PyData.eqv (.list (ns.map .int)) (.list (ms.map .int)) = decide (ns = ms)
  | [], [] => rfl
  | [], _ :: _ => rfl
  | _ :: _, [] => rfl
  | a :: l, b :: m => by
    have e := eqv_ints l m
    show (PyData.eqv (.int a) (.int b) && PyData.eqv (.list (l.map .int)) (.list (m.map .int))) = _
    rw [e]
    show ((a == b) && decide (l = m)) = _
    rw [Bool.eq_iff_iff, Bool.and_eq_true, beq_iff_eq, decide_eq_true_eq, decide_eq_true_eq, List.cons.injEq]
theorem eqv_lot (a b : Str) (i j : Int) : PyData.eqv (.tuple [.str a, .int i]) (.tuple [.str b, .int j]) = (decide (a = b) && decide (i = j)) := by
  show ((a == b) && ((i == j) && true)) = _
  rw [Bool.and_true, Bool.eq_iff_iff, Bool.and_eq_true, Bool.and_eq_true, beq_iff_eq, beq_iff_eq, decide_eq_true_eq, decide_eq_true_eq]
theorem shaped_lot (kd : Kd) (s : Int) : SeqAt.shaped (.tuple [.str kd.str, .int s]) = true := by
  have a : PyData.canLay0 (.str kd.str) = true := by cases kd <;> decide +kernel
  have b : PyData.canLay0 (.tuple [.str kd.str, .int s]) = true := by
    show (PyData.canLay0 (.str kd.str) && (PyData.canLay0 (.int s) && true)) = true
    rw [a]
    rfl
  unfold SeqAt.shaped
  rw [b]
  rfl
def spFleetOf (K : PySem.W.Frag) : Sp := fun vs H Q _ => ∃ (v l : V) (h t : Int) (ds : List Int) (L : List Nat), vs = [v, l] ∧ SeaD K H v h t ds ∧ LotA K H l L ∧ ds.length ≤ 60 ∧ Lot ds.length L ∧
  ∀ (H' : Hp) (z : V) (ss : List Srt), Same H H' → FltA K H' z h t ss → ss.length ≤ 1000 → Rp ss ds.length (fun i => ds.getD i 0) (mem L) → Q z H'
def MaxF (h t : Int) (ss : List Srt) (m : Int) : Prop := ∃ kd s, LotF h t ss kd s ∧ ((kd = .low ∧ m = s) ∨ (kd ≠ .low ∧ ∃ m', LeastI t h (turnF ss) ((mny ss : Int) - 1 - s) m' ∧ m = (mny ss : Int) - m'))
def MinF (h t : Int) (ss : List Srt) (m : Int) : Prop := ∃ kd s, LotF h t ss kd s ∧ ((kd = .high ∧ m = s + 1) ∨ (kd ≠ .high ∧ LeastI h t ss s m))
def spFleetMost (K : PySem.W.Frag) : Sp := fun vs H Q _ => ∃ (v : V) (h t : Int) (ss : List Srt), vs = [v] ∧ FltA K H v h t ss ∧ ss.length ≤ 1000 ∧ ∀ (H' : Hp) (m : Int), Same H H' → MaxF h t ss m → Q (.int m) H'
def spFleetLeast (K : PySem.W.Frag) : Sp := fun vs H Q _ => ∃ (v : V) (h t : Int) (ss : List Srt), vs = [v] ∧ FltA K H v h t ss ∧ ss.length ≤ 1000 ∧ ∀ (H' : Hp) (m : Int), Same H H' → MinF h t ss m → Q (.int m) H'
abbrev s_fleet_of : Stmt := topS 7
theorem sc_fleet_of : FnScope (["sea", "standing", "here", "there", "draughts", "ours", "sorts", "draught", "many", "lying", "ship", "other"] : List Str) (["sea", "standing"] : List Str) (defScope s_fleet_of) := ⟨rfl, rfl, rfl, by decide +kernel, rfl, by decide +kernel, by decide +kernel⟩
theorem b_fleet_of (kV doc pm : Value) (an : Option Addr) (cdv ct : Value) (us : List Value) (hl : us.length = (["sea", "standing"] : List Str).length) : bindArgs (PySem.W.fnOf "fleet_of" "fleet_of" (defArgs s_fleet_of) (defBody s_fleet_of) (defScope s_fleet_of) .none kV doc pm an cdv ct) ⟨us, []⟩ = pure ((["sea", "standing"] : List Str).zip us) :=
  match us, hl with | [_, _], _ => rfl
abbrev s_movers_of : Stmt := topS 17
theorem sc_movers_of : FnScope (["sea", "standing", "fleet", "mark", "ship", "draught"] : List Str) (["sea", "standing"] : List Str) (defScope s_movers_of) := ⟨rfl, rfl, rfl, by decide +kernel, rfl, by decide +kernel, by decide +kernel⟩
theorem b_movers_of (kV doc pm : Value) (an : Option Addr) (cdv ct : Value) (us : List Value) (hl : us.length = (["sea", "standing"] : List Str).length) : bindArgs (PySem.W.fnOf "movers_of" "movers_of" (defArgs s_movers_of) (defBody s_movers_of) (defScope s_movers_of) .none kV doc pm an cdv ct) ⟨us, []⟩ = pure ((["sea", "standing"] : List Str).zip us) :=
  match us, hl with | [_, _], _ => rfl
section
variable {P : Program} {w : World} {K : PySem.W.Frag} {mg : Str → Option Value} {base : Heap}
set_option maxHeartbeats 8000000 in
theorem ok_fleet_of {k : Nat} (D : Df K mg "fleet_of" s_fleet_of) (T : Bt mg) : Ok P w K mg base (k + 1) "fleet_of" s_fleet_of ["sea", "standing"] (spFleetOf K) := by
  refine D.ok sc_fleet_of b_fleet_of (fun vs H Q E h => ?_) (fun f cdv A outer s H vs Q E hr h => ?_)
  · obtain ⟨v, l, h, t, ds, L, rfl, _⟩ := h
    rfl
  · obtain ⟨v, l, h, t, ds, L, rfl, ⟨p, q, rfl, hp, hq⟩, ⟨pl, rfl, hl⟩, d1, hL, k⟩ := h
    have ll := hL.len
    refine ⟨_, (pss_cons (ps_asg (pv 0) (pg_seq rfl (pgs_cons (pg_name (i := 2) sc_fleet_of.nd rfl (.inl rfl)) (pgs_cons (pg_name (i := 3) sc_fleet_of.nd rfl (.inl rfl)) (pgs_cons (pg_name (i := 4) sc_fleet_of.nd rfl (.inr rfl)) pgs_nil)))))
      (pss_cons (ps_setLc (i := 5) (own := [("ship", 10)]) (g := (gName 10)) (tt := tYes) (by rfl) sc_fleet_of.nd rfl rfl (sw_true rfl rfl rfl (by decide +kernel)) (pi_seq (pv 1)) (blkOk_by (own := [("ship", 10)]) (N := (["sea", "standing", "here", "there", "draughts", "ours", "sorts", "draught", "many", "lying", "ship", "other"] : List Str)) (sc := defScope s_fleet_of) (by decide +kernel)) (fun _ _ _ _ _ => (pg_name (i := 10) sc_fleet_of.nd rfl (.inl rfl))) (fun _ _ _ _ _ => pts_nil) (fun _ _ _ _ _ => (pe_ix (ix_ltK K) (pv 4) (pv 10) (fun _ _ => rfl))))
      (pss_cons (ps_set (i := 6) sc_fleet_of.nd rfl (.inl rfl) (pe_lst pa_nil))
      (pss_cons (ps_for PassesOwn.never rfl (pi_seq (pe_callB (cr_sortedSetw w rfl) (by rfl) T.sorted_ (by decide +kernel) (pa_cons (pe_callTy (cr_setTw w rfl) (by rfl) T.set_ (by decide +kernel) (pa_cons (pv 4) pa_nil)) pa_nil))) (pg_name (i := 7) sc_fleet_of.nd rfl (.inr rfl))
        (pss_cons (ps_set (i := 8) sc_fleet_of.nd rfl (.inl rfl) (pe_callB call_len_seq (by rfl) T.len_ PySem.boot_len (pa_cons (pe_lc (own := [("other", 11)]) (g := (gName 11)) (by rfl) sc_fleet_of.nd (pi_seq (pv 4)) (blkOk_by (own := [("other", 11)]) (N := (["sea", "standing", "here", "there", "draughts", "ours", "sorts", "draught", "many", "lying", "ship", "other"] : List Str)) (sc := defScope s_fleet_of) (by decide +kernel)) (fun _ _ _ _ _ => (pg_name (i := 11) sc_fleet_of.nd rfl (.inl rfl))) (fun _ _ _ _ _ => (pts_one (pt_cmpR op_eq (pv 11) (pv 7) (nomark _)))) (fun _ _ _ _ _ => (pv 11))) pa_nil)))
          (pss_cons (ps_set (i := 9) sc_fleet_of.nd rfl (.inl rfl) (pe_callB call_len_seq (by rfl) T.len_ PySem.boot_len (pa_cons (pe_lc (own := [("other", 11)]) (g := (gName 11)) (by rfl) sc_fleet_of.nd (pi_seq (pv 5)) (blkOk_by (own := [("other", 11)]) (N := (["sea", "standing", "here", "there", "draughts", "ours", "sorts", "draught", "many", "lying", "ship", "other"] : List Str)) (sc := defScope s_fleet_of) (by decide +kernel)) (fun _ _ _ _ _ => (pg_name (i := 11) sc_fleet_of.nd rfl (.inl rfl))) (fun _ _ _ _ _ => (pts_one (pt_cmpR op_eq (pv 11) (pv 7) (nomark _)))) (fun _ _ _ _ _ => (pv 11))) pa_nil)))
          (pss_one (ps_expr (pe_bm PySem.F.plainAttrs_list PySem.F.slot_list_append PySem.F.type_list_append mt_append (pv 6) (pa_cons (pe_tup (pa_cons (pv 7) (pa_cons (pv 9) (pa_cons (pe_op op_sub (pv 8) (pv 9)) pa_nil)))) pa_nil)))))))
      (pss_one (ps_ret (pe_tup (pa_cons (pv 2) (pa_cons (pv 3) (pa_cons (pe_callTy call_tuple_of (by rfl) T.tuple_ (by decide +kernel) (pa_cons (pv 6) pa_nil)) pa_nil)))))))))), ?_⟩
    refine ⟨_, rfl, p, _, rfl, hp, rfl, _, _, rfl, _, _, rfl, _, _, rfl, rfl, ?_⟩
    -- ours
    refine ⟨_, rfl, pl, _, H, rfl, hl, Kp.refl _ _, fun J hJ C nC => ?_⟩
    obtain ⟨G, g, W⟩ := hJ.walk
    refine lc_it W (fun i H' => Same H H' ∧ H' C = some (.lst (((L.take i).map fun j => ds.getD j 0).map V.int))) ⟨same_new nC, upd_same⟩ (fun i H' _ z => g H' (.ofS z.1)) ?_ ?_
    · rintro i x H1 H2 hi ⟨sm, hC⟩ ⟨rfl, gx⟩
      rw [ni_len] at hi
      obtain rfl : .int ((L[i] : Nat) : Int) = x := Option.some.inj ((ni_get hi).symm.trans gx)
      have hlt := hL.lt L[i] (List.getElem_mem hi)
      refine ⟨rfl, tyes (iteT ⟨_, rfl, _, rfl, q, _, _, .int (ds.getD L[i] 0), rfl, rfl, .inr (Same.tup sm hq), at_nat rfl (by simp [hlt]), _, hC, ?_, same_over sm nC, ?_⟩)⟩
      · rw [List.length_map, List.length_map, List.length_take]
        exact small1000 (by omega)
      · rw [upd_same, take_succ_get hi, List.map_append, List.map_append]
        rfl
    rintro H1 ⟨s1, hC⟩
    rw [ni_len, List.take_length] at hC
    -- sorts
    refine ⟨Nat.zero_le _, fun F nF => ?_⟩
    have s2 : Same H1 (upd H1 F (.lst [])) := same_new nF
    have e2 : upd H1 F (.lst []) F = some (.lst []) := upd_same
    have nF0 : H F = none := s1.free nF
    have CF : C ≠ F := ne_of_none hC nF
    generalize upd H1 F (.lst []) = H2 at s2 e2
    have s02 := s1.trans s2
    refine ⟨_, rfl, q, ds, rfl, Same.tup s02 hq, by omega, fun a c na hc => ?_⟩
    refine ⟨a, _, c, rfl, upd_same, by omega, fun ns b up hm hlen nb => ?_⟩
    have sA : Same H2 (upd H2 a (SetO w a (fun j => decide (j ∈ ds)) c)) := same_new na
    have sB := sA.trans (same_new nb (o := .lst (ns.map V.int)))
    have eb : upd (upd H2 a (SetO w a (fun j => decide (j ∈ ds)) c)) b (.lst (ns.map V.int)) b = some (.lst (ns.map V.int)) := upd_same
    generalize upd (upd H2 a (SetO w a (fun j => decide (j ∈ ds)) c)) b (.lst (ns.map V.int)) = H3 at sB eb
    have s03 := s02.trans sB
    have hC3 := sB _ _ (s2 _ _ hC)
    have hF3 := sB _ _ e2
    have bF : b ≠ F := fun e => by
      subst e
      rw [sA _ _ e2] at nb
      cases nb
    have nn : ns.Nodup := up.imp fun z => by omega
    refine ⟨b, _, H3, rfl, SqA.l eb, Kp.refl _ _, fun J2 hJ2 => ?_⟩
    obtain ⟨G2, g2, W2⟩ := hJ2.walk
    refine for_it W2 (fun i σ H' => ∃ (y7 y8 y9 : Option V) (us : List Addr), σ = [some (.ref p), some (.ref pl), some (.int h), some (.int t), some (.ref q), some (.ref C), some (.ref F), y7, y8, y9, none, none] ∧ Same H H' ∧ H' C = some (.lst ((L.map fun j => ds.getD j 0).map V.int)) ∧ H' b = some (.lst (ns.map V.int)) ∧ H' F = some (.lst (us.map V.ref)) ∧ SrtsN H' us (sortsOf ds L (ns.take i)))
      ⟨none, none, none, [], rfl, s03, hC3, eb, hF3, rfl, fun i r x a _ => by simp at a⟩ (fun i σ H' _ ⟨_, _, _, _, _, _, _, z, _⟩ => g2 H' fun o e => by rw [eb] at e; cases e; exact z) ?_ ?_
    · rintro i x σ H5' H4 hi ⟨y7, y8, y9, us, rfl, s4, hC4, hb4, hF4, hu4⟩ ⟨rfl, gx⟩
      rw [List.length_map] at hi
      obtain rfl : .int ns[i] = x := by
        have g3 : (ns.map V.int)[i]? = some (.int ns[i]) := by simp [hi]
        exact Option.some.inj (g3.symm.trans gx)
      have f : ∀ (xs : List Int) (j : Nat) (hj : j < xs.length), ((xs.take (j + 1)).filter fun o => decide (o = ns[i])) = ((xs.take j).filter fun o => decide (o = ns[i])) ++ (if xs[j] = ns[i] then [xs[j]] else []) := fun xs j hj => by
        rw [take_succ_get hj, List.filter_append]
        congr 1
        by_cases c : xs[j] = ns[i]
        · rw [if_pos c, List.filter_cons_of_pos (by simpa using c)]; rfl
        · rw [if_neg c, List.filter_cons_of_neg (by simpa using c)]; rfl
      have fl : ∀ (xs : List Int) (j : Nat), xs.length ≤ 60 → (((xs.take j).filter fun o => decide (o = ns[i])).map V.int).length < sizeLine := fun xs j hx => by
        have h1 := List.length_filter_le (fun o => decide (o = ns[i])) (xs.take j)
        rw [List.length_take] at h1
        rw [List.length_map]
        exact small1000 (by omega)
      -- many
      refine ⟨_, rfl, q, _, H4, rfl, .inr (Same.tup s4 hq), Kp.refl _ _, fun J3 hJ3 M nM => ?_⟩
      obtain ⟨G3, g3, W3⟩ := hJ3.walk
      refine lc_it W3 (fun j H' => Same H4 H' ∧ H' M = some (.lst (((ds.take j).filter fun o => decide (o = ns[i])).map V.int))) ⟨same_new nM, upd_same⟩ (fun j H' _ z => g3 H' (.ofS z.1)) ?_ ?_
      · rintro j x H5 H6 hj ⟨sm, hM⟩ ⟨rfl, gx2⟩
        rw [List.length_map] at hj
        obtain rfl : .int ds[j] = x := by
          have g4 : (ds.map V.int)[j]? = some (.int ds[j]) := by simp [hj]
          exact Option.some.inj (g4.symm.trans gx2)
        refine ⟨rfl, _, rfl, _, rfl, rfl, _, rfl, ite2 (fun c => ?_) (fun c => ?_)⟩
        · have c0 : ds[j] = ns[i] := V.int.inj (of_decide_eq_true c)
          refine ⟨_, rfl, _, hM, fl ds j d1, same_over sm nM, ?_⟩
          rw [upd_same, f ds j hj, if_pos c0, List.map_append]
          rfl
        · have c0 : ¬ ds[j] = ns[i] := fun z => c (decide_eq_true (by rw [z]))
          refine ⟨sm, ?_⟩
          rw [hM, f ds j hj, if_neg c0, List.append_nil]
      rintro H5 ⟨s5, hM⟩
      rw [List.length_map, List.take_length] at hM
      refine ⟨M, _, rfl, .inl (SqL.of hM), ?_⟩
      -- lying
      refine ⟨_, rfl, C, _, H5, rfl, SqA.l (s5 _ _ hC4), Kp.refl _ _, fun J4 hJ4 N nN => ?_⟩
      obtain ⟨G4, g4, W4⟩ := hJ4.walk
      have lo : (L.map fun j => ds.getD j 0).length ≤ 60 := by rw [List.length_map]; omega
      refine lc_it W4 (fun j H' => Same H5 H' ∧ H' N = some (.lst ((((L.map fun j => ds.getD j 0).take j).filter fun o => decide (o = ns[i])).map V.int))) ⟨same_new nN, upd_same⟩ (fun j H' _ z => g4 H' (.ofS z.1)) ?_ ?_
      · rintro j x H6 H7 hj ⟨sm, hN⟩ ⟨rfl, gx2⟩
        rw [List.length_map] at hj
        obtain rfl : .int (L.map fun j => ds.getD j 0)[j] = x := by
          have g5 : ((L.map fun j => ds.getD j 0).map V.int)[j]? = some (.int (L.map fun j => ds.getD j 0)[j]) := by rw [List.getElem?_map, List.getElem?_eq_getElem hj]; rfl
          exact Option.some.inj (g5.symm.trans gx2)
        refine ⟨rfl, _, rfl, _, rfl, rfl, _, rfl, ite2 (fun c => ?_) (fun c => ?_)⟩
        · have c0 : (L.map fun j => ds.getD j 0)[j] = ns[i] := V.int.inj (of_decide_eq_true c)
          refine ⟨_, rfl, _, hN, fl _ j lo, same_over sm nN, ?_⟩
          rw [upd_same, f _ j hj, if_pos c0, List.map_append]
          rfl
        · have c0 : ¬ (L.map fun j => ds.getD j 0)[j] = ns[i] := fun z => c (decide_eq_true (by rw [z]))
          refine ⟨sm, ?_⟩
          rw [hN, f _ j hj, if_neg c0, List.append_nil]
      rintro H6 ⟨s6, hN⟩
      rw [List.length_map, List.take_length] at hN
      refine ⟨N, _, rfl, .inl (SqL.of hN), ?_⟩
      have s46 := s5.trans s6
      have hF6 := s46 _ _ hF4
      -- sorts.append
      refine ⟨_, rfl, .inl ⟨rfl, _, SqL.of hF6⟩, _, rfl, _, rfl, _, rfl, _, rfl, _, _, rfl, rfl, (by show 3 ≤ sizeLine; decide), fun u nu => ?_⟩
      have lu : us.length = i := by
        rw [hu4.1]
        unfold sortsOf
        rw [List.length_map, List.length_take]
        omega
      refine ⟨F, _, _, rfl, rfl, same_new nu _ _ hF6, ?_, _, _, _, us ++ [u], rfl, same_over ((s4.trans s46).trans (same_new nu)) nF0, ?_, ?_, ?_, ?_⟩
      · rw [List.length_map, lu]
        exact small1000 (by omega)
      · rw [upd_ne CF]
        exact same_new nu _ _ (s46 _ _ hC4)
      · rw [upd_ne bF]
        exact same_new nu _ _ (s46 _ _ hb4)
      · rw [upd_same, List.map_append]
        rfl
      · have e : sortsOf ds L (ns.take (i + 1)) = sortsOf ds L (ns.take i) ++ [(ns[i], ((L.map fun i => ds.getD i 0).filter fun o => decide (o = ns[i])).length, (ds.filter fun o => decide (o = ns[i])).length - ((L.map fun i => ds.getD i 0).filter fun o => decide (o = ns[i])).length)] := by
          unfold sortsOf
          rw [take_succ_get hi, List.map_append]
          rfl
        rw [e]
        refine ((hu4.same s46).push' (x := (ns[i], ((L.map fun i => ds.getD i 0).filter fun o => decide (o = ns[i])).length, (ds.filter fun o => decide (o = ns[i])).length - ((L.map fun i => ds.getD i 0).filter fun o => decide (o = ns[i])).length)) nu ?_).put (same_new nu _ _ hF6)
        have le := lying_le hL ns[i]
        unfold SrtV
        rw [List.length_map, List.length_map]
        dsimp only
        rw [show (((ds.filter fun o => decide (o = ns[i])).length - ((L.map fun i => ds.getD i 0).filter fun o => decide (o = ns[i])).length : Nat) : Int) = ((ds.filter fun o => decide (o = ns[i])).length : Int) - (((L.map fun i => ds.getD i 0).filter fun o => decide (o = ns[i])).length : Int) by omega]
    · rintro σ H4 ⟨y7, y8, y9, us, rfl, s4, hC4, hb4, hF4, hu4⟩
      rw [List.length_map, List.take_length] at hu4
      refine ⟨_, rfl, _, rfl, _, rfl, F, _, rfl, .inl ⟨SqL.of hF4, fun a2 na2 => ⟨(by show 3 ≤ sizeLine; decide), fun b2 nb2 => ?_⟩⟩⟩
      have sa2 : Same H4 (upd H4 a2 (.tup (us.map V.ref))) := same_new na2
      have sb2 := sa2.trans (same_new nb2 (o := .tup [.int h, .int t, .ref a2]))
      refine k _ _ (sortsOf ds L ns) (s4.trans sb2) ⟨b2, a2, us, rfl, SqA.t upd_same, SqA.t (same_new nb2 _ _ upd_same), (hu4.same sb2).a⟩ ?_ (sorts_rp hL nn fun d hd => (hm d).mpr (decide_eq_true hd))
      unfold sortsOf
      rw [List.length_map, hlen]
      omega
theorem ok_movers {k : Nat} (D : Df K mg "movers_of" s_movers_of) (T : Bt mg) (O_moving_mark : Ok P w K mg base k "moving_mark" s_moving_mark ["fleet", "lot"] (spMoving K)) (O_lot_of : Ok P w K mg base k "lot_of" s_lot_of ["fleet"] (spLotOf K)) (O_fleet_of : Ok P w K mg base k "fleet_of" s_fleet_of ["sea", "standing"] (spFleetOf K)) : Ok P w K mg base (k + 1) "movers_of" s_movers_of ["sea", "standing"] (spMovers K) := by
  refine D.ok sc_movers_of b_movers_of (fun vs H Q E h => ?_) (fun f cdv A outer s H vs Q E hr h => ?_)
  · obtain ⟨v, l, h, t, ds, L, rfl, _⟩ := h
    rfl
  · obtain ⟨v, l, h, t, ds, L, rfl, hv, hl, d1, d0, hL, k⟩ := h
    refine ⟨_, (pss_cons (ps_set (i := 2) sc_movers_of.nd rfl (.inl rfl) (pe_fn O_fleet_of (hr.mono (by omega)) (pa_cons (pv 0) (pa_cons (pv 1) pa_nil))))
      (pss_cons (ps_set (i := 3) sc_movers_of.nd rfl (.inr rfl) (pe_fn O_moving_mark (hr.mono (by omega)) (pa_cons (pv 2) (pa_cons (pe_fn O_lot_of (hr.mono (by omega)) (pa_cons (pv 2) pa_nil)) pa_nil))))
      (pss_cons (ps_if (pt_cmpR op_isN (pv 3) pe_non (nomark _))
        (pss_one (ps_ret (pe_lst pa_nil)))
        pss_nil)
      (pss_one (ps_ret (pe_lc (own := [("ship", 4), ("draught", 5)]) (g := (gSeq K 2 (gCons (gName 4) (gCons (gName 5) gNil)))) (by rfl) sc_movers_of.nd (pi_enumA (by rfl) T.enumerate_ (pa_cons (pe_ix ix_lt (pv 0) pe_int (fun _ _ => rfl)) pa_nil)) (blkOk_by (own := [("ship", 4), ("draught", 5)]) (N := (["sea", "standing", "fleet", "mark", "ship", "draught"] : List Str)) (sc := defScope s_movers_of) (by decide +kernel)) (fun _ _ _ _ _ => (pg_seq rfl (pgs_cons (pg_name (i := 4) sc_movers_of.nd rfl (.inl rfl)) (pgs_cons (pg_name (i := 5) sc_movers_of.nd rfl (.inl rfl)) pgs_nil)))) (fun _ _ _ _ _ => (pts_one (pt_cmpR op_le (pv 5) (pv 3) (nomark _)))) (fun _ _ _ _ _ => (pv 4)))))))), ?_⟩
    refine ⟨_, rfl, _, rfl, v, l, h, t, ds, L, rfl, hv, hl, d1, hL, fun H1 z ss s1 hz l1 r => ?_⟩
    refine ⟨_, rfl, _, rfl, z, h, t, ss, rfl, hz, l1, fun H2 pp kd s s2 np hp lf => ?_⟩
    have ls := lf.ships r d0
    have mv : ∀ i, i < ds.length → (Th.Moves ds.length (Gof h t ds) (mem L) i ↔ _) := fun i hi => ls.moves d0 hi
    have km := r.mny
    refine ⟨z, .ref pp, h, t, s, ss, kd, rfl, hz.same s2, l1, ⟨pp, rfl, SqA.t hp⟩, fun no H3 s3 => ?_, fun n0 n1 H3 s3 => ?_⟩
    · refine ⟨_, rfl, rfl, _, rfl, iteT ⟨Nat.zero_le _, fun a na => ?_⟩⟩
      have s03 := (s1.trans s2).trans s3
      refine k _ a [] (s03.trans (same_new na)) (s03.free na) upd_same ⟨Lot.nil _, fun i hi => ?_⟩
      rw [ex_moves hL hi, mv i hi]
      rw [km] at no
      exact ⟨fun z => (by cases z), fun z => (by omega)⟩
    · have s03 := (s1.trans s2).trans s3
      refine ⟨_, rfl, rfl, _, rfl, iteF ?_⟩
      rw [km] at n1
      rw [km]
      obtain ⟨p, q, rfl, hpp, hq⟩ := hv.same s03
      generalize em : mk h t ds.length (nextS kd s) = m
      rw [em] at mv
      refine ⟨_, rfl, p, _, 2, .ref q, rfl, rfl, hpp, rfl, q, _, H3, rfl, .inr hq, Kp.refl _ _, fun J hJ C nC => ?_⟩
      obtain ⟨G, g, W⟩ := hJ.walk
      refine lc_it W (fun i H' => Same H3 H' ∧ H' C = some (.lst (ni (gs m ds i)))) ⟨same_new nC, upd_same⟩ (fun i H' _ z => g H' (.ofS z.1)) ?_ ?_
      · rintro i x H4 H5 hi ⟨sm, hC⟩ ⟨u, x1, x2, rfl, nu, rfl, g1, g2⟩
        rw [List.length_map] at hi
        obtain rfl : .int (i : Nat) = x1 := Option.some.inj g1
        obtain rfl : .int ds[i] = x2 := by
          have g3 : (ds.map V.int)[i]? = some (.int ds[i]) := by simp [hi]
          exact Option.some.inj (g3.symm.trans g2)
        have ed : ds.getD i 0 = ds[i] := by simp [hi]
        have s4 : Same H4 (upd H4 u (.tup [.int (i : Nat), .int ds[i]])) := same_new nu
        refine ⟨u, _, rfl, SqA.t upd_same, rfl, _, _, rfl, _, _, rfl, rfl, rfl, ?_⟩
        have sm2 := sm.trans s4
        have hC2 := s4 _ _ hC
        generalize upd H4 u (.tup [.int (i : Nat), .int ds[i]]) = H5 at sm2 hC2
        refine ⟨_, rfl, _, rfl, ds[i], m, rfl, rfl, _, rfl, ite2 (fun c => ?_) (fun c => ?_)⟩
        · have c0 : ds[i] ≤ m := of_decide_eq_true c
          refine ⟨_, rfl, _, hC2, ?_, same_over sm2 nC, ?_⟩
          · rw [ni_len]
            exact Nat.lt_of_le_of_lt gs_len (small1000 (by omega))
          · rw [upd_same, gs_succ, ed, if_pos c0, ni_app]
            rfl
        · have c0 : ¬ ds[i] ≤ m := fun z => c (decide_eq_true z)
          refine ⟨sm2, ?_⟩
          rw [hC2, gs_succ, ed, if_neg c0, List.append_nil]
      · rintro H4 ⟨sm, hC⟩
        rw [List.length_map] at hC
        refine k H4 C _ (s03.trans sm) (s03.free nC) hC ⟨(Lot.all _).filter _, fun i hi => ?_⟩
        rw [ex_moves hL hi, mv i hi]
        unfold gs
        rw [List.mem_filter, List.mem_range, decide_eq_true_eq]
        exact ⟨fun z => ⟨n0, n1, z.2⟩, fun z => ⟨hi, z.2.2⟩⟩
end
end Sh

namespace Sh
open PySem PySem.Spec PyProof.Rows L2
/-! ### what is told: seas and standings -/
/-- a standing told: a tuple that is read -/
def LotT (K : PySem.W.Frag) (H : Hp) (v : V) (L : List Nat) : Prop := ∃ p, v = .ref p ∧ SqT K H p (ni L)
theorem LotT.a {K : PySem.W.Frag} {H : Hp} {v : V} {L : List Nat} (h : LotT K H v L) : LotA K H v L := let ⟨p, e, q⟩ := h; ⟨p, e, .inr q⟩
theorem LotT.same {K : PySem.W.Frag} {H H' : Hp} {v : V} {L : List Nat} (h : LotT K H v L) (s : Same H H') : LotT K H' v L := let ⟨p, e, q⟩ := h; ⟨p, e, Same.tup s q⟩
theorem tup_but {K : PySem.W.Frag} {H H' : Hp} {b p : Addr} {n : Nat} {xs : List V} (q : SqT K H p xs) (x : BoxAt H b n) (u : But b H H') : SqT K H' p xs := by
  obtain ⟨ys, hb, _⟩ := x
  rcases q with (q | ⟨o, q⟩) | q
  · exact .inl (.inl (u _ _ (ne_of q hb (by intro z; cases z)) q))
  · exact .inl (.inr ⟨o, u _ _ (ne_of q hb (by intro z; cases z)) q⟩)
  · exact .inr q
theorem LotT.but {K : PySem.W.Frag} {H H' : Hp} {b : Addr} {n : Nat} {v : V} {L : List Nat} (h : LotT K H v L) (x : BoxAt H b n) (u : But b H H') : LotT K H' v L := let ⟨p, e, q⟩ := h; ⟨p, e, tup_but q x u⟩
theorem LotT.dp {K : PySem.W.Frag} {H : Hp} {v : V} {L : List Nat} (h : LotT K H v L) : Dp K H v (.tuple ((L.map fun (i : Nat) => (i : Int)).map .int)) := by
  obtain ⟨p, e, q⟩ := h
  rw [e]
  rw [ni_ints] at q
  exact .tup q (DpAll.ints _)
/-- a sea told -/
def SeaT (K : PySem.W.Frag) (H : Hp) (v : V) (h t : Int) (ds : List Int) : Prop := ∃ p q, v = .ref p ∧ SqT K H p [.int h, .int t, .ref q] ∧ SqT K H q (ds.map V.int)
theorem SeaT.a {K : PySem.W.Frag} {H : Hp} {v : V} {h t : Int} {ds : List Int} (s : SeaT K H v h t ds) : SeaA K H v h t ds := let ⟨p, q, e, a, b⟩ := s; ⟨p, q, e, .inr a, .inr b⟩
theorem SeaT.same {K : PySem.W.Frag} {H H' : Hp} {v : V} {h t : Int} {ds : List Int} (s : SeaT K H v h t ds) (e : Same H H') : SeaT K H' v h t ds := let ⟨p, q, e1, a, b⟩ := s; ⟨p, q, e1, Same.tup e a, Same.tup e b⟩
theorem SeaT.but {K : PySem.W.Frag} {H H' : Hp} {b : Addr} {n : Nat} {v : V} {h t : Int} {ds : List Int} (s : SeaT K H v h t ds) (x : BoxAt H b n) (u : But b H H') : SeaT K H' v h t ds := let ⟨p, q, e1, a, c⟩ := s; ⟨p, q, e1, tup_but a x u, tup_but c x u⟩
theorem SeaT.dp {K : PySem.W.Frag} {H : Hp} {v : V} {h t : Int} {ds : List Int} (s : SeaT K H v h t ds) : Dp K H v (.tuple [.int h, .int t, .tuple (ds.map .int)]) := by
  obtain ⟨p, q, e, a, b⟩ := s
  rw [e]
  exact .tup a (.cons (.int _) (.cons (.int _) (.cons (.tup b (DpAll.ints _)) .nil)))
theorem lv_sea {n : Nat} {h t : Int} {ds : List Int} (l : ds.length ≤ 100000) : Lv (n + 3) (.tuple [.int h, .int t, .tuple (ds.map .int)]) := ⟨by show 3 ≤ 100000; decide, fun e he => by
  rcases List.mem_cons.mp he with z | z
  · rw [z]; exact trivial
  · rcases List.mem_cons.mp z with z | z
    · rw [z]; exact trivial
    · rw [List.mem_singleton.mp z]; exact lv_intsT _ l⟩
theorem lv_lot {n : Nat} {L : List Nat} (l : L.length ≤ 100000) : Lv (n + 2) (.tuple ((L.map fun (i : Nat) => (i : Int)).map .int)) := lv_intsT _ (by rw [List.length_map]; exact l)
end Sh

namespace Th
section
variable {k : Nat} {G : Nat → Nat → Bool} {S U : Nat → Bool}
/-- what lies beyond the ships doesn't matter -/
theorem Reach.ext (h : Reach k G S U) : ∀ {S' U' : Nat → Bool}, (∀ i, i < k → S' i = S i) → (∀ i, i < k → U' i = U i) → (∀ i, ¬ i < k → U' i = S' i) → Reach k G S' U' := by
  induction h with
  | refl =>
    intro S' U' a b c
    have : U' = S' := by
      funext i
      by_cases hi : i < k
      · rw [b i hi, a i hi]
      · exact c i hi
    rw [this]
    exact .refl _
  | @step B W r s ih =>
    intro S' U' a b c
    have r' := ih (S' := S') (U' := fun i => if i < k then B i else S' i) a (fun i hi => by show (if i < k then B i else S' i) = B i; rw [if_pos hi]) (fun i hi => by show (if i < k then B i else S' i) = S' i; rw [if_neg hi])
    refine r'.step ?_
    have cB : cnt k (fun i => if i < k then B i else S' i) = cnt k B := cnt_congr fun i hi => by show (if i < k then B i else S' i) = B i; rw [if_pos hi]
    have fl : ∀ i, i < k → W = flip B i → U' = flip (fun i => if i < k then B i else S' i) i := fun i hi e => by
      funext j
      by_cases hj : j < k
      · rw [b j hj, e]
        by_cases z : j = i
        · subst z
          rw [flip_self, flip_self]
          show _ = !(if j < k then B j else S' j)
          rw [if_pos hj]
        · rw [flip_ne _ z, flip_ne _ z]
          show _ = (if j < k then B j else S' j)
          rw [if_pos hj]
      · rw [c j hj, flip_ne _ (show j ≠ i by omega)]
        show _ = (if j < k then B j else S' j)
        rw [if_neg hj]
    cases s with
    | @up i hi hs hg =>
      rw [fl i hi rfl]
      exact .up hi (by show (if i < k then B i else S' i) = false; rw [if_pos hi]; exact hs) (by rw [cB]; exact hg)
    | @dn i hi hs hg =>
      rw [fl i hi rfl]
      exact .dn hi (by show (if i < k then B i else S' i) = true; rw [if_pos hi]; exact hs) (by rw [cB]; exact hg)
end
end Th
namespace Sh
open PySem PySem.Spec PyProof.Rows L2
theorem away_away {c : Nat} {L : List Nat} (h : Lot c L) : away c (away c L) = L := lot_ext (away_lot c _) h fun i hi => by rw [mem_away hi, mem_away hi, Bool.not_not]
theorem away_len {c : Nat} {L : List Nat} (h : Lot c L) : (away c L).length + L.length = c := by
  rw [← cnt_mem h, ← cnt_mem (away_lot c L), Th.cnt_congr (S := mem (away c L)) (U := Th.co (mem L)) fun i hi => mem_away hi]
  have := Th.cnt_co c (mem L)
  omega
theorem gof_turn {h t : Int} {ds : List Int} {s i : Nat} (hs : s < ds.length) : Th.dual ds.length (Gof h t ds) s i = Gof t h ds s i := by
  unfold Th.dual Gof
  rw [mk_turn hs]
theorem rl_turn {h t : Int} {ds : List Int} {L M : List Nat} (hL : Lot ds.length L) (hM : Lot ds.length M) (r : Rl h t ds L M) : Rl t h ds (away ds.length L) (away ds.length M) := by
  have r2 := (Th.Reach.dual r).congr (G' := Gof t h ds) fun s i hs => gof_turn hs
  exact r2.ext (fun i hi => mem_away hi) (fun i hi => mem_away hi) (fun i hi => by rw [mem_out (away_lot _ _) hi, mem_out (away_lot _ _) hi])
theorem near_away {c : Nat} {L : List Nat} (h : Lot c L) {i : Nat} (hi : i < c) : near (away c L) i = c - 1 - near L i := by
  have l1 := away_len h
  have l2 := h.len
  rw [near_cnt h hi, near_cnt (away_lot c L) hi]
  have m := mem_away (L := L) hi
  unfold mem at m
  by_cases z : i ∈ L
  · have z2 : ¬ i ∈ away c L := fun q => by rw [decide_eq_true q, decide_eq_true z] at m; cases m
    have lp : 0 < L.length := List.length_pos_iff.mpr (List.ne_nil_of_mem z)
    rw [if_pos z, if_neg z2]
    omega
  · have z2 : i ∈ away c L := by
      rw [decide_eq_false z] at m
      exact of_decide_eq_true m
    rw [if_neg z, if_pos z2]
    omega
theorem may_turn {h t : Int} {ds : List Int} {L : List Nat} (hL : Lot ds.length L) {i : Nat} (hi : i < ds.length) : mayB t h ds (away ds.length L) i = mayB h t ds L i := by
  rw [may_G, may_G, near_away hL hi]
  have hn : near L i < ds.length := by
    have l2 := hL.len
    rw [near_cnt hL hi]
    split
    · omega
    · rename_i z
      have : L.length ≠ ds.length := fun e => by
        have l1 := away_len hL
        have e0 : away ds.length L = [] := List.eq_nil_of_length_eq_zero (by omega)
        have m := mem_away (L := L) hi
        unfold mem at m
        rw [e0, decide_eq_false z] at m
        simp at m
      omega
  unfold Gof
  rw [mk_turn (h := h) (t := t) (by omega), show ds.length - 1 - (ds.length - 1 - near L i) = near L i by omega]
theorem most_turn {h t : Int} {ds : List Int} {L : List Nat} {m : Nat} (hL : Lot ds.length L) (a : IsLeast h t ds L m) : IsMost t h ds (away ds.length L) (ds.length - m) := by
  obtain ⟨⟨M, l1, r1, e1⟩, h1⟩ := a
  refine ⟨⟨away ds.length M, away_lot _ _, rl_turn hL l1 r1, ?_⟩, fun M' l2 r2 => ?_⟩
  · have := away_len l1
    omega
  · have r3 := rl_turn (away_lot _ _) l2 r2
    rw [away_away hL] at r3
    have := h1 _ (away_lot _ _) r3
    have := away_len l2
    omega
theorem least_turn {h t : Int} {ds : List Int} {L : List Nat} {m : Nat} (hL : Lot ds.length L) (a : IsMost h t ds L m) : IsLeast t h ds (away ds.length L) (ds.length - m) := by
  obtain ⟨⟨M, l1, r1, e1⟩, h1⟩ := a
  refine ⟨⟨away ds.length M, away_lot _ _, rl_turn hL l1 r1, ?_⟩, fun M' l2 r2 => ?_⟩
  · have := away_len l1
    omega
  · have r3 := rl_turn (away_lot _ _) l2 r2
    rw [away_away hL] at r3
    have := h1 _ (away_lot _ _) r3
    have := away_len l2
    omega
theorem movers_turn {h t : Int} {ds : List Int} {L ms : List Nat} (hL : Lot ds.length L) (a : IsMovers h t ds L ms) : IsMovers t h ds (away ds.length L) ms := by
  refine ⟨a.1, fun i hi => ?_⟩
  rw [a.2 i hi]
  constructor
  · rintro ⟨M, l, r, m⟩
    exact ⟨away ds.length M, away_lot _ _, rl_turn hL l r, by rw [may_turn l hi]; exact m⟩
  · rintro ⟨M, l, r, m⟩
    have r3 := rl_turn (away_lot _ _) l r
    rw [away_away hL] at r3
    exact ⟨away ds.length M, away_lot _ _, r3, by rw [may_turn l hi]; exact m⟩
/-! ### rows of crossings -/
def goes (h t : Int) (ds : List Int) : List Nat → List Nat → Option (List Nat)
  | L, [] => some L
  | L, i :: r => if i < ds.length ∧ mayB h t ds L i = true then goes h t ds (gone L i) r else none
theorem goes_app {h t : Int} {ds : List Int} : ∀ {r : List Nat} {L M : List Nat} (s : List Nat), goes h t ds L r = some M → goes h t ds L (r ++ s) = goes h t ds M s
  | [], L, M, s, e => by
    cases e
    rfl
  | i :: r, L, M, s, e => by
    unfold goes at e
    by_cases c : i < ds.length ∧ mayB h t ds L i = true
    · rw [if_pos c] at e
      show (if i < ds.length ∧ mayB h t ds L i = true then goes h t ds (gone L i) (r ++ s) else none) = _
      rw [if_pos c]
      exact goes_app s e
    · rw [if_neg c] at e
      cases e
theorem goes_rl {h t : Int} {ds : List Int} : ∀ {r : List Nat} {L M : List Nat}, Lot ds.length L → goes h t ds L r = some M → Lot ds.length M ∧ Rl h t ds L M
  | [], L, M, hL, e => by
    cases e
    exact ⟨hL, .refl _⟩
  | i :: r, L, M, hL, e => by
    unfold goes at e
    by_cases c : i < ds.length ∧ mayB h t ds L i = true
    · rw [if_pos c] at e
      obtain ⟨a, b⟩ := goes_rl (gone_lot hL c.1) e
      exact ⟨a, (rl_one hL c.1 c.2).trans b⟩
    · rw [if_neg c] at e
      cases e
theorem gone_gone {c : Nat} {L : List Nat} {i : Nat} (hL : Lot c L) (hi : i < c) : gone (gone L i) i = L := lot_ext (gone_lot (gone_lot hL hi) hi) hL fun j _ => by rw [gone_mem, gone_mem, Th.flip_flip]
theorem goes_back {h t : Int} {ds : List Int} : ∀ {r : List Nat} {L M : List Nat}, Lot ds.length L → goes h t ds L r = some M → goes h t ds M r.reverse = some L
  | [], L, M, hL, e => by
    cases e
    rfl
  | i :: r, L, M, hL, e => by
    unfold goes at e
    by_cases c : i < ds.length ∧ mayB h t ds L i = true
    · rw [if_pos c] at e
      have b := goes_back (gone_lot hL c.1) e
      rw [List.reverse_cons, goes_app [i] b]
      show (if i < ds.length ∧ mayB h t ds (gone L i) i = true then goes h t ds (gone (gone L i) i) [] else none) = _
      have m : mayB h t ds (gone L i) i = true := by rw [may_G, may_back (h := h) (t := t) hL c.1, ← may_G]; exact c.2
      rw [if_pos ⟨c.1, m⟩, gone_gone hL c.1]
      rfl
    · rw [if_neg c] at e
      cases e
theorem SeaT.d {K : PySem.W.Frag} {H : Hp} {v : V} {h t : Int} {ds : List Int} (s : SeaT K H v h t ds) : SeaD K H v h t ds := let ⟨p, q, e, a, b⟩ := s; ⟨p, q, e, .inr a, b⟩
def spOther (K : PySem.W.Frag) : Sp := fun vs H Q _ => ∃ (v l : V) (h t : Int) (ds : List Int) (L : List Nat), vs = [v, l] ∧ SeaA K H v h t ds ∧ LotA K H l L ∧ ds.length ≤ 100 ∧ Lot ds.length L ∧ ∀ (H' : Hp) (r : V), Same H H' → LotT K H' r (away ds.length L) → Q r H'
def spTurned (K : PySem.W.Frag) : Sp := fun vs H Q _ => ∃ (v : V) (h t : Int) (ds : List Int), vs = [v] ∧ SeaA K H v h t ds ∧ ds.length ≤ 100 ∧ ∀ (H' : Hp) (r : V), Same H H' → SeaT K H' r t h ds → Q r H'
/-- a row of ships is handed in: all may go -/
def spCrossedAll (K : PySem.W.Frag) : Sp := fun vs H Q _ => ∃ (v l r : V) (h t : Int) (ds : List Int) (L M row : List Nat), vs = [v, l, r] ∧ SeaA K H v h t ds ∧ LotA K H l L ∧ LotA K H r row ∧ ds.length ≤ 100 ∧ row.length ≤ 1000 ∧ Lot ds.length L ∧ goes h t ds L row = some M ∧
  ∀ (H' : Hp) (z : V), Same H H' → LotT K H' z M → Q z H'
end Sh

namespace Sh
open PySem PySem.Spec PyProof.Rows L2
/-! ### the program: a basin deeper (a text that has HERE alone) -/
def ChH (mg : Str → Option Value) : Prop := ∃ t, mg "HERE" = some (.str "here" t)
theorem with_chH {K : PySem.W.Frag} {mg : Str → Option Value} {R : Prop} {h : Heap} {t1 : Tok} (X : K.In h) (G : h.Ns mainGlobals mg) (a : PySem.W.nsIn K mainGlobals "HERE" = some (some (.str "here" t1))) (r : ChH mg → R) : R :=
  r ⟨_, PySem.W.mg_of X G a⟩
def sideS (s : Bool) : Str := if s then "here" else "there"
theorem side_ne : decide (V.str "there" = V.str "here") = false := by decide +kernel
def spDeep (K : PySem.W.Frag) : Sp := fun vs H Q _ => ∃ (v : V) (h t m : Int) (ds : List Int) (s : Bool), vs = [v, .str (sideS s), .int m] ∧ SeaA K H v h t ds ∧ ds.length ≤ 100 ∧ ∀ (H' : Hp) (r : V), Same H H' → SeaT K H' r (if s then h + m else h) (if s then t else t + m) ds → Q r H'
abbrev s_deepened : Stmt := topS 20
theorem sc_deepened : FnScope (["sea", "side", "more", "here", "there", "draughts"] : List Str) (["sea", "side", "more"] : List Str) (defScope s_deepened) := ⟨rfl, rfl, rfl, by decide +kernel, rfl, by decide +kernel, by decide +kernel⟩
theorem b_deepened (kV doc pm : Value) (an : Option Addr) (cdv ct : Value) (us : List Value) (hl : us.length = (["sea", "side", "more"] : List Str).length) : bindArgs (PySem.W.fnOf "deepened" "deepened" (defArgs s_deepened) (defBody s_deepened) (defScope s_deepened) .none kV doc pm an cdv ct) ⟨us, []⟩ = pure ((["sea", "side", "more"] : List Str).zip us) :=
  match us, hl with | [_, _, _], _ => rfl
section
variable {P : Program} {w : World} {K : PySem.W.Frag} {mg : Str → Option Value} {base : Heap}
theorem ok_deep {k : Nat} (D : Df K mg "deepened" s_deepened) (T : Bt mg) (Ch : ChH mg) : Ok P w K mg base (k + 1) "deepened" s_deepened ["sea", "side", "more"] (spDeep K) := by
  obtain ⟨t1, g_HERE⟩ := Ch
  refine D.ok sc_deepened b_deepened (fun vs H Q E h => ?_) (fun f cdv A outer s H vs Q E hr h => ?_)
  · obtain ⟨v, h, t, m, ds, s, rfl, _⟩ := h
    rfl
  · obtain ⟨v, h, t, m, ds, sd, rfl, ⟨p, q, rfl, hp, hq⟩, d1, k⟩ := h
    refine ⟨_, (pss_cons (ps_asg (pv 0) (pg_seq rfl (pgs_cons (pg_name (i := 3) sc_deepened.nd rfl (.inl rfl)) (pgs_cons (pg_name (i := 4) sc_deepened.nd rfl (.inl rfl)) (pgs_cons (pg_name (i := 5) sc_deepened.nd rfl (.inl rfl)) pgs_nil)))))
      (pss_cons (ps_if (pt_cmpR op_eq (pv 1) (pe_glob (v := .str "here") (by rfl) g_HERE ⟨_, rfl⟩) (nomark _))
        (pss_one (ps_ret (pe_tup (pa_cons (pe_op op_add (pv 3) (pv 2)) (pa_cons (pv 4) (pa_cons (pe_callTy call_tuple_of (by rfl) T.tuple_ (by decide +kernel) (pa_cons (pv 5) pa_nil)) pa_nil))))))
        pss_nil)
      (pss_one (ps_ret (pe_tup (pa_cons (pv 3) (pa_cons (pe_op op_add (pv 4) (pv 2)) (pa_cons (pe_callTy call_tuple_of (by rfl) T.tuple_ (by decide +kernel) (pa_cons (pv 5) pa_nil)) pa_nil)))))))), ?_⟩
    refine ⟨_, rfl, p, _, rfl, hp, rfl, _, _, rfl, _, _, rfl, _, _, rfl, rfl, ?_⟩
    cases sd with
    | true =>
      refine ⟨_, rfl, rfl, _, rfl, ?_⟩
      rw [show sideS true = "here" from rfl, decide_eq_true rfl]
      refine iteT ?_
      refine ⟨_, rfl, _, rfl, h, m, rfl, rfl, _, rfl, _, rfl, q, ds.map V.int, rfl, ?_⟩
      rcases hq with hq | hq
      · refine .inl ⟨hq, fun a na => ⟨(by show 3 ≤ sizeLine; decide), fun b nb => ?_⟩⟩
        have s1 : Same H (upd H a (.tup (ds.map V.int))) := same_new na
        exact k _ _ (s1.trans (same_new nb)) ⟨b, a, rfl, SqT.of upd_same, SqT.of (same_new nb _ _ upd_same)⟩
      · refine .inr ⟨hq, (by show 3 ≤ sizeLine; decide), fun b nb => ?_⟩
        exact k _ _ (same_new nb) ⟨b, q, rfl, SqT.of upd_same, Same.tup (same_new nb) hq⟩
    | false =>
      refine ⟨_, rfl, rfl, _, rfl, ?_⟩
      rw [show sideS false = "there" from rfl, side_ne]
      refine iteF ?_
      refine ⟨_, rfl, _, rfl, _, rfl, t, m, rfl, rfl, _, rfl, q, ds.map V.int, rfl, ?_⟩
      rcases hq with hq | hq
      · refine .inl ⟨hq, fun a na => ⟨(by show 3 ≤ sizeLine; decide), fun b nb => ?_⟩⟩
        have s1 : Same H (upd H a (.tup (ds.map V.int))) := same_new na
        exact k _ _ (s1.trans (same_new nb)) ⟨b, a, rfl, SqT.of upd_same, SqT.of (same_new nb _ _ upd_same)⟩
      · refine .inr ⟨hq, (by show 3 ≤ sizeLine; decide), fun b nb => ?_⟩
        exact k _ _ (same_new nb) ⟨b, q, rfl, SqT.of upd_same, Same.tup (same_new nb) hq⟩
end
end Sh

namespace Sh
open PySem PySem.Spec PyProof.Rows L2
/-! ### the least number that does -/
def IsLeastP (B : Nat → Prop) (most : Nat) (r : V) : Prop := (¬ B most ∧ r = .non) ∨ ∃ n : Nat, n ≤ most ∧ B n ∧ (∀ m, m < n → ¬ B m) ∧ r = .int (n : Int)
theorem IsLeastP.uniq {B : Nat → Prop} {most : Nat} {r r' : V} (up : ∀ m m', m ≤ m' → m' ≤ most → B m → B m') (a : IsLeastP B most r) (b : IsLeastP B most r') : r = r' := by
  rcases a with ⟨a1, a2⟩ | ⟨n, n1, n2, n3, n4⟩
  · rcases b with ⟨b1, b2⟩ | ⟨m, m1, m2, m3, m4⟩
    · rw [a2, b2]
    · exact absurd (up m most m1 (Nat.le_refl _) m2) a1
  · rcases b with ⟨b1, b2⟩ | ⟨m, m1, m2, m3, m4⟩
    · exact absurd (up n most n1 (Nat.le_refl _) n2) b1
    · have : n = m := by
        rcases Nat.lt_trichotomy n m with h | h | h
        · exact absurd n2 (m3 n h)
        · exact h
        · exact absurd m2 (n3 m h)
      rw [n4, m4, this]
/-- a side so much deeper -/
def hS (s : Bool) (h m : Int) : Int := if s then h + m else h
def tS (s : Bool) (t m : Int) : Int := if s then t else t + m
theorem gof_more {h t h' t' : Int} {ds : List Int} (hh : h ≤ h') (tt : t ≤ t') (s i : Nat) (g : Gof h t ds s i = true) : Gof h' t' ds s i = true := by
  unfold Gof at g ⊢
  rw [decide_eq_true_eq] at g ⊢
  unfold mk at g ⊢
  split at g <;> split <;> omega
theorem reach_more {h t h' t' : Int} {ds : List Int} {S U : Nat → Bool} (hh : h ≤ h') (tt : t ≤ t') (r : Th.Reach ds.length (Gof h t ds) S U) : Th.Reach ds.length (Gof h' t' ds) S U := by
  induction r with
  | refl => exact .refl _
  | step a s ih =>
    refine .step ih ?_
    cases s with
    | up hi z g => exact .up hi z (gof_more hh tt _ _ g)
    | dn hi z g => exact .dn hi z (gof_more hh tt _ _ g)
theorem rl_more {h t h' t' : Int} {ds : List Int} {L M : List Nat} (hh : h ≤ h') (tt : t ≤ t') (r : Rl h t ds L M) : Rl h' t' ds L M := reach_more hh tt r
theorem rl_side {h t : Int} {ds : List Int} {L M : List Nat} {s : Bool} {m m' : Int} (l : m ≤ m') (r : Rl (hS s h m) (tS s t m) ds L M) : Rl (hS s h m') (tS s t m') ds L M := by
  refine rl_more ?_ ?_ r
  · unfold hS
    split <;> omega
  · unfold tS
    split <;> omega
/-- how much is asked of a side at the most -/
def NeedI (h t : Int) (ds : List Int) (s : Bool) (m : Nat) : Prop := ((m : Int) = 0 ∨ ∃ d ∈ ds, (m : Int) = d - (if s then h else t)) ∧ ∀ d ∈ ds, d - (if s then h else t) ≤ (m : Int)
theorem NeedI.uniq {h t : Int} {ds : List Int} {s : Bool} {m m' : Nat} (a : NeedI h t ds s m) (b : NeedI h t ds s m') : m = m' := by
  obtain ⟨a1, a2⟩ := a
  obtain ⟨b1, b2⟩ := b
  have key : ∀ {m m' : Nat}, ((m : Int) = 0 ∨ ∃ d ∈ ds, (m : Int) = d - (if s then h else t)) → (∀ d ∈ ds, d - (if s then h else t) ≤ (m' : Int)) → m ≤ m' := fun {m m'} x y => by
    rcases x with x | ⟨d, hd, x⟩
    · omega
    · have := y d hd
      omega
  exact Nat.le_antisymm (key a1 b2) (key b1 a2)
end Sh

namespace Sh
open PySem PySem.Spec PyProof.Rows L2 LamX
/-! ### the program: how much must be dredged -/
def TTleast : (V → Hp → VK → Prop) → V → Hp → VK → Prop := fun sp v2 H Q => ∃ (B : Nat → Prop) (most : Nat), v2 = .int (most : Int) ∧ most ≤ 1000000000000000 ∧
  (∀ (m : Nat) (H1 : Hp) (Q1 : VK), m ≤ most → Same H H1 → (∀ (H2 : Hp) (b : Bool), Same H1 H2 → (b = true ↔ B m) → Q1 (.bl b) H2) → sp (.int (m : Int)) H1 Q1) ∧
  (∀ m m', m ≤ m' → m' ≤ most → B m → B m') ∧ ∀ (H' : Hp) (r : V), Same H H' → IsLeastP B most r → Q r H'
abbrev s_least_of : Stmt := topS 22
theorem sc_least_of : FnScope (["does", "most", "least", "enough", "middle"] : List Str) (["does", "most"] : List Str) (defScope s_least_of) := ⟨rfl, rfl, rfl, by decide +kernel, rfl, by decide +kernel, by decide +kernel⟩
theorem b_least_of (kV doc pm : Value) (an : Option Addr) (cdv ct : Value) (us : List Value) (hl : us.length = (["does", "most"] : List Str).length) : bindArgs (PySem.W.fnOf "least_of" "least_of" (defArgs s_least_of) (defBody s_least_of) (defScope s_least_of) .none kV doc pm an cdv ct) ⟨us, []⟩ = pure ((["does", "most"] : List Str).zip us) :=
  match us, hl with | [_, _], _ => rfl
abbrev s_most_needed : Stmt := topS 21
theorem sc_most_needed : FnScope (["sea", "side", "here", "there", "draughts"] : List Str) (["sea", "side"] : List Str) (defScope s_most_needed) := ⟨rfl, rfl, rfl, by decide +kernel, rfl, by decide +kernel, by decide +kernel⟩
theorem b_most_needed (kV doc pm : Value) (an : Option Addr) (cdv ct : Value) (us : List Value) (hl : us.length = (["sea", "side"] : List Str).length) : bindArgs (PySem.W.fnOf "most_needed" "most_needed" (defArgs s_most_needed) (defBody s_most_needed) (defScope s_most_needed) .none kV doc pm an cdv ct) ⟨us, []⟩ = pure ((["sea", "side"] : List Str).zip us) :=
  match us, hl with | [_, _], _ => rfl
def spNeeded (K : PySem.W.Frag) : Sp := fun vs H Q _ => ∃ (v : V) (h t : Int) (ds : List Int) (s : Bool), vs = [v, .str (sideS s)] ∧ SeaA K H v h t ds ∧ 0 < ds.length ∧ ∀ m : Nat, NeedI h t ds s m → Q (.int (m : Int)) H
section
variable {P : Program} {w : World} {K : PySem.W.Frag} {mg : Str → Option Value} {base : Heap}
theorem ok_least_of {k j : Nat} (D : Df K mg "least_of" s_least_of) (T : Bt mg) (hj : j ≤ k) : OkLam P w K mg base (k + 1) j "least_of" s_least_of ["does", "most"] TTleast := by
  refine D.okLam sc_least_of b_least_of fun g cdv A outer s H f v Q sp hr LA h => ?_
  obtain ⟨B, most, rfl, m1, does, up, q⟩ := h
  refine ⟨_, (pss_cons (ps_if (pt_not (pt_val (pe_callLam (i := 0) LA rfl rfl rfl rfl (hr.mono hj) rfl (.inl rfl) (pv 1))))
        (pss_one (ps_ret pe_non))
        pss_nil)
      (pss_cons (ps_set (i := 2) sc_least_of.nd rfl (.inl rfl) pe_int)
      (pss_cons (ps_set (i := 3) sc_least_of.nd rfl (.inl rfl) (pv 1))
      (pss_cons (ps_while PassesOwn.never (pt_cmpR op_lt (pv 2) (pv 3) (nomark _))
        (pss_cons (ps_set (i := 4) sc_least_of.nd rfl (.inl rfl) (pe_op op_fdiv (pe_op op_add (pv 2) (pv 3)) pe_int))
          (pss_one (ps_if (pt_val (pe_callLam (i := 0) LA rfl rfl rfl rfl (hr.mono hj) rfl (.inl rfl) (pv 4)))
            (pss_one (ps_set (i := 3) sc_least_of.nd rfl (.inl rfl) (pv 4)))
            (pss_one (ps_set (i := 2) sc_least_of.nd rfl (.inl rfl) (pe_op op_add (pv 4) pe_int)))))))
      (pss_one (ps_ret (pv 2))))))), ?_⟩
  refine ⟨rfl, _, rfl, does most H _ (Nat.le_refl _) (Same.refl _) fun H1 b s1 hb => ?_⟩
  refine ⟨b, rfl, ?_⟩
  cases b with
  | false =>
    refine iteT ?_
    exact q _ _ s1 (.inl ⟨fun z => (by have := hb.mpr z; cases this), rfl⟩)
  | true =>
    refine iteF ?_
    have bm : B most := hb.mp rfl
    refine ⟨_, rfl, ?_⟩
    refine ⟨fun m σ H' => ∃ (lo hi : Nat) (y : Option V), σ = [some (.ref f), some (.int (most : Int)), some (.int (lo : Int)), some (.int (hi : Int)), y] ∧ Same H H' ∧ lo ≤ hi ∧ hi ≤ most ∧ B hi ∧ (∀ m, m < lo → ¬ B m) ∧ hi - lo = m, ⟨_, 0, most, none, rfl, s1, Nat.zero_le _, Nat.le_refl _, bm, fun m hm => absurd hm (Nat.not_lt_zero _), rfl⟩, ?_⟩
    rintro m σ H2 ⟨lo, hi, y, rfl, s2, l1, l2, bh, lw, rfl⟩
    refine ⟨_, rfl, _, rfl, _, _, rfl, rfl, _, rfl, ite2 (fun c => ?_) (fun c => ?_)⟩
    · have c0 : lo < hi := by
        have := of_decide_eq_true c
        omega
      refine ⟨fun σ' H' => ∃ (lo' hi' : Nat) (y : Option V), σ' = [some (.ref f), some (.int (most : Int)), some (.int (lo' : Int)), some (.int (hi' : Int)), y] ∧ Same H H' ∧ lo' ≤ hi' ∧ hi' ≤ most ∧ B hi' ∧ (∀ m, m < lo' → ¬ B m) ∧ hi' - lo' < hi - lo,
        fun σ' H' ⟨lo', hi', y, z1, z2, z3, z4, z5, z6, z7⟩ => ⟨_, z7, lo', hi', y, z1, z2, z3, z4, z5, z6, rfl⟩, ?_⟩
      refine ⟨_, rfl, _, rfl, (lo : Int), (hi : Int), rfl, rfl, _, 2, rfl, rfl, ⟨by decide, by decide⟩, ?_⟩
      obtain ⟨md, emd, md1, md2⟩ : ∃ md : Nat, ((lo : Int) + (hi : Int)) / 2 = (md : Int) ∧ lo ≤ md ∧ md < hi := ⟨(lo + hi) / 2, by omega, by omega, by omega⟩
      dsimp only
      rw [emd]
      refine ⟨rfl, _, rfl, does md H2 _ (by omega) s2 fun H3 b s3 hb => ?_⟩
      refine ⟨b, rfl, ?_⟩
      cases b with
      | true =>
        refine iteT ⟨_, rfl, ?_⟩
        exact ⟨lo, md, some (.int (md : Int)), rfl, s2.trans s3, md1, by omega, hb.mp rfl, lw, by omega⟩
      | false =>
        refine iteF ⟨_, rfl, (md : Int), 1, rfl, rfl, ?_⟩
        refine ⟨md + 1, hi, some (.int (md : Int)), ?_, s2.trans s3, by omega, l2, bh, fun m hm z => ?_, by omega⟩
        · show [_, _, some (V.int ((md : Int) + 1)), _, _] = _
          rw [Int.natCast_add]
          rfl
        · have := hb.mpr (up m md (by omega) (by omega) z)
          cases this
    · have c0 : ¬ lo < hi := fun z => c (decide_eq_true (by omega))
      have e : lo = hi := by omega
      subst e
      exact ⟨_, rfl, q _ _ s2 (.inr ⟨lo, l2, bh, lw, rfl⟩)⟩
theorem ok_needed {k : Nat} (D : Df K mg "most_needed" s_most_needed) (T : Bt mg) (Ch : ChH mg) : Ok P w K mg base (k + 1) "most_needed" s_most_needed ["sea", "side"] (spNeeded K) := by
  obtain ⟨t1, g_HERE⟩ := Ch
  refine D.ok sc_most_needed b_most_needed (fun vs H Q E h => ?_) (fun f cdv A outer s H vs Q E hr h => ?_)
  · obtain ⟨v, h, t, ds, sd, rfl, _⟩ := h
    rfl
  · obtain ⟨v, h, t, ds, sd, rfl, ⟨p, q, rfl, hp, hq⟩, d0, k⟩ := h
    refine ⟨_, (pss_cons (ps_asg (pv 0) (pg_seq rfl (pgs_cons (pg_name (i := 2) sc_most_needed.nd rfl (.inl rfl)) (pgs_cons (pg_name (i := 3) sc_most_needed.nd rfl (.inl rfl)) (pgs_cons (pg_name (i := 4) sc_most_needed.nd rfl (.inl rfl)) pgs_nil)))))
      (pss_one (ps_ret (pe_callB (call_max2 rfl) (by rfl) T.max_ (by decide +kernel) (pa_cons pe_int (pa_cons (pe_op op_sub (pe_callB (cr_maxA rfl) (by rfl) T.max_ (by decide +kernel) (pa_cons (pv 4) pa_nil)) (pe_ifExp (pt_cmpR op_eq (pv 1) (pe_glob (v := .str "here") (by rfl) g_HERE ⟨_, rfl⟩) (nomark _)) (pv 2) (pv 3))) pa_nil)))))), ?_⟩
    refine ⟨_, rfl, p, _, rfl, hp, rfl, _, _, rfl, _, _, rfl, _, _, rfl, rfl, ?_⟩
    refine ⟨_, rfl, q, ds, rfl, hq, d0, fun mx mx1 mx2 => ?_⟩
    have fin : ∀ x : Int, Q (.int (if mx - (if sd then h else t) > 0 then mx - (if sd then h else t) else 0)) H := fun _ => by
      by_cases z : mx - (if sd then h else t) > 0
      · rw [if_pos z]
        obtain ⟨m, em⟩ : ∃ m : Nat, mx - (if sd then h else t) = (m : Int) := ⟨(mx - (if sd then h else t)).toNat, by omega⟩
        rw [em]
        exact k m ⟨.inr ⟨mx, mx1, em.symm⟩, fun d hd => by have := mx2 d hd; omega⟩
      · rw [if_neg z]
        exact k 0 ⟨.inl rfl, fun d hd => by have := mx2 d hd; omega⟩
    cases sd with
    | true =>
      refine ⟨_, rfl, rfl, _, rfl, ?_⟩
      rw [show sideS true = "here" from rfl, decide_eq_true rfl]
      exact iteT ⟨_, rfl, mx, h, rfl, rfl, 0, _, rfl, fin 0⟩
    | false =>
      refine ⟨_, rfl, rfl, _, rfl, ?_⟩
      rw [show sideS false = "there" from rfl, side_ne]
      exact iteF ⟨_, rfl, mx, t, rfl, rfl, 0, _, rfl, fin 0⟩
end
theorem SeaA.ext {K : PySem.W.Frag} {H H' : Hp} {v : V} {h t : Int} {ds : List Int} (s : SeaA K H v h t ds) (e : ExtN H H') : SeaA K H' v h t ds := let ⟨p, q, a, b, c⟩ := s; ⟨p, q, a, ext_sqA e b, ext_sqA e c⟩
theorem LotA.ext {K : PySem.W.Frag} {H H' : Hp} {v : V} {L : List Nat} (s : LotA K H v L) (e : ExtN H H') : LotA K H' v L := let ⟨p, a, b⟩ := s; ⟨p, a, ext_sqA e b⟩
theorem need_le {h t : Int} {ds : List Int} {s : Bool} {most : Nat} (b : 0 ≤ h ∧ 0 ≤ t ∧ ∀ d ∈ ds, d ≤ 100000000000000) (n : NeedI h t ds s most) : most ≤ 100000000000000 := by
  rcases n.1 with z | ⟨d, hd, z⟩
  · omega
  · have := b.2.2 d hd
    have := b.1
    have := b.2.1
    cases s with
    | true =>
      have z' : (most : Int) = d - h := z
      omega
    | false =>
      have z' : (most : Int) = d - t := z
      omega
end Sh

namespace Sh
open PySem PySem.Spec PyProof.Rows L2 LamX
/-! ### the program: how deep sets each ship free -/
/-- it goes over in some row -/
def Mv (h t : Int) (ds : List Int) (L : List Nat) (i : Nat) : Prop := ∃ M, Lot ds.length M ∧ Rl h t ds L M ∧ mayB h t ds M i = true
theorem mv_more {h t h' t' : Int} {ds : List Int} {L : List Nat} {i : Nat} (hh : h ≤ h') (tt : t ≤ t') (m : Mv h t ds L i) : Mv h' t' ds L i := by
  obtain ⟨M, hM, r, g⟩ := m
  refine ⟨M, hM, rl_more hh tt r, ?_⟩
  rw [may_G] at g ⊢
  exact gof_more hh tt _ _ g
theorem mv_side {h t : Int} {ds : List Int} {L : List Nat} {i : Nat} {s : Bool} {m m' : Int} (l : m ≤ m') (r : Mv (hS s h m) (tS s t m) ds L i) : Mv (hS s h m') (tS s t m') ds L i := by
  refine mv_more ?_ ?_ r
  · unfold hS
    split <;> omega
  · unfold tS
    split <;> omega
theorem mv_iff {h t : Int} {ds : List Int} {L ms : List Nat} {i : Nat} (im : IsMovers h t ds L ms) (hi : i < ds.length) : i ∈ ms ↔ Mv h t ds L i := im.2 i hi
def spFreeing (Tl : List (Addr × Str)) (K : PySem.W.Frag) : Sp := fun vs H Q _ => ∃ (v l : V) (h t : Int) (ds : List Int) (L : List Nat) (s : Bool) (g : Nat), vs = [v, l, .str (sideS s), .int (g : Int)] ∧ SeaA K H v h t ds ∧ LotA K H l L ∧ ds.length ≤ 60 ∧ 0 < ds.length ∧ Lot ds.length L ∧ g < ds.length ∧
  (0 ≤ h ∧ 0 ≤ t ∧ ∀ d ∈ ds, d ≤ 100000000000000) ∧ Tabs Tl H ∧
  ∀ (H' : Hp) (r : V) (most : Nat), ExtN H H' → Tabs Tl H' → NeedI h t ds s most → IsLeastP (fun m => Mv (hS s h m) (tS s t m) ds L g) most r → Q r H'
/-- of each ship -/
def Freed (h t : Int) (ds : List Int) (L : List Nat) (s : Bool) (most : Nat) (rs : List V) : Prop := rs.length = ds.length ∧ ∀ (g : Nat) (r : V), rs[g]? = some r → IsLeastP (fun m => Mv (hS s h m) (tS s t m) ds L g) most r
def spFreed (Tl : List (Addr × Str)) (K : PySem.W.Frag) : Sp := fun vs H Q _ => ∃ (v l : V) (h t : Int) (ds : List Int) (L : List Nat) (s : Bool), vs = [v, l, .str (sideS s)] ∧ SeaA K H v h t ds ∧ LotA K H l L ∧ ds.length ≤ 60 ∧ 0 < ds.length ∧ Lot ds.length L ∧
  (0 ≤ h ∧ 0 ≤ t ∧ ∀ d ∈ ds, d ≤ 100000000000000) ∧ Tabs Tl H ∧
  ∀ (H' : Hp) (p : Addr) (rs : List V) (most : Nat), ExtN H H' → Tabs Tl H' → H p = none → H' p = some (.lst rs) → NeedI h t ds s most → Freed h t ds L s most rs → Q (.ref p) H'
abbrev s_least_freeing : Stmt := topS 23
theorem sc_least_freeing : FnScope (["sea", "standing", "side", "ship"] : List Str) (["sea", "standing", "side", "ship"] : List Str) (defScope s_least_freeing) := ⟨rfl, rfl, rfl, by decide +kernel, rfl, by decide +kernel, by decide +kernel⟩
theorem b_least_freeing (kV doc pm : Value) (an : Option Addr) (cdv ct : Value) (us : List Value) (hl : us.length = (["sea", "standing", "side", "ship"] : List Str).length) : bindArgs (PySem.W.fnOf "least_freeing" "least_freeing" (defArgs s_least_freeing) (defBody s_least_freeing) (defScope s_least_freeing) .none kV doc pm an cdv ct) ⟨us, []⟩ = pure ((["sea", "standing", "side", "ship"] : List Str).zip us) :=
  match us, hl with | [_, _, _, _], _ => rfl
abbrev s_freed_by : Stmt := topS 24
theorem sc_freed_by : FnScope (["sea", "standing", "side", "draughts", "ship"] : List Str) (["sea", "standing", "side"] : List Str) (defScope s_freed_by) := ⟨rfl, rfl, rfl, by decide +kernel, rfl, by decide +kernel, by decide +kernel⟩
theorem b_freed_by (kV doc pm : Value) (an : Option Addr) (cdv ct : Value) (us : List Value) (hl : us.length = (["sea", "standing", "side"] : List Str).length) : bindArgs (PySem.W.fnOf "freed_by" "freed_by" (defArgs s_freed_by) (defBody s_freed_by) (defScope s_freed_by) .none kV doc pm an cdv ct) ⟨us, []⟩ = pure ((["sea", "standing", "side"] : List Str).zip us) :=
  match us, hl with | [_, _, _], _ => rfl
section
variable {P : Program} {w : World} {K : PySem.W.Frag} {mg : Str → Option Value} {base : Heap}
theorem need_ex {h t : Int} {ds : List Int} (s : Bool) : ∃ m, NeedI h t ds s m := by
  have key : ∀ l : List Int, ∃ m : Nat, ((m : Int) = 0 ∨ ∃ d ∈ l, (m : Int) = d - (if s then h else t)) ∧ ∀ d ∈ l, d - (if s then h else t) ≤ (m : Int) := fun l => by
    induction l with
    | nil => exact ⟨0, .inl rfl, fun d hd => by cases hd⟩
    | cons x l ih =>
      obtain ⟨m, m1, m2⟩ := ih
      by_cases c : x - (if s then h else t) ≤ (m : Int)
      · refine ⟨m, m1.imp id fun ⟨d, hd, e⟩ => ⟨d, List.mem_cons_of_mem _ hd, e⟩, fun d hd => ?_⟩
        rcases List.mem_cons.mp hd with rfl | hd
        · exact c
        · exact m2 d hd
      · refine ⟨(x - (if s then h else t)).toNat, .inr ⟨x, List.mem_cons_self, by omega⟩, fun d hd => ?_⟩
        rcases List.mem_cons.mp hd with rfl | hd
        · omega
        · have := m2 d hd
          omega
  exact key ds
theorem ok_least_freeing {k j : Nat} {c Pt : Addr} {Tl : List (Addr × Str)} (D : DfC K mg "least_freeing" s_least_freeing c) (TB : TabB base mg c Pt) (hm : (Pt, ("least_freeing.<locals>.<lambda>" : Str)) ∈ Tl) (hu : ∀ q ∈ Tl, q.1 = Pt → q.2 = ("least_freeing.<locals>.<lambda>" : Str))
    (O_least_of : OkLam P w K mg base k (j + 1) "least_of" s_least_of ["does", "most"] TTleast) (O_movers_of : Ok P w K mg base j "movers_of" s_movers_of ["sea", "standing"] (spMovers K)) (O_deepened : Ok P w K mg base j "deepened" s_deepened ["sea", "side", "more"] (spDeep K)) (O_most_needed : Ok P w K mg base k "most_needed" s_most_needed ["sea", "side"] (spNeeded K)) :
    Ok P w K mg base (k + 1) "least_freeing" s_least_freeing ["sea", "standing", "side", "ship"] (spFreeing Tl K) := by
  refine D.ok sc_least_freeing b_least_freeing (fun vs H Q E h => ?_) (fun f A outer s H vs Q E hr h => ?_)
  · obtain ⟨v, l, h, t, ds, L, s, g, rfl, _⟩ := h
    rfl
  · obtain ⟨v, l, h, t, ds, L, sd, g, rfl, hv, hl, d1, d0, hL, hg, hb, hT, k1⟩ := h
    refine ⟨_, pss_one (ps_ret (pe_lamcall2 (T := Tl) O_least_of (hr.mono (by omega)) (p := "more") TB rfl hm hu (lamS1_by (sc := defScope s_least_freeing) (q := "more") (by decide +kernel)) (show ("more" : Str) ∉ (["sea", "standing", "side", "ship"] : List Str) by decide) rfl (fun _ _ _ _ _ => rfl)
      (fun A outer s' H' f c' hr2 => pe_cmpR (op_inK K) (pv 3) (pe_fn O_movers_of (hr2.mono (by omega)) (pa_cons (pe_fn O_deepened (hr2.mono (by omega)) (pa_cons (pv 0) (pa_cons (pv 2) (pa_cons (pv 4) pa_nil)))) (pa_cons (pv 1) pa_nil))) (by rfl))
      (pe_fn O_most_needed (hr.mono (by omega)) (pa_cons (pv 0) (pa_cons (pv 2) pa_nil))))), ?_⟩
    refine ⟨hT, fun c' H1 e1 t1 hc => ?_⟩
    refine ⟨_, rfl, _, rfl, v, h, t, ds, sd, rfl, hv.ext e1, d0, fun most nd => ?_⟩
    refine ⟨fun m => Mv (hS sd h m) (tS sd t m) ds L g, most, rfl, Nat.le_trans (need_le hb nd) (by decide), fun m H2 Q1 _ s2 q1 => ?_, fun m m' l _ r => mv_side (by omega) r, fun H' r s' lp => ?_⟩
    · refine ⟨s2 _ _ hc, ?_⟩
      refine ⟨_, rfl, _, rfl, _, rfl, _, rfl, v, h, t, (m : Int), ds, sd, rfl, (hv.ext e1).same s2, by omega, fun H3 r s3 hr3 => ?_⟩
      have s23 := s2.trans s3
      refine ⟨_, rfl, r, l, _, _, ds, L, rfl, hr3.d, (hl.ext e1).same s23, d1, d0, hL, fun H4 p ms s4 np hp im => ?_⟩
      refine ⟨p, _, rfl, .inl (SqL.of hp), rfl, ni_flat ms, ?_⟩
      rw [in_ni]
      exact q1 H4 _ (s3.trans s4) (decide_eq_true_iff.trans (mv_iff im hg))
    · exact k1 H' r most (e1.trans (ext_same s')) (t1.ext s') nd lp
theorem ok_freed_by {k : Nat} {Tl : List (Addr × Str)} (D : Df K mg "freed_by" s_freed_by) (T : Bt mg) (O_least_freeing : Ok P w K mg base k "least_freeing" s_least_freeing ["sea", "standing", "side", "ship"] (spFreeing Tl K)) :
    Ok P w K mg base (k + 1) "freed_by" s_freed_by ["sea", "standing", "side"] (spFreed Tl K) := by
  refine D.ok sc_freed_by b_freed_by (fun vs H Q E h => ?_) (fun f cdv A outer s H vs Q E hr h => ?_)
  · obtain ⟨v, l, h, t, ds, L, s, rfl, _⟩ := h
    rfl
  · obtain ⟨v, l, h, t, ds, L, sd, rfl, hv, hl, d1, d0, hL, hb, hT, k1⟩ := h
    refine ⟨_, (pss_cons (ps_set (i := 3) sc_freed_by.nd rfl (.inl rfl) (pe_ix ix_lt (pv 0) pe_int (fun _ _ => rfl)))
      (pss_one (ps_ret (pe_lc (own := [("ship", 4)]) (g := (gName 4)) (tt := tYes) (by rfl) sc_freed_by.nd (pi_range1 (by rfl) T.range_ (pa_cons (pe_callB call_len_seq (by rfl) T.len_ PySem.boot_len (pa_cons (pv 3) pa_nil)) pa_nil)) (blkOk_by (own := [("ship", 4)]) (N := (["sea", "standing", "side", "draughts", "ship"] : List Str)) (sc := defScope s_freed_by) (by decide +kernel)) (fun _ _ _ _ _ => (pg_name (i := 4) sc_freed_by.nd rfl (.inl rfl))) (fun _ _ _ _ _ => pts_nil) (fun _ _ _ _ _ => (pe_fn O_least_freeing (hr.mono (by omega)) (pa_cons (pv 0) (pa_cons (pv 1) (pa_cons (pv 2) (pa_cons (pv 4) pa_nil)))))))))), ?_⟩
    obtain ⟨p, q, rfl, hp, hq⟩ := id hv
    obtain ⟨most, nd⟩ := need_ex (h := h) (t := t) (ds := ds) sd
    refine ⟨_, rfl, p, _, 2, .ref q, rfl, rfl, hp, rfl, ?_⟩
    refine ⟨_, rfl, q, _, rfl, hq, ((ds.length : Nat) : Int), (by rw [List.length_map]), by omega, by omega, fun C nC => ?_⟩
    refine lc_range (fun i H' => ExtN H H' ∧ Tabs Tl H' ∧ ∃ rs : List V, H' C = some (.lst rs) ∧ rs.length = i ∧ ∀ (g : Nat) (r : V), rs[g]? = some r → IsLeastP (fun m => Mv (hS sd h m) (tS sd t m) ds L g) most r)
      ⟨ext_same (same_new nC), hT.ext (same_new nC), [], upd_same, rfl, fun g r z => by cases z⟩ ?_ ?_
    · rintro i Ha hi ⟨xa, ta, rs, hC, lr, ok⟩
      have hi2 : i < ds.length := by rw [Int.toNat_natCast] at hi; exact hi
      refine ⟨rfl, tyes (iteT ?_)⟩
      refine ⟨_, rfl, _, rfl, _, rfl, _, rfl, .ref p, l, h, t, ds, L, sd, i, ?_, hv.ext xa, hl.ext xa, d1, d0, hL, hi2, hb, ta, fun Hb r most' xb tb nd' lp => ?_⟩
      · show [V.ref p, l, V.str (sideS sd), V.int (0 + (i : Int))] = _
        rw [Int.zero_add]
      obtain rfl := nd'.uniq nd
      have hCb := ext_lst xb hC
      refine ⟨rs, hCb, by rw [lr]; exact small1000 (by omega), fun a o e z => ?_, tabs_put tb ⟨_, hCb⟩, rs ++ [r], upd_same, by rw [List.length_append, lr]; rfl, fun g r' e => ?_⟩
      · rw [upd_ne (ne_of_none e nC)]
        exact xb _ _ (xa _ _ e z) z
      · by_cases c : g < rs.length
        · rw [List.getElem?_append_left c] at e
          exact ok g r' e
        · have c2 := (List.getElem?_eq_some_iff.mp e).1
          rw [List.length_append, List.length_singleton] at c2
          obtain rfl : g = rs.length := by omega
          rw [List.getElem?_concat_length] at e
          obtain rfl : r = r' := Option.some.inj e
          rw [lr]
          exact lp
    · rintro Ha ⟨xa, ta, rs, hC, lr, ok⟩
      rw [Int.toNat_natCast] at lr
      exact k1 Ha C rs most xa ta nC hC nd ⟨lr, ok⟩
end
end Sh

namespace Sh
open PySem PySem.Spec PyProof.Rows L2 LamX
/-! ### all but the box, and tables, stand -/
def ButT (b : Addr) (H H' : Hp) : Prop := ∀ a o, a ≠ b → H a = some o → (∀ ps, o ≠ .tbl ps) → H' a = some o
section
variable {K : PySem.W.Frag} {H H1 H' : Hp} {b p : Addr} {n : Nat} {v : V} {h t : Int} {ds : List Int} {L : List Nat} {T : List (Addr × Str)}
theorem ButT.of (u : But b H H') : ButT b H H' := fun a o z e _ => u a o z e
theorem ButT.ext (e : ExtN H H') : ButT b H H' := fun a o _ x z => e a o x z
theorem ButT.trans (u : ButT b H H1) (w : ButT b H1 H') : ButT b H H' := fun a o z e m => w a o z (u a o z e m) m
theorem tabs_but (t : Tabs T H) (x : BoxAt H b n) (u : But b H H') : Tabs T H' := fun q hq => by
  obtain ⟨xs, hb, _⟩ := x
  obtain ⟨ps, h1, h2, h3⟩ := t q hq
  refine ⟨ps, u _ _ (ne_of h1 hb (by intro z; cases z)) h1, h2, fun pos cv hc => ?_⟩
  obtain ⟨c, e1, e2⟩ := h3 pos cv hc
  exact ⟨c, e1, u _ _ (ne_of e2 hb (by intro z; unfold CodeO at z; cases z)) e2⟩
theorem BoxAt.ext (x : BoxAt H b n) (e : ExtN H H') : BoxAt H' b n := let ⟨xs, hb, k⟩ := x; ⟨xs, e _ _ hb (fun _ z => by cases z), k⟩
theorem SeaT.ext (s : SeaT K H v h t ds) (e : ExtN H H') : SeaT K H' v h t ds := let ⟨p, q, a, x, y⟩ := s; ⟨p, q, a, ext_tup e x, ext_tup e y⟩
theorem LotT.ext (s : LotT K H v L) (e : ExtN H H') : LotT K H' v L := let ⟨p, a, x⟩ := s; ⟨p, a, ext_tup e x⟩
theorem Kp.ofE {xs : List V} (e : ExtN H H') (x : H p = some (.tup xs)) : Kp p H H' := fun o y => e _ _ y fun ps z => by
  rw [x] at y
  cases y
  cases z
theorem Kp.ofEl {xs : List V} (e : ExtN H H') (x : H p = some (.lst xs)) : Kp p H H' := fun o y => e _ _ y fun ps z => by
  rw [x] at y
  cases y
  cases z
end
def spRightT (Tl : List (Addr × Str)) : Sp := fun vs H Q _ => ∃ b : Addr, vs = [.ref b] ∧ BoxAt H b 100000 ∧ Tabs Tl H ∧ ∀ H', ButT b H H' → Tabs Tl H' → Q (.bl true) H'
end Sh
namespace Sh
open PySem PySem.Spec PyProof.Rows L2
theorem with_df {K : PySem.W.Frag} {mg : Str → Option Value} {R : Prop} {x : Str} {st : Stmt} {h : Heap} {f : Addr} {oc : Value} {od an : Option Addr} {sl : Array (Option Value)} {kV dc pm cd ct : Value} (X : K.In h) (G : h.Ns mainGlobals mg)
    (a : PySem.W.nsIn K mainGlobals x = some (some (.ref f))) (l : K.lookup f = some ⟨oc, od, .func (PySem.W.fnOf x x (defArgs st) (defBody st) (defScope st) .none kV dc pm an cd ct), sl⟩)
    (c : PySem.W.codeIn K cd x = true) (k : PySem.W.keepIn K (.ref f) = true) (r : Df K mg x st → R) : R := r ⟨f, _, fun_mk l c k, PySem.W.mg_of X G a⟩
end Sh

namespace Sh
open PySem PySem.Spec PyProof.Rows L2
/-! ### deeper than all want, nothing changes -/
theorem gof_beyond {h t : Int} {ds : List Int} {s : Bool} {b m : Nat} (h0 : 0 ≤ h) (t0 : 0 ≤ t) (nd : NeedI h t ds s b) (l : b ≤ m) {x : Nat} (hx : x < ds.length) (i : Nat) (g : Gof (hS s h m) (tS s t m) ds x i = true) : Gof (hS s h b) (tS s t b) ds x i = true := by
  unfold Gof at g ⊢
  rw [decide_eq_true_eq] at g ⊢
  have di : ds.getD i 0 ≤ (if s then h else t) + (b : Int) := by
    by_cases c : i < ds.length
    · have := nd.2 ds[i] (List.getElem_mem c)
      rw [show ds.getD i 0 = ds[i] by unfold List.getD; rw [List.getElem?_eq_getElem c]; rfl]
      omega
    · rw [show ds.getD i 0 = 0 by unfold List.getD; rw [List.getElem?_eq_none (by omega)]; rfl]
      cases s <;> simp <;> omega
  cases s with
  | true =>
    have di' : ds.getD i 0 ≤ h + (b : Int) := di
    have g' : ds.getD i 0 ≤ mk (h + (m : Int)) t ds.length (x : Int) := g
    show ds.getD i 0 ≤ mk (h + (b : Int)) t ds.length (x : Int)
    unfold mk at g' ⊢
    split at g' <;> split <;> omega
  | false =>
    have di' : ds.getD i 0 ≤ t + (b : Int) := di
    have g' : ds.getD i 0 ≤ mk h (t + (m : Int)) ds.length (x : Int) := g
    show ds.getD i 0 ≤ mk h (t + (b : Int)) ds.length (x : Int)
    unfold mk at g' ⊢
    split at g' <;> split <;> omega
theorem gof_side {h t : Int} {ds : List Int} {s : Bool} {m m' : Int} (l : m ≤ m') (x i : Nat) (g : Gof (hS s h m) (tS s t m) ds x i = true) : Gof (hS s h m') (tS s t m') ds x i = true := by
  refine gof_more ?_ ?_ x i g
  · unfold hS
    split <;> omega
  · unfold tS
    split <;> omega
theorem gof_bey_eq {h t : Int} {ds : List Int} {s : Bool} {b m : Nat} (h0 : 0 ≤ h) (t0 : 0 ≤ t) (nd : NeedI h t ds s b) (l : b ≤ m) (x i : Nat) (hx : x < ds.length) : Gof (hS s h m) (tS s t m) ds x i = Gof (hS s h b) (tS s t b) ds x i := by
  rw [Bool.eq_iff_iff]
  exact ⟨gof_beyond h0 t0 nd l hx i, gof_side (by omega) x i⟩
theorem rl_beyond {h t : Int} {ds : List Int} {L M : List Nat} {s : Bool} {b m : Nat} (h0 : 0 ≤ h) (t0 : 0 ≤ t) (nd : NeedI h t ds s b) (l : b ≤ m) (r : Rl (hS s h m) (tS s t m) ds L M) : Rl (hS s h b) (tS s t b) ds L M :=
  Th.Reach.congr (fun x i hx => gof_bey_eq h0 t0 nd l x i hx) r
/-- however deep: it does where the most does -/
theorem rl_at_most {h t : Int} {ds : List Int} {L M : List Nat} {s : Bool} {b : Nat} (h0 : 0 ≤ h) (t0 : 0 ≤ t) (nd : NeedI h t ds s b) (m : Nat) (r : Rl (hS s h m) (tS s t m) ds L M) : Rl (hS s h b) (tS s t b) ds L M := by
  by_cases l : b ≤ m
  · exact rl_beyond h0 t0 nd l r
  · exact rl_side (by omega) r
/-- the least, by what does it, and what doesn't -/
theorem IsLeastP.iff {B : Nat → Prop} {most : Nat} {r : V} (up : ∀ m m', m ≤ m' → B m → B m') (bey : ∀ m, B m → B most) (a : IsLeastP B most r) : (r = .non ∧ ∀ m, ¬ B m) ∨ ∃ n : Nat, r = .int (n : Int) ∧ ∀ m, B m ↔ n ≤ m := by
  rcases a with ⟨a1, a2⟩ | ⟨n, n1, n2, n3, n4⟩
  · exact .inl ⟨a2, fun m b => a1 (bey m b)⟩
  · exact .inr ⟨n, n4, fun m => ⟨fun b => Nat.le_of_not_lt fun z => n3 m z b, fun z => up n m z n2⟩⟩
/-- who lies otherwise went -/
theorem rl_went {h t : Int} {ds : List Int} {L M : List Nat} {i : Nat} (hL : Lot ds.length L) (hi : i < ds.length) (r : Rl h t ds L M) (ne : mem L i ≠ mem M i) : Mv h t ds L i := by
  refine (ex_moves hL hi).mpr ?_
  refine Classical.byContradiction fun no => ne ?_
  unfold Rl at r
  generalize mem L = S at r no
  generalize mem M = U at r
  have key : U i = S i := by
    induction r with
    | refl => rfl
    | @step U W r1 st ih =>
      rw [← ih]
      have off : ∀ j, (Th.May ds.length (Gof h t ds) U j) → j ≠ i := fun j m z => no ⟨U, r1, z ▸ m⟩
      cases st with
      | @up j hj hs hg =>
        refine Th.flip_ne U fun z => off j ?_ z.symm
        unfold Th.May
        rw [hs, if_neg Bool.false_ne_true]
        exact hg
      | @dn j hj hs hg =>
        refine Th.flip_ne U fun z => off j ?_ z.symm
        unfold Th.May
        rw [hs, if_pos rfl]
        exact hg
  exact key.symm
end Sh

namespace Sh
open PySem PySem.Spec PyProof.Rows L2 LamX
/-- truths all alike, one a thing walked -/
theorem lc_bools {σ : L2.St} {H : Hp} {C : Addr} {vs : List Nat} {i : Nat} {te : TE} {Qd : Hp → Prop} {xs : List V} {J : It} {G : Hp → Prop} (c : Bool) (W : Walk J xs.length G (YAt xs)) (g : ∀ H', Same H H' → G H') (nC : H C = none) (lX : xs.length ≤ 1000)
    (hw : ∀ v, wipe ((wipe σ vs).set i (some v)) vs = wipe σ vs)
    (ht : ∀ x ∈ xs, ∀ H', Same H H' → ∀ Q : V → Hp → Prop, (∀ H2, Same H' H2 → Q (.bl c) H2) → te ((wipe σ vs).set i (some x)) H' Q) (hd : ∀ H', Same H H' → H' C = some (.lst ((List.replicate xs.length c).map V.bl)) → Qd H') :
    ∃ W : Nat → Nat → Hp → Prop, (∃ m, W 0 m (upd H C (.lst []))) ∧ ∀ j m H, W j m H →
      (J.stop j H ∧ Qd H) ∨ (J.go j H ∧ ∃ Nx : Hp → Prop, (∀ H', Nx H' → ∃ m', m' < m ∧ W (j + 1) m' H') ∧ ∀ x H', J.yld j H x H' → gName i x (wipe σ vs) H' fun σ2 H2 => wipe σ2 vs = wipe σ vs ∧ tYes σ2 H2 fun b H3 =>
        if b = true then te σ2 H3 fun y H4 => ∃ acc, H4 C = some (.lst acc) ∧ acc.length < sizeLine ∧ Nx (upd H4 C (.lst (acc ++ [y]))) else Nx H3) := by
  refine lc_it W (fun j H' => Same H H' ∧ H' C = some (.lst ((List.replicate j c).map V.bl))) ⟨same_new nC, upd_same⟩ (fun j H' _ z => g H' z.1) ?_ ?_
  · rintro j x H3 H4 hj ⟨s3, hC⟩ ⟨rfl, gx⟩
    refine ⟨hw _, tyes (iteT (ht x (List.mem_of_getElem? gx) _ s3 _ fun H5 s5 => ?_))⟩
    refine ⟨_, s5 _ _ hC, ?_, same_over (s3.trans s5) nC, ?_⟩
    · rw [List.length_map, List.length_replicate]
      exact small1000 (by omega)
    · rw [upd_same, List.replicate_succ', List.map_append]
      rfl
  · rintro H3 ⟨s3, hC⟩
    exact hd H3 s3 hC
/-- however deep: it goes where it does at the most -/
theorem mv_at_most {h t : Int} {ds : List Int} {L : List Nat} {i : Nat} {s : Bool} {b : Nat} (h0 : 0 ≤ h) (t0 : 0 ≤ t) (nd : NeedI h t ds s b) (hi : i < ds.length) (m : Nat) (r : Mv (hS s h m) (tS s t m) ds L i) : Mv (hS s h b) (tS s t b) ds L i := by
  by_cases l : b ≤ m
  · obtain ⟨M, hM, rM, g⟩ := r
    refine ⟨M, hM, rl_beyond h0 t0 nd l rM, ?_⟩
    rw [may_G] at g ⊢
    refine gof_beyond h0 t0 nd l ?_ i g
    rw [near_cnt hM hi]
    have := hM.len
    have c1 := cnt_mem hM
    split
    · omega
    · rename_i z
      have := Th.cnt_flip_up (k := ds.length) (S := mem M) hi (decide_eq_false z)
      have := Th.cnt_le ds.length (Th.flip (mem M) i)
      omega
  · exact mv_side (by omega) r
theorem free_iff {h t : Int} {ds : List Int} {L : List Nat} {i : Nat} {s : Bool} {b : Nat} {r : V} (h0 : 0 ≤ h) (t0 : 0 ≤ t) (nd : NeedI h t ds s b) (hi : i < ds.length) (a : IsLeastP (fun m => Mv (hS s h m) (tS s t m) ds L i) b r) :
    (r = .non ∧ ∀ m : Nat, ¬ Mv (hS s h m) (tS s t m) ds L i) ∨ ∃ n : Nat, r = .int (n : Int) ∧ ∀ m : Nat, Mv (hS s h m) (tS s t m) ds L i ↔ n ≤ m :=
  a.iff (fun m m' l r => mv_side (by omega) r) fun m r => mv_at_most h0 t0 nd hi m r
/-- truths, one a thing walked, told by the thing -/
theorem lc_boolf {σ : L2.St} {H : Hp} {C : Addr} {vs : List Nat} {i : Nat} {te : TE} {Qd : Hp → Prop} {xs : List Int} {J : It} {G : Hp → Prop} (f : Int → Bool) (W : Walk J (xs.map V.int).length G (YAt (xs.map V.int))) (g : ∀ H', Same H H' → G H') (nC : H C = none) (lX : xs.length ≤ 1000)
    (hw : ∀ v, wipe ((wipe σ vs).set i (some v)) vs = wipe σ vs)
    (ht : ∀ x ∈ xs, ∀ H', Same H H' → ∀ Q : V → Hp → Prop, (∀ H2, Same H' H2 → Q (.bl (f x)) H2) → te ((wipe σ vs).set i (some (.int x))) H' Q) (hd : ∀ H', Same H H' → H' C = some (.lst (xs.map fun x => V.bl (f x))) → Qd H') :
    ∃ W : Nat → Nat → Hp → Prop, (∃ m, W 0 m (upd H C (.lst []))) ∧ ∀ j m H, W j m H →
      (J.stop j H ∧ Qd H) ∨ (J.go j H ∧ ∃ Nx : Hp → Prop, (∀ H', Nx H' → ∃ m', m' < m ∧ W (j + 1) m' H') ∧ ∀ x H', J.yld j H x H' → gName i x (wipe σ vs) H' fun σ2 H2 => wipe σ2 vs = wipe σ vs ∧ tYes σ2 H2 fun b H3 =>
        if b = true then te σ2 H3 fun y H4 => ∃ acc, H4 C = some (.lst acc) ∧ acc.length < sizeLine ∧ Nx (upd H4 C (.lst (acc ++ [y]))) else Nx H3) := by
  refine lc_it W (fun j H' => Same H H' ∧ H' C = some (.lst ((xs.take j).map fun x => V.bl (f x)))) ⟨same_new nC, upd_same⟩ (fun j H' _ z => g H' z.1) ?_ ?_
  · rintro j x H3 H4 hj ⟨s3, hC⟩ ⟨rfl, gx⟩
    rw [List.length_map] at hj
    have gj : xs[j]? = some xs[j] := List.getElem?_eq_getElem hj
    obtain rfl : V.int xs[j] = x := by
      rw [List.getElem?_map, gj] at gx
      exact Option.some.inj gx
    refine ⟨hw _, tyes (iteT (ht xs[j] (List.getElem_mem hj) _ s3 _ fun H5 s5 => ?_))⟩
    refine ⟨_, s5 _ _ hC, ?_, same_over (s3.trans s5) nC, ?_⟩
    · rw [List.length_map, List.length_take]
      exact small1000 (by omega)
    · rw [upd_same, List.take_add_one, gj, List.map_append]
      rfl
  · rintro H3 ⟨s3, hC⟩
    rw [List.length_map, List.take_length] at hC
    exact hd H3 s3 hC
end Sh

namespace Sh
open PySem PySem.Spec PyProof.Rows L2
/-! ### the law's own: a basin deeper -/
def spDeeper (K : PySem.W.Frag) : Sp := fun vs H Q _ => ∃ (v : V) (h t m : Int) (ds : List Int) (s : Bool), vs = [v, .str (sideS s), .int m] ∧ SeaT K H v h t ds ∧ ∀ (H' : Hp) (p : Addr), Same H H' → H p = none → SeaT K H' (.ref p) (hS s h m) (tS s t m) ds → Q (.ref p) H'
abbrev s__law_deeper : Stmt := topS 36
theorem sc__law_deeper : FnScope (["_law_pond", "_law_brink", "_law_much"] : List Str) (["_law_pond", "_law_brink", "_law_much"] : List Str) (defScope s__law_deeper) := ⟨rfl, rfl, rfl, by decide +kernel, rfl, by decide +kernel, by decide +kernel⟩
theorem b__law_deeper (kV doc pm : Value) (an : Option Addr) (cdv ct : Value) (us : List Value) (hl : us.length = (["_law_pond", "_law_brink", "_law_much"] : List Str).length) : bindArgs (PySem.W.fnOf "_law_deeper" "_law_deeper" (defArgs s__law_deeper) (defBody s__law_deeper) (defScope s__law_deeper) .none kV doc pm an cdv ct) ⟨us, []⟩ = pure ((["_law_pond", "_law_brink", "_law_much"] : List Str).zip us) :=
  match us, hl with | [_, _, _], _ => rfl
section
variable {P : Program} {w : World} {K : PySem.W.Frag} {mg : Str → Option Value} {base : Heap}
theorem ok_deeper {k : Nat} (D : Df K mg "_law_deeper" s__law_deeper) (T : Bt mg) : Ok P w K mg base (k + 1) "_law_deeper" s__law_deeper ["_law_pond", "_law_brink", "_law_much"] (spDeeper K) := by
  refine D.ok sc__law_deeper b__law_deeper (fun vs H Q E h => ?_) (fun f cdv A outer s H vs Q E hr h => ?_)
  · obtain ⟨v, h, t, m, ds, s, rfl, _⟩ := h
    rfl
  · obtain ⟨v, h, t, m, ds, sd, rfl, ⟨p, q, rfl, hp, hq⟩, k⟩ := h
    refine ⟨_, (pss_cons (ps_if (pt_cmpR op_eq (pv 1) pe_str (nomark _))
        (pss_one (ps_ret (pe_tup (pa_cons (pe_op op_add (pe_ix ix_lt (pv 0) pe_int (fun _ _ => rfl)) (pv 2)) (pa_cons (pe_ix ix_lt (pv 0) pe_int (fun _ _ => rfl)) (pa_cons (pe_ix ix_lt (pv 0) pe_int (fun _ _ => rfl)) pa_nil))))))
        pss_nil)
      (pss_one (ps_ret (pe_tup (pa_cons (pe_ix ix_lt (pv 0) pe_int (fun _ _ => rfl)) (pa_cons (pe_op op_add (pe_ix ix_lt (pv 0) pe_int (fun _ _ => rfl)) (pv 2)) (pa_cons (pe_ix ix_lt (pv 0) pe_int (fun _ _ => rfl)) pa_nil))))))), ?_⟩
    cases sd with
    | true =>
      refine ⟨_, rfl, rfl, _, rfl, ?_⟩
      rw [show sideS true = "here" from rfl, decide_eq_true rfl]
      refine iteT ?_
      refine ⟨_, rfl, p, _, 0, .int h, rfl, rfl, .inr hp, rfl, _, rfl, h, m, rfl, rfl, _, rfl, p, _, 1, .int t, rfl, rfl, .inr hp, rfl, _, rfl, p, _, 2, .ref q, rfl, rfl, .inr hp, rfl, (by show 3 ≤ sizeLine; decide), fun b nb => ?_⟩
      exact k _ b (same_new nb) nb ⟨b, q, rfl, SqT.of upd_same, Same.tup (same_new nb) hq⟩
    | false =>
      refine ⟨_, rfl, rfl, _, rfl, ?_⟩
      rw [show sideS false = "there" from rfl, side_ne]
      refine iteF ?_
      refine ⟨_, rfl, p, _, 0, .int h, rfl, rfl, .inr hp, rfl, _, rfl, p, _, 1, .int t, rfl, rfl, .inr hp, rfl, _, rfl, t, m, rfl, rfl, _, rfl, p, _, 2, .ref q, rfl, rfl, .inr hp, rfl, (by show 3 ≤ sizeLine; decide), fun b nb => ?_⟩
      exact k _ b (same_new nb) nb ⟨b, q, rfl, SqT.of upd_same, Same.tup (same_new nb) hq⟩
end
end Sh

namespace Sh
open PySem PySem.Spec PyProof.Rows L2
abbrev s__law_due : Stmt := topS 38
theorem sc__law_due : FnScope (["_law_pond", "_law_lot_here", "_law_brink", "_law_found", "_law_depth", "_law_much", "_law_whom"] : List Str) (["_law_pond", "_law_lot_here", "_law_brink"] : List Str) (defScope s__law_due) := ⟨rfl, rfl, rfl, by decide +kernel, rfl, by decide +kernel, by decide +kernel⟩
theorem b__law_due (kV doc pm : Value) (an : Option Addr) (cdv ct : Value) (us : List Value) (hl : us.length = (["_law_pond", "_law_lot_here", "_law_brink"] : List Str).length) : bindArgs (PySem.W.fnOf "_law_due" "_law_due" (defArgs s__law_due) (defBody s__law_due) (defScope s__law_due) .none kV doc pm an cdv ct) ⟨us, []⟩ = pure ((["_law_pond", "_law_lot_here", "_law_brink"] : List Str).zip us) :=
  match us, hl with | [_, _, _], _ => rfl
section
variable {P : Program} {w : World} {K : PySem.W.Frag} {mg : Str → Option Value} {base : Heap}
/-- what is due: ship by ship the least number by which that side lets it go over in some row -/
def spDue41 (K : PySem.W.Frag) : Sp := fun vs H Q _ => ∃ (v : V) (pb : Addr) (h t : Int) (ds : List Int) (L : List Nat) (s : Bool), vs = [v, .ref pb, .str (sideS s)] ∧ SeaT K H v h t ds ∧ H pb = some (.tup (ni L)) ∧ ds.length ≤ 9 ∧ 0 < ds.length ∧ Lot ds.length L ∧ (0 ≤ h ∧ 0 ≤ t ∧ ∀ d ∈ ds, d ≤ 100000000000000) ∧
  ∀ (H' : Hp) (p : Addr) (rs : List V) (most : Nat), Same H H' → H p = none → H' p = some (.lst rs) → NeedI h t ds s most → Freed h t ds L s most rs → Q (.ref p) H'
/-- after so many depths: each ship's least number so far -/
def DueK (h t : Int) (ds : List Int) (L : List Nat) (s : Bool) (i : Nat) (kvs : List (Key × V)) : Prop := ∀ g, g < ds.length →
  (valV kvs (.inl (g : Int)) = none ∧ ∀ m, m < i → ¬ Mv (hS s h m) (tS s t m) ds L g) ∨ ∃ n : Nat, n < i ∧ valV kvs (.inl (g : Int)) = some (.int (n : Int)) ∧ Mv (hS s h n) (tS s t n) ds L g ∧ ∀ m, m < n → ¬ Mv (hS s h m) (tS s t m) ds L g
/-- its keys are ships, each once -/
def KOk (n : Nat) (kvs : List (Key × V)) : Prop := (kvs.map fun x => x.1).Nodup ∧ ∀ k ∈ kvs.map fun x => x.1, k ∈ (List.range n).map fun g => (Sum.inl ((g : Nat) : Int) : Key)
theorem KOk.len {n : Nat} {kvs : List (Key × V)} (h : KOk n kvs) : kvs.length ≤ n := by
  have := nodup_len h.1 h.2
  rw [List.length_map, List.length_map, List.length_range] at this
  exact this
theorem KOk.put {n g : Nat} {kvs : List (Key × V)} (v : V) (h : KOk n kvs) (hg : g < n) : KOk n (putK kvs (.inl (g : Int)) v) := by
  unfold putK
  by_cases c : (kvs.any fun kv => decide (kv.1 = (Sum.inl (g : Int) : Key))) = true
  · rw [if_pos c]
    have e : ((kvs.map fun kv => if kv.1 = (Sum.inl (g : Int) : Key) then (kv.1, v) else kv).map fun x => x.1) = kvs.map fun x => x.1 := by
      rw [List.map_map]
      refine List.map_congr_left fun x _ => ?_
      show (if x.1 = (Sum.inl (g : Int) : Key) then (x.1, v) else x).1 = x.1
      split <;> rfl
    unfold KOk
    rw [e]
    exact h
  · rw [if_neg c]
    have no : ∀ k ∈ kvs.map fun x => x.1, k ≠ (Sum.inl (g : Int) : Key) := fun k hk z => by
      obtain ⟨x, hx, rfl⟩ := List.mem_map.mp hk
      exact c (List.any_eq_true.mpr ⟨x, hx, decide_eq_true z⟩)
    refine ⟨?_, fun k hk => ?_⟩
    · rw [List.map_append]
      exact List.nodup_append.mpr ⟨h.1, by simp, fun a ha b hb => by
        rw [List.mem_singleton.mp hb]
        exact no a ha⟩
    · rw [List.map_append] at hk
      rcases List.mem_append.mp hk with z | z
      · exact h.2 k z
      · rw [List.mem_singleton.mp z]
        exact List.mem_map.mpr ⟨g, List.mem_range.mpr hg, rfl⟩
/-- as the loop over depths finds it -/
def Out41 (H : Hp) (p pb d : Addr) (h t : Int) (ds : List Int) (L : List Nat) (sd : Bool) : Nat → L2.St → Hp → Prop := fun i σ H' => ∃ (y5 y6 : Option V) (kvs : List (Key × V)), σ = [some (.ref p), some (.ref pb), some (.str (sideS sd)), some (.ref d), some (.int (if sd then h else t)), y5, y6] ∧ Same H H' ∧ H' d = some (.dK kvs) ∧ KOk ds.length kvs ∧ DueK h t ds L sd i kvs
theorem dueK_next {h t : Int} {ds : List Int} {L ms : List Nat} {s : Bool} {i : Nat} {kvs kvs' : List (Key × V)} (du : DueK h t ds L s i kvs) (im : IsMovers (hS s h i) (tS s t i) ds L ms)
    (e : ∀ g, g < ds.length → valV kvs' (.inl (g : Int)) = if g ∈ ms then some ((valV kvs (.inl (g : Int))).getD (.int (i : Int))) else valV kvs (.inl (g : Int))) : DueK h t ds L s (i + 1) kvs' := fun g hg => by
  have mi := mv_iff im hg
  rw [e g hg]
  rcases du g hg with ⟨v, no⟩ | ⟨n, l, v, y, no⟩
  · rw [v]
    by_cases c : g ∈ ms
    · rw [if_pos c]
      exact .inr ⟨i, Nat.lt_succ_self _, rfl, mi.mp c, no⟩
    · rw [if_neg c]
      refine .inl ⟨rfl, fun m hm z => ?_⟩
      rcases Nat.lt_or_ge m i with y | y
      · exact no m y z
      · obtain rfl : m = i := by omega
        exact c (mi.mpr z)
  · rw [v]
    refine .inr ⟨n, by omega, ?_, y, no⟩
    split <;> rfl
theorem due_freed {h t : Int} {ds : List Int} {L : List Nat} {s : Bool} {most : Nat} {kvs : List (Key × V)} (du : DueK h t ds L s (most + 1) kvs) : Freed h t ds L s most ((List.range ds.length).map fun g => (valV kvs (.inl ((g : Nat) : Int))).getD .non) := by
  refine ⟨by rw [List.length_map, List.length_range], fun g r e => ?_⟩
  rw [List.getElem?_map] at e
  cases eg : (List.range ds.length)[g]? with
  | none => rw [eg] at e; cases e
  | some g' =>
    rw [eg] at e
    obtain ⟨l, e1⟩ := List.getElem?_eq_some_iff.mp eg
    rw [List.getElem_range] at e1
    subst e1
    rw [List.length_range] at l
    have e2 : (valV kvs (.inl ((g : Nat) : Int))).getD .non = r := Option.some.inj e
    subst e2
    rcases du g l with ⟨v, no⟩ | ⟨n, ln, v, y, no⟩
    · rw [v]
      exact .inl ⟨no most (Nat.lt_succ_self _), rfl⟩
    · rw [v]
      exact .inr ⟨n, by omega, y, no, rfl⟩
theorem ok_due {k : Nat} (D : Df K mg "_law_due" s__law_due) (T : Bt mg) (O__law_deeper : Ok P w K mg base k "_law_deeper" s__law_deeper ["_law_pond", "_law_brink", "_law_much"] (spDeeper K)) (O__law_movers : Ok P w K mg base k "_law_movers" s__law_movers ["_law_pond", "_law_lot_here"] (spLMovers K)) :
    Ok P w K mg base (k + 1) "_law_due" s__law_due ["_law_pond", "_law_lot_here", "_law_brink"] (spDue41 K) := by
  refine D.ok sc__law_due b__law_due (fun vs H Q E h => ?_) (fun f cdv A outer s H vs Q E hr h => ?_)
  · obtain ⟨v, pb, h, t, ds, L, s, rfl, _⟩ := h
    rfl
  · obtain ⟨v, pb, h, t, ds, L, sd, rfl, ⟨p, q, rfl, hp, hq⟩, hpb, d9, d0, hL, bnd, k1⟩ := h
    refine ⟨_, (pss_cons (ps_asg (pe_tup (pa_cons pe_dnewK (pa_cons (pe_ix ix_lt (pv 0) (pe_callTy call_int1 (by rfl) T.int_ (by decide +kernel) (pa_cons (pe_cmpR op_eq (pv 2) pe_str (nomark _)) pa_nil)) (fun _ _ => rfl)) pa_nil))) (pg_seq rfl (pgs_cons (pg_name (i := 3) sc__law_due.nd rfl (.inr rfl)) (pgs_cons (pg_name (i := 4) sc__law_due.nd rfl (.inl rfl)) pgs_nil))))
      (pss_cons (ps_for PassesOwn.never rfl (pi_range1 (by rfl) T.range_ (pa_cons (pe_op op_add (pe_callB (call_max2 rfl) (by rfl) T.max_ (by decide +kernel) (pa_cons pe_int (pa_cons (pe_op op_sub (pe_callB (cr_maxA rfl) (by rfl) T.max_ (by decide +kernel) (pa_cons (pe_ix ix_lt (pv 0) pe_int (fun _ _ => rfl)) pa_nil)) (pv 4)) pa_nil))) pe_int) pa_nil)) (pg_name (i := 5) sc__law_due.nd rfl (.inl rfl))
        (pss_one (ps_for PassesOwn.never rfl (pi_seq (pe_fn O__law_movers (hr.mono (by omega)) (pa_cons (pe_fn O__law_deeper (hr.mono (by omega)) (pa_cons (pv 0) (pa_cons (pv 2) (pa_cons (pv 5) pa_nil)))) (pa_cons (pv 1) pa_nil)))) (pg_name (i := 6) sc__law_due.nd rfl (.inl rfl))
            (pss_one (ps_dput (hu_of hr) (pv 3) (pv 6) (pe_dget2 (hu_of hr) (pv 3) (pv 6) (pv 5) ⟨rfl, rfl, rfl, rfl⟩) rfl)))))
      (pss_one (ps_ret (pe_lc (own := [("_law_whom", 6)]) (g := (gName 6)) (tt := tYes) (by rfl) sc__law_due.nd (pi_range1 (by rfl) T.range_ (pa_cons (pe_callB call_len_seq (by rfl) T.len_ PySem.boot_len (pa_cons (pe_ix ix_lt (pv 0) pe_int (fun _ _ => rfl)) pa_nil)) pa_nil)) (blkOk_by (own := [("_law_whom", 6)]) (N := (["_law_pond", "_law_lot_here", "_law_brink", "_law_found", "_law_depth", "_law_much", "_law_whom"] : List Str)) (sc := defScope s__law_due) (by decide +kernel)) (fun _ _ _ _ _ => (pg_name (i := 6) sc__law_due.nd rfl (.inl rfl))) (fun _ _ _ _ _ => pts_nil) (fun _ _ _ _ _ => (pe_dget1 (hu_of hr) (pv 3) (pv 6) ⟨rfl, rfl, rfl, rfl⟩))))))), ?_⟩
    obtain ⟨most, ndm⟩ := need_ex (h := h) (t := t) (ds := ds) sd
    refine fun d nd => ?_
    have s1 : Same H (upd H d (.dK [])) := same_new nd
    have e1 : upd H d (.dK []) d = some (.dK []) := upd_same
    generalize upd H d (.dK []) = H1 at s1 e1
    have esd : decide (V.str (sideS sd) = V.str "there") = !sd := by cases sd <;> decide
    refine ⟨_, rfl, _, rfl, rfl, .inr ⟨_, rfl, ?_⟩⟩
    rw [esd]
    refine ⟨p, [.int h, .int t, .ref q], (if (!sd) = true then 1 else 0), .int (if sd then h else t), rfl, rfl, .inr (Same.tup s1 hp), by cases sd <;> rfl, ?_⟩
    refine ⟨(by show 2 ≤ sizeLine; decide), fun tp ntp => ?_⟩
    refine ⟨tp, _, rfl, SqA.t upd_same, rfl, _, _, rfl, _, _, rfl, rfl, ?_⟩
    have s2 : Same H (upd H1 tp (.tup [.ref d, .int (if sd then h else t)])) := s1.trans (same_new ntp)
    have e2 : upd H1 tp (.tup [.ref d, .int (if sd then h else t)]) d = some (.dK []) := same_new ntp _ _ e1
    generalize upd H1 tp (.tup [.ref d, .int (if sd then h else t)]) = H2 at s2 e2
    refine ⟨_, rfl, p, [.int h, .int t, .ref q], 2, .ref q, rfl, rfl, .inr (Same.tup s2 hp), rfl, q, ds, rfl, .inr (Same.tup s2 hq), d0, fun mx mx1 mx2 => ?_⟩
    obtain ⟨most, em, ndm⟩ : ∃ most : Nat, (if mx - (if sd then h else t) > 0 then mx - (if sd then h else t) else 0) = (most : Int) ∧ NeedI h t ds sd most := by
      by_cases z : mx - (if sd then h else t) > 0
      · rw [if_pos z]
        exact ⟨(mx - (if sd then h else t)).toNat, by omega, .inr ⟨mx, mx1, by omega⟩, fun d hd => by have := mx2 d hd; omega⟩
      · rw [if_neg z]
        exact ⟨0, rfl, .inl rfl, fun d hd => by have := mx2 d hd; omega⟩
    have mle := need_le bnd ndm
    have fit9 : (most : Int) + 1 < 2 ^ 62 := by omega
    refine ⟨_, rfl, mx, (if sd then h else t), rfl, rfl, 0, _, rfl, _, 1, rfl, rfl, ((most + 1 : Nat) : Int), ?_, by omega, by omega, ?_⟩
    · show [V.int ((if mx - (if sd then h else t) > 0 then mx - (if sd then h else t) else 0) + 1)] = _
      rw [em]
      rfl
    refine for_range (lo := 0) (n := ((most + 1 : Nat) : Int).toNat) (Out41 H p pb d h t ds L sd)
      ⟨none, none, [], rfl, s2, e2, ⟨List.nodup_nil, fun k hk => by cases hk⟩, fun g hg => .inl ⟨rfl, fun m hm => absurd hm (Nat.not_lt_zero _)⟩⟩ ?_ ?_
    · rintro i σ Ha hi ⟨y5, y6, kvs, rfl, sa, ea, lk, du⟩
      rw [Int.toNat_natCast] at hi
      refine ⟨_, rfl, _, rfl, _, rfl, .ref p, h, t, (i : Int), ds, sd, ?_, ⟨p, q, rfl, Same.tup sa hp, Same.tup sa hq⟩, fun Hb pd sb npd spd => ?_⟩
      · show [V.ref p, V.str (sideS sd), V.int (0 + (i : Int))] = _
        rw [Int.zero_add]
      refine ⟨_, rfl, .ref pd, pb, hS sd h i, tS sd t i, ds, L, rfl, spd.a, (sa.trans sb) _ _ hpb, d9, hL, fun Hc pm ms sc npm hpm im => ?_⟩
      have sbc := sb.trans sc
      have ndm2 : ms.length ≤ 9 := Nat.le_trans im.1.len d9
      refine ⟨pm, _, Hc, rfl, SqA.l hpm, .refl _ _, fun J hJ => ?_⟩
      obtain ⟨G, gg, W⟩ := hJ.walk
      have ec : Hc d = some (.dK kvs) := sbc _ _ ea
      have pd' : pm ≠ d := fun z => by
        rw [z, sb _ _ ea] at npm
        cases npm
      have eim : (0 : Int) + (i : Int) = ((i : Nat) : Int) := Int.zero_add _
      rw [eim]
      refine for_it (D := { nx := Out41 H p pb d h t ds L sd (i + 1), ct := Out41 H p pb d h t ds L sd (i + 1), bk := _, rt := _ }) W (fun j σ H' => ∃ (y6 : Option V) (kvs' : List (Key × V)), σ = [some (.ref p), some (.ref pb), some (.str (sideS sd)), some (.ref d), some (.int (if sd then h else t)), some (.int (i : Int)), y6] ∧ Same H H' ∧ H' pm = Hc pm ∧ H' d = some (.dK kvs') ∧ KOk ds.length kvs' ∧
        ∀ g, g < ds.length → valV kvs' (.inl (g : Int)) = if g ∈ ms.take j then some ((valV kvs (.inl (g : Int))).getD (.int (i : Int))) else valV kvs (.inl (g : Int)))
        ⟨y6, kvs, rfl, sa.trans sbc, rfl, ec, lk, fun g _ => rfl⟩ (fun j σ H' _ ⟨_, _, _, _, z, _⟩ => gg H' fun o e => z.trans e) ?_ ?_
      · rintro j x σ Hd He hj ⟨y6', kvs', rfl, sd', ep', ed', lk', vk⟩ ⟨rfl, gx⟩
        rw [ni_len] at hj
        obtain rfl : .int ((ms[j] : Nat) : Int) = x := Option.some.inj ((ni_get hj).symm.trans gx)
        have hg := im.1.lt ms[j] (List.getElem_mem hj)
        refine ⟨_, rfl, d, rfl, .inl ⟨kvs', .inl ed'⟩, _, rfl, _, rfl, _, DGet.k (k := Sum.inl (ms[j] : Int)) ed', _, rfl, _, rfl, d, _, rfl, DPut.k (k := Sum.inl (ms[j] : Int)) ed' ?_, ?_⟩
        · rw [sizeLine_eq]
          have := lk'.len
          omega
        refine ⟨some (.int (ms[j] : Int)), _, rfl, same_over sd' nd, ?_, upd_same, lk'.put _ hg, fun g hg' => ?_⟩
        · rw [upd_ne pd']
          exact ep'
        · rw [valV_put, take_succ_get hj]
          have eg := vk g hg'
          by_cases c : g = ms[j]
          · subst c
            rw [if_pos rfl, if_pos (List.mem_append_right _ (List.mem_singleton.mpr rfl)), eg]
            split <;> rfl
          · have c2 : ¬ (Sum.inl (g : Int) : Key) = Sum.inl (ms[j] : Int) := fun z => c (by have := Sum.inl.inj z; omega)
            rw [if_neg c2, eg]
            have c3 : (g ∈ ms.take j ++ [ms[j]]) ↔ g ∈ ms.take j := by
              rw [List.mem_append, List.mem_singleton]
              exact ⟨fun z => z.resolve_right c, .inl⟩
            simp only [c3]
      · rintro σ Hd ⟨y6', kvs', rfl, sd', ep', ed', lk', vk⟩
        rw [ni_len, List.take_length] at vk
        exact ⟨_, _, kvs', rfl, sd', ed', lk', dueK_next du im vk⟩
    rintro σ Ha ⟨y5, y6, kvs, rfl, sa, ea, lk, du⟩
    rw [Int.toNat_natCast] at du
    refine ⟨_, rfl, p, [.int h, .int t, .ref q], 2, .ref q, rfl, rfl, .inr (Same.tup sa hp), rfl, q, ds.map V.int, rfl, .inr (Same.tup sa hq), ((ds.length : Nat) : Int), (by rw [List.length_map]), by omega, by omega, fun C nC => ?_⟩
    refine lc_range (fun i H' => Same Ha H' ∧ H' C = some (.lst ((List.range i).map fun g => (valV kvs (.inl ((g : Nat) : Int))).getD .non))) ⟨same_new nC, upd_same⟩ ?_ ?_
    · rintro i Hb hi ⟨sb, hC⟩
      rw [Int.toNat_natCast] at hi
      have i0 : (0 : Int) + (i : Int) = ((i : Nat) : Int) := Int.zero_add _
      rw [i0]
      refine ⟨rfl, tyes (iteT ?_)⟩
      refine ⟨_, rfl, d, rfl, .inl ⟨kvs, .inl (sb _ _ ea)⟩, _, rfl, _, DGet.k (k := Sum.inl (i : Int)) (sb _ _ ea), _, hC, ?_, same_over sb nC, ?_⟩
      · rw [List.length_map, List.length_range]
        exact small1000 (by omega)
      · rw [upd_same, List.range_succ, List.map_append]
        rfl
    · rintro Hb ⟨sb, hC⟩
      rw [Int.toNat_natCast] at hC
      exact k1 Hb C _ most (sa.trans sb) (sa.free nC) hC ndm (due_freed du)
end
end Sh

namespace Sh
open PySem PySem.Spec PyProof.Rows L2
/-! ### None and ints, as data -/
def dataV (r : V) : PyData := match r with
  | .int n => .int n
  | _ => .none
theorem eqv_dataV : ∀ rs : List V, PyData.eqv (.list (rs.map dataV)) (.list (rs.map dataV)) = true
  | [] => rfl
  | r :: rs => by
    have e := eqv_dataV rs
    show (PyData.eqv (dataV r) (dataV r) && PyData.eqv (.list (rs.map dataV)) (.list (rs.map dataV))) = true
    rw [e]
    unfold dataV
    split
    · rename_i n
      show ((n == n) && true) = true
      simp
    · rfl
theorem lay_dataV : ∀ rs : List V, PyData.canLayAll0 (rs.map dataV) = true ∧ PyData.depthAll (rs.map dataV) = 0
  | [] => ⟨rfl, rfl⟩
  | r :: rs => by
    obtain ⟨a, b⟩ := lay_dataV rs
    have e1 : PyData.canLay0 (dataV r) = true := by
      unfold dataV
      split <;> rfl
    have e2 : PyData.depth (dataV r) = 0 := by
      unfold dataV
      split <;> rfl
    constructor
    · show (PyData.canLay0 (dataV r) && PyData.canLayAll0 (rs.map dataV)) = true
      rw [a, e1]
      rfl
    · show max (PyData.depth (dataV r)) (PyData.depthAll (rs.map dataV)) = 0
      rw [b, e2]
      rfl
theorem shaped_dataV (rs : List V) : SeqAt.shaped (.list (rs.map dataV)) = true := by
  obtain ⟨a, b⟩ := lay_dataV rs
  unfold SeqAt.shaped
  rw [show PyData.canLay0 (.list (rs.map dataV)) = PyData.canLayAll0 (rs.map dataV) from rfl, show PyData.depth (.list (rs.map dataV)) = PyData.depthAll (rs.map dataV) + 1 from rfl, a, b]
  rfl
theorem dp_dataV {K : PySem.W.Frag} {H : Hp} : ∀ rs : List V, (∀ r ∈ rs, r = .non ∨ ∃ n, r = .int n) → DpAll K H rs (rs.map dataV)
  | [], _ => .nil
  | r :: rs, a => by
    refine .cons ?_ (dp_dataV rs fun x hx => a x (List.mem_cons_of_mem _ hx))
    rcases a r List.mem_cons_self with rfl | ⟨n, rfl⟩
    · exact .non
    · exact .int n
end Sh

namespace Sh
open PySem PySem.Spec PyProof.Rows L2 LamX
theorem Freed.uniq {h t : Int} {ds : List Int} {L : List Nat} {s : Bool} {b b' : Nat} {rs rs' : List V} (a : Freed h t ds L s b rs) (a' : Freed h t ds L s b' rs') (n : NeedI h t ds s b) (n' : NeedI h t ds s b') : rs = rs' := by
  obtain rfl := n.uniq n'
  refine List.ext_getElem (a.1.trans a'.1.symm) fun i h1 h2 => ?_
  exact IsLeastP.uniq (fun m m' l _ r => mv_side (by omega) r) (a.2 i _ (List.getElem?_eq_getElem h1)) (a'.2 i _ (List.getElem?_eq_getElem h2))
theorem freed_data {h t : Int} {ds : List Int} {L : List Nat} {s : Bool} {b : Nat} {rs : List V} (a : Freed h t ds L s b rs) : ∀ r ∈ rs, r = .non ∨ ∃ n, r = .int n := fun r hr => by
  obtain ⟨i, hi, e⟩ := List.mem_iff_getElem.mp hr
  rcases a.2 i r (by rw [List.getElem?_eq_getElem hi, e]) with ⟨_, z⟩ | ⟨n, _, _, _, z⟩
  · exact .inl z
  · exact .inr ⟨_, z⟩
theorem hS_zero (s : Bool) (h : Int) : hS s h ((0 : Nat) : Int) = h := by
  cases s
  · rfl
  · exact Int.add_zero h
theorem tS_zero (s : Bool) (t : Int) : tS s t ((0 : Nat) : Int) = t := by
  cases s
  · exact Int.add_zero t
  · rfl
/-- nought: it goes as it is -/
theorem freed_zero {h t : Int} {ds : List Int} {L : List Nat} {s : Bool} {b : Nat} {rs : List V} (a : Freed h t ds L s b rs) {g : Nat} {r : V} (e : rs[g]? = some r) : r = .int 0 ↔ Mv h t ds L g := by
  rcases a.2 g r e with ⟨no, z⟩ | ⟨n, _, y, no, z⟩
  · rw [z]
    refine ⟨fun x => (by cases x), fun m => absurd (mv_side (s := s) (m := ((0 : Nat) : Int)) (m' := (b : Int)) (by omega) ?_) no⟩
    rw [hS_zero, tS_zero]
    exact m
  · rw [z]
    constructor
    · intro x
      have : n = 0 := by have := V.int.inj x; omega
      subst this
      rw [hS_zero, tS_zero] at y
      exact y
    · intro m
      rcases Nat.eq_zero_or_pos n with x | x
      · rw [x]
        rfl
      · refine absurd (show Mv (hS s h ((0 : Nat) : Int)) (tS s t ((0 : Nat) : Int)) ds L g from ?_) (no 0 x)
        rw [hS_zero, tS_zero]
        exact m
/-- nought's places -/
def fz (rs : List V) (i : Nat) : List Nat := (List.range i).filter fun g => decide (rs[g]? = some (V.int 0))
theorem fz_succ (rs : List V) (i : Nat) : fz rs (i + 1) = fz rs i ++ if rs[i]? = some (V.int 0) then [i] else [] := by
  unfold fz
  rw [List.range_succ, List.filter_append]
  congr 1
  by_cases c : rs[i]? = some (V.int 0)
  · rw [if_pos c, List.filter_cons_of_pos (by simp [c])]
    rfl
  · rw [if_neg c, List.filter_cons_of_neg (by simp [c])]
    rfl
theorem fz_movers {h t : Int} {ds : List Int} {L ms : List Nat} {s : Bool} {b : Nat} {rs : List V} (a : Freed h t ds L s b rs) (im : IsMovers h t ds L ms) : fz rs ds.length = ms := by
  have lf : Lot ds.length (fz rs ds.length) := (Lot.all _).filter _
  refine lot_ext lf im.1 fun i hi => ?_
  have li : i < rs.length := by have := a.1; omega
  have z := freed_zero a (List.getElem?_eq_getElem li)
  show decide (i ∈ fz rs ds.length) = decide (i ∈ ms)
  rw [Bool.eq_iff_iff, decide_eq_true_eq, decide_eq_true_eq, mv_iff im hi, ← z]
  unfold fz
  rw [List.mem_filter, List.mem_range, decide_eq_true_eq, List.getElem?_eq_getElem li]
  exact ⟨fun y => Option.some.inj y.2, fun y => ⟨hi, congrArg some y⟩⟩
theorem eqv_self41 : ∀ ns : List Int, PyData.eqv (.list (ns.map .int)) (.list (ns.map .int)) = true
  | [] => rfl
  | n :: ns => by
    show ((n == n) && PyData.eqv (.list (ns.map .int)) (.list (ns.map .int))) = true
    rw [eqv_self41 ns, beq_self_eq_true]
    rfl
theorem lv_dataV {n : Nat} (rs : List V) (h : rs.length ≤ 100000) : Lv (n + 2) (.list (rs.map dataV)) := ⟨by rw [List.length_map]; exact h, fun e he => by
  obtain ⟨r, _, rfl⟩ := List.mem_map.mp he
  unfold dataV
  split <;> trivial⟩
abbrev s__law_right : Stmt := topS 39
theorem sc__law_right : FnScope (["_law_box_here", "_law_pond", "_law_lot_here", "_law_brink", "_law_due_here", "_law_found", "_law_free", "_law_plain", "_law_told", "_law_whom", "_law_much"] : List Str) (["_law_box_here"] : List Str) (defScope s__law_right) := ⟨rfl, rfl, rfl, by decide +kernel, rfl, by decide +kernel, by decide +kernel⟩
theorem b__law_right (kV doc pm : Value) (an : Option Addr) (cdv ct : Value) (us : List Value) (hl : us.length = (["_law_box_here"] : List Str).length) : bindArgs (PySem.W.fnOf "_law_right" "_law_right" (defArgs s__law_right) (defBody s__law_right) (defScope s__law_right) .none kV doc pm an cdv ct) ⟨us, []⟩ = pure ((["_law_box_here"] : List Str).zip us) :=
  match us, hl with | [_], _ => rfl
section
variable {P : Program} {w : World} {K : PySem.W.Frag} {mg : Str → Option Value} {base : Heap}
set_option maxHeartbeats 16000000 in
theorem ok_right {k : Nat} {Tl : List (Addr × Str)} (D : Df K mg "_law_right" s__law_right) (T : Bt mg) (O__law_sea : Ok P w K mg base k "_law_sea" s__law_sea ["_law_box_here", "_law_most"] spSea) (O__law_lot : Ok P w K mg base k "_law_lot" s__law_lot ["_law_box_here", "_law_count"] spLot)
    (O__law_due : Ok P w K mg base k "_law_due" s__law_due ["_law_pond", "_law_lot_here", "_law_brink"] (spDue41 K)) (O__law_movers : Ok P w K mg base k "_law_movers" s__law_movers ["_law_pond", "_law_lot_here"] (spLMovers K))
    (O__law_same : Ok P w K mg base k "_law_same" s__law_same ["_law_found", "_law_due_here"] (spSame K 4)) (O_freed_by : Ok P w K mg base k "freed_by" s_freed_by ["sea", "standing", "side"] (spFreed Tl K)) :
    OkG P w K mg base (k + 1) "_law_right" s__law_right ["_law_box_here"] (spRightT Tl) := by
  refine D.okG sc__law_right b__law_right (fun vs H Q E h => ?_) (fun f cdv A outer s H vs Q E hr hG h => ?_)
  · obtain ⟨b, rfl, _⟩ := h
    rfl
  · obtain ⟨b, rfl, hb, hT, q⟩ := h
    refine ⟨_, (pss_cons (ps_set (i := 1) sc__law_right.nd rfl (.inl rfl) (pe_fn O__law_sea (hr.mono (by omega)) (pa_cons (pv 0) (pa_cons pe_int pa_nil))))
      (pss_cons (ps_set (i := 2) sc__law_right.nd rfl (.inl rfl) (pe_fn O__law_lot (hr.mono (by omega)) (pa_cons (pv 0) (pa_cons (pe_callB call_len_seq (by rfl) T.len_ PySem.boot_len (pa_cons (pe_ix ix_lt (pv 1) pe_int (fun _ _ => rfl)) pa_nil)) pa_nil))))
      (pss_cons (ps_for PassesOwn.never rfl (pi_seq (pe_tup (pa_cons pe_str (pa_cons pe_str pa_nil)))) (pg_name (i := 3) sc__law_right.nd rfl (.inl rfl))
        (pss_cons (ps_par (i := 4) (j := 5) (by rfl) sc__law_right.nd rfl rfl (by decide) rfl rfl (pa_cons (pe_fn O__law_due (hr.mono (by omega)) (pa_cons (pv 1) (pa_cons (pv 2) (pa_cons (pv 3) pa_nil)))) (pa_cons (pe_fn O_freed_by (hr.mono (by omega)) (pa_cons (pv 1) (pa_cons (pv 2) (pa_cons (pv 3) pa_nil)))) pa_nil)) (by rfl))
          (pss_cons (ps_setLc (i := 6) (own := [("_law_whom", 9), ("_law_much", 10)]) (g := (gSeq K 2 (gCons (gName 9) (gCons (gName 10) gNil)))) (by rfl) sc__law_right.nd rfl rfl (sw_true rfl rfl rfl (by decide +kernel)) (pi_enumA (by rfl) T.enumerate_ (pa_cons (pv 4) pa_nil)) (blkOk_by (own := [("_law_whom", 9), ("_law_much", 10)]) (N := (["_law_box_here", "_law_pond", "_law_lot_here", "_law_brink", "_law_due_here", "_law_found", "_law_free", "_law_plain", "_law_told", "_law_whom", "_law_much"] : List Str)) (sc := defScope s__law_right) (by decide +kernel)) (fun _ _ _ _ _ => (pg_seq rfl (pgs_cons (pg_name (i := 9) sc__law_right.nd rfl (.inl rfl)) (pgs_cons (pg_name (i := 10) sc__law_right.nd rfl (.inl rfl)) pgs_nil)))) (fun _ _ _ _ _ => (pts_one (pt_cmpR op_eq (pv 10) pe_int (nomark _)))) (fun _ _ _ _ _ => (pv 9)))
          (pss_cons (ps_if (PW.pt (pw_or (pt_not (pt_val (pe_fn O__law_same (hr.mono (by omega)) (pa_cons (pv 5) (pa_cons (pv 4) pa_nil))))) (pw_or1 (pt_cmpR (op_neD hr.units) (pv 6) (pe_fn O__law_movers (hr.mono (by omega)) (pa_cons (pv 1) (pa_cons (pv 2) pa_nil))) (nomark _)))))
            (pss_one (ps_ret pe_bl))
            pss_nil)
          (pss_cons (ps_expr (pe_bm PySem.F.plainAttrs_list PySem.F.slot_list_append PySem.F.type_list_append mt_append (pv 5) (pa_cons pe_str pa_nil)))
          (pss_cons (ps_set (i := 7) sc__law_right.nd rfl (.inl rfl) (pe_lst (pa_cons (pe_ix ix_lt (pv 1) pe_int (fun _ _ => rfl)) (pa_cons (pe_ix ix_lt (pv 1) pe_int (fun _ _ => rfl)) (pa_cons (pe_callTy call_list_of (by rfl) T.list_ (by decide +kernel) (pa_cons (pe_ix ix_lt (pv 1) pe_int (fun _ _ => rfl)) pa_nil)) pa_nil)))))
          (pss_cons (ps_set (i := 8) sc__law_right.nd rfl (.inl rfl) (pe_lst (pa_cons (pe_fnK0 (ks := ["side", "standing", "sea"]) [2, 1, 0] O_freed_by (hr.mono (by omega)) (fun _ _ _ _ _ _ ws hk => match ws, hk with | [_, _, _], _ => rfl) (pk_cons (pv 3) (pk_cons (pv 2) (pk_cons (pv 1) pk_nil)))) (pa_cons (pe_fn O_freed_by (hr.mono (by omega)) (pa_cons (pv 7) (pa_cons (pe_callTy call_list_of (by rfl) T.list_ (by decide +kernel) (pa_cons (pv 2) pa_nil)) (pa_cons (pv 3) pa_nil)))) pa_nil))))
          (pss_one (ps_if (pt_not (pt_val (pe_fn O__law_same (hr.mono (by omega)) (pa_cons (pv 8) (pa_cons (pe_lst (pa_cons (pv 4) (pa_cons (pv 4) pa_nil))) pa_nil)))))
            (pss_one (ps_ret pe_bl))
            pss_nil)))))))))
      (pss_one (ps_ret pe_bl))))), ?_⟩
    refine ⟨_, rfl, b, 90000, 5, rfl, by decide, by decide, hb.mono (by decide), fun H1 p pq h t ds u1 x1 np nq hp hq so => ?_⟩
    have d0 := so.l0
    have d5 : ds.length ≤ 5 := so.l1
    have pb : p ≠ b := (hb.ne np).symm
    have qb : pq ≠ b := (hb.ne nq).symm
    have hT1 := tabs_but hT hb u1
    have bnd : 0 ≤ h ∧ 0 ≤ t ∧ ∀ d ∈ ds, d ≤ 100000000000000 := ⟨so.h0, so.t0, fun d hd => by have := so.d0 d hd; omega⟩
    refine ⟨_, rfl, _, rfl, p, _, 2, .ref pq, rfl, rfl, SqA.t hp, rfl, pq, _, rfl, .inr (SqT.of hq), b, 80000, ds.length, ?_, by omega, x1.mono (by decide), fun H2 pl L u2 x2 npl hpl hL => ?_⟩
    · rw [List.length_map]
      rfl
    replace hp := u2 _ _ pb hp
    replace hq := u2 _ _ qb hq
    have hT2 := tabs_but hT1 x1 u2
    replace u2 := u1.trans u2
    clear u1 x1 np nq npl hT hT1
    refine ⟨(by show 2 ≤ sizeLine; decide), fun tp ntp => ?_⟩
    have s3 : Same H2 (upd H2 tp (.tup [.str "here", .str "there"])) := same_new ntp
    have e3 : upd H2 tp (.tup [.str "here", .str "there"]) tp = some (.tup [.str "here", .str "there"]) := upd_same
    have hT3 := hT2.ext s3
    replace hp := s3 _ _ hp
    replace hq := s3 _ _ hq
    replace hpl := s3 _ _ hpl
    replace u2 := u2.trans (Same.but (b := b) s3)
    generalize upd H2 tp (.tup [.str "here", .str "there"]) = H3 at s3 e3 hT3 hp hq hpl u2
    clear s3 hT2 x2 ntp
    refine ⟨tp, _, H3, rfl, SqA.t e3, .refl _ _, fun J hJ => ?_⟩
    obtain ⟨G, gg, W⟩ := hJ.walk
    refine for_it W (fun i σ H' => ∃ (y3 y4 y5 y6 y7 y8 : Option V), σ = [some (.ref b), some (.ref p), some (.ref pl), y3, y4, y5, y6, y7, y8, none, none] ∧ ExtN H3 H' ∧ Tabs Tl H')
      ⟨none, none, none, none, none, none, rfl, ext_same (Same.refl _), hT3⟩ (fun i σ H' _ ⟨_, _, _, _, _, _, _, z, _⟩ => gg H' (Kp.ofE z e3)) ?_ ?_
    · rintro i x σ Ha Hb hi ⟨y3, y4, y5, y6, y7, y8, rfl, xa, ta⟩ ⟨rfl, gx⟩
      obtain ⟨sd, rfl⟩ : ∃ sd : Bool, x = .str (sideS sd) := by
        have z2 : x = .str "here" ∨ x = .str "there" := by simpa using List.mem_of_getElem? gx
        rcases z2 with rfl | rfl
        · exact ⟨true, rfl⟩
        · exact ⟨false, rfl⟩
      have hp1 := ext_tupl xa hp
      have hq1 := ext_tupl xa hq
      have hpl1 := ext_tupl xa hpl
      refine ⟨_, rfl, _, rfl, _, rfl, .ref p, pl, h, t, ds, L, sd, rfl, ⟨p, pq, rfl, SqT.of hp1, SqT.of hq1⟩, hpl1, by omega, d0, hL, bnd, fun H4 pf rs most s4 npf hpf nd fr => ?_⟩
      have hT4 := ta.ext s4
      refine ⟨_, rfl, _, rfl, _, rfl, .ref p, .ref pl, h, t, ds, L, sd, rfl, ⟨p, pq, rfl, SqA.t (s4 _ _ hp1), SqA.t (s4 _ _ hq1)⟩, ⟨pl, rfl, SqA.t (s4 _ _ hpl1)⟩, by omega, d0, hL, bnd, hT4, fun H5 pg rg most2 e5 hT5 npg hpg nd2 fr2 => ?_⟩
      obtain rfl := fr2.uniq fr nd2 nd
      obtain rfl := nd2.uniq nd
      have xb := xa.trans ((ext_same s4).trans e5)
      have hpf5 := ext_lst e5 hpf
      have ne : pg ≠ pf := fun z => by
        rw [z, hpf] at npg
        cases npg
      refine ⟨_, _, rfl, ?_⟩
      have frd := freed_data fr
      have lrs : rg.length = ds.length := fr.1
      have sea : ∀ {H' : Hp}, ExtN H3 H' → SeaT K H' (.ref p) h t ds := fun e => ⟨p, pq, rfl, SqT.of (ext_tupl e hp), SqT.of (ext_tupl e hq)⟩
      have lotL : ∀ {H' : Hp}, ExtN H3 H' → LotA K H' (.ref pl) L := fun e => ⟨pl, rfl, SqA.t (ext_tupl e hpl)⟩
      -- who goes as it is
      refine ⟨_, rfl, pf, rg, H5, rfl, SqA.l hpf5, Kp.refl _ _, fun J2 hJ2 C nC => ?_⟩
      obtain ⟨G2, g2, W2⟩ := hJ2.walk
      refine lc_it W2 (fun j H' => Same H5 H' ∧ H' C = some (.lst (ni (fz rg j)))) ⟨same_new nC, upd_same⟩ (fun j H' _ z => g2 H' (.ofS z.1)) ?_ ?_
      · rintro j x Hc Hd hj ⟨sm, hC⟩ ⟨u, y1, y2, rfl, nu, rfl, ga, gb⟩
        obtain rfl : .int (j : Nat) = y1 := Option.some.inj ga
        have gb : rg[j]? = some y2 := gb
        have dj : y2 = .non ∨ ∃ n, y2 = .int n := frd y2 (List.mem_of_getElem? gb)
        have nuC : C ≠ u := ne_of_none hC nu
        have hC' : upd Hc u (.tup [.int (j : Nat), y2]) C = some (.lst (ni (fz rg j))) := by rw [upd_ne nuC]; exact hC
        refine ⟨u, _, rfl, SqA.t upd_same, rfl, _, _, rfl, _, _, rfl, rfl, rfl, ?_⟩
        have st : Same H5 (upd Hc u (.tup [.int (j : Nat), y2])) := sm.trans (same_new nu)
        have key : ∀ bb, bb = decide (y2 = V.int 0) → (if bb = true then tVar 9 [some (.ref b), some (.ref p), some (.ref pl), some (.str (sideS sd)), some (.ref pf), some (.ref pg), y6, y7, y8, some (.int (j : Nat)), some y2] (upd Hc u (.tup [.int (j : Nat), y2])) (fun y H4 => ∃ acc, H4 C = some (.lst acc) ∧ acc.length < sizeLine ∧ (Same H5 (upd H4 C (.lst (acc ++ [y]))) ∧ upd H4 C (.lst (acc ++ [y])) C = some (.lst (ni (fz rg (j + 1)))))) else (Same H5 (upd Hc u (.tup [.int (j : Nat), y2])) ∧ upd Hc u (.tup [.int (j : Nat), y2]) C = some (.lst (ni (fz rg (j + 1)))))) := fun bb e => by
          rw [e]
          by_cases c : y2 = V.int 0
          · rw [decide_eq_true c, if_pos rfl]
            refine ⟨_, rfl, _, hC', ?_, same_over st nC, ?_⟩
            · rw [ni_len]
              have h1 := List.length_filter_le (fun g => decide (rg[g]? = some (V.int 0))) (List.range j)
              rw [List.length_range] at h1
              exact small1000 (by unfold fz; omega)
            · rw [upd_same, fz_succ, gb, c, if_pos rfl, ni_app]
              rfl
          · rw [decide_eq_false c, if_neg Bool.false_ne_true]
            refine ⟨st, ?_⟩
            rw [hC', fz_succ, gb, if_neg (fun z => c (Option.some.inj z)), List.append_nil]
        rcases dj with rfl | ⟨n, rfl⟩
        · exact ⟨_, rfl, rfl, _, rfl, key _ rfl⟩
        · exact ⟨_, rfl, rfl, _, rfl, key _ rfl⟩
      rintro H6 ⟨s6, hC6⟩
      rw [lrs] at hC6
      have x6 := xb.trans (ext_same s6)
      have hT6 := hT5.ext s6
      have hpf6 := s6 _ _ hpf5
      have hpg6 := s6 _ _ hpg
      have dR : ∀ {H' : Hp} {a : Addr}, H' a = some (.lst rg) → Dp K H' (.ref a) (.list (rg.map dataV)) := fun e => .lst (SqL.of e) (dp_dataV rg frd)
      refine ⟨_, rfl, _, rfl, .ref pg, .ref pf, _, rfl, dR hpg6, dR hpf6, lv_dataV (n := 2) rg (by omega), fun H7 s7 => ⟨true, rfl, ?_⟩⟩
      have x7 := x6.trans (ext_same s7)
      refine ⟨_, rfl, _, rfl, _, rfl, .ref p, pl, h, t, ds, L, rfl, (sea x7).a, ext_tupl x7 hpl, by omega, hL, fun H8 pm ms s8 npm hpm im => ?_⟩
      rw [fz_movers fr im] at hC6
      refine ⟨_, _, dp_ni (s8 _ _ (s7 _ _ hC6)), dp_ni hpm, shaped_ints _, shaped_ints _, _, rfl, ?_⟩
      rw [eqv_self41]
      refine iteF ?_
      have x8 := x7.trans (ext_same s8)
      have hT8 := (hT6.ext s7).ext s8
      have hpg8 := s8 _ _ (s7 _ _ hpg6)
      have hpf8 := s8 _ _ (s7 _ _ hpf6)
      -- what was told, changed
      refine ⟨_, rfl, .inl ⟨rfl, _, SqL.of hpg8⟩, pg, _, _, rfl, rfl, hpg8, ?_, ?_⟩
      · exact small1000 (by omega)
      have x9 : ExtN H3 (upd H8 pg (.lst (rg ++ [.str "more"]))) := fun a o e z => by
        have e4 := s4 _ _ (xa _ _ e z)
        rw [upd_ne (fun y => by rw [y, npg] at e4; cases e4)]
        exact x8 _ _ e z
      have hT9 : Tabs Tl (upd H8 pg (.lst (rg ++ [.str "more"]))) := tabs_put hT8 ⟨_, hpg8⟩
      have hpf9 : upd H8 pg (.lst (rg ++ [.str "more"])) pf = some (.lst rg) := by
        rw [upd_ne (Ne.symm ne)]
        exact hpf8
      generalize upd H8 pg (.lst (rg ++ [.str "more"])) = H9 at x9 hT9 hpf9
      -- lists for tuples
      refine ⟨_, rfl, p, _, 0, .int h, rfl, rfl, SqA.t (ext_tupl x9 hp), rfl, _, rfl, p, _, 1, .int t, rfl, rfl, SqA.t (ext_tupl x9 hp), rfl, _, rfl, p, _, 2, .ref pq, rfl, rfl, SqA.t (ext_tupl x9 hp), rfl, pq, _, rfl, SqA.t (ext_tupl x9 hq), fun dl ndl => ?_⟩
      have s10 : Same H9 (upd H9 dl (.lst (ds.map V.int))) := same_new ndl
      have e10 : upd H9 dl (.lst (ds.map V.int)) dl = some (.lst (ds.map V.int)) := upd_same
      generalize upd H9 dl (.lst (ds.map V.int)) = H10 at s10 e10
      refine ⟨(by show 3 ≤ sizeLine; decide), fun wl nwl => ?_⟩
      have s11 : Same H10 (upd H10 wl (.lst [.int h, .int t, .ref dl])) := same_new nwl
      have e11 : upd H10 wl (.lst [.int h, .int t, .ref dl]) wl = some (.lst [.int h, .int t, .ref dl]) := upd_same
      generalize upd H10 wl (.lst [.int h, .int t, .ref dl]) = H11 at s11 e11
      have s911 := s10.trans s11
      have x11 := x9.trans (ext_same s911)
      have hT11 := hT9.ext s911
      -- told by names
      refine ⟨_, rfl, _, rfl, _, rfl, ⟨rfl, rfl⟩, .ref p, .ref pl, h, t, ds, L, sd, rfl, (sea x11).a, lotL x11, by omega, d0, hL, bnd, hT11, fun H12 pg2 rs2 most3 x12 hT12 npg2 hpg2 nd3 fr3 => ?_⟩
      obtain rfl := fr3.uniq fr nd3 nd
      -- told of lists
      have x312 := x11.trans x12
      refine ⟨_, rfl, _, rfl, pl, _, rfl, .inr (SqT.of (ext_tupl x312 hpl)), fun aw naw => ?_⟩
      have s13 : Same H12 (upd H12 aw (.lst (ni L))) := same_new naw
      have e13 : upd H12 aw (.lst (ni L)) aw = some (.lst (ni L)) := upd_same
      generalize upd H12 aw (.lst (ni L)) = H13 at s13 e13
      have seaL : SeaA K H13 (.ref wl) h t ds := ⟨wl, dl, rfl, SqA.l (s13 _ _ (ext_lst x12 e11)), SqA.l (s13 _ _ (ext_lst x12 (s11 _ _ e10)))⟩
      refine ⟨_, rfl, .ref wl, .ref aw, h, t, ds, L, sd, rfl, seaL, ⟨aw, rfl, SqA.l e13⟩, by omega, d0, hL, bnd, hT12.ext s13, fun H14 pg3 rs3 most4 x14 hT14 npg3 hpg3 nd4 fr4 => ?_⟩
      obtain rfl := fr4.uniq fr3 nd4 nd3
      refine ⟨(by show 2 ≤ sizeLine; decide), fun tl ntl => ?_⟩
      have s15 : Same H14 (upd H14 tl (.lst [.ref pg2, .ref pg3])) := same_new ntl
      have e15 : upd H14 tl (.lst [.ref pg2, .ref pg3]) tl = some (.lst [.ref pg2, .ref pg3]) := upd_same
      generalize upd H14 tl (.lst [.ref pg2, .ref pg3]) = H15 at s15 e15
      refine ⟨_, rfl, _, rfl, _, rfl, (by show 2 ≤ sizeLine; decide), fun ul nul => ?_⟩
      have s16 : Same H15 (upd H15 ul (.lst [.ref pf, .ref pf])) := same_new nul
      have e16 : upd H15 ul (.lst [.ref pf, .ref pf]) ul = some (.lst [.ref pf, .ref pf]) := upd_same
      generalize upd H15 ul (.lst [.ref pf, .ref pf]) = H16 at s16 e16
      have s1416 := s15.trans s16
      have x1116 : ExtN H11 H16 := x12.trans ((ext_same s13).trans (x14.trans (ext_same s1416)))
      have dpf := dR (ext_lst x1116 (s911 _ _ hpf9))
      have dg2 := dR (s1416 _ _ (ext_lst ((ext_same s13).trans x14) hpg2))
      have dg3 := dR (s1416 _ _ hpg3)
      refine ⟨.ref tl, .ref ul, _, rfl, .lst (SqL.of (s16 _ _ e15)) (.cons dg2 (.cons dg3 .nil)), .lst (SqL.of e16) (.cons dpf (.cons dpf .nil)), lv_two (lv_dataV _ (by omega)) (lv_dataV _ (by omega)), fun H17 s17 => ⟨true, rfl, iteF ?_⟩⟩
      exact ⟨_, _, _, _, _, _, rfl, x11.trans (x1116.trans (ext_same s17)), (hT14.ext s1416).ext s17⟩
    · rintro σ Ha ⟨y3, y4, y5, y6, y7, y8, rfl, xa, ta⟩
      exact q Ha ((ButT.of u2).trans (.ext xa)) ta
end
end Sh

namespace Sh
open PySem PySem.Spec PyProof.Rows L2 LamX
/-! ### the law itself -/
def spLawT (Tl : List (Addr × Str)) (K : PySem.W.Frag) : Sp := fun vs H Q _ => ∃ (a : Addr) (ns : List Int), vs = [.ref a] ∧ SqL K H a (ns.map V.int) ∧ ns.length ≤ 63 ∧ Tabs Tl H ∧ ∀ H', Q (.bl true) H'
abbrev s_law : Stmt := topS 40
theorem sc_law : FnScope (["_law_script", "_law_k"] : List Str) (["_law_script"] : List Str) (defScope s_law) := ⟨rfl, rfl, rfl, by decide +kernel, rfl, by decide +kernel, by decide +kernel⟩
theorem b_law (kV doc pm : Value) (an : Option Addr) (cdv ct : Value) (us : List Value) (hl : us.length = (["_law_script"] : List Str).length) : bindArgs (PySem.W.fnOf "law" "law" (defArgs s_law) (defBody s_law) (defScope s_law) .none kV doc pm an cdv ct) ⟨us, []⟩ = pure ((["_law_script"] : List Str).zip us) :=
  match us, hl with | [_], _ => rfl
section
variable {P : Program} {w : World} {K : PySem.W.Frag} {mg : Str → Option Value} {base : Heap}
theorem ok_lawT {k : Nat} {Tl : List (Addr × Str)} (D : Df K mg "law" s_law) (T : Bt mg) (O__law_box : Ok P w K mg base k "_law_box" s__law_box ["_law_script", "_law_k"] (spBox K)) (O__law_right : OkG P w K mg base k "_law_right" s__law_right ["_law_box_here"] (spRightT Tl)) :
    OkG P w K mg base (k + 1) "law" s_law ["_law_script"] (spLawT Tl K) := by
  refine D.okG sc_law b_law (fun vs H Q E h => ?_) (fun f cdv A outer s H vs Q E hr hG h => ?_)
  · obtain ⟨a, ns, rfl, _⟩ := h
    rfl
  · obtain ⟨a, ns, rfl, hS, hl, hT, q⟩ := h
    refine ⟨_, (pss_one (ps_ret (pe_callB (cr_all rfl) (by rfl) T.all_ (by decide +kernel) (pa_cons (pe_lc (own := [("_law_k", 1)]) (g := (gName 1)) (tt := tYes) (by rfl) sc_law.nd (pi_range1 (by rfl) T.range_ (pa_cons (pe_op op_add pe_int (pe_callB (call_min2 rfl) (by rfl) T.min_ (by decide +kernel) (pa_cons pe_int (pa_cons (pe_callB call_len_seq (by rfl) T.len_ PySem.boot_len (pa_cons (pv 0) pa_nil)) pa_nil)))) pa_nil)) (blkOk_by (own := [("_law_k", 1)]) (N := (["_law_script", "_law_k"] : List Str)) (sc := defScope s_law) (by decide +kernel)) (fun _ _ _ _ _ => (pg_name (i := 1) sc_law.nd rfl (.inl rfl))) (fun _ _ _ _ _ => pts_nil) (fun _ _ _ _ _ => (pe_fnG O__law_right (hr.mono (by omega)) hG (pa_cons (pe_fn O__law_box (hr.mono (by omega)) (pa_cons (pv 0) (pa_cons (pv 1) pa_nil))) pa_nil)))) pa_nil)))), ?_⟩
    refine ⟨_, rfl, a, _, rfl, .inl hS, _, _, rfl, 1, _, rfl, rfl, _, rfl, ?_, ?_, fun C nC => ?_⟩
    · split <;> omega
    · rw [List.length_map]
      split <;> omega
    rw [List.length_map]
    generalize en : (1 + if (ns.length : Int) < 3 then (ns.length : Int) else 3).toNat = n
    have hn : n ≤ 4 := by
      rw [← en]
      split <;> omega
    refine lc_range (fun i H' => ExtN H H' ∧ Tabs Tl H' ∧ H' C = some (.lst ((List.replicate i true).map V.bl))) ⟨ext_same (same_new nC), hT.ext (same_new nC), upd_same⟩ ?_ ?_
    · rintro i H1 hi ⟨sm, tm, hC⟩
      refine ⟨rfl, tyes (iteT ?_)⟩
      refine ⟨_, rfl, _, rfl, a, ns, i, ?_, by omega, ext_seq sm hS, fun b xs nb bx => ?_⟩
      · show [V.ref a, V.int (0 + (i : Int))] = _
        rw [Int.zero_add]
      refine ⟨b, rfl, (BoxAt.put bx).mono (by decide), tm.ext (same_new nb), fun H2 u2 t2 => ?_⟩
      have nCb : C ≠ b := ne_of_none hC nb
      have hC2 := u2 _ _ nCb (by rw [upd_ne nCb]; exact hC) fun _ z => by cases z
      refine ⟨_, hC2, ?_, fun p o ho no => ?_, tabs_put t2 ⟨_, hC2⟩, ?_⟩
      · rw [List.length_map, List.length_replicate]
        exact small1000 (by omega)
      · have h1 := sm _ _ ho no
        have npb : p ≠ b := ne_of_none h1 nb
        rw [upd_ne (ne_of_none ho nC)]
        exact u2 _ _ npb (by rw [upd_ne npb]; exact h1) no
      · rw [upd_same, List.replicate_succ', List.map_append]
        rfl
    · rintro H1 ⟨sm, tm, hC⟩
      refine ⟨C, _, rfl, SqL.of hC, ?_⟩
      have e : (List.replicate n true).all id = true := by simp
      rw [e]
      exact q _
theorem law_endT {k : Nat} {fa : Addr} {sp : Sp} {cs : List (Addr × Addr)} (D : Df K mg "law" s_law) (hfa : mg "law" = some (.ref fa)) (O : ∀ bs, (∀ p ∈ cs, TabB bs mg p.1 p.2) → OkG P w K mg bs k "law" s_law ["_law_script"] sp) :
    ∃ fd : FuncData, (∀ (s : Shared) (v : Value), BindsTo s fd ⟨[v], []⟩ [("_law_script", v)]) ∧ ∀ bs : Heap, K.In bs → bs.Ns mainGlobals mg → (∀ p ∈ cs, TabB bs mg p.1 p.2) → FnG P w K mg bs k fa fd ["_law_script"] sp := by
  obtain ⟨f, fd, F, g⟩ := D.ex
  obtain rfl : fa = f := by
    have e := hfa.symm.trans g
    cases e
    rfl
  refine ⟨fd, fun s v => ?_, fun bs _ _ tb => ?_⟩
  · obtain ⟨oc, od, kV, doc, pm, an, cdv, ct, osl, rfl, lk, hcd⟩ := F.ex
    exact .of_eq (b_law kV doc pm an cdv ct [v] rfl)
  · obtain ⟨f', fd', F', g', _, G⟩ := (O bs tb).ex
    obtain rfl : fa = f' := by
      have e := g.symm.trans g'
      cases e
      rfl
    obtain ⟨_, _, _, _, _, _, _, _, _, _, lk, _⟩ := F.ex
    obtain ⟨_, _, _, _, _, _, _, _, _, _, lk', _⟩ := F'.ex
    have e := lk.symm.trans lk'
    cases e
    exact G
end
end Sh
namespace Sh
open PySem PySem.Spec PyProof.Rows L2 LamX
section
variable {l : PySem.W.OpenLaw} {w : World} {K : PySem.W.Frag} {mg : Str → Option Value} {h : Heap} {fa : Addr} {k : Nat}
theorem tabs_nil {H : Hp} {T : List (Addr × Str)} (z : ∀ q ∈ T, H q.1 = some (.tbl #[])) : Tabs T H := fun q hq => TabS.nil (z q hq)
/-- the law's end, one def that makes a lambda -/
theorem one_tab {n : Nat} {as ts : List Addr} (hn : n ≤ 63) {x q : Str} {st : Stmt} {c Pt : Addr} (L : DfL K mg h x st c Pt) (in_ : Pt ∈ ts ∧ Pt ∉ as) (D : Df K mg "law" s_law) (hfa : mg "law" = some (.ref fa))
    (build : ∀ bs, TabB bs mg c Pt → OkG l.prog w K mg bs k "law" s_law ["_law_script"] (spLawT [(Pt, q)] K)) :
    ∃ (fd : FuncData) (cs : List (Addr × Addr)) (sp : Sp), (∀ p ∈ cs, (p.2 ∈ ts ∧ p.2 ∉ as) ∧ PySem.W.CodeHd h p.1 p.2) ∧ (∀ (s : Shared) (u : Value), BindsTo s fd ⟨[u], []⟩ [("_law_script", u)]) ∧
      (∀ (H : Hp) (a : Addr) (ns : List Int), ns.length ≤ n → (∀ p ∈ cs, H p.2 = some (.tbl #[])) → SqL K H a (ns.map V.int) → sp [.ref a] H (fun v _ => v = .bl true) fun _ _ _ => False) ∧
      ∀ bs : Heap, K.In bs → bs.Ns mainGlobals mg → (∀ p ∈ cs, TabB bs mg p.1 p.2) → FnG l.prog w K mg bs k fa fd ["_law_script"] sp := by
  obtain ⟨fd, bnd, go⟩ := law_endT (cs := [(c, Pt)]) D hfa fun bs tb => build bs (tb _ (List.mem_singleton.mpr rfl))
  refine ⟨fd, [(c, Pt)], _, fun p hp => by rw [List.mem_singleton.mp hp]; exact ⟨in_, L.code⟩, bnd, fun H a ns hl hT hS => ⟨a, ns, rfl, hS, by omega, tabs_nil fun z hz => ?_, fun _ => rfl⟩, go⟩
  rw [List.mem_singleton.mp hz]
  exact hT (c, Pt) (List.mem_singleton.mpr rfl)
theorem two_tab {n : Nat} {as ts : List Addr} (hn : n ≤ 63) {x1 x2 q1 q2 : Str} {st1 st2 : Stmt} {c1 c2 P1 P2 : Addr} (L1 : DfL K mg h x1 st1 c1 P1) (L2 : DfL K mg h x2 st2 c2 P2) (in1 : P1 ∈ ts ∧ P1 ∉ as) (in2 : P2 ∈ ts ∧ P2 ∉ as) (D : Df K mg "law" s_law) (hfa : mg "law" = some (.ref fa))
    (build : ∀ bs, TabB bs mg c1 P1 → TabB bs mg c2 P2 → OkG l.prog w K mg bs k "law" s_law ["_law_script"] (spLawT [(P1, q1), (P2, q2)] K)) :
    ∃ (fd : FuncData) (cs : List (Addr × Addr)) (sp : Sp), (∀ p ∈ cs, (p.2 ∈ ts ∧ p.2 ∉ as) ∧ PySem.W.CodeHd h p.1 p.2) ∧ (∀ (s : Shared) (u : Value), BindsTo s fd ⟨[u], []⟩ [("_law_script", u)]) ∧
      (∀ (H : Hp) (a : Addr) (ns : List Int), ns.length ≤ n → (∀ p ∈ cs, H p.2 = some (.tbl #[])) → SqL K H a (ns.map V.int) → sp [.ref a] H (fun v _ => v = .bl true) fun _ _ _ => False) ∧
      ∀ bs : Heap, K.In bs → bs.Ns mainGlobals mg → (∀ p ∈ cs, TabB bs mg p.1 p.2) → FnG l.prog w K mg bs k fa fd ["_law_script"] sp := by
  obtain ⟨fd, bnd, go⟩ := law_endT (cs := [(c1, P1), (c2, P2)]) D hfa fun bs tb => build bs (tb (c1, P1) (by simp)) (tb (c2, P2) (by simp))
  refine ⟨fd, [(c1, P1), (c2, P2)], _, fun p hp => ?_, bnd, fun H a ns hl hT hS => ⟨a, ns, rfl, hS, by omega, tabs_nil fun z hz => ?_, fun _ => rfl⟩, go⟩
  · rcases List.mem_cons.mp hp with e | e
    · rw [e]
      exact ⟨in1, L1.code⟩
    · rw [List.mem_singleton.mp e]
      exact ⟨in2, L2.code⟩
  · rcases List.mem_cons.mp hz with e | e
    · rw [e]
      exact hT (c1, P1) (by simp)
    · rw [List.mem_singleton.mp e]
      exact hT (c2, P2) (by simp)
end
end Sh

open PySem PySem.W PyProof.Rows
set_option maxHeartbeats 0 in
theorem PySem.Challenge.cw_shoalmates_k41_how_deep_sets_each_free_holds : PySem.Challenge.rw_shoalmates_k41_how_deep_sets_each_free.Holds := by
  w_on; o_law; k_head; (case hw => w_witness2)
  k_fill
  refine Sh.walk_ofGT (l := PySem.Challenge.rw_shoalmates_k41_how_deep_sets_each_free) (n := 63) (k := 13) (x := "_law_script") rfl (by decide) rfl ⟨rfl, by decide, by decide⟩ ?F
  case F =>
    intro w mg fa h KX G hmg
    have T : Sh.Bt mg := by
      constructor <;> (refine PySem.W.mg_none_of KX G ?_; k_is)
    refine' Sh.with_cn KX G ?a ?b ?c fun C => ?_
    (case a => k_is); (case b => k_is); (case c => k_is)
    refine' Sh.with_chH KX G ?a fun Ch => ?_
    (case a => k_is)
    refine' Sh.with_df (x := "mark_of") (st := Sh.s_mark_of) KX G ?a ?l ?c ?k fun D_mark_of => ?_
    (case a => k_is); (case l => k_is); (case c => k_is); (case k => k_is)
    refine' Sh.with_df (x := "top_of") (st := Sh.s_top_of) KX G ?a ?l ?c ?k fun D_top_of => ?_
    (case a => k_is); (case l => k_is); (case c => k_is); (case k => k_is)
    refine' Sh.with_df (x := "fleet_of") (st := Sh.s_fleet_of) KX G ?a ?l ?c ?k fun D_fleet_of => ?_
    (case a => k_is); (case l => k_is); (case c => k_is); (case k => k_is)
    refine' Sh.with_df (x := "turned_fleet") (st := Sh.s_turned_fleet) KX G ?a ?l ?c ?k fun D_turned_fleet => ?_
    (case a => k_is); (case l => k_is); (case c => k_is); (case k => k_is)
    refine' Sh.with_df (x := "ships_many") (st := Sh.s_ships_many) KX G ?a ?l ?c ?k fun D_ships_many => ?_
    (case a => k_is); (case l => k_is); (case c => k_is); (case k => k_is)
    refine' Sh.with_df (x := "mark_in") (st := Sh.s_mark_in) KX G ?a ?l ?c ?k fun D_mark_in => ?_
    (case a => k_is); (case l => k_is); (case c => k_is); (case k => k_is)
    refine' Sh.with_df (x := "top_in") (st := Sh.s_top_in) KX G ?a ?l ?c ?k fun D_top_in => ?_
    (case a => k_is); (case l => k_is); (case c => k_is); (case k => k_is)
    refine' Sh.with_df (x := "filled_at") (st := Sh.s_filled_at) KX G ?a ?l ?c ?k fun D_filled_at => ?_
    (case a => k_is); (case l => k_is); (case c => k_is); (case k => k_is)
    refine' Sh.with_df (x := "low_stop") (st := Sh.s_low_stop) KX G ?a ?l ?c ?k fun D_low_stop => ?_
    (case a => k_is); (case l => k_is); (case c => k_is); (case k => k_is)
    refine' Sh.with_df (x := "lot_of") (st := Sh.s_lot_of) KX G ?a ?l ?c ?k fun D_lot_of => ?_
    (case a => k_is); (case l => k_is); (case c => k_is); (case k => k_is)
    refine' Sh.with_df (x := "moving_mark") (st := Sh.s_moving_mark) KX G ?a ?l ?c ?k fun D_moving_mark => ?_
    (case a => k_is); (case l => k_is); (case c => k_is); (case k => k_is)
    refine' Sh.with_df (x := "movers_of") (st := Sh.s_movers_of) KX G ?a ?l ?c ?k fun D_movers_of => ?_
    (case a => k_is); (case l => k_is); (case c => k_is); (case k => k_is)
    refine' Sh.with_df (x := "deepened") (st := Sh.s_deepened) KX G ?a ?l ?c ?k fun D_deepened => ?_
    (case a => k_is); (case l => k_is); (case c => k_is); (case k => k_is)
    refine' Sh.with_df (x := "most_needed") (st := Sh.s_most_needed) KX G ?a ?l ?c ?k fun D_most_needed => ?_
    (case a => k_is); (case l => k_is); (case c => k_is); (case k => k_is)
    refine' Sh.with_df (x := "least_of") (st := Sh.s_least_of) KX G ?a ?l ?c ?k fun D_least_of => ?_
    (case a => k_is); (case l => k_is); (case c => k_is); (case k => k_is)
    refine' Sh.with_dfL (x := "least_freeing") (st := Sh.s_least_freeing) KX G ?a ?l ?c ?k ?m ?s fun L_least_freeing => ?_
    (case a => k_is); (case l => k_is); (case c => k_is); (case k => k_is); (case m => k_is); (case s => exact ⟨_, _, _, _, _, _, _, _, rfl, rfl, rfl, rfl, rfl, rfl, rfl, rfl, by decide⟩)
    refine' Sh.with_df (x := "freed_by") (st := Sh.s_freed_by) KX G ?a ?l ?c ?k fun D_freed_by => ?_
    (case a => k_is); (case l => k_is); (case c => k_is); (case k => k_is)
    refine' Sh.with_df (x := "_law_cell_at") (st := Sh.s__law_cell_at) KX G ?a ?l ?c ?k fun D__law_cell_at => ?_
    (case a => k_is); (case l => k_is); (case c => k_is); (case k => k_is)
    refine' Sh.with_df (x := "_law_box") (st := Sh.s__law_box) KX G ?a ?l ?c ?k fun D__law_box => ?_
    (case a => k_is); (case l => k_is); (case c => k_is); (case k => k_is)
    refine' Sh.with_df (x := "_law_take") (st := Sh.s__law_take) KX G ?a ?l ?c ?k fun D__law_take => ?_
    (case a => k_is); (case l => k_is); (case c => k_is); (case k => k_is)
    refine' Sh.with_df (x := "_law_of") (st := Sh.s__law_of) KX G ?a ?l ?c ?k fun D__law_of => ?_
    (case a => k_is); (case l => k_is); (case c => k_is); (case k => k_is)
    refine' Sh.with_df (x := "_law_same") (st := Sh.s__law_same) KX G ?a ?l ?c ?k fun D__law_same => ?_
    (case a => k_is); (case l => k_is); (case c => k_is); (case k => k_is)
    refine' Sh.with_df (x := "_law_sea") (st := Sh.s__law_sea) KX G ?a ?l ?c ?k fun D__law_sea => ?_
    (case a => k_is); (case l => k_is); (case c => k_is); (case k => k_is)
    refine' Sh.with_df (x := "_law_lot") (st := Sh.s__law_lot) KX G ?a ?l ?c ?k fun D__law_lot => ?_
    (case a => k_is); (case l => k_is); (case c => k_is); (case k => k_is)
    refine' Sh.with_df (x := "_law_lets") (st := Sh.s__law_lets) KX G ?a ?l ?c ?k fun D__law_lets => ?_
    (case a => k_is); (case l => k_is); (case c => k_is); (case k => k_is)
    refine' Sh.with_df (x := "_law_gone") (st := Sh.s__law_gone) KX G ?a ?l ?c ?k fun D__law_gone => ?_
    (case a => k_is); (case l => k_is); (case c => k_is); (case k => k_is)
    refine' Sh.with_df (x := "_law_layers") (st := Sh.s__law_layers) KX G ?a ?l ?c ?k fun D__law_layers => ?_
    (case a => k_is); (case l => k_is); (case c => k_is); (case k => k_is)
    refine' Sh.with_df (x := "_law_deeper") (st := Sh.s__law_deeper) KX G ?a ?l ?c ?k fun D__law_deeper => ?_
    (case a => k_is); (case l => k_is); (case c => k_is); (case k => k_is)
    refine' Sh.with_df (x := "_law_movers") (st := Sh.s__law_movers) KX G ?a ?l ?c ?k fun D__law_movers => ?_
    (case a => k_is); (case l => k_is); (case c => k_is); (case k => k_is)
    refine' Sh.with_df (x := "_law_due") (st := Sh.s__law_due) KX G ?a ?l ?c ?k fun D__law_due => ?_
    (case a => k_is); (case l => k_is); (case c => k_is); (case k => k_is)
    refine' Sh.with_df (x := "_law_right") (st := Sh.s__law_right) KX G ?a ?l ?c ?k fun D__law_right => ?_
    (case a => k_is); (case l => k_is); (case c => k_is); (case k => k_is)
    refine' Sh.with_df (x := "law") (st := Sh.s_law) KX G ?a ?l ?c ?k fun D_law => ?_
    (case a => k_is); (case l => k_is); (case c => k_is); (case k => k_is)
    exact Sh.one_tab (q := "least_freeing.<locals>.<lambda>") (by decide) L_least_freeing ⟨by decide, by decide⟩ D_law hmg fun base tb =>
      let O__law_take := Sh.ok_take (base := base) (k := 0) D__law_take T
      let O__law_cell_at := Sh.ok_cell_at (base := base) (k := 0) D__law_cell_at T
      let O__law_box := Sh.ok_box (k := 1) D__law_box T O__law_cell_at
      let O__law_of := Sh.ok_of (k := 1) D__law_of T O__law_take
      let O__law_sea := Sh.ok_sea (k := 2) D__law_sea T (O__law_take.mono (by decide)) O__law_of
      let O__law_lot := Sh.ok_lot (k := 2) D__law_lot T (O__law_take.mono (by decide)) O__law_of
      let O__law_lets := Sh.ok_lets (base := base) (k := 0) D__law_lets T
      let O__law_gone := Sh.ok_gone (base := base) (k := 0) D__law_gone T
      let O_mark_of := Sh.ok_mark_of (base := base) (k := 0) D_mark_of T
      let O_top_of := Sh.ok_top_of (base := base) (k := 0) D_top_of T
      let O_ships_many := Sh.ok_ships (base := base) (k := 0) D_ships_many T
      let O_mark_in := Sh.ok_mark_in (k := 1) D_mark_in T O_mark_of O_ships_many
      let O_top_in := Sh.ok_top_in (k := 1) D_top_in T O_top_of O_ships_many
      let O_filled_at := Sh.ok_filled (k := 2) D_filled_at T O_mark_in
      let O_low_stop := Sh.ok_low_stop (k := 3) D_low_stop T O_filled_at
      let O_turned_fleet := Sh.ok_turned_fleet (base := base) (k := 0) D_turned_fleet T
      let O_lot_of := Sh.ok_lot_of (k := 4) D_lot_of T C (O_ships_many.mono (by decide)) (O_top_in.mono (by decide)) O_low_stop (O_turned_fleet.mono (by decide))
      let O_moving_mark := Sh.ok_moving (k := 2) D_moving_mark T C (O_ships_many.mono (by decide)) O_mark_in
      let O_fleet_of := Sh.ok_fleet_of (base := base) (k := 0) D_fleet_of T
      let O_movers_of := Sh.ok_movers (k := 5) D_movers_of T (O_moving_mark.mono (by decide)) O_lot_of (O_fleet_of.mono (by decide))
      let Ode := Sh.ok_deep (base := base) (k := 0) D_deepened T Ch
      let One := Sh.ok_needed (base := base) (k := 0) D_most_needed T Ch
      let Olo := Sh.ok_least_of (base := base) (k := 8) (j := 8) D_least_of T (by decide)
      let Olf := Sh.ok_least_freeing (k := 9) (j := 7) L_least_freeing.df tb (List.mem_singleton.mpr rfl) (fun q hq _ => by rw [List.mem_singleton.mp hq]) Olo (O_movers_of.mono (by decide)) (Ode.mono (by decide)) (One.mono (by decide))
      let Ofb := Sh.ok_freed_by (k := 10) D_freed_by T Olf
      let Oly := Sh.ok_layers (k := 1) D__law_layers T O__law_lets O__law_gone
      let Olm := Sh.ok_lmovers (k := 2) D__law_movers T Oly (O__law_lets.mono (by decide))
      let Odp := Sh.ok_deeper (base := base) (k := 0) D__law_deeper T
      let Odu := Sh.ok_due (k := 3) D__law_due T (Odp.mono (by decide)) (Olm.mono (by decide))
      Sh.ok_lawT (k := 12) D_law T (O__law_box.mono (by decide)) (Sh.ok_right (k := 11) D__law_right T (O__law_sea.mono (by decide)) (O__law_lot.mono (by decide)) (Odu.mono (by decide)) (Olm.mono (by decide)) ((Sh.ok_same D__law_same T 4).mono (by decide)) (Ofb.mono (by decide)))
