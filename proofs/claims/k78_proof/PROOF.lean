import PyProof.Rows.All
import Wide.All
import OpenK.AllK
import Wide.FinOn
import KE.GoesEnum
import HandS.ForMost
import HandS.Walk
import HandS.Zip
import HandS.IsInst
import HandS.NoneIn
import HandS.SortInts
import HandS.Evl
import HandS.Conv
import HandS.Style
import HandS.Star
import HandS.More
import HandS.Strs
import HandS.SetFor
import HandS.Wide
import HandS.TupSets
import HandS.SortOrd
import KE.KDictSum
import KE.KTupSum
import HandS.TupAny
import PyProof.TupleOfSeq
import PySem.Challenge.RW_shoalmates_k78_whole_fleets_told_otherwi
set_option Elab.async false
set_option linter.all false
set_option maxRecDepth 100000
set_option maxHeartbeats 1000000
/-! Own layer over the hand layer: sequences (a list or a tuple), enumerate of a tuple, defs by one fact each, what is told kept under a growing heap. -/
namespace Sh
open PySem PySem.Spec PyProof.Rows L2

/-! ### heaps -/
theorem same_new {H : Hp} {p : Addr} {o : HO} (h : H p = none) : Same H (upd H p o) := fun b x e => by
  rw [upd_ne (ne_of_none e h)]
  exact e
theorem Same.tup {K : PySem.W.Frag} {H H' : Hp} {a : Addr} {xs : List V} (e : Same H H') (h : SqT K H a xs) : SqT K H' a xs := by
  rcases h with (h | ⟨o, h⟩) | h
  · exact .inl (.inl (e _ _ h))
  · exact .inl (.inr ⟨o, e _ _ h⟩)
  · exact .inr h
/-- a list or a tuple of xs is to be read at a -/
def SqA (K : PySem.W.Frag) (H : Hp) (a : Addr) (xs : List V) : Prop := SqL K H a xs ∨ SqT K H a xs
theorem Same.sqA {K : PySem.W.Frag} {H H' : Hp} {a : Addr} {xs : List V} (e : Same H H') (h : SqA K H a xs) : SqA K H' a xs := h.elim (fun q => .inl (e.seq q)) fun q => .inr (Same.tup e q)
theorem SqA.l {K : PySem.W.Frag} {H : Hp} {a : Addr} {xs : List V} (h : H a = some (.lst xs)) : SqA K H a xs := .inl (SqL.of h)
theorem SqA.t {K : PySem.W.Frag} {H : Hp} {a : Addr} {xs : List V} (h : H a = some (.tup xs)) : SqA K H a xs := .inr (SqT.of h)
/-- nothing but b has changed of what was tracked -/
def But (b : Addr) (H H' : Hp) : Prop := ∀ a o, a ≠ b → H a = some o → H' a = some o
theorem But.refl (b : Addr) (H : Hp) : But b H H := fun _ _ _ e => e
theorem But.trans {b : Addr} {H H1 H2 : Hp} (x : But b H H1) (y : But b H1 H2) : But b H H2 := fun a o n e => y a o n (x a o n e)
theorem Same.but {b : Addr} {H H' : Hp} (e : Same H H') : But b H H' := fun a o _ h => e a o h
theorem But.ups {b : Addr} {H : Hp} {o : HO} : But b H (upd H b o) := fun a x n e => by rw [upd_ne n]; exact e
theorem But.same {b : Addr} {G H H' : Hp} (x : But b H H') (g : Same G H) (n : G b = none) : Same G H' := fun a o e => x a o (ne_of_none e n) (g a o e)

section
variable {K : PySem.W.Frag} {H H' : Hp}
mutual
theorem Dp.same (e : Same H H') : ∀ {v : V} {d : PyData}, Dp K H v d → Dp K H' v d
  | _, _, .non => .non
  | _, _, .bl b => .bl b
  | _, _, .int i => .int i
  | _, _, .str x => .str x
  | _, _, .lst h a => .lst (e.seq h) (DpAll.same e a)
  | _, _, .tup h a => .tup (Same.tup e h) (DpAll.same e a)
theorem DpAll.same (e : Same H H') : ∀ {vs : List V} {ds : List PyData}, DpAll K H vs ds → DpAll K H' vs ds
  | _, _, .nil => .nil
  | _, _, .cons h a => .cons (Dp.same e h) (DpAll.same e a)
end
theorem DpAll.ints : ∀ ns : List Int, DpAll K H (ns.map V.int) (ns.map PyData.int)
  | [] => .nil
  | n :: ns => .cons (.int n) (DpAll.ints ns)
theorem DpAll.len : ∀ {vs : List V} {ds : List PyData}, DpAll K H vs ds → vs.length = ds.length
  | _, _, .nil => rfl
  | _, _, .cons _ a => congrArg Nat.succ (DpAll.len a)
theorem DpAll.get : ∀ {vs : List V} {ds : List PyData} {i : Nat} {v : V}, DpAll K H vs ds → vs[i]? = some v → ∃ d, ds[i]? = some d ∧ Dp K H v d
  | _, _, _, _, .nil, h => by simp at h
  | _, _, 0, _, .cons x _, h => by
    cases Option.some.inj h
    exact ⟨_, rfl, x⟩
  | _, _, i + 1, _, .cons _ a, h => DpAll.get (i := i) a h
end

/-! ### rules for a list or a tuple -/
section
variable {X : Cx}
def rIxA (K : PySem.W.Frag) : R2 := fun x y H Q => ∃ p xs i v, x = .ref p ∧ y = .int i ∧ SqA K H p xs ∧ atI xs i = some v ∧ Q v H
theorem ix_lt : IxR X (rIxA X.K) := fun value slice pins s σ H x y v u Q I rx ry h hs => by
  obtain ⟨p, xs, i, z, e1, e2, hq | hq, he, q⟩ := h
  · exact ix_list value slice pins s σ H x y v u Q I rx ry ⟨p, xs, i, z, e1, e2, hq, he, q⟩ hs
  · exact ix_tup value slice pins s σ H x y v u Q I rx ry ⟨p, xs, i, z, e1, e2, hq, he, q⟩ hs
/-- a written power, its worth written -/
theorem op_powC (v : Int) : OpR X (binaryOp .Pow) (rI (fun i j => CPow i j ∧ i ^ j.toNat = v) fun _ _ => .int v) := fun pins s σ H x y u w Q I rx ry h => by
  obtain ⟨i, j, e1, e2, ⟨hc, hv⟩, q⟩ := h
  exact op_pow pins s σ H x y u w Q I rx ry ⟨i, j, e1, e2, hc, show Q (.int (i ^ j.toNat)) H by rw [hv]; exact q⟩
/-- a < b < c < d -/
def tChain3 (r r' r'' : R2) (ta tb tc td : TE) : TE := fun σ H Q => ta σ H fun x H1 => tb σ H1 fun y H2 => r x y H2 fun z H3 => ∃ k, z = .bl k ∧
  (if k = true then tc σ H3 fun y' H4 => r' y y' H4 fun z' H5 => ∃ k', z' = .bl k' ∧ (if k' = true then td σ H5 fun y'' H6 => r'' y' y'' H6 Q else Q (.bl false) H5) else Q (.bl false) H3)
theorem pe_chain3 {a b c d : Expr} {ta tb tc td : TE} {pos : Pos} {op op' op'' : CmpOp} {r r' r'' : R2} (ho : OpR X (compareOp op) r) (ho' : OpR X (compareOp op') r') (ho'' : OpR X (compareOp op'') r'') (ha : PE X a ta) (hb : PE X b tb) (hc : PE X c tc) (hd : PE X d td)
    (hm : lastMarks [op, op', op''] [b, c, d] = false := by with_unfolding_all rfl) : PE X (.Compare a [op, op', op''] [b, c, d] pos) (tChain3 r r' r'' ta tb tc td) := by
  refine ⟨fun pins s σ H Q I h => ?_⟩
  refine Compare_chain (thn (ha.run pins s σ H _ I h) fun v s1 ⟨x, H1, I1, r1, q1⟩ => chain_link (thn (hb.run pins s1 σ H1 _ I1 q1) fun u s2 ⟨y, H2, I2, r2, q2⟩ =>
    thn (ho pins s2 σ H2 x y v u _ I2 r1 r2 q2) fun e s3 ⟨z, H3, I3, r3, k, ez, q3⟩ => ?_)) hm
  subst ez
  cases r3
  refine wpAny_truthy_bool ?_
  cases k with
  | false => exact ite_ff ⟨.bl false, H3, I3, rfl, q3⟩
  | true =>
    refine ite_tt (chain_link (thn (hc.run pins s3 σ H3 _ I3 q3) fun u' s4 ⟨y', H4, I4, r4, q4⟩ => thn (ho' pins s4 σ H4 y y' u u' _ I4 r2 r4 q4) fun e s5 ⟨z', H5, I5, r5, k', ez', q5⟩ => ?_))
    subst ez'
    cases r5
    refine wpAny_truthy_bool ?_
    cases k' with
    | false => exact ite_ff ⟨.bl false, H5, I5, rfl, q5⟩
    | true => exact ite_tt (chain_last (thn (hd.run pins s5 σ H5 _ I5 q5) fun w' s6 ⟨y'', H6, I6, r6, q6⟩ => ho'' pins s6 σ H6 y' y'' u' w' Q I6 r4 r6 q6))
theorem pt_chain3 {a b c d : Expr} {ta tb tc td : TE} {pos : Pos} {op op' op'' : CmpOp} {r r' r'' : R2} (ho : OpR X (compareOp op) r) (ho' : OpR X (compareOp op') r') (ho'' : OpR X (compareOp op'') r'') (ha : PE X a ta) (hb : PE X b tb) (hc : PE X c tc) (hd : PE X d td)
    (hm : lastMarks [op, op', op''] [b, c, d] = false := by with_unfolding_all rfl) : PT X (.Compare a [op, op', op''] [b, c, d] pos) (tTest (tChain3 r r' r'' ta tb tc td)) := by
  refine ⟨fun pins s σ H Q I h => ?_⟩
  refine isTrue_chain (thn (ha.run pins s σ H _ I h) fun v s1 ⟨x, H1, I1, r1, q1⟩ => test_link (thn (hb.run pins s1 σ H1 _ I1 q1) fun u s2 ⟨y, H2, I2, r2, q2⟩ =>
    thn (ho pins s2 σ H2 x y v u _ I2 r1 r2 q2) fun e s3 ⟨z, H3, I3, r3, k, ez, q3⟩ => ?_)) hm
  subst ez
  cases r3
  refine wpAny_truthy_bool ?_
  cases k with
  | false =>
    obtain ⟨k', e', q'⟩ := q3
    cases e'
    exact ite_ff ⟨H3, I3, q'⟩
  | true =>
    refine ite_tt (test_link (thn (hc.run pins s3 σ H3 _ I3 q3) fun u' s4 ⟨y', H4, I4, r4, q4⟩ => thn (ho' pins s4 σ H4 y y' u u' _ I4 r2 r4 q4) fun e s5 ⟨z', H5, I5, r5, k', ez', q5⟩ => ?_))
    subst ez'
    cases r5
    refine wpAny_truthy_bool ?_
    cases k' with
    | false =>
      obtain ⟨k', e', q'⟩ := q5
      cases e'
      exact ite_ff ⟨H5, I5, q'⟩
    | true =>
      refine ite_tt (test_last (thn (hd.run pins s5 σ H5 _ I5 q5) fun w' s6 ⟨y'', H6, I6, r6, q6⟩ => thn (ho'' pins s6 σ H6 y' y'' u' w' _ I6 r4 r6 q6) fun e s7 ⟨z2, H7, I7, r7, k2, e2, q7⟩ => ?_))
      subst e2
      cases r7
      exact wpAny_truthy_bool ⟨H7, I7, q7⟩
/-- the same, the written part by its own name (within a comprehension) -/
theorem ix_ltK (K : PySem.W.Frag) (hK : X.K = K := by rfl) : IxR X (rIxA K) := hK ▸ ix_lt
theorem call_lenK (K : PySem.W.Frag) (hK : X.K = K := by rfl) : CallR X (.builtin "len") (fun xs H Q => ∃ p ys, xs = [.ref p] ∧ (SqL K H p ys ∨ SqT K H p ys) ∧ Q (.int ys.length) H) := hK ▸ call_len_seq
theorem op_inK (K : PySem.W.Frag) (hK : X.K = K := by rfl) : OpR X (compareOp .In) (rIn K false) := hK ▸ op_in_seq
theorem op_notInK (K : PySem.W.Frag) (hK : X.K = K := by rfl) : OpR X (compareOp .NotIn) (rIn K true) := hK ▸ op_notIn_seq
def gSeq (K : PySem.W.Frag) (n : Nat) (t : TGs) : TG := fun v σ H Q => ∃ a xs, v = .ref a ∧ SqA K H a xs ∧ xs.length = n ∧ t xs σ H Q
theorem pg_seq {es : List Expr} {k : Nat} {t : TGs} {n : Nat} {pos : Pos} (hc : X.calm = true) (h : PGs X es t)
    (hn : (assignEach es X.env).length = n := by rfl) (hst : (assignEach es X.env).findIdx? (·.1) = none := by rfl) : PG X (.Tuple es k pos) (gSeq X.K n t) := by
  refine ⟨fun pins s σ H v u Q I r hw => ?_⟩
  obtain ⟨a, xs, e1, hq | hq, hl, hw⟩ := hw
  · exact (pg_unl hc h hn hst).run pins s σ H v u Q I r ⟨a, xs, e1, hq, hl, hw⟩
  · exact (pg_tup hc h hn hst).run pins s σ H v u Q I r ⟨a, xs, e1, hq, hl, hw⟩
/-- what stands at a stands -/
def Kp (a : Addr) (H H' : Hp) : Prop := ∀ o, H a = some o → H' a = some o
theorem Kp.ofS {a : Addr} {H H' : Hp} (e : Same H H') : Kp a H H' := fun o h => e a o h
theorem Kp.ofB {a b : Addr} {H H' : Hp} (e : But b H H') (n : a ≠ b) : Kp a H H' := fun o h => e a o n h
theorem Kp.refl (a : Addr) (H : Hp) : Kp a H H := fun _ h => h
theorem Kp.sl {K : PySem.W.Frag} {a : Addr} {xs : List V} {H H' : Hp} (k : Kp a H H') (h : SqL K H a xs) : SqL K H' a xs := by
  rcases h with (h | ⟨o, h⟩) | h
  · exact .inl (.inl (k _ h))
  · exact .inl (.inr ⟨o, k _ h⟩)
  · exact .inr h
theorem Kp.st {K : PySem.W.Frag} {a : Addr} {xs : List V} {H H' : Hp} (k : Kp a H H') (h : SqT K H a xs) : SqT K H' a xs := by
  rcases h with (h | ⟨o, h⟩) | h
  · exact .inl (.inl (k _ h))
  · exact .inl (.inr ⟨o, k _ h⟩)
  · exact .inr h
theorem Kp.sa {K : PySem.W.Frag} {a : Addr} {xs : List V} {H H' : Hp} (k : Kp a H H') (h : SqA K H a xs) : SqA K H' a xs := h.elim (fun q => .inl (k.sl q)) fun q => .inr (k.st q)
/-- the walk over what stood at a in H0 -/
def ItA (K : PySem.W.Frag) (H0 : Hp) (a : Addr) (xs : List V) (J : It) : Prop := (J = Itl K a ∧ SqL K H0 a xs) ∨ (J = Itt K a ∧ SqT K H0 a xs)
def iSeq (K : PySem.W.Frag) (tl : TE) : TI := fun σ H R => tl σ H fun x H1 => ∃ (a : Addr) (xs : List V) (H0 : Hp), x = .ref a ∧ SqA K H0 a xs ∧ Kp a H0 H1 ∧ ∀ J, ItA K H0 a xs J → R J H1
theorem pi_seq {tg l : Expr} {tl : TE} (hl : PE X l tl) : PI X tg l (iSeq X.K tl) := by
  refine ⟨fun pins s σ H R I h => ?_⟩
  refine thn (hl.run pins s σ H _ I h) fun v s1 ⟨x, H1, I1, r1, q1⟩ => ?_
  obtain ⟨a, xs, H0, e, hq | hq, hk, q⟩ := q1
  · replace q := q _ (.inl ⟨rfl, hq⟩)
    replace hq := hk.sl hq
    subst e
    cases r1
    obtain ⟨its, rv, p, hz⟩ := I1.list hq
    refine wpAny_pyIter_list p.isList ?_
    refine ⟨s1.heap.objs.size, [s1.heap.objs.size], _, _, H1, rfl, I1.kept (t' := s1.toks) fun b o e => Heap.get?_push_of_some _ e, turn_list a _, ⟨_, Heap.get?_push_size _ rfl, rfl, rfl⟩, fun b hb => ?_, q⟩
    have e : b = s1.heap.objs.size := by simpa using hb
    subst e
    exact I1.fpOk (Nat.le_refl _) (I1.hok.fresh (Nat.le_refl _))
  · replace q := q _ (.inr ⟨rfl, hq⟩)
    replace hq := hk.st hq
    subst e
    cases r1
    obtain ⟨its, rv, p, hz⟩ := I1.tuple hq
    refine wpAny_pyIter_tuple (show s1.heap.IsTuple a its.toArray from p) ?_
    refine ⟨s1.heap.objs.size, [s1.heap.objs.size], _, _, H1, rfl, I1.kept (t' := s1.toks) fun b o e => Heap.get?_push_of_some _ e, turn_tuple a _, ⟨_, Heap.get?_push_size _ rfl, rfl, rfl⟩, fun b hb => ?_, q⟩
    have e : b = s1.heap.objs.size := by simpa using hb
    subst e
    exact I1.fpOk (Nat.le_refl _) (I1.hok.fresh (Nat.le_refl _))
end

theorem ItA.walk {K : PySem.W.Frag} {H0 : Hp} {a : Addr} {xs : List V} {J : It} (h : ItA K H0 a xs J) : ∃ G : Hp → Prop, (∀ H', Kp a H0 H' → G H') ∧ Walk J xs.length G (YAt xs) := by
  rcases h with ⟨rfl, q⟩ | ⟨rfl, q⟩
  · exact ⟨_, fun _ k => k.sl q, walk_list⟩
  · exact ⟨_, fun _ k => k.st q, walk_tup⟩

/-! ### enumerate of a tuple -/
set_option maxHeartbeats 1000000 in
theorem meets_enum1 {v : Value} {o : Obj} {H : Heap → Prop} (B : Begins v o H) :
    Meets (Builtin.«enumerate.__new__» ⟨[.type "enumerate", v], []⟩) (fun _ R s => H s.heap ∧
      R (.ok (.ret (.ref (s.heap.push o).objs.size))) { s with heap := (s.heap.push o).push { cls := .type "enumerate", data := .fields #[.none, .bool false, .ref s.heap.objs.size, rawInt 0, .none, .none] } }) :=
  .of_wp fun prog w A R s h => by
    obtain ⟨hp, g, d, tk, os⟩ := s; obtain ⟨h1, h⟩ := h
    have hsub := sub_enumerate
    have q1 : ∀ {A' : Around} {E : Value → Shared → Prop} {Q : Value → Shared → Prop}, Q (.ref hp.objs.size) ⟨hp.push o, g, d, tk, os⟩ → wpAny (model prog w) A' (pyIter v) Q E ⟨hp, g, d, tk, os⟩ :=
      fun q => B.iter prog w _ _ ⟨hp, g, d, tk, os⟩ _ h1 q
    wp_walk using q1
    refine wpAny_stack_any fun st => wpAny_pure ?_
    split
    · rename_i c _ _ _ _ _
      cases (c == Value.type "enumerate")
      · wp_walk using q1
        exact ⟨_, rfl, h⟩
      · wp_walk using q1
        exact ⟨_, rfl, h⟩
    · wp_walk using q1
      exact ⟨_, rfl, h⟩
section
variable {prog : Program} {w : World} {A : Around} {E : Value → Shared → Prop} {s : Shared}
theorem enum1_begins {v : Value} {o : Obj} {H : Heap → Prop} {Q : Value → Shared → Prop} (B : Begins v o H) (h1 : H s.heap)
    (h : ∀ h', IsEnum h' (s.heap.objs.size + 1) s.heap.objs.size 0 .none → h'.get? s.heap.objs.size = some o → h'.objs.size = s.heap.objs.size + 2 →
      (∀ b o, s.heap.get? b = some o → h'.get? b = some o) → Q (.ref (s.heap.objs.size + 1)) { s with heap := h' }) :
    wpAny (model prog w) A (call (.type "enumerate") [v]) Q E s := by
  refine callType_new F.called_enumerate (by decide) (F.typeCall_enumerate_1 _) (F.newCall_enumerate_1 _) (fun obj => F.args_object_init_2 obj _) F.entry_enumerate_new
    (meets_enum1 B) ⟨h1, ?_⟩
  have hz : (s.heap.push o).objs.size = s.heap.objs.size + 1 := Heap.size_push ..
  show _ ∧ _
  rw [hz]
  have he : IsEnum ((s.heap.push o).push { cls := .type "enumerate", data := .fields #[.none, .bool false, .ref s.heap.objs.size, rawInt 0, .none, .none] }) (s.heap.objs.size + 1) s.heap.objs.size 0 .none := by
    have := Heap.get?_push_size (s.heap.push o) (o := { cls := .type "enumerate", data := .fields #[.none, .bool false, .ref s.heap.objs.size, rawInt 0, .none, .none] }) rfl
    rw [hz] at this; exact this
  refine ⟨⟨_, he, rfl⟩, h _ he (Heap.get?_push_of_some _ (Heap.get?_push_size _ B.free)) (by rw [Heap.size_push, hz]) fun b o x => Heap.get?_push_of_some _ (Heap.get?_push_of_some _ x)⟩
end
/-- the tuple at a as it stands at each turn, each item in a new pair -/
def IteT (K : PySem.W.Frag) (a : Addr) : It :=
  ⟨fun i H => ∃ (xs : List V) (x : V), SqT K H a xs ∧ xs[i]? = some x, fun i H v H' => ∃ T x, v = .ref T ∧ H T = none ∧ H' = upd H T (.tup [.int (i : Nat), x]) ∧ ∀ xs, SqT K H a xs → xs[i]? = some x, fun i H => ∃ xs : List V, SqT K H a xs ∧ xs.length ≤ i⟩
end Sh

namespace Sh
open PySem PySem.Spec PyProof.Rows L2
section
variable {prog : Program} {w : World} {A : Around} {E : Value → Shared → Prop} {s : Shared}
theorem enum_endT {e it t : Addr} {n : Nat} {i : Int} {old : Value} {items : Array Value} {Q : Option Value → Shared → Prop} (hh : A.handled = none)
    (he : IsEnum s.heap e it i old) (hit : s.heap.IsTupleIter it t n) (ht : s.heap.IsTuple t items) (hx : items[n]? = none)
    (hQ : ∀ h', Heap.ExtBut it s.heap h' → Q none { s with heap := h' }) : wpAny (model prog w) A (pyNext (.ref e)) Q E s := by
  have hT : s.TypeIs (.ref e) "enumerate" := ⟨_, he, rfl⟩
  unfold pyNext
  refine wpAny_bind (wpAny_attempt (wpAny_callSpecial?_slot (name := Str.ofString "__next__") hT F.slot_enumerate_next
    (wpAny_call_entry F.slot_enumerate_next hT F.entry_enumerate_next ?_ (F.args_enumerate_next_1 _))))
  show wpAny _ _ (field (.ref e) 2 >>= _) _ _ _
  refine wpAny_bind (wpAny_field he rfl (x := .ref it) rfl ?_)
  refine wpAny_bind (wpAny_nextOf_tuple_end (show _ = none from hh) hit ht hx fun h' x he' hx' => ?_)
  obtain ⟨o, ho, hc⟩ := hx'
  refine wpAny_bind (wpAny_isInstance (T := "StopIteration") (b := true) ⟨o, ho, hc⟩ isSubtype_stop ?_)
  exact wpAny_pure (hQ _ he')
end
theorem turn_enumT {P : Program} {w : World} {K : PySem.W.Frag} {elts : List Expr} {kk : Nat} {tpos : Pos} (a e it : Addr) :
    Turn P w K (.Tuple elts kk tpos) (IteT K a) [e, it] e (fun i h => (∃ old, IsEnum h e it ((i : Nat) : Int) old) ∧ h.IsTupleIter it a i ∧ e ≠ it ∧ a ≠ it ∧ e ≠ a) where
  mem := by simp
  obj := fun i h st b hb => by
    obtain ⟨⟨old, he⟩, ⟨o, ho, hc, hd⟩, _⟩ := st
    have e' : b = e ∨ b = it := by simpa using hb
    rcases e' with z | z
    · rw [z]; exact ⟨_, he, fun v q => nomatch q⟩
    · rw [z]; exact ⟨o, ho, fun v q => by rw [hd] at q; cases q⟩
  keep := fun i h h' st k => let ⟨⟨old, he⟩, hi, hne⟩ := st; ⟨⟨old, k e (by simp) _ he⟩, hi.at fun o q => k it (by simp) o q, hne⟩
  item := by
    intro X hP hw hK hc i pins s σ H E I hf st hg
    subst hP hw hK
    obtain ⟨⟨old, he⟩, hit, hne, hai, hea⟩ := st
    obtain ⟨xs, x, hq, hx⟩ := hg
    obtain ⟨its, rv, p, hz⟩ := I.tuple hq
    obtain ⟨u, hu, ru⟩ := rv.get hx
    have hel : e < s.heap.objs.size := Heap.lt_size he
    have hil : it < s.heap.objs.size := by obtain ⟨_, q, _⟩ := hit; exact Heap.lt_size q
    have D := Draws.tuple (prog := X.prog) (w := X.w) (A := X.A.in1) (show X.A.in1.handled = none from I.ok.hd hc) it a hai its.toArray
    have hlt : i < its.toArray.size := by
      have q := (List.getElem?_eq_some_iff.mp hu).1
      simpa using q
    refine wpAny_pyNext_enum_itemC D he ⟨hit, p⟩ hlt hne (by simp [hne, hea]) fun u' h' tk hP ho hst' hT hsz hk => ?_
    have eu : u' = u := by
      have q : its.toArray[i]? = some u' := hP
      have q2 : its.toArray[i]? = some u := by simpa using hu
      exact Option.some.inj (q.symm.trans q2)
    subst eu
    obtain ⟨hit', _⟩ := hst'
    refine ⟨_, rfl, wpAny_letOwnedTupleGo_enum (s := { s with heap := h', toks := tk + 1 }) ho fun h'' he' sb => ?_⟩
    have hT2 : h''.get? s.heap.objs.size = some { cls := .type "tuple", data := .seq #[.int i tk, u'] } := (sb.2 _ (Nat.ne_of_gt hel)).trans hT
    have new : ObjOk X.prog X.w (upd H s.heap.objs.size (.tup [.int (i : Nat), x])) h'' s.heap.objs.size (.tup [.int (i : Nat), x]) :=
      ⟨by show 2 ≤ sizeLine; decide, [.int i tk, u'], .cons ⟨_, rfl⟩ (.cons ru .nil), ⟨_, hT2, rfl, _, rfl⟩⟩
    have I1 : Inv X pins σ (upd H s.heap.objs.size (.tup [.int (i : Nat), x])) { s with heap := h'', toks := tk + 1 } :=
      I.turnedNew (ch := [e, it]) (fun b ob hb q => (sb.2 b (fun z => hb (by simp [z]))).trans (hk b ob (fun z => hb (by simp [z])) (fun z => hb (by simp [z])) q)) hf (Nat.le_refl _) new
    refine ⟨.ref s.heap.objs.size, _, I1, rfl, ⟨_, x, rfl, I.hok.fresh (Nat.le_refl _), rfl, fun ys hy => by rw [I.tuple_inj hy hq]; exact hx⟩, ⟨⟨u', ?_⟩, hit'.at fun o q => (sb.2 it (Ne.symm hne)).trans q, hne, hai, hea⟩, fun b hb => ?_⟩
    · have e1 : ((i + 1 : Nat) : Int) = (i : Int) + 1 := by omega
      rw [e1]; exact he'
    · have hb' : b < s.heap.objs.size := by
        have e' : b = e ∨ b = it := by simpa using hb
        rcases e' with z | z
        · rw [z]; exact hel
        · rw [z]; exact hil
      rw [upd_ne (Nat.ne_of_lt hb')]
      exact (hf b hb).1
  done := by
    intro X hP hw hK hc i pins s σ H E I hf st hg
    subst hP hw hK
    obtain ⟨⟨old, he⟩, hit, hne, hai, hea⟩ := st
    obtain ⟨xs, hq, hx⟩ := hg
    obtain ⟨its, rv, p, hz⟩ := I.tuple hq
    obtain ⟨f0, f1, f2, f3, f4, f5⟩ := hf it (by simp)
    have hl := rv.length
    exact enum_endT (I.ok.hd hc) he hit p (by simp; omega) fun h' eb => ⟨rfl, I.turned (t' := s.toks) (fun b o hb q => eb b o hb q) f0 f1 f3 f4 f5⟩
  self := fun A i s Q E st h => let ⟨⟨_, he⟩, _⟩ := st; wpAny_pyIter_enum he h
def ItE (K : PySem.W.Frag) (H0 : Hp) (a : Addr) (xs : List V) (J : It) : Prop := (J = Ite K a ∧ SqL K H0 a xs) ∨ (J = IteT K a ∧ SqT K H0 a xs)
def iEnumA (K : PySem.W.Frag) (ta : TA) : TI := fun σ H R => ta σ H fun vs H1 => ∃ (a : Addr) (xs : List V) (H0 : Hp), vs = [.ref a] ∧ SqA K H0 a xs ∧ Kp a H0 H1 ∧ ∀ J, ItE K H0 a xs J → R J H1
theorem pi_enumA {X : Cx} {e : Expr} {ta : TA} {p pos tpos : Pos} {elts : List Expr} {kk : Nat} (hg : Gl X "enumerate") (hm : X.mg "enumerate" = none) (ha : PA X [e] ta) (hs : starEach [e] X.env = [(false, eval e X.env)] := by rfl) :
    PI X (.Tuple elts kk tpos) (.Call (.Name "enumerate" p) [e] [] pos) (iEnumA X.K ta) := by
  refine ⟨fun pins s σ H R I h => ?_⟩
  refine Call_ (ld_blt I hg hm boot_enumerate (PyProof.Rows.callWith_type1 (thn (ha.run pos pins s σ H _ I h) fun us s1 ⟨vs, H1, I1, r1, q1⟩ => ?_) hs rfl))
  obtain ⟨a, xs, H0, ex, hs0, hk, q1⟩ := q1
  subst ex
  cases r1 with
  | cons r rr =>
    cases rr
    cases r
    have fr : ∀ b ∈ [s1.heap.objs.size + 1, s1.heap.objs.size], FpOk X pins H1 b := fun b hb => by
      have e' : b = s1.heap.objs.size + 1 ∨ b = s1.heap.objs.size := by simpa using hb
      have hle : s1.heap.objs.size ≤ b := by
        rcases e' with z | z
        · rw [z]; exact Nat.le_add_right _ _
        · rw [z]; exact Nat.le_refl _
      exact I1.fpOk hle (I1.hok.fresh hle)
    rcases hs0 with hq | hq
    · have q := q1 _ (.inl ⟨rfl, hq⟩)
      replace hq := hk.sl hq
      obtain ⟨its, rv, p', hz⟩ := I1.list hq
      refine call_enumerate_list p'.isList fun h' he hit hsz hk => wpAny_pyIter_enum he ?_
      have I2 : Inv X pins σ H1 { s1 with heap := h' } := I1.kept (t' := s1.toks) hk
      exact ⟨s1.heap.objs.size + 1, [s1.heap.objs.size + 1, s1.heap.objs.size], _, _, H1, rfl, I2, turn_enum a (s1.heap.objs.size + 1) s1.heap.objs.size, ⟨⟨.none, he⟩, hit, Nat.succ_ne_self _⟩, fr, q⟩
    · have q := q1 _ (.inr ⟨rfl, hq⟩)
      replace hq := hk.st hq
      obtain ⟨its, rv, p', hz⟩ := I1.tuple hq
      have al : a < s1.heap.objs.size := by obtain ⟨_, q, _⟩ := id p'; exact Heap.lt_size q
      refine enum1_begins (begins_tuple a its.toArray) p' fun h' he hit hsz hk => wpAny_pyIter_enum he ?_
      have I2 : Inv X pins σ H1 { s1 with heap := h' } := I1.kept (t' := s1.toks) hk
      exact ⟨s1.heap.objs.size + 1, [s1.heap.objs.size + 1, s1.heap.objs.size], _, _, H1, rfl, I2, turn_enumT a (s1.heap.objs.size + 1) s1.heap.objs.size, ⟨⟨.none, he⟩, ⟨_, hit, rfl, rfl⟩, Nat.succ_ne_self _, Nat.ne_of_lt al, Nat.ne_of_gt (Nat.lt_succ_of_lt al)⟩, fr, q⟩
theorem walk_enumT {K : PySem.W.Frag} {a : Addr} {xs : List V} : Walk (IteT K a) xs.length (fun H => SqT K H a xs) (YPair (fun i => some (.int (i : Nat))) (fun i => xs[i]?)) := by
  refine ⟨fun i _ hi q => ⟨xs, xs[i], q, by simp [hi]⟩, fun _ q => ⟨xs, q, Nat.le_refl _⟩, fun i H v H' _ q y => ?_⟩
  obtain ⟨T, x, h1, h2, h3, h4⟩ := y
  exact ⟨T, .int (i : Nat), x, h1, h2, h3, rfl, h4 xs q⟩
theorem ItE.walk {K : PySem.W.Frag} {H0 : Hp} {a : Addr} {xs : List V} {J : It} (h : ItE K H0 a xs J) : ∃ G : Hp → Prop, (∀ H', Kp a H0 H' → G H') ∧ Walk J xs.length G (YPair (fun i => some (.int (i : Nat))) (fun i => xs[i]?)) := by
  rcases h with ⟨rfl, q⟩ | ⟨rfl, q⟩
  · exact ⟨_, fun _ k => k.sl q, walk_enum⟩
  · exact ⟨_, fun _ k => k.st q, walk_enumT⟩
theorem walk_zipT {K : PySem.W.Frag} {a b : Addr} {xs ys : List V} {n : Nat} (hn : n = min xs.length ys.length) : Walk (RZ.ItzT K a b) n (fun H => SqT K H a xs ∧ SqT K H b ys) (YPair (fun i => xs[i]?) (fun i => ys[i]?)) := by
  subst hn
  refine ⟨fun i _ hi q => ?_, fun _ q => ⟨xs, ys, q.1, q.2, by omega⟩, fun i H v H' _ q y => ?_⟩
  · have h1 : i < xs.length := by omega
    have h2 : i < ys.length := by omega
    exact ⟨xs, ys, xs[i], ys[i], q.1, q.2, by simp [h1], by simp [h2]⟩
  · obtain ⟨T, x, z, h1, h2, h3, h4, h5⟩ := y
    exact ⟨T, x, z, h1, h2, h3, h4 xs q.1, h5 ys q.2⟩
end Sh

namespace Sh
open PySem PySem.Spec PyProof.Rows L2
/-- a def of the top: where it stands, and the global name -/
structure Df (K : PySem.W.Frag) (mg : Str → Option Value) (x : Str) (st : Stmt) : Prop where
  ex : ∃ (f : Addr) (fd : FuncData), Fun K x x st f fd ∧ mg x = some (.ref f)
/-- it keeps its promise -/
structure Ok (P : Program) (w : World) (K : PySem.W.Frag) (mg : Str → Option Value) (base : Heap) (k : Nat) (x : Str) (st : Stmt) (ps : List Str) (sp : Sp) : Prop where
  ex : ∃ (f : Addr) (fd : FuncData), Fun K x x st f fd ∧ mg x = some (.ref f) ∧ Binds K fd ps [] ∧ FnOk P w K mg base CX0 k f fd ps sp
section
variable {P : Program} {w : World} {K : PySem.W.Frag} {mg : Str → Option Value} {base : Heap}
theorem Df.ok {x : Str} {st : Stmt} {N ps : List Str} {k : Nat} {sp : Sp} (D : Df K mg x st) (S : FnScope N ps (defScope st))
    (hb : ∀ (kV doc pm : Value) (an : Option Addr) (cdv ct : Value) (us : List Value), us.length = ps.length → bindArgs (PySem.W.fnOf x x (defArgs st) (defBody st) (defScope st) .none kV doc pm an cdv ct) ⟨us, []⟩ = pure (ps.zip us))
    (len : ∀ vs H Q E, sp vs H Q E → vs.length = ps.length)
    (hbody : ∀ (f : Addr) (cdv : Value) (A : Around) (outer : List Env) (s : Shared) (H : Hp) (vs : List V) (Q : VK) (E : XK), Room k (A.deeper (envOfC x (defScope st) s.heap.objs.size f cdv)) → sp vs H Q E →
      ∃ t, PSs (cxOf CX0 P w K mg base N x (defScope st) f cdv A outer s H E).nox (defBody st) t ∧ t { nx := fun _ H' => Q .non H', rt := Q } (start N vs) H) : Ok P w K mg base (k + 1) x st ps sp := by
  obtain ⟨f, fd, F, g⟩ := D.ex
  exact ⟨f, fd, F, g, F.binds hb, F.ok S len (fun cdv A outer s H vs Q E hr h => hbody f cdv A outer s H vs Q E hr h)⟩
theorem Ok.mono {x : Str} {st : Stmt} {ps : List Str} {j k : Nat} {sp : Sp} (O : Ok P w K mg base j x st ps sp) (h : j ≤ k) : Ok P w K mg base k x st ps sp := by
  obtain ⟨f, fd, F, g, b, G⟩ := O.ex
  exact ⟨f, fd, F, g, b, G.mono h⟩
theorem Ok.imp {x : Str} {st : Stmt} {ps : List Str} {k : Nat} {sp sp' : Sp} (O : Ok P w K mg base k x st ps sp) (h : ∀ vs H Q E, sp' vs H Q E → sp vs H Q E) : Ok P w K mg base k x st ps sp' := by
  obtain ⟨f, fd, F, g, b, G⟩ := O.ex
  exact ⟨f, fd, F, g, b, G.imp h⟩
end
/-- the values at the places js -/
def pk {α : Type} (js : List Nat) (l : List α) : List α := js.filterMap fun j => l[j]?
theorem vals_get : ∀ {vs : List V} {us : List Value} (j : Nat), Vals vs us → (vs[j]? = none ∧ us[j]? = none) ∨ ∃ v u, vs[j]? = some v ∧ us[j]? = some u ∧ RelV v u
  | _, _, _, .nil => .inl ⟨by simp, by simp⟩
  | _, _, 0, .cons r _ => .inr ⟨_, _, rfl, rfl, r⟩
  | _, _, j + 1, .cons _ t => by simpa using vals_get j t
theorem vals_app : ∀ {vs zs : List V} {us ws : List Value}, Vals vs us → Vals zs ws → Vals (vs ++ zs) (us ++ ws)
  | _, _, _, _, .nil, h => h
  | _, _, _, _, .cons r t, h => .cons r (vals_app t h)
theorem vals_pk {vs : List V} {us : List Value} (h : Vals vs us) : ∀ js : List Nat, Vals (pk js vs) (pk js us)
  | [] => .nil
  | j :: js => by
    unfold pk
    rcases vals_get j h with ⟨a, b⟩ | ⟨v, u, a, b, r⟩
    · rw [List.filterMap_cons_none a, List.filterMap_cons_none b]
      exact vals_pk h js
    · rw [List.filterMap_cons_some a, List.filterMap_cons_some b]
      exact .cons r (vals_pk h js)
section
variable {X : Cx} {k : Nat} {x : Str} {st : Stmt} {ps : List Str} {sp : Sp} {e : Expr} {es : List Expr} {t tk : TA} {p pos : Pos} {kws : List Keyword} {ks : List Str}
/-- f(e, ..) -/
theorem pe_fn (O : Ok X.prog X.w X.K X.mg X.base k x st ps sp) (hr : Room k X.A) (ha : PA X (e :: es) t) (hg : Gl X x := by rfl)
    (hdb : (x == ("__debug__" : Str)) = false := by decide) (he : starEach (e :: es) X.env = (false, eval e X.env) :: starEach es X.env := by rfl) (hpl : (backTo pos (starEach es X.env)).any (·.1) = false := by rfl) :
    PE X (.Call (.Name x p) (e :: es) [] pos) (tCall sp [] E0 t) := by
  obtain ⟨f, fd, F, g, b, G⟩ := O.ex
  exact pe_call G hr hg g F.kp b .nil pass0 ha hdb he hpl
/-- f(e, .., k = v, ..): the parameters are the places js of all that is handed in -/
def tCallJ (js : List Nat) (n : Nat) (sp : Sp) (t tk : TA) : TE := fun σ H Q => t σ H fun vs H1 => tk σ H1 fun zs H2 => (vs.length + zs.length = n ∧ zs.length = n - vs.length) ∧ sp (pk js (vs ++ zs)) H2 Q E0
theorem run_fnJ {pins : List (Addr × Obj)} {σ : L2.St} {H : Hp} {s : Shared} {Q : VK} {us ws : List Value} {vs zs : List V} {js : List Nat} {f : Addr} {fd : FuncData} (F : Fun X.K x x st f fd) (G : FnOk X.prog X.w X.K X.mg X.base CX0 k f fd ps sp) (hr : Room k X.A)
    (hb : ∀ (kV doc pm : Value) (an : Option Addr) (cdv ct : Value), bindArgs (PySem.W.fnOf x x (defArgs st) (defBody st) (defScope st) .none kV doc pm an cdv ct) ⟨us, ks.zip ws⟩ = pure (ps.zip (pk js (us ++ ws))))
    (I : Inv X pins σ H s) (r : Vals vs us) (rz : Vals zs ws) (h : sp (pk js (vs ++ zs)) H Q E0) : wpAny (model X.prog X.w) X.A (call (.ref f) us (ks.zip ws)) (EP X pins σ Q) X.xe s := by
  obtain ⟨oc, od, kV, doc, pm, an, cdv, ct, osl, rfl, lk, hcd⟩ := F.ex
  refine wpAny_call (codeAny_mono (G.run X.A X.stack s H ⟨us, ks.zip ws⟩ (pk js (us ++ ws)) (pk js (vs ++ zs)) Q E0 hr I.env0 (.of_eq (hb kV doc pm an cdv ct)) (vals_pk (vals_app r rz) js) h) fun r s' hq => ?_)
  cases r with
  | error e => exact pass0 pins σ H s e s' I hq
  | ok fl =>
    cases fl with
    | ret u => exact I.after hq
    | next => exact False.elim hq
    | brk => exact False.elim hq
    | cont => exact False.elim hq
/-- f(k = v, ..) -/
theorem pe_fnK0 (js : List Nat) (O : Ok X.prog X.w X.K X.mg X.base k x st ps sp) (hr : Room k X.A)
    (hb : ∀ (kV doc pm : Value) (an : Option Addr) (cdv ct : Value) (ws : List Value), ws.length = ks.length → bindArgs (PySem.W.fnOf x x (defArgs st) (defBody st) (defScope st) .none kV doc pm an cdv ct) ⟨[], ks.zip ws⟩ = pure (ps.zip (pk js ws)))
    (hkw : PK X kws tk) (hg : Gl X x := by rfl) (hall : (backToKw pos (keywordEach kws X.env)).all (·.1.isSome) = true := by rfl) (hks : (backToKw pos (keywordEach kws X.env)).filterMap (·.1) = ks := by rfl) (hdb : (x == ("__debug__" : Str)) = false := by decide)
    (hpl : ((backTo pos (starEach [] X.env)).any (·.1) || (backToKw pos (keywordEach kws X.env)).any (·.1.isNone)) = false := by rfl) :
    PE X (.Call (.Name x p) [] kws pos) (tCallJ js ks.length sp tNil tk) := by
  obtain ⟨f, fd, F, g, b, G⟩ := O.ex
  refine ⟨fun pins s σ H Q I h => ?_⟩
  refine wpAny_Call_Name_kw (ld_glob I hg g ?_ hdb)
  refine PySem.W.callWith_KW0 (h₀ := X.base) I.ok.mod.kin F.kp hall ?_ hpl
  refine thn (hkw.run pos pins s σ H _ I h) fun ws s2 ⟨zs, H2, I2, rz, l2, q2⟩ => ⟨I2.kIn, ?_⟩
  rw [hks]
  exact run_fnJ (us := []) (vs := []) (js := js) F G hr (fun kV doc pm an cdv ct => hb kV doc pm an cdv ct ws (rz.length.symm.trans l2.2)) I2 .nil rz q2
/-- f(e, .., k = v, ..), n positional ones -/
theorem pe_fnK (js : List Nat) (n : Nat) (O : Ok X.prog X.w X.K X.mg X.base k x st ps sp) (hr : Room k X.A)
    (hb : ∀ (kV doc pm : Value) (an : Option Addr) (cdv ct : Value) (us ws : List Value), us.length = n → ws.length = ks.length → bindArgs (PySem.W.fnOf x x (defArgs st) (defBody st) (defScope st) .none kV doc pm an cdv ct) ⟨us, ks.zip ws⟩ = pure (ps.zip (pk js (us ++ ws))))
    (ha : PA X (e :: es) t) (hkw : PK X kws tk) (hg : Gl X x := by rfl) (hall : (backToKw pos (keywordEach kws X.env)).all (·.1.isSome) = true := by rfl) (hks : (backToKw pos (keywordEach kws X.env)).filterMap (·.1) = ks := by rfl)
    (hdb : (x == ("__debug__" : Str)) = false := by decide) (he : starEach (e :: es) X.env = (false, eval e X.env) :: starEach es X.env := by rfl)
    (hpl : ((backTo pos (starEach (e :: es) X.env)).any (·.1) || (backToKw pos (keywordEach kws X.env)).any (·.1.isNone)) = false := by rfl) :
    PE X (.Call (.Name x p) (e :: es) kws pos) (fun σ H Q => t σ H fun vs H1 => tk σ H1 fun zs H2 => (vs.length = n ∧ zs.length = ks.length) ∧ sp (pk js (vs ++ zs)) H2 Q E0) := by
  obtain ⟨f, fd, F, g, b, G⟩ := O.ex
  refine ⟨fun pins s σ H Q I h => ?_⟩
  refine wpAny_Call_Name_kw (ld_glob I hg g ?_ hdb)
  refine PySem.W.callWith_KW (h₀ := X.base) I.ok.mod.kin F.kp hall (thn (ha.run pos pins s σ H _ I h) fun us s1 ⟨vs, H1, I1, r, q⟩ => ?_) hpl he
  refine thn (hkw.run pos pins s1 σ H1 _ I1 q) fun ws s2 ⟨zs, H2, I2, rz, ⟨l1, l2⟩, q2⟩ => ⟨I2.kIn, ?_⟩
  rw [hks]
  exact run_fnJ (js := js) F G hr (fun kV doc pm an cdv ct => hb kV doc pm an cdv ct us ws (r.length.symm.trans l1) (rz.length.symm.trans l2)) I2 r rz q2
end
theorem tyes {σ : L2.St} {H : Hp} {Q : Bool → Hp → Prop} (h : Q true H) : tYes σ H Q := h
/-! ### xs[a:b:c] -/
def pickV (xs : List V) (lo hi st : Option Int) : List V := pk (sliceRange (sliceBounds lo hi st xs.length).1 (sliceBounds lo hi st xs.length).2.1 (sliceBounds lo hi st xs.length).2.2) xs
theorem pick_vals {xs : List V} {us : List Value} (r : Vals xs us) (lo hi st : Option Int) : Vals (pickV xs lo hi st) (slicePick us.toArray lo hi st).toList := by
  have e := vals_pk r (sliceRange (sliceBounds lo hi st xs.length).1 (sliceBounds lo hi st xs.length).2.1 (sliceBounds lo hi st xs.length).2.2)
  have e2 : (slicePick us.toArray lo hi st).toList = pk (sliceRange (sliceBounds lo hi st xs.length).1 (sliceBounds lo hi st xs.length).2.1 (sliceBounds lo hi st xs.length).2.2) us := by
    unfold slicePick pk
    rw [List.size_toArray, ← r.length]
    simp
  rw [e2]
  exact e
section
variable {X : Cx}
def tStep (K : PySem.W.Frag) (te : TE) (tl th ts : TO) : TE := fun σ H Q => te σ H fun x H1 => tl σ H1 fun l H2 => th σ H2 fun u H3 => ts σ H3 fun o H4 => ∃ a xs, x = .ref a ∧ SqL K H4 a xs ∧ o ≠ some 0 ∧ (pickV xs l u o).length ≤ sizeLine ∧ ∀ p, H4 p = none → Q (.ref p) (upd H4 p (.lst (pickV xs l u o)))
theorem pe_step {e st : Expr} {lo hi : Option Expr} {te : TE} {tl th ts : TO} {p3 pos : Pos} (he : PE X e te) (hlo : PO X lo tl) (hhi : PO X hi th) (hst : PO X (some st) ts) : PE X (.Subscript e (.Slice lo hi (some st) p3) pos) (tStep X.K te tl th ts) := by
  refine ⟨fun pins s σ H Q I h => ?_⟩
  refine Subscript_ (thn (he.run pins s σ H _ I h) fun v s1 ⟨x, H1, I1, r1, q1⟩ => ?_)
  refine wpAny_Slice (thn (hlo.run pins s1 σ H1 _ I1 q1) fun vl s2 ⟨l, H2, I2, pl, q2⟩ => ?_)
  refine thn (hhi.run pins s2 σ H2 _ I2 q2) fun vu s3 ⟨u, H3, I3, pu, q3⟩ => ?_
  refine thn (hst.run pins s3 σ H3 _ I3 q3) fun vs s4 ⟨o, H4, I4, ps, q4⟩ => ?_
  obtain ⟨a, xs, ex, hx, h0, hz2, q⟩ := q4
  subst ex
  cases r1
  have I5 : Inv X pins σ H4 { s4 with heap := s4.heap.push { cls := .type "slice", data := .fields #[vl, vu, vs] } } := I4.kept (t' := s4.toks) fun b ob q => Heap.get?_push_of_some _ q
  obtain ⟨its, r, ht, hz⟩ := I5.list hx
  have hlen := r.length
  show wpAny (model X.prog X.w) X.A (subscriptTail e (.Slice lo hi (some st) p3) (.ref a) (.ref s4.heap.objs.size)) (EP X pins σ Q) X.xe { s4 with heap := s4.heap.push { cls := .type "slice", data := .fields #[vl, vu, vs] } }
  refine tail_any (ops := [.ref a, .ref s4.heap.objs.size]) ht.isList.typeIs (PySem.slot_list_getitem.lookup) ?_ (by with_unfolding_all rfl)
  refine wpAny_getItem_list_slice ht.isList (Heap.IsSliceOf.new _ vl vu vs) pl pu ps h0 ?_ (by rw [List.size_toArray]; omega)
  refine ⟨.ref _, _, I5.laid (t' := s4.toks) (o := .lst (pickV xs l u o)) (fun b ob q => Heap.get?_push_of_some _ q) (Nat.le_refl _) ?_, rfl, q _ (I5.hok.fresh (Nat.le_refl _))⟩
  exact ⟨hz2, (slicePick its.toArray l u o).toList, 0, pick_vals r l u o, Heap.get?_push_size _ rfl⟩
end
/-! ### set(t) of a tuple of ints, as a thing that stands -/
def rSetT (K : PySem.W.Frag) (w : World) : List V → Hp → VK → Prop := fun xs H Q => ∃ (q : Addr) (ns : List Int), xs = [.ref q] ∧ SqT K H q (ns.map V.int) ∧ ns.length ≤ 1000 ∧ ∀ (a : Addr) (c : Nat), H a = none → c ≤ ns.length → Q (.ref a) (upd H a (SetO w a (fun j => decide (j ∈ ns)) c))
theorem cr_setT {X : Cx} (hc : X.calm = true) : CallR X (.type "set") (rSetT X.K X.w) := by
  intro pins s σ H xs us Q I r h
  obtain ⟨q, ns, rfl, hq, hl, k⟩ := h
  rw [Vals.ref1 r]
  obtain ⟨its, rv, pt, hz⟩ := I.tuple hq
  have hi : IntsAre its.toArray.toList ns := ints_of_vals rv
  refine call_set_tupI ns (I.ok.hd hc) (show s.heap.IsTuple q its.toArray from pt) hi (by unfold scanBound; omega) fun h' tk c R1 hcn kk => ?_
  exact ⟨.ref _, upd H s.heap.objs.size (SetO X.w s.heap.objs.size _ c), I.laid (t' := tk) kk (Nat.le_refl _) (setO_new R1), rfl, k _ _ (I.hok.fresh (Nat.le_refl _)) hcn⟩
theorem cr_setTw {X : Cx} (w : World) (hc : X.calm = true) (hw : X.w = w := by rfl) : CallR X (.type "set") (rSetT X.K w) := hw ▸ cr_setT hc
theorem cr_sortedSetw {X : Cx} (w : World) (hc : X.calm = true) (hw : X.w = w := by rfl) : CallR X (.builtin "sorted") (rSortedSet w) := hw ▸ cr_sortedSet hc
/-- names of Python's own that the top leaves alone -/
structure Bt (mg : Str → Option Value) : Prop where
  len_ : mg "len" = none
  range_ : mg "range" = none
  abs_ : mg "abs" = none
  int_ : mg "int" = none
  min_ : mg "min" = none
  max_ : mg "max" = none
  list_ : mg "list" = none
  tuple_ : mg "tuple" = none
  all_ : mg "all" = none
  any_ : mg "any" = none
  sorted_ : mg "sorted" = none
  sum_ : mg "sum" = none
  repr_ : mg "repr" = none
  zip_ : mg "zip" = none
  enumerate_ : mg "enumerate" = none
  isinstance_ : mg "isinstance" = none
  reversed_ : mg "reversed" = none
  str_ : mg "str" = none
  bool_ : mg "bool" = none
  set_ : mg "set" = none
end Sh

/-! sorted(d), d a dict whose keys are tuples of so many ints each: some order of the keys, any number of them -/
namespace Sh
open PySem PySem.Spec PyProof.Rows L2
section
variable {prog : Program} {w : World} {A : Around} {E : Value → Shared → Prop} {s : Shared}
theorem rank_swo (r : Value → Int) : SrtO.Swo fun u v => decide (r u < r v) := by
  refine ⟨fun x y h => ?_, fun x y z h1 h2 => ?_⟩
  · have a := of_decide_eq_true h
    exact decide_eq_false (by omega)
  · have a := of_decide_eq_false h1
    have b := of_decide_eq_false h2
    exact decide_eq_false (by omega)
theorem tups_sortable {a : Addr} {vs : List Value} {d : Nat} {B : Int} (hd : 1 ≤ d) (h2 : 2 ≤ vs.length) (x : TS.TupsOk s.heap d B vs) (ha : ∀ o, s.heap.get? a = some o → o.cls ≠ .type "tuple") :
    SrtO.SortableO prog w A s a vs fun u v => decide (TS.code B (TS.intsOf s.heap u) < TS.code B (TS.intsOf s.heap v)) := by
  intro h' keep
  have kp : ∀ b o, s.heap.get? b = some o → o.cls = .type "tuple" → h'.get? b = some o := fun b o e c => keep b o (fun z => by subst z; exact ha o e c) e
  obtain ⟨fs, k, hl, hi⟩ := TS.firsts_of hd vs (x.keeps kp)
  refine ⟨tuples' true, fun Q E hq => ?_, fun p q hp hq => ?_⟩
  · refine PySem.W.kat_kind (T := .type "int") k (by omega) (fun f hf => ?_) (by rfl) ?_
    · obtain ⟨n, t, rfl⟩ := hi f hf
      exact PySem.W.Looks.now
    · have e : (Value.type "int" != Value.type "tuple") = true := by first | decide +kernel | rfl | decide
      rw [e]
      exact hq
  · obtain ⟨ns, tp, lp, bp⟩ := x p.1 hp
    obtain ⟨ms, tq, lq, bq⟩ := x q.1 hq
    show wpAny (model prog w) A (keyLt' (tuples' true) p.1 q.1) (fun r s' => s' = { s with heap := h' } ∧ r = decide (TS.code B (TS.intsOf s.heap p.1) < TS.code B (TS.intsOf s.heap q.1))) (fun _ _ => False) { s with heap := h' }
    rw [tp.ints, tq.ints]
    obtain ⟨a1, xs, e1, ⟨o, ho, hc, n, hdt⟩, i⟩ := tp.keeps kp
    obtain ⟨a2, ys, e2, ⟨o', ho', hc', n', hdt'⟩, i'⟩ := tq.keeps kp
    rw [e1, e2]
    refine PySem.W.kat_lt ho hdt ho' hdt' ?_
    have sz : decide (xs.size < ys.size) = false := by
      have l1 := i.length
      have l2 := i'.length
      rw [Array.length_toList] at l1 l2
      exact decide_eq_false (by omega)
    rw [sz]
    exact TS.lex_ints 0 i i' (by omega) bp bq ⟨rfl, rfl⟩
end
theorem par_get {α β : Type} {F : α → β → Prop} : ∀ {l : List α} {m : List β} {j : Nat} {x : β}, Paired F l m → m[j]? = some x → ∃ y, l[j]? = some y ∧ F y x
  | _, _, _, _, .nil, h => by simp at h
  | _, _, 0, _, .cons (a := y) f _, h => ⟨y, rfl, by simp at h; subst h; exact f⟩
  | _, _, j + 1, _, .cons _ t, h => par_get (j := j) t (by simpa using h)
section
variable {X : Cx}
/-- sum(t), t a tuple of ints -/
def rSumT (K : PySem.W.Frag) : List V → Hp → VK → Prop := fun vs H Q => ∃ (a : Addr) (ns : List Int), vs = [.ref a] ∧ SqT K H a (ns.map V.int) ∧ Q (.int ns.sum) H
theorem cr_sumT (hc : X.calm = true) : CallR X (.builtin "sum") (rSumT X.K) := by
  intro pins s σ H vs us Q I r h
  obtain ⟨a, ns, rfl, hs, q⟩ := h
  obtain ⟨its, rv, hT, _⟩ := I.tuple hs
  rw [Vals.ref1 r]
  have hi := rv.ints
  obtain ⟨xs, e⟩ := hi.allInts.items
  have hn : numsOf (intItems xs).toList = ns := by rw [← e]; exact hi.numsOf
  rw [nums_intItems] at hn
  rw [e] at hT
  refine PySem.W.ktm_sumG (I.ok.hd hc) hT fun h' tk t' hk => ?_
  refine ⟨.int ns.sum, H, I.kept hk, ⟨t', ?_⟩, q⟩
  rw [preSum_eq, List.take_of_length_le (by simp), hn]
def rSortedDT : List V → Hp → VK → Prop := fun vs H Q => ∃ (a : Addr) (kvs : List (List Key × V)) (d : Nat) (B : Int), vs = [.ref a] ∧ H a = some (.dT kvs) ∧ kvs.length ≤ 1000000 ∧ 1 ≤ d ∧ (∀ kv ∈ kvs, ∃ ns : List Int, kv.1 = ns.map Sum.inl ∧ ns.length = d ∧ TS.Bd B ns) ∧
  ∀ (p : Addr) (bs : List Addr), H p = none → bs.length = kvs.length → (∀ b ∈ bs, ∃ kv ∈ kvs, H b = some (.tup (kv.1.map kV))) → Q (.ref p) (upd H p (.lst (bs.map V.ref)))
theorem cr_sortedDT (hc : X.calm = true) : CallR X (.builtin "sorted") rSortedDT := by
  intro pins s σ H xs us Q I r h
  obtain ⟨a, kvs, d, B, rfl, hd, hl, d1, hk, q⟩ := h
  rw [Vals.ref1 r]
  obtain ⟨z, hs, ks, pr, o, es, ep, ho, hx, hdt, he, hn⟩ := (show ObjOk X.prog X.w H s.heap a (.dT kvs) from I.hok a _ hd)
  have l1 : es.size = ks.length := size_of_entries he
  have l2 : kvs.length = ks.length := Paired.length pr
  refine Calls.call_function_entry kind_sorted plain_sorted entry_sorted (args_sorted1 _) ?_
  unfold Builtin.«sorted»
  refine wpAny_bind (m := checkCount "sorted" 1 1 _) (wpAny_pure ?_)
  refine wpAny_bind (PySem.W.kdu_collect (A := X.A.in1) (kdl_raw hs hx hdt) (I.ok.hd hc) ho (by rw [sizeLine_eq]; omega) fun h' tk acc kp it => ?_)
  have ea : acc.toList = (ks.map fun x => x.2.1).map Value.ref := by
    rw [List.map_map]
    have hl' : acc.toList.length = ks.length := by rw [Array.length_toList, it.1]; exact l1
    apply List.ext_getElem?
    intro j
    rw [List.getElem?_map]
    cases hj : acc.toList[j]? with
    | none =>
      have h1 := List.getElem?_eq_none_iff.mp hj
      rw [List.getElem?_eq_none (by omega)]
      rfl
    | some v =>
      obtain ⟨en, hen, hv⟩ := it.2 j v (by rw [← Array.getElem?_toList]; exact hj)
      have qe := entry_at he j
      rw [hen] at qe
      cases hb : ks[j]? with
      | none =>
        rw [hb] at qe
        cases (show some en = none from qe)
      | some b =>
        rw [hb] at qe
        have e2 : en = entryOfKey (tupleKind (mixKind X.prog X.w)) b := Option.some.inj qe
        rw [hv, e2]
        rfl
  have keys : ∀ x ∈ ks, ∃ kv ∈ kvs, H x.2.1 = some (.tup (kv.1.map kV)) := fun x hx => by
    obtain ⟨j, hj⟩ := List.getElem?_of_mem hx
    obtain ⟨e0, he0, _, r2, _⟩ := par_get pr hj
    exact ⟨e0, List.mem_of_getElem? he0, r2⟩
  have I1 : Inv X pins σ H { s with heap := h', toks := tk } := I.kept kp
  have tups : TS.TupsOk h' d B acc.toList := fun v hv => by
    rw [ea] at hv
    obtain ⟨b, hb, rfl⟩ := List.mem_map.mp hv
    obtain ⟨x, hx, rfl⟩ := List.mem_map.mp hb
    obtain ⟨kv, hkv, e⟩ := keys x hx
    obtain ⟨ns, en, ln, bn⟩ := hk kv hkv
    refine ⟨ns, ?_, ln, bn⟩
    have e' : H x.2.1 = some (.tup (ns.map V.int)) := by
      rw [e, en, List.map_map]
      rfl
    exact tupI_raw I1 (SqT.of e')
  have hal : acc.toList.length = kvs.length := by rw [ea, List.length_map, List.length_map, l2]
  refine wpAny_bind (wpAny_newList ?_ (by rw [hal, sizeLine_eq]; omega))
  have hoL : (h'.push (seqObj "list" acc.toList.toArray 0)).get? h'.objs.size = some (seqObj "list" acc.toList.toArray 0) := Heap.get?_push_size _ rfl
  have kp2 : ∀ b o, h'.get? b = some o → (h'.push (seqObj "list" acc.toList.toArray 0)).get? b = some o := fun b o e => Heap.get?_push_of_some _ e
  show wpAny _ _ _ _ _ { s with heap := h'.push (seqObj "list" acc.toList.toArray 0), toks := tk }
  refine wpAny_bind (wpAny_holding (wpAny_call_entry slot_list_sort ⟨_, hoL, rfl⟩ entry_list_sort (SrtO.list_sort_ord (s := { s with heap := h'.push (seqObj "list" acc.toList.toArray 0), toks := tk }) (rank_swo _) hoL (by rw [hal, sizeLine_eq]; omega) (fun h2 => tups_sortable (B := B) d1 h2 (tups.keeps fun b o e _ => kp2 b o e) fun o e => ?_) fun out hs' hb' => ⟨_, rfl, ?_⟩) (args_list_sort _)))
  · have e' := hoL.symm.trans e
    cases e'
    exact fun z => by injection z with z; exact absurd z (by decide)
  obtain ⟨e', he'⟩ := sortedHeap_at (vs := acc.toList) (out := out.toArray) hoL
  obtain ⟨bs, eb, hbs⟩ : ∃ bs : List Addr, out = bs.map Value.ref ∧ ∀ b ∈ bs, ∃ x ∈ ks, b = x.2.1 := by
    have all : ∀ v ∈ out, ∃ x ∈ ks, v = Value.ref x.2.1 := fun v hv => by
      have m := hb'.perm.mem_iff.mp hv
      rw [ea, List.map_map] at m
      obtain ⟨x, hx, e⟩ := List.mem_map.mp m
      exact ⟨x, hx, e.symm⟩
    clear hb' hs' he' 
    induction out with
    | nil => exact ⟨[], rfl, fun b hb => by cases hb⟩
    | cons v out ih =>
      obtain ⟨bs, e1, e2⟩ := ih fun u hu => all u (List.mem_cons_of_mem _ hu)
      obtain ⟨x, hx, e3⟩ := all v List.mem_cons_self
      refine ⟨x.2.1 :: bs, by rw [e1, e3]; rfl, fun b hb => ?_⟩
      rcases List.mem_cons.mp hb with z | z
      · exact ⟨x, hx, z⟩
      · exact e2 b z
  have lb : bs.length = kvs.length := by
    have := hb'.perm.length_eq
    rw [eb, List.length_map, hal] at this
    exact this
  refine wpAny_pure ⟨_, rfl, .ref h'.objs.size, upd H h'.objs.size (.lst (bs.map V.ref)), I1.laid (t' := tk) (fun b u e => ?_) (Nat.le_refl _)
    (show ObjOk X.prog X.w _ _ _ (.lst (bs.map V.ref)) from ⟨by rw [List.length_map, lb, sizeLine_eq]; omega, out, e', by rw [eb]; exact vals_refs _, he'⟩), rfl, q _ bs (I1.hok.fresh (Nat.le_refl _)) lb fun b hb => ?_⟩
  · have hb : b < h'.objs.size := Heap.lt_size e
    rw [sortedHeap_old (Nat.ne_of_lt hb) (by rw [size_push']; exact Nat.lt_succ_of_lt hb)]
    exact Heap.get?_push_of_some _ e
  · obtain ⟨x, hx, rfl⟩ := hbs b hb
    exact keys x hx
end
end Sh

/-! sorted(t), t a tuple of tuples of so many ints each -/
namespace Sh
open PySem PySem.Spec PyProof.Rows L2
theorem refs_vals : ∀ {rs : List Addr} {us : List Value}, Vals (rs.map V.ref) us → us = rs.map Value.ref
  | [], _, .nil => rfl
  | r :: rs, _, .cons h t => by
    cases h
    rw [List.map_cons, ← refs_vals t]
section
variable {X : Cx}
def rSortTT (K : PySem.W.Frag) (d : Nat) (B : Int) : List V → Hp → VK → Prop := fun vs H Q => ∃ (a : Addr) (rs : List Addr) (f : Addr → List Int), vs = [.ref a] ∧ SqT K H a (rs.map V.ref) ∧ rs.length ≤ 1000 ∧ (∀ r ∈ rs, H r = some (.tup ((f r).map V.int)) ∧ (f r).length = d ∧ TS.Bd B (f r)) ∧
  ∀ (p : Addr) (bs : List Addr), H p = none → bs.Perm rs → bs.Pairwise (fun x y => TS.code B (f x) ≤ TS.code B (f y)) → Q (.ref p) (upd H p (.lst (bs.map V.ref)))
theorem cr_sortTT {d : Nat} {B : Int} (d1 : 1 ≤ d) : CallR X (.builtin "sorted") (rSortTT X.K d B) := by
  intro pins s σ H xs us Q I r h
  obtain ⟨a, rs, f, rfl, hs, hl, hk, q⟩ := h
  rw [Vals.ref1 r]
  obtain ⟨its, rv, hT, hz⟩ := I.tuple hs
  have ei := refs_vals rv
  subst ei
  have sl : (rs.map Value.ref).length ≤ sizeLine := by rw [List.length_map, sizeLine_eq]; omega
  refine Calls.call_function_entry kind_sorted plain_sorted entry_sorted (args_sorted1 _) ?_
  unfold Builtin.«sorted»
  refine wpAny_bind (m := checkCount "sorted" 1 1 _) (wpAny_pure ?_)
  obtain ⟨o, ho, hc, n, hd⟩ := hT
  refine wpAny_bind (wpAny_collect_seq (A := X.A.in1) a (.inr rfl) ho hc hd (fun h' kp => ?_) (by simpa using sl))
  have I1 : Inv X pins σ H { s with heap := h' } := I.kept (t' := s.toks) kp
  have tups : TS.TupsOk h' d B (rs.map Value.ref) := fun v hv => by
    obtain ⟨b, hb, rfl⟩ := List.mem_map.mp hv
    obtain ⟨e, ln, bn⟩ := hk b hb
    exact ⟨f b, tupI_raw I1 (SqT.of e), ln, bn⟩
  refine wpAny_bind (wpAny_newList ?_ sl)
  have hoL : (h'.push (seqObj "list" (rs.map Value.ref).toArray 0)).get? h'.objs.size = some (seqObj "list" (rs.map Value.ref).toArray 0) := Heap.get?_push_size _ rfl
  have kp2 : ∀ b o, h'.get? b = some o → (h'.push (seqObj "list" (rs.map Value.ref).toArray 0)).get? b = some o := fun b o e => Heap.get?_push_of_some _ e
  have tups2 := tups.keeps (h' := h'.push (seqObj "list" (rs.map Value.ref).toArray 0)) fun b o e _ => kp2 b o e
  show wpAny _ _ _ _ _ { s with heap := h'.push (seqObj "list" (rs.map Value.ref).toArray 0) }
  refine wpAny_bind (wpAny_holding (wpAny_call_entry slot_list_sort ⟨_, hoL, rfl⟩ entry_list_sort (SrtO.list_sort_ord (s := { s with heap := h'.push (seqObj "list" (rs.map Value.ref).toArray 0) }) (rank_swo _) hoL sl (fun h2 => tups_sortable (B := B) d1 h2 tups2 fun o e => ?_) fun out hs' hb' => ⟨_, rfl, ?_⟩) (args_list_sort _)))
  · have e' := hoL.symm.trans e
    cases e'
    exact fun z => by injection z with z; exact absurd z (by decide)
  obtain ⟨e', he'⟩ := sortedHeap_at (vs := rs.map Value.ref) (out := out.toArray) hoL
  obtain ⟨bs, eb⟩ : ∃ bs : List Addr, out = bs.map Value.ref := by
    have all : ∀ v ∈ out, ∃ b, v = Value.ref b := fun v hv => by
      obtain ⟨b, _, e⟩ := List.mem_map.mp (hb'.perm.mem_iff.mp hv)
      exact ⟨b, e.symm⟩
    clear hb' hs' he'
    induction out with
    | nil => exact ⟨[], rfl⟩
    | cons v out ih =>
      obtain ⟨bs, e1⟩ := ih fun u hu => all u (List.mem_cons_of_mem _ hu)
      obtain ⟨b, e3⟩ := all v List.mem_cons_self
      exact ⟨b :: bs, by rw [e1, e3]; rfl⟩
  have pm : bs.Perm rs := by
    have p := hb'.perm
    rw [eb] at p
    have p2 := p.map fun v : Value => match v with | .ref a => a | _ => 0
    rw [List.map_map, List.map_map] at p2
    have id1 : ∀ l : List Addr, l.map ((fun v : Value => match v with | .ref a => a | _ => 0) ∘ Value.ref) = l := fun l => by
      rw [show ((fun v : Value => match v with | .ref a => a | _ => 0) ∘ Value.ref) = id from rfl, List.map_id]
    rw [id1, id1] at p2
    exact p2
  have so : bs.Pairwise (fun x y => TS.code B (f x) ≤ TS.code B (f y)) := by
    rw [eb] at hs'
    have p := List.pairwise_map.mp hs'
    refine List.Pairwise.imp_of_mem (fun {x y} hx hy z => ?_) p
    have z2 := of_decide_eq_false z
    have ex : ∀ b ∈ bs, TS.intsOf (h'.push (seqObj "list" (rs.map Value.ref).toArray 0)) (.ref b) = f b := fun b hb => by
      obtain ⟨e, ln, bn⟩ := hk b (pm.mem_iff.mp hb)
      have t1 := tupI_raw I1 (SqT.of e)
      exact (t1.keeps fun b o e _ => kp2 b o e).ints
    have z3 := z2
    rw [ex y hy, ex x hx] at z3
    omega
  have lb : bs.length = rs.length := pm.length_eq
  refine wpAny_pure ⟨_, rfl, .ref h'.objs.size, upd H h'.objs.size (.lst (bs.map V.ref)), I1.laid (t' := s.toks) (fun b u e => ?_) (Nat.le_refl _)
    (show ObjOk X.prog X.w _ _ _ (.lst (bs.map V.ref)) from ⟨by rw [List.length_map, lb, sizeLine_eq]; omega, out, e', by rw [eb]; exact vals_refs _, he'⟩), rfl, q _ bs (I1.hok.fresh (Nat.le_refl _)) pm so⟩
  have hb : b < h'.objs.size := Heap.lt_size e
  rw [sortedHeap_old (Nat.ne_of_lt hb) (by rw [size_push']; exact Nat.lt_succ_of_lt hb)]
  exact Heap.get?_push_of_some _ e
end
end Sh

namespace Sh
open PySem PySem.Spec PyProof.Rows L2
/-! ### the text by places -/
def topS (i : Nat) : Stmt := PySem.Challenge.pw_shoalmates_k78_whole_fleets_told_otherwi.main.body.getD i (.Pass ⟨0, 0, 0, 0⟩)
end Sh

namespace Sh
open PySem PySem.Spec PyProof.Rows L2
/-! ### what is drawn from -/
def BoxOk (xs : List V) (n : Nat) : Prop := ∃ b0 b1 b2 : Int, xs = [.int b0, .int b1, .int b2] ∧ 0 ≤ b0 ∧ 0 ≤ b1 ∧ b1 < 4611686018427387904 ∧ 0 ≤ b2 ∧ b2 + (n : Int) ≤ 1099511627776
def BoxAt (H : Hp) (b : Addr) (n : Nat) : Prop := ∃ xs, H b = some (.lst xs) ∧ BoxOk xs n
theorem BoxOk.mono {xs : List V} {n m : Nat} (h : BoxOk xs n) (l : m ≤ n) : BoxOk xs m := by
  obtain ⟨b0, b1, b2, e, h0, h1, h2, h3, h4⟩ := h
  exact ⟨b0, b1, b2, e, h0, h1, h2, h3, by omega⟩
theorem BoxAt.mono {H : Hp} {b : Addr} {n m : Nat} (h : BoxAt H b n) (l : m ≤ n) : BoxAt H b m := let ⟨xs, e, k⟩ := h; ⟨xs, e, k.mono l⟩
theorem BoxAt.same {H H' : Hp} {b : Addr} {n : Nat} (h : BoxAt H b n) (s : Same H H') : BoxAt H' b n := let ⟨xs, e, k⟩ := h; ⟨xs, s _ _ e, k⟩
theorem BoxAt.some {H : Hp} {b : Addr} {n : Nat} (h : BoxAt H b n) : H b ≠ none := fun z => by
  obtain ⟨xs, e, _⟩ := h
  rw [e] at z
  cases z
/-- a new place is not the box -/
theorem BoxAt.ne {H : Hp} {b p : Addr} {n : Nat} (h : BoxAt H b n) (z : H p = none) : b ≠ p := let ⟨_, e, _⟩ := h; ne_of_none e z
def spTake : Sp := fun vs H Q _ => ∃ (b : Addr) (n : Nat) (span : Int), vs = [.ref b, .int span] ∧ 0 < span ∧ span < 1152921504606846976 ∧ BoxAt H b (n + 1) ∧ ∀ (v : Int) (xs : List V), 0 ≤ v → v < span → BoxOk xs n → Q (.int v) (upd H b (.lst xs))
abbrev s__law_take : Stmt := topS 29
theorem sc__law_take : FnScope (["_law_box_here", "_law_span", "_law_found", "_law_once", "_law_twice"] : List Str) (["_law_box_here", "_law_span"] : List Str) (defScope s__law_take) := ⟨rfl, rfl, rfl, by decide +kernel, rfl, by decide +kernel, by decide +kernel⟩
theorem b__law_take (kV doc pm : Value) (an : Option Addr) (cdv ct : Value) (us : List Value) (hl : us.length = (["_law_box_here", "_law_span"] : List Str).length) : bindArgs (PySem.W.fnOf "_law_take" "_law_take" (defArgs s__law_take) (defBody s__law_take) (defScope s__law_take) .none kV doc pm an cdv ct) ⟨us, []⟩ = pure ((["_law_box_here", "_law_span"] : List Str).zip us) :=
  match us, hl with | [_, _], _ => rfl
section
variable {P : Program} {w : World} {K : PySem.W.Frag} {mg : Str → Option Value} {base : Heap}
theorem ok_take {k : Nat} (D : Df K mg "_law_take" s__law_take) (T : Bt mg) : Ok P w K mg base (k + 1) "_law_take" s__law_take ["_law_box_here", "_law_span"] spTake := by
  refine D.ok sc__law_take b__law_take (fun vs H Q E h => ?_) (fun f cdv A outer s H vs Q E hr h => ?_)
  · obtain ⟨b, n, span, rfl, _⟩ := h
    rfl
  · obtain ⟨b, n, span, rfl, s0, s1, ⟨xs, hb, b0, b1, b2, rfl, h0, h1, h1', h2, h3⟩, q⟩ := h
    refine ⟨_, (pss_cons (ps_if (pt_cmpR op_gt (pe_ix ix_lt (pv 0) pe_int (fun _ _ => rfl)) pe_int (nomark _))
        (pss_cons (ps_set (i := 2) sc__law_take.nd rfl (.inl rfl) (pe_op op_mod (pe_ix ix_lt (pv 0) pe_int (fun _ _ => rfl)) (pv 1)))
          (pss_cons (ps_asg (pe_op op_fdivW (pe_ix ix_lt (pv 0) pe_int (fun _ _ => rfl)) (pv 1)) (pg_sub (pv 0) pe_int set_list))
          (pss_one (ps_ret (pv 2)))))
        pss_nil)
      (pss_cons (ps_asg (pe_op op_add (pe_ix ix_lt (pv 0) pe_int (fun _ _ => rfl)) pe_int) (pg_sub (pv 0) pe_int set_list))
      (pss_cons (ps_set (i := 3) sc__law_take.nd rfl (.inl rfl) (pe_op op_mod (pe_op op_mul (pe_op op_add (pe_ix ix_lt (pv 0) pe_int (fun _ _ => rfl)) (pe_op op_mul pe_int (pe_ix ix_lt (pv 0) pe_int (fun _ _ => rfl)))) (pe_op op_add pe_int (pe_ix ix_lt (pv 0) pe_int (fun _ _ => rfl)))) pe_int))
      (pss_cons (ps_set (i := 4) sc__law_take.nd rfl (.inl rfl) (pe_op op_mod (pe_op op_mul (pe_op op_add (pe_op op_add (pv 3) (pe_ix ix_lt (pv 0) pe_int (fun _ _ => rfl))) (pe_op op_fdiv (pe_ix ix_lt (pv 0) pe_int (fun _ _ => rfl)) pe_int)) (pe_op op_add (pe_op op_mod (pv 3) pe_int) pe_int)) pe_int))
      (pss_one (ps_ret (pe_op op_mod (pe_op op_fdiv (pe_op op_mod (pe_op op_add (pe_op op_mul (pv 4) pe_int) (pv 3)) pe_int) pe_int) (pv 1)))))))), ?_⟩
    have hq : SqA K H b [.int b0, .int b1, .int b2] := SqA.l hb
    refine ⟨_, rfl, b, _, 0, .int b0, rfl, rfl, hq, rfl, b0, 0, rfl, rfl, _, rfl, ite2 (fun c => ?_) (fun c => ?_)⟩
    · have c0 : 0 < b0 := of_decide_eq_true c
      refine ⟨_, rfl, b, _, 0, .int b0, rfl, rfl, hq, rfl, _, rfl, b0, span, rfl, rfl, s0, ?_⟩
      refine ⟨_, rfl, b, _, 0, .int b0, rfl, rfl, hq, rfl, _, rfl, b0, span, rfl, rfl, wide_div (b := 60) s0 (show span.natAbs < 1152921504606846976 by omega) (by decide) (by decide), ?_⟩
      refine ⟨_, rfl, b, _, 0, 0, rfl, rfl, hb, rfl, ?_⟩
      refine ⟨_, rfl, ?_⟩
      exact q _ _ (Int.emod_nonneg _ (by omega)) (Int.emod_lt_of_pos _ s0) ⟨b0 / span, b1, b2, rfl, Int.ediv_nonneg h0 (by omega), h1, h1', h2, by omega⟩
    · refine ⟨_, rfl, b, _, 2, .int b2, rfl, rfl, hq, rfl, b2, 1, rfl, rfl, ?_⟩
      refine ⟨_, rfl, b, _, 2, 2, rfl, rfl, hb, rfl, ?_⟩
      have hq2 : SqA K (upd H b (.lst [.int b0, .int b1, .int (b2 + 1)])) b [.int b0, .int b1, .int (b2 + 1)] := SqA.l upd_same
      have m1 : 0 ≤ (b1 + 48271 * (b2 + 1)) * (39373 + (b2 + 1)) % 2147483647 := Int.emod_nonneg _ (by decide)
      have m2 : (b1 + 48271 * (b2 + 1)) * (39373 + (b2 + 1)) % 2147483647 < 2147483647 := Int.emod_lt_of_pos _ (by decide)
      refine ⟨_, rfl, b, _, 1, .int b1, rfl, rfl, hq2, rfl, _, rfl, b, _, 2, .int (b2 + 1), rfl, rfl, hq2, rfl, 48271, b2 + 1, rfl, rfl, .inl ⟨by decide, by decide⟩, b1, _, rfl, rfl, ?_⟩
      refine ⟨_, rfl, b, _, 2, .int (b2 + 1), rfl, rfl, hq2, rfl, 39373, b2 + 1, rfl, rfl, _, _, rfl, rfl, .inr ⟨by omega, by omega⟩, _, 2147483647, rfl, rfl, (show (0 : Int) < 2147483647 by decide), ?_⟩
      dsimp only
      generalize (b1 + 48271 * (b2 + 1)) * (39373 + (b2 + 1)) % 2147483647 = once at m1 m2
      have o1 : 0 ≤ once % 40009 := Int.emod_nonneg _ (by decide)
      have o2 : once % 40009 < 40009 := Int.emod_lt_of_pos _ (by decide)
      refine ⟨_, rfl, _, rfl, b, _, 2, .int (b2 + 1), rfl, rfl, hq2, rfl, once, b2 + 1, rfl, rfl, _, rfl, b, _, 1, .int b1, rfl, rfl, hq2, rfl, b1, 1000003, rfl, rfl, ⟨by decide, by decide⟩, _, _, rfl, rfl, ?_⟩
      refine ⟨_, rfl, once, 40009, rfl, rfl, (show (0 : Int) < 40009 by decide), _, 7, rfl, rfl, _, _, rfl, rfl, .inr ⟨by omega, by omega⟩, _, 2147483629, rfl, rfl, (show (0 : Int) < 2147483629 by decide), ?_⟩
      dsimp only
      have t1 : 0 ≤ (once + (b2 + 1) + b1 / 1000003) * (once % 40009 + 7) % 2147483629 := Int.emod_nonneg _ (by decide)
      have t2 : (once + (b2 + 1) + b1 / 1000003) * (once % 40009 + 7) % 2147483629 < 2147483629 := Int.emod_lt_of_pos _ (by decide)
      generalize (once + (b2 + 1) + b1 / 1000003) * (once % 40009 + 7) % 2147483629 = twice at t1 t2
      refine ⟨_, rfl, twice, 48271, rfl, rfl, .inl ⟨by omega, by omega⟩, _, rfl, _, once, rfl, rfl, _, 2147483587, rfl, rfl, (show (0 : Int) < 2147483587 by decide), _, 64, rfl, rfl, ⟨by decide, by decide⟩, _, rfl, _, span, rfl, rfl, s0, ?_⟩
      exact q _ _ (Int.emod_nonneg _ (by omega)) (Int.emod_lt_of_pos _ s0) ⟨b0, b1, b2 + 1, rfl, h0, h1, h1', by omega, by omega⟩
end
end Sh

namespace Sh
open PySem PySem.Spec PyProof.Rows L2
theorem SqA.at {K : PySem.W.Frag} {H : Hp} {b l : Addr} {o : HO} {xs : List V} (n : l ≠ b) (h : SqA K H l xs) : SqA K (upd H b o) l xs := by
  rcases h with ((h | ⟨z, h⟩) | h) | ((h | ⟨z, h⟩) | h)
  · exact .inl (.inl (.inl (by rw [upd_ne n]; exact h)))
  · exact .inl (.inl (.inr ⟨z, by rw [upd_ne n]; exact h⟩))
  · exact .inl (.inr h)
  · exact .inr (.inl (.inl (by rw [upd_ne n]; exact h)))
  · exact .inr (.inl (.inr ⟨z, by rw [upd_ne n]; exact h⟩))
  · exact .inr (.inr h)
theorem at_nat {xs : List V} {i : Int} {j : Nat} {v : V} (e : i = (j : Int)) (h : xs[j]? = some v) : atI xs i = some v := L2.at_of e h
theorem b01 (c : Bool) : (0 : Int) ≤ if c = true then 1 else 0 := by cases c <;> decide
theorem b01' (c : Bool) : (-(2 ^ 64) : Int) < (if c = true then 1 else 0) ∧ (if c = true then 1 else 0) < (2 ^ 64 : Int) := by cases c <;> decide
/-- a cell of the script: some int -/
def spCellAt (K : PySem.W.Frag) : Sp := fun vs H Q _ => ∃ (l : Addr) (ns : List Int) (j : Nat), vs = [.ref l, .int (j : Int)] ∧ SqL K H l (ns.map V.int) ∧ ∀ z : Int, Q (.int z) H
abbrev s__law_cell_at : Stmt := topS 27
theorem sc__law_cell_at : FnScope (["_law_script", "_law_k"] : List Str) (["_law_script", "_law_k"] : List Str) (defScope s__law_cell_at) := ⟨rfl, rfl, rfl, by decide +kernel, rfl, by decide +kernel, by decide +kernel⟩
theorem b__law_cell_at (kV doc pm : Value) (an : Option Addr) (cdv ct : Value) (us : List Value) (hl : us.length = (["_law_script", "_law_k"] : List Str).length) : bindArgs (PySem.W.fnOf "_law_cell_at" "_law_cell_at" (defArgs s__law_cell_at) (defBody s__law_cell_at) (defScope s__law_cell_at) .none kV doc pm an cdv ct) ⟨us, []⟩ = pure ((["_law_script", "_law_k"] : List Str).zip us) :=
  match us, hl with | [_, _], _ => rfl
def spBox (K : PySem.W.Frag) : Sp := fun vs H Q _ => ∃ (l : Addr) (ns : List Int) (j : Nat), vs = [.ref l, .int (j : Int)] ∧ j ≤ 100 ∧ SqL K H l (ns.map V.int) ∧ ∀ (p : Addr) (xs : List V), H p = none → BoxOk xs 549755813888 → Q (.ref p) (upd H p (.lst xs))
abbrev s__law_box : Stmt := topS 28
theorem sc__law_box : FnScope (["_law_script", "_law_k", "_law_core"] : List Str) (["_law_script", "_law_k"] : List Str) (defScope s__law_box) := ⟨rfl, rfl, rfl, by decide +kernel, rfl, by decide +kernel, by decide +kernel⟩
theorem b__law_box (kV doc pm : Value) (an : Option Addr) (cdv ct : Value) (us : List Value) (hl : us.length = (["_law_script", "_law_k"] : List Str).length) : bindArgs (PySem.W.fnOf "_law_box" "_law_box" (defArgs s__law_box) (defBody s__law_box) (defScope s__law_box) .none kV doc pm an cdv ct) ⟨us, []⟩ = pure ((["_law_script", "_law_k"] : List Str).zip us) :=
  match us, hl with | [_, _], _ => rfl
section
variable {P : Program} {w : World} {K : PySem.W.Frag} {mg : Str → Option Value} {base : Heap}
theorem ok_cell_at {k : Nat} (D : Df K mg "_law_cell_at" s__law_cell_at) (T : Bt mg) : Ok P w K mg base (k + 1) "_law_cell_at" s__law_cell_at ["_law_script", "_law_k"] (spCellAt K) := by
  refine D.ok sc__law_cell_at b__law_cell_at (fun vs H Q E h => ?_) (fun f cdv A outer s H vs Q E hr h => ?_)
  · obtain ⟨l, ns, j, rfl, _⟩ := h
    rfl
  · obtain ⟨l, ns, j, rfl, hs, q⟩ := h
    refine ⟨_, (pss_cons (ps_if (pt_cmpR op_lt (pv 1) (pe_callB call_len_seq (by rfl) T.len_ PySem.boot_len (pa_cons (pv 0) pa_nil)) (nomark _))
        (pss_one (ps_ret (pe_ix ix_lt (pv 0) (pv 1) (fun _ _ => rfl))))
        pss_nil)
      (pss_one (ps_ret pe_int))), ?_⟩
    refine ⟨_, rfl, _, rfl, l, _, rfl, .inl hs, _, _, rfl, rfl, _, rfl, ite2 (fun c => ?_) (fun c => ?_)⟩
    · have c0 : (j : Int) < ((ns.map V.int).length : Int) := of_decide_eq_true c
      rw [List.length_map] at c0
      have c1 : j < ns.length := by omega
      refine ⟨_, rfl, _, rfl, l, _, _, .int ns[j], rfl, rfl, .inl hs, at_nat rfl (by simp [c1]), q _⟩
    · exact q 0
theorem ok_box {k : Nat} (D : Df K mg "_law_box" s__law_box) (T : Bt mg) (O__law_cell_at : Ok P w K mg base k "_law_cell_at" s__law_cell_at ["_law_script", "_law_k"] (spCellAt K)) : Ok P w K mg base (k + 1) "_law_box" s__law_box ["_law_script", "_law_k"] (spBox K) := by
  refine D.ok sc__law_box b__law_box (fun vs H Q E h => ?_) (fun f cdv A outer s H vs Q E hr h => ?_)
  · obtain ⟨l, ns, j, rfl, _⟩ := h
    rfl
  · obtain ⟨l, ns, j, rfl, hj, hs, q⟩ := h
    refine ⟨_, (pss_cons (ps_set (i := 2) sc__law_box.nd rfl (.inl rfl) (pe_fn O__law_cell_at (hr.mono (by omega)) (pa_cons (pv 0) (pa_cons (pv 1) pa_nil))))
      (pss_one (ps_ret (pe_lst (pa_cons (pe_op op_mul (pe_callB call_abs (by rfl) T.abs_ (by decide +kernel) (pa_cons (pv 2) pa_nil)) (pe_callTy call_int1 (by rfl) T.int_ (by decide +kernel) (pa_cons (pe_cmpR op_ge (pe_callB call_abs (by rfl) T.abs_ (by decide +kernel) (pa_cons (pv 2) pa_nil)) (pe_op (op_powC 1000000000000000000) pe_int pe_int) (nomark _)) pa_nil))) (pa_cons (pe_op op_add (pe_op op_add (pe_op op_mod (pv 2) pe_int) (pe_op op_mul pe_int (pv 1))) pe_int) (pa_cons pe_int pa_nil))))))), ?_⟩
    refine ⟨_, rfl, _, rfl, l, ns, j, rfl, hs, fun z => ?_⟩
    have z1 : 0 ≤ z % 2305843009213693951 := Int.emod_nonneg _ (by decide)
    have z2 : z % 2305843009213693951 < 2305843009213693951 := Int.emod_lt_of_pos _ (by decide)
    have za : 0 ≤ (if z < 0 then -z else z) := by split <;> omega
    refine ⟨_, rfl, z, rfl, _, rfl, z, rfl, 10, 18, rfl, rfl, ⟨⟨by decide, by decide, by decide⟩, by decide⟩, _, _, rfl, rfl, .inr ⟨_, rfl, ?_⟩⟩
    refine ⟨_, _, rfl, rfl, .inr (b01' _), ?_⟩
    refine ⟨_, rfl, z, _, rfl, rfl, (show (0 : Int) < 2305843009213693951 by decide), _, rfl, 39373, (j : Int), rfl, rfl, .inl ⟨by decide, by decide⟩, _, _, rfl, rfl, _, 17, rfl, rfl, ?_⟩
    refine ⟨(by show 3 ≤ sizeLine; decide), fun p np => ?_⟩
    refine q p _ np ⟨_, _, 0, rfl, ?_, by omega, by omega, by omega, by omega⟩
    exact Int.mul_nonneg za (b01 _)
end
/-! ### one of some -/
def spOf (K : PySem.W.Frag) : Sp := fun vs H Q _ => ∃ (b l : Addr) (n : Nat) (xs : List V), vs = [.ref b, .ref l] ∧ SqA K H l xs ∧ l ≠ b ∧ 0 < xs.length ∧ xs.length < 1000000 ∧ BoxAt H b (n + 1) ∧ ∀ (v : V) (ys : List V), v ∈ xs → BoxOk ys n → Q v (upd H b (.lst ys))
abbrev s__law_of : Stmt := topS 30
theorem sc__law_of : FnScope (["_law_box_here", "_law_some"] : List Str) (["_law_box_here", "_law_some"] : List Str) (defScope s__law_of) := ⟨rfl, rfl, rfl, by decide +kernel, rfl, by decide +kernel, by decide +kernel⟩
theorem b__law_of (kV doc pm : Value) (an : Option Addr) (cdv ct : Value) (us : List Value) (hl : us.length = (["_law_box_here", "_law_some"] : List Str).length) : bindArgs (PySem.W.fnOf "_law_of" "_law_of" (defArgs s__law_of) (defBody s__law_of) (defScope s__law_of) .none kV doc pm an cdv ct) ⟨us, []⟩ = pure ((["_law_box_here", "_law_some"] : List Str).zip us) :=
  match us, hl with | [_, _], _ => rfl
section
variable {P : Program} {w : World} {K : PySem.W.Frag} {mg : Str → Option Value} {base : Heap}
theorem ok_of {k : Nat} (D : Df K mg "_law_of" s__law_of) (T : Bt mg) (O__law_take : Ok P w K mg base k "_law_take" s__law_take ["_law_box_here", "_law_span"] spTake) : Ok P w K mg base (k + 1) "_law_of" s__law_of ["_law_box_here", "_law_some"] (spOf K) := by
  refine D.ok sc__law_of b__law_of (fun vs H Q E h => ?_) (fun f cdv A outer s H vs Q E hr h => ?_)
  · obtain ⟨b, l, n, xs, rfl, _⟩ := h
    rfl
  · obtain ⟨b, l, n, xs, rfl, hl, hne, l0, l1, hb, q⟩ := h
    refine ⟨_, (pss_one (ps_ret (pe_ix ix_lt (pv 1) (pe_fn O__law_take (hr.mono (by omega)) (pa_cons (pv 0) (pa_cons (pe_callB call_len_seq (by rfl) T.len_ PySem.boot_len (pa_cons (pv 1) pa_nil)) pa_nil))) (fun _ _ => rfl)))), ?_⟩
    refine ⟨_, rfl, _, rfl, _, rfl, l, xs, rfl, hl, b, n, _, rfl, by omega, by omega, hb, fun v ys v0 v1 hy => ?_⟩
    have hi : v.toNat < xs.length := by omega
    refine ⟨l, xs, v, xs[v.toNat], rfl, rfl, SqA.at hne hl, at_nat (j := v.toNat) (by omega) (by simp [hi]), ?_⟩
    exact q _ _ (List.getElem_mem hi) hy
end
end Sh

namespace Sh
open PySem PySem.Spec PyProof.Rows L2
/-! ### what is told is what is due -/
def tyS : PyData → String
  | .none => "NoneType" | .bool _ => "bool" | .int _ => "int" | .str _ => "str" | .list _ => "list" | .tuple _ => "tuple" | .dict _ => "dict"
/-- at most so deep, no longer than a hundred thousand -/
def Lv : Nat → PyData → Prop
  | 0, _ => False
  | _ + 1, .none => True
  | _ + 1, .bool _ => True
  | _ + 1, .int _ => True
  | _ + 1, .str _ => True
  | n + 1, .list ds => ds.length ≤ 100000 ∧ ∀ e ∈ ds, Lv n e
  | n + 1, .tuple ds => ds.length ≤ 100000 ∧ ∀ e ∈ ds, Lv n e
  | _ + 1, .dict _ => False
theorem lv_ints {n : Nat} (ns : List Int) (h : ns.length ≤ 100000) : Lv (n + 2) (.list (ns.map .int)) := ⟨by rw [List.length_map]; exact h, fun e he => by
  obtain ⟨i, _, rfl⟩ := List.mem_map.mp he
  exact trivial⟩
theorem lv_intsT {n : Nat} (ns : List Int) (h : ns.length ≤ 100000) : Lv (n + 2) (.tuple (ns.map .int)) := ⟨by rw [List.length_map]; exact h, fun e he => by
  obtain ⟨i, _, rfl⟩ := List.mem_map.mp he
  exact trivial⟩
section
variable {K : PySem.W.Frag} {H : Hp}
theorem ty_list {a : Addr} {xs : List V} (h : SqL K H a xs) : TyX K H (.ref a) (.type "list") := by
  rcases h with (h | ⟨o, h⟩) | ⟨o, its, n, h, c, _⟩
  · exact .base (.lst h)
  · exact .base (.frz h)
  · exact .kList h c
theorem ty_tup {a : Addr} {xs : List V} (h : SqT K H a xs) : TyX K H (.ref a) (.type "tuple") := by
  rcases h with (h | ⟨o, h⟩) | ⟨o, its, n, h, c, _⟩
  · exact .base (.tup h)
  · exact .fTuple h
  · exact .kTuple h c
theorem ty_of {v : V} {d : PyData} (h : Dp K H v d) : TyX K H v (.type (tyS d)) := by
  cases h with
  | non => exact .base .non
  | bl b => exact .base (.bl b)
  | int i => exact .base (.int i)
  | str x => exact .base (.str x)
  | lst h _ => exact ty_list h
  | tup h _ => exact ty_tup h
theorem kit2 {t a b : String} {r1 r2 r : Bool} (h1 : kitB t a = some r1) (h2 : kitB t b = some r2) (hr : (r1 || r2) = r) : PySem.W.kitAny K (.type t) [.type a, .type b] = some r := by
  refine kitAny_cons (b := r1) (kit_ty h1) (fun e => ?_) (fun e => ?_)
  · refine kitAny_cons (b := r2) (kit_ty h2) (fun e2 => ?_) (fun e2 => ?_)
    · rw [← hr, e, e2]
      exact kitAny_nil
    · rw [← hr, e, e2]
      all_goals rfl
  · rw [← hr, e]
    all_goals rfl
end
def spSame (K : PySem.W.Frag) (n : Nat) : Sp := fun vs H Q _ => ∃ (x y : V) (d : PyData), vs = [x, y] ∧ Dp K H x d ∧ Dp K H y d ∧ Lv n d ∧ ∀ H', Same H H' → Q (.bl true) H'
abbrev s__law_same : Stmt := topS 31
theorem sc__law_same : FnScope (["_law_found", "_law_due", "_law_a", "_law_b"] : List Str) (["_law_found", "_law_due"] : List Str) (defScope s__law_same) := ⟨rfl, rfl, rfl, by decide +kernel, rfl, by decide +kernel, by decide +kernel⟩
theorem b__law_same (kV doc pm : Value) (an : Option Addr) (cdv ct : Value) (us : List Value) (hl : us.length = (["_law_found", "_law_due"] : List Str).length) : bindArgs (PySem.W.fnOf "_law_same" "_law_same" (defArgs s__law_same) (defBody s__law_same) (defScope s__law_same) .none kV doc pm an cdv ct) ⟨us, []⟩ = pure ((["_law_found", "_law_due"] : List Str).zip us) :=
  match us, hl with | [_, _], _ => rfl
section
variable {P : Program} {w : World} {K : PySem.W.Frag} {mg : Str → Option Value} {base : Heap}
theorem same0 (D : Df K mg "_law_same" s__law_same) : Ok P w K mg base 0 "_law_same" s__law_same ["_law_found", "_law_due"] (spSame K 0) := by
  obtain ⟨f, fd, F, g⟩ := D.ex
  refine ⟨f, fd, F, g, F.binds b__law_same, ⟨fun vs H Q E h => ?_, fun A outer s H args us vs Q E hr he hb hv h => ?_⟩⟩
  · obtain ⟨x, y, d, _, _, _, lv, _⟩ := h
    cases d <;> exact lv.elim
  · obtain ⟨x, y, d, _, _, _, lv, _⟩ := h
    cases d <;> exact lv.elim
set_option maxHeartbeats 4000000 in
theorem same1 {m : Nat} (D : Df K mg "_law_same" s__law_same) (T : Bt mg) (O__law_same : Ok P w K mg base m "_law_same" s__law_same ["_law_found", "_law_due"] (spSame K m)) : Ok P w K mg base (m + 1) "_law_same" s__law_same ["_law_found", "_law_due"] (spSame K (m + 1)) := by
  refine D.ok sc__law_same b__law_same (fun vs H Q E h => ?_) (fun f cdv A outer s H vs Q E hr h => ?_)
  · obtain ⟨x, y, d, rfl, _⟩ := h
    rfl
  · obtain ⟨x, y, d, rfl, hx, hy, lv, q⟩ := h
    refine ⟨_, (pss_cons (ps_if (pt_val (pe_callB call_isiT (by rfl) T.isinstance_ (by decide +kernel) (pa_cons (pv 1) (pa_cons (pe_tup (pa_cons (pe_bltn (v := .ty "list") (by rfl) T.list_ (by decide +kernel) rfl) (pa_cons (pe_bltn (v := .ty "tuple") (by rfl) T.tuple_ (by decide +kernel) rfl) pa_nil))) pa_nil))))
        (pss_cons (ps_if (PW.pt (pw_or (pt_cmpR op_ne (pe_callB call_isi (by rfl) T.isinstance_ (by decide +kernel) (pa_cons (pv 0) (pa_cons (pe_bltn (v := .ty "list") (by rfl) T.list_ (by decide +kernel) rfl) pa_nil))) (pe_callB call_isi (by rfl) T.isinstance_ (by decide +kernel) (pa_cons (pv 1) (pa_cons (pe_bltn (v := .ty "list") (by rfl) T.list_ (by decide +kernel) rfl) pa_nil))) (nomark _)) (pw_or1 (pt_cmpR op_ne (pe_callB call_isi (by rfl) T.isinstance_ (by decide +kernel) (pa_cons (pv 0) (pa_cons (pe_bltn (v := .ty "tuple") (by rfl) T.tuple_ (by decide +kernel) rfl) pa_nil))) (pe_callB call_isi (by rfl) T.isinstance_ (by decide +kernel) (pa_cons (pv 1) (pa_cons (pe_bltn (v := .ty "tuple") (by rfl) T.tuple_ (by decide +kernel) rfl) pa_nil))) (nomark _)))))
            (pss_one (ps_ret pe_bl))
            pss_nil)
          (pss_one (ps_ret (pe_and (pe_cmpR op_eq (pe_callB call_len_seq (by rfl) T.len_ PySem.boot_len (pa_cons (pv 0) pa_nil)) (pe_callB call_len_seq (by rfl) T.len_ PySem.boot_len (pa_cons (pv 1) pa_nil)) (nomark _)) (pe_one (pe_callB (cr_all rfl) (by rfl) T.all_ (by decide +kernel) (pa_cons (pe_lc (own := [("_law_a", 2), ("_law_b", 3)]) (g := (gSeq K 2 (gCons (gName 2) (gCons (gName 3) gNil)))) (tt := tYes) (by rfl) sc__law_same.nd (RZ.pi_zipA (by rfl) T.zip_ (pa_cons (pv 0) (pa_cons (pv 1) pa_nil))) (blkOk_by (own := [("_law_a", 2), ("_law_b", 3)]) (N := (["_law_found", "_law_due", "_law_a", "_law_b"] : List Str)) (sc := defScope s__law_same) (by decide +kernel)) (fun _ _ _ _ _ => (pg_seq rfl (pgs_cons (pg_name (i := 2) sc__law_same.nd rfl (.inl rfl)) (pgs_cons (pg_name (i := 3) sc__law_same.nd rfl (.inl rfl)) pgs_nil)))) (fun _ _ _ _ _ => pts_nil) (fun _ _ _ _ _ => (pe_fn O__law_same (hr.mono (by omega)) (pa_cons (pv 2) (pa_cons (pv 3) pa_nil))))) pa_nil)))))))
        pss_nil)
      (pss_cons (ps_if (PW.pt (pw_or (pt_cmpR op_isN (pv 1) pe_non (nomark _)) (pw_or1 (pt_val (pe_callB call_isiT (by rfl) T.isinstance_ (by decide +kernel) (pa_cons (pv 1) (pa_cons (pe_tup (pa_cons (pe_bltn (v := .ty "bool") (by rfl) T.bool_ (by decide +kernel) rfl) (pa_cons (pe_bltn (v := .ty "str") (by rfl) T.str_ (by decide +kernel) rfl) pa_nil))) pa_nil)))))))
        (pss_one (ps_ret (pe_and (pe_cmpR op_eq (pv 0) (pv 1) (nomark _)) (pe_and (pe_cmpR op_eq (pe_callB call_isi (by rfl) T.isinstance_ (by decide +kernel) (pa_cons (pv 0) (pa_cons (pe_bltn (v := .ty "bool") (by rfl) T.bool_ (by decide +kernel) rfl) pa_nil))) (pe_callB call_isi (by rfl) T.isinstance_ (by decide +kernel) (pa_cons (pv 1) (pa_cons (pe_bltn (v := .ty "bool") (by rfl) T.bool_ (by decide +kernel) rfl) pa_nil))) (nomark _)) (pe_one (pe_cmpR op_eq (pe_cmpR op_isN (pv 0) pe_non (nomark _)) (pe_cmpR op_isN (pv 1) pe_non (nomark _)) (nomark _)))))))
        pss_nil)
      (pss_one (ps_ret (pe_and (pe_callB call_isi (by rfl) T.isinstance_ (by decide +kernel) (pa_cons (pv 0) (pa_cons (pe_bltn (v := .ty "int") (by rfl) T.int_ (by decide +kernel) rfl) pa_nil))) (pe_and (pe_not (pe_callB call_isi (by rfl) T.isinstance_ (by decide +kernel) (pa_cons (pv 0) (pa_cons (pe_bltn (v := .ty "bool") (by rfl) T.bool_ (by decide +kernel) rfl) pa_nil)))) (pe_one (pe_cmpR op_eq (pv 0) (pv 1) (nomark _))))))))), ?_⟩
    refine ⟨_, rfl, (by show 2 ≤ sizeLine; decide), fun tp ntp => ?_⟩
    have s1 : Same H (upd H tp (.tup [.ty "list", .ty "tuple"])) := same_new ntp
    generalize eH1 : upd H tp (.tup [.ty "list", .ty "tuple"]) = H1 at s1
    have htp : H1 tp = some (.tup [.ty "list", .ty "tuple"]) := by rw [← eH1, upd_same]
    clear eH1 ntp
    cases d with
    | dict kvs => exact lv.elim
    | list ds =>
      obtain ⟨a, xs, hsx, hax⟩ : ∃ a xs, SqL K H1 a xs ∧ DpAll K H1 xs ds ∧ x = .ref a := by cases hx with | lst h a => exact ⟨_, _, s1.seq h, DpAll.same s1 a, rfl⟩
      obtain ⟨b, ys, hsy, hay⟩ : ∃ a xs, SqL K H1 a xs ∧ DpAll K H1 xs ds ∧ y = .ref a := by cases hy with | lst h a => exact ⟨_, _, s1.seq h, DpAll.same s1 a, rfl⟩
      obtain ⟨hax, rfl⟩ := hax
      obtain ⟨hay, rfl⟩ := hay
      have lx : xs.length = ds.length := DpAll.len hax
      have ly : ys.length = ds.length := DpAll.len hay
      refine ⟨.ref b, tp, [.ty "list", .ty "tuple"], .type "list", [.type "list", .type "tuple"], true, rfl, htp, .cons (.ty _) (.cons (.ty _) .nil), ty_list hsy, kit2 (r1 := true) (r2 := false) (by decide +kernel) (by decide +kernel) rfl, _, rfl, iteT ?_⟩
      refine ⟨_, rfl, .ref a, .ty "list", .type "list", .type "list", true, rfl, .ty _, ty_list hsx, kit_ty (by decide +kernel), _, rfl, .ref b, .ty "list", .type "list", .type "list", true, rfl, .ty _, ty_list hsy, kit_ty (by decide +kernel), rfl, _, rfl, iteNS rfl ?_⟩
      refine ⟨_, rfl, .ref a, .ty "tuple", .type "list", .type "tuple", false, rfl, .ty _, ty_list hsx, kit_ty (by decide +kernel), _, rfl, .ref b, .ty "tuple", .type "list", .type "tuple", false, rfl, .ty _, ty_list hsy, kit_ty (by decide +kernel), rfl, _, rfl, iteNS rfl ?_⟩
      refine ⟨_, rfl, a, xs, rfl, .inl hsx, _, rfl, b, ys, rfl, .inl hsy, rfl, _, rfl, ?_⟩
      rw [if_pos (decide_eq_true (by rw [lx, ly]))]
      refine ⟨_, rfl, _, rfl, a, b, xs, ys, rfl, .inl ⟨hsx, hsy, fun C nC => ?_⟩⟩
      refine lc_it (walk_zip (n := ds.length) (by rw [lx, ly]; exact (Nat.min_self _).symm)) (fun i H' => Same H1 H' ∧ H' C = some (.lst ((List.replicate i true).map V.bl))) ⟨same_new nC, upd_same⟩ (fun i H' _ p => ⟨p.1.seq hsx, p.1.seq hsy⟩) ?_ ?_
      · rintro i z H2 H3 hi ⟨sm, hC⟩ ⟨t, u, v, rfl, nt, rfl, gu, gv⟩
        have sm2 : Same H1 (upd H2 t (.tup [u, v])) := sm.trans (same_new nt)
        obtain ⟨e, ge, he⟩ := DpAll.get (DpAll.same sm2 hax) gu
        obtain ⟨e', ge', he'⟩ := DpAll.get (DpAll.same sm2 hay) gv
        obtain rfl : e = e' := Option.some.inj (ge.symm.trans ge')
        refine ⟨t, [u, v], rfl, SqA.t upd_same, rfl, u, [v], rfl, v, [], rfl, rfl, rfl, tyes (iteT ?_)⟩
        refine ⟨_, rfl, _, rfl, u, v, e, rfl, he, he', lv.2 e (List.mem_of_getElem? ge), fun H4 s4 => ?_⟩
        refine ⟨_, s4 _ _ (by rw [upd_ne (ne_of_none hC nt)]; exact hC), ?_, fun p o ho => ?_, ?_⟩
        · have h1 := lv.1
          rw [List.length_map, List.length_replicate]
          exact Nat.lt_of_lt_of_le hi (Nat.le_trans h1 (by decide))
        · have np : p ≠ C := ne_of_none ho nC
          rw [upd_ne np]
          exact s4 _ _ (sm2 _ _ ho)
        · rw [upd_same, List.replicate_succ', List.map_append]
          rfl
      · rintro H2 ⟨sm, hC⟩
        refine ⟨C, _, rfl, SqL.of hC, ?_⟩
        have e : (List.replicate ds.length true).all id = true := by simp
        rw [e]
        exact q _ (s1.trans sm)
    | tuple ds =>
      obtain ⟨a, xs, hsx, hax⟩ : ∃ a xs, SqT K H1 a xs ∧ DpAll K H1 xs ds ∧ x = .ref a := by cases hx with | tup h a => exact ⟨_, _, Same.tup s1 h, DpAll.same s1 a, rfl⟩
      obtain ⟨b, ys, hsy, hay⟩ : ∃ a xs, SqT K H1 a xs ∧ DpAll K H1 xs ds ∧ y = .ref a := by cases hy with | tup h a => exact ⟨_, _, Same.tup s1 h, DpAll.same s1 a, rfl⟩
      obtain ⟨hax, rfl⟩ := hax
      obtain ⟨hay, rfl⟩ := hay
      have lx : xs.length = ds.length := DpAll.len hax
      have ly : ys.length = ds.length := DpAll.len hay
      refine ⟨.ref b, tp, [.ty "list", .ty "tuple"], .type "tuple", [.type "list", .type "tuple"], true, rfl, htp, .cons (.ty _) (.cons (.ty _) .nil), ty_tup hsy, kit2 (r1 := false) (r2 := true) (by decide +kernel) (by decide +kernel) rfl, _, rfl, iteT ?_⟩
      refine ⟨_, rfl, .ref a, .ty "list", .type "tuple", .type "list", false, rfl, .ty _, ty_tup hsx, kit_ty (by decide +kernel), _, rfl, .ref b, .ty "list", .type "tuple", .type "list", false, rfl, .ty _, ty_tup hsy, kit_ty (by decide +kernel), rfl, _, rfl, iteNS rfl ?_⟩
      refine ⟨_, rfl, .ref a, .ty "tuple", .type "tuple", .type "tuple", true, rfl, .ty _, ty_tup hsx, kit_ty (by decide +kernel), _, rfl, .ref b, .ty "tuple", .type "tuple", .type "tuple", true, rfl, .ty _, ty_tup hsy, kit_ty (by decide +kernel), rfl, _, rfl, iteNS rfl ?_⟩
      refine ⟨_, rfl, a, xs, rfl, .inr hsx, _, rfl, b, ys, rfl, .inr hsy, rfl, _, rfl, ?_⟩
      rw [if_pos (decide_eq_true (by rw [lx, ly]))]
      refine ⟨_, rfl, _, rfl, a, b, xs, ys, rfl, .inr ⟨hsx, hsy, fun C nC => ?_⟩⟩
      refine lc_it (walk_zipT (n := ds.length) (by rw [lx, ly]; exact (Nat.min_self _).symm)) (fun i H' => Same H1 H' ∧ H' C = some (.lst ((List.replicate i true).map V.bl))) ⟨same_new nC, upd_same⟩ (fun i H' _ p => ⟨Same.tup p.1 hsx, Same.tup p.1 hsy⟩) ?_ ?_
      · rintro i z H2 H3 hi ⟨sm, hC⟩ ⟨t, u, v, rfl, nt, rfl, gu, gv⟩
        have sm2 : Same H1 (upd H2 t (.tup [u, v])) := sm.trans (same_new nt)
        obtain ⟨e, ge, he⟩ := DpAll.get (DpAll.same sm2 hax) gu
        obtain ⟨e', ge', he'⟩ := DpAll.get (DpAll.same sm2 hay) gv
        obtain rfl : e = e' := Option.some.inj (ge.symm.trans ge')
        refine ⟨t, [u, v], rfl, SqA.t upd_same, rfl, u, [v], rfl, v, [], rfl, rfl, rfl, tyes (iteT ?_)⟩
        refine ⟨_, rfl, _, rfl, u, v, e, rfl, he, he', lv.2 e (List.mem_of_getElem? ge), fun H4 s4 => ?_⟩
        refine ⟨_, s4 _ _ (by rw [upd_ne (ne_of_none hC nt)]; exact hC), ?_, fun p o ho => ?_, ?_⟩
        · have h1 := lv.1
          rw [List.length_map, List.length_replicate]
          exact Nat.lt_of_lt_of_le hi (Nat.le_trans h1 (by decide))
        · have np : p ≠ C := ne_of_none ho nC
          rw [upd_ne np]
          exact s4 _ _ (sm2 _ _ ho)
        · rw [upd_same, List.replicate_succ', List.map_append]
          rfl
      · rintro H2 ⟨sm, hC⟩
        refine ⟨C, _, rfl, SqL.of hC, ?_⟩
        have e : (List.replicate ds.length true).all id = true := by simp
        rw [e]
        exact q _ (s1.trans sm)
    | int i =>
      cases hx; cases hy
      refine ⟨.int i, tp, [.ty "list", .ty "tuple"], .type "int", [.type "list", .type "tuple"], false, rfl, htp, .cons (.ty _) (.cons (.ty _) .nil), .base (.int i), kit2 (r1 := false) (r2 := false) (by decide +kernel) (by decide +kernel) rfl, _, rfl, iteF ?_⟩
      refine ⟨_, rfl, rfl, _, rfl, iteF ?_⟩
      refine ⟨_, rfl, (by show 2 ≤ sizeLine; decide), fun tq ntq => ?_⟩
      refine ⟨.int i, tq, [.ty "bool", .ty "str"], .type "int", [.type "bool", .type "str"], false, rfl, upd_same, .cons (.ty _) (.cons (.ty _) .nil), .base (.int i), kit2 (r1 := false) (r2 := false) (by decide +kernel) (by decide +kernel) rfl, _, rfl, iteF ?_⟩
      refine ⟨_, rfl, .int i, .ty "int", .type "int", .type "int", true, rfl, .ty _, .base (.int i), kit_ty (by decide +kernel), _, rfl, iteT ?_⟩
      refine ⟨_, rfl, .int i, .ty "bool", .type "int", .type "bool", false, rfl, .ty _, .base (.int i), kit_ty (by decide +kernel), _, rfl, _, rfl, iteT ?_⟩
      refine ⟨_, rfl, _, rfl, rfl, ?_⟩
      rw [decide_eq_true rfl]
      exact q _ (s1.trans (same_new ntq))
    | none =>
      cases hx; cases hy
      refine ⟨.non, tp, [.ty "list", .ty "tuple"], .type "NoneType", [.type "list", .type "tuple"], false, rfl, htp, .cons (.ty _) (.cons (.ty _) .nil), .base .non, kit2 (r1 := false) (r2 := false) (by decide +kernel) (by decide +kernel) rfl, _, rfl, iteF ?_⟩
      refine ⟨_, rfl, rfl, _, rfl, iteT (iteT ?_)⟩
      refine ⟨_, rfl, _, rfl, rfl, _, rfl, iteT ?_⟩
      refine ⟨_, rfl, .non, .ty "bool", .type "NoneType", .type "bool", false, rfl, .ty _, .base .non, kit_ty (by decide +kernel), _, rfl, .non, .ty "bool", .type "NoneType", .type "bool", false, rfl, .ty _, .base .non, kit_ty (by decide +kernel), rfl, _, rfl, iteT ?_⟩
      refine ⟨_, rfl, rfl, _, rfl, rfl, rfl, ?_⟩
      exact q _ s1
    | bool c =>
      cases hx; cases hy
      refine ⟨.bl c, tp, [.ty "list", .ty "tuple"], .type "bool", [.type "list", .type "tuple"], false, rfl, htp, .cons (.ty _) (.cons (.ty _) .nil), .base (.bl c), kit2 (r1 := false) (r2 := false) (by decide +kernel) (by decide +kernel) rfl, _, rfl, iteF ?_⟩
      refine ⟨_, rfl, rfl, _, rfl, iteF ?_⟩
      refine ⟨_, rfl, (by show 2 ≤ sizeLine; decide), fun tq ntq => ?_⟩
      refine ⟨.bl c, tq, [.ty "bool", .ty "str"], .type "bool", [.type "bool", .type "str"], true, rfl, upd_same, .cons (.ty _) (.cons (.ty _) .nil), .base (.bl c), kit2 (r1 := true) (r2 := false) (by decide +kernel) (by decide +kernel) rfl, _, rfl, iteT ?_⟩
      refine ⟨_, rfl, _, rfl, rfl, _, rfl, ?_⟩
      rw [if_pos (decide_eq_true rfl)]
      refine ⟨_, rfl, .bl c, .ty "bool", .type "bool", .type "bool", true, rfl, .ty _, .base (.bl c), kit_ty (by decide +kernel), _, rfl, .bl c, .ty "bool", .type "bool", .type "bool", true, rfl, .ty _, .base (.bl c), kit_ty (by decide +kernel), rfl, _, rfl, iteT ?_⟩
      refine ⟨_, rfl, rfl, _, rfl, rfl, rfl, ?_⟩
      exact q _ (s1.trans (same_new ntq))
    | str c =>
      cases hx; cases hy
      refine ⟨.str c, tp, [.ty "list", .ty "tuple"], .type "str", [.type "list", .type "tuple"], false, rfl, htp, .cons (.ty _) (.cons (.ty _) .nil), .base (.str c), kit2 (r1 := false) (r2 := false) (by decide +kernel) (by decide +kernel) rfl, _, rfl, iteF ?_⟩
      refine ⟨_, rfl, rfl, _, rfl, iteF ?_⟩
      refine ⟨_, rfl, (by show 2 ≤ sizeLine; decide), fun tq ntq => ?_⟩
      refine ⟨.str c, tq, [.ty "bool", .ty "str"], .type "str", [.type "bool", .type "str"], true, rfl, upd_same, .cons (.ty _) (.cons (.ty _) .nil), .base (.str c), kit2 (r1 := false) (r2 := true) (by decide +kernel) (by decide +kernel) rfl, _, rfl, iteT ?_⟩
      refine ⟨_, rfl, _, rfl, rfl, _, rfl, ?_⟩
      rw [if_pos (decide_eq_true rfl)]
      refine ⟨_, rfl, .str c, .ty "bool", .type "str", .type "bool", false, rfl, .ty _, .base (.str c), kit_ty (by decide +kernel), _, rfl, .str c, .ty "bool", .type "str", .type "bool", false, rfl, .ty _, .base (.str c), kit_ty (by decide +kernel), rfl, _, rfl, iteT ?_⟩
      refine ⟨_, rfl, rfl, _, rfl, rfl, rfl, ?_⟩
      exact q _ (s1.trans (same_new ntq))
theorem ok_same (D : Df K mg "_law_same" s__law_same) (T : Bt mg) : ∀ m : Nat, Ok P w K mg base m "_law_same" s__law_same ["_law_found", "_law_due"] (spSame K m)
  | 0 => same0 D
  | m + 1 => same1 D T (ok_same D T m)
end
end Sh

namespace Sh
open PySem PySem.Spec PyProof.Rows L2
/-! ### a drawn sea -/
theorem But.put {b p : Addr} {H H' : Hp} {o : HO} (h : But b H H') (n : H p = none) : But b H (upd H' p o) := fun a x na e => by
  rw [upd_ne (ne_of_none e n)]
  exact h a x na e
theorem But.box {b : Addr} {H H' : Hp} {o : HO} (h : But b H H') : But b H (upd H' b o) := fun a x na e => by
  rw [upd_ne na]
  exact h a x na e
theorem BoxAt.put {H : Hp} {b : Addr} {n : Nat} {xs : List V} (h : BoxOk xs n) : BoxAt (upd H b (.lst xs)) b n := ⟨xs, upd_same, h⟩
theorem BoxAt.at {H : Hp} {b p : Addr} {n : Nat} {o : HO} (h : BoxAt H b n) (ne : b ≠ p) : BoxAt (upd H p o) b n := let ⟨xs, e, k⟩ := h; ⟨xs, by rw [upd_ne ne]; exact e, k⟩
structure SeaOk (most : Nat) (h t : Int) (ds : List Int) : Prop where
  h0 : 0 ≤ h
  h1 : h ≤ 1000000000000
  t0 : 0 ≤ t
  t1 : t ≤ 1000000000000
  l0 : 0 < ds.length
  l1 : ds.length ≤ most
  d0 : ∀ d ∈ ds, 0 ≤ d ∧ d ≤ 1000000000000
def spSea : Sp := fun vs H Q _ => ∃ (b : Addr) (n most : Nat), vs = [.ref b, .int (most : Int)] ∧ 0 < most ∧ most ≤ 60 ∧ BoxAt H b (n + 200) ∧
  ∀ (H' : Hp) (p q : Addr) (h t : Int) (ds : List Int), But b H H' → BoxAt H' b n → H p = none → H q = none → H' p = some (.tup [.int h, .int t, .ref q]) → H' q = some (.tup (ds.map V.int)) → SeaOk most h t ds → Q (.ref p) H'
section
variable {P : Program} {w : World} {K : PySem.W.Frag} {mg : Str → Option Value} {base : Heap}
/-- a new object, a draw: what stands, stands -/
theorem al {b p : Addr} {H Hc : Hp} {n : Nat} {o : HO} (u : But b H Hc) (x : BoxAt Hc b n) (np : Hc p = none) : But b H (upd Hc p o) ∧ BoxAt (upd Hc p o) b n ∧ upd Hc p o p = some o ∧ p ≠ b :=
  ⟨fun a z na e => by rw [upd_ne (ne_of_none (u a z na e) np)]; exact u a z na e, x.at (x.ne np), upd_same, (x.ne np).symm⟩
theorem tk {b : Addr} {H Hc : Hp} {n : Nat} {ys : List V} (u : But b H Hc) (y : BoxOk ys n) : But b H (upd Hc b (.lst ys)) ∧ BoxAt (upd Hc b (.lst ys)) b n := ⟨u.box, .put y⟩
theorem But.free {b p : Addr} {H H' : Hp} (u : But b H H') (n : p ≠ b) (h : H' p = none) : H p = none := by
  cases e : H p with
  | none => rfl
  | some o =>
    rw [u p o n e] at h
    cases h
theorem two_of {ns : List Int} (h : ns.length = 2) : ∃ a b, ns = [a, b] := by
  match ns, h with
  | [a, b], _ => exact ⟨a, b, rfl⟩
theorem ints_mem {v : V} {ns : List Int} (h : v ∈ ns.map V.int) : ∃ i ∈ ns, v = .int i := by
  obtain ⟨i, hi, e⟩ := List.mem_map.mp h
  exact ⟨i, hi, e.symm⟩
theorem ne_box {H : Hp} {b p : Addr} {n : Nat} (h : BoxAt H b n) (z : H p = none) : p ≠ b := (h.ne z).symm
end
end Sh

namespace Sh
open PySem PySem.Spec PyProof.Rows L2
/-! ### what many laws ask -/
/-- a sea (list or tuple) is handed in -/
def SeaA (K : PySem.W.Frag) (H : Hp) (v : V) (h t : Int) (ds : List Int) : Prop := ∃ p q, v = .ref p ∧ SqA K H p [.int h, .int t, .ref q] ∧ SqA K H q (ds.map V.int)
theorem SeaA.same {K : PySem.W.Frag} {H H' : Hp} {v : V} {h t : Int} {ds : List Int} (s : SeaA K H v h t ds) (e : Same H H') : SeaA K H' v h t ds := let ⟨p, q, a, b, c⟩ := s; ⟨p, q, a, Same.sqA e b, Same.sqA e c⟩
theorem lay_ints : ∀ ns : List Int, PyData.canLayAll0 (ns.map .int) = true ∧ PyData.depthAll (ns.map .int) = 0
  | [] => ⟨rfl, rfl⟩
  | n :: ns => by
    obtain ⟨a, b⟩ := lay_ints ns
    constructor
    · show (PyData.canLay0 (.int n) && PyData.canLayAll0 (ns.map .int)) = true
      rw [a]
      rfl
    · show max (PyData.depth (.int n)) (PyData.depthAll (ns.map .int)) = 0
      rw [b]
      rfl
theorem shaped_ints (ns : List Int) : SeqAt.shaped (.list (ns.map .int)) = true := by
  obtain ⟨a, b⟩ := lay_ints ns
  unfold SeqAt.shaped
  rw [show PyData.canLay0 (.list (ns.map .int)) = PyData.canLayAll0 (ns.map .int) from rfl, show PyData.depth (.list (ns.map .int)) = PyData.depthAll (ns.map .int) + 1 from rfl, a, b]
  rfl
theorem flat_ints (ns : List Int) : (ns.map V.int).all flatV = true := by
  rw [List.all_map]
  exact List.all_eq_true.mpr fun _ _ => rfl
theorem same_over {H H1 : Hp} {p : Addr} {o : HO} (s : Same H H1) (n : H p = none) : Same H (upd H1 p o) := fun a x e => by
  rw [upd_ne (ne_of_none e n)]
  exact s _ _ e
end Sh

namespace Sh
open PySem PySem.Spec PyProof.Rows L2
/-! ### standings as lists of ships -/
def ni (L : List Nat) : List V := L.map fun (i : Nat) => V.int (i : Int)
theorem ni_len (L : List Nat) : (ni L).length = L.length := by unfold ni; simp
theorem ni_get {L : List Nat} {i : Nat} (h : i < L.length) : (ni L)[i]? = some (.int ((L[i] : Nat) : Int)) := by unfold ni; simp [h]
theorem ni_app (L M : List Nat) : ni (L ++ M) = ni L ++ ni M := by unfold ni; simp
theorem ni_ints (L : List Nat) : ni L = (L.map fun (i : Nat) => (i : Int)).map V.int := by unfold ni; simp
theorem ni_flat (L : List Nat) : (ni L).all flatV = true := by unfold ni; rw [List.all_map]; exact List.all_eq_true.mpr fun _ _ => rfl
/-- a rising lot of ships below c -/
structure Lot (c : Nat) (L : List Nat) : Prop where
  up : L.Pairwise (· < ·)
  lt : ∀ i ∈ L, i < c
theorem up_len : ∀ {L : List Nat} {lo c : Nat}, L.Pairwise (· < ·) → (∀ i ∈ L, lo ≤ i ∧ i < c) → L.length ≤ c - lo
  | [], _, _, _, _ => Nat.zero_le _
  | a :: r, lo, c, h, hb => by
    obtain ⟨h1, h2⟩ := List.pairwise_cons.mp h
    have ha := hb a List.mem_cons_self
    have := up_len (lo := a + 1) (c := c) h2 fun i hi => ⟨h1 i hi, (hb i (List.mem_cons_of_mem _ hi)).2⟩
    rw [List.length_cons]
    omega
theorem Lot.len {c : Nat} {L : List Nat} (h : Lot c L) : L.length ≤ c := up_len (lo := 0) h.up fun i hi => ⟨Nat.zero_le _, h.lt i hi⟩
theorem Lot.nil (c : Nat) : Lot c [] := ⟨.nil, fun _ h => by cases h⟩
theorem Lot.all (c : Nat) : Lot c (List.range c) := ⟨List.pairwise_lt_range, fun _ h => List.mem_range.mp h⟩
theorem Lot.filter {c : Nat} {L : List Nat} (h : Lot c L) (p : Nat → Bool) : Lot c (L.filter p) := ⟨h.up.filter p, fun i hi => h.lt i (List.mem_filter.mp hi).1⟩
theorem rgV_ni (n : Nat) : rgV 0 (n : Int) = ni (List.range n) := by
  unfold rgV ni
  rw [show ((n : Int) - 0).toNat = n by omega]
  refine List.map_congr_left fun i _ => ?_
  rw [Int.zero_add]
theorem dp_ni {K : PySem.W.Frag} {H : Hp} {a : Addr} {L : List Nat} (h : H a = some (.lst (ni L))) : Dp K H (.ref a) (.list ((L.map fun (i : Nat) => (i : Int)).map .int)) := by
  rw [ni_ints] at h
  exact .lst (SqL.of h) (DpAll.ints _)
end Sh

namespace Sh
open PySem PySem.Spec PyProof.Rows L2
/-! ### who may go -/
/-- how many others lie here -/
def near (L : List Nat) (i : Nat) : Nat := (L.filter fun j => !decide (j = i)).length
def mayB (h t : Int) (ds : List Int) (L : List Nat) (i : Nat) : Bool := decide (ds.getD i 0 ≤ h + (near L i : Int)) && decide (ds.getD i 0 ≤ t + (ds.length : Int) - 1 - (near L i : Int))
def lets (h t : Int) (ds : List Int) (L : List Nat) (n : Nat) : List Nat := (List.range n).filter (mayB h t ds L)
theorem filter_succ (p : Nat → Bool) (n : Nat) : (List.range (n + 1)).filter p = (List.range n).filter p ++ (if p n = true then [n] else []) := by
  rw [List.range_succ, List.filter_append]
  congr 1
  by_cases h : p n = true
  · rw [if_pos h, List.filter_cons_of_pos h]
    rfl
  · rw [if_neg h, List.filter_cons_of_neg h]
    rfl
theorem filter_len (p : Nat → Bool) (n : Nat) : ((List.range n).filter p).length ≤ n := Nat.le_trans (List.length_filter_le _ _) (by simp)
theorem take_succ_get {α : Type} {L : List α} {i : Nat} (h : i < L.length) : L.take (i + 1) = L.take i ++ [L[i]] := by rw [List.take_add_one, List.getElem?_eq_getElem h]; rfl
/-- a standing is handed in -/
def LotA (K : PySem.W.Frag) (H : Hp) (v : V) (L : List Nat) : Prop := ∃ p, v = .ref p ∧ SqA K H p (ni L)
theorem LotA.same {K : PySem.W.Frag} {H H' : Hp} {v : V} {L : List Nat} (s : LotA K H v L) (e : Same H H') : LotA K H' v L := let ⟨p, a, b⟩ := s; ⟨p, a, Same.sqA e b⟩
end Sh

namespace Sh
open PySem PySem.Spec PyProof.Rows L2
/-! ### who is afloat -/
theorem Lot.mem_eq {c : Nat} {L : List Nat} (h : Lot c L) : L = (List.range c).filter fun j => decide (j ∈ L) := by
  have h2 : Lot c ((List.range c).filter fun j => decide (j ∈ L)) := (Lot.all c).filter _
  refine List.Perm.eq_of_pairwise (le := (· < ·)) (fun a b _ _ h1 h2 => absurd (Nat.lt_trans h1 h2) (Nat.lt_irrefl _)) h.up h2.up ?_
  refine (List.perm_ext_iff_of_nodup (h.up.imp Nat.ne_of_lt) (h2.up.imp Nat.ne_of_lt)).mpr fun a => ?_
  rw [List.mem_filter, List.mem_range, decide_eq_true_eq]
  exact ⟨fun q => ⟨h.lt a q, q⟩, fun q => q.2⟩
theorem filter_filter_len (p q : Nat → Bool) : ∀ l : List Nat, (l.filter p).length = (l.filter fun j => p j && q j).length + (l.filter fun j => p j && !q j).length
  | [] => rfl
  | a :: l => by
    have ih := filter_filter_len p q l
    cases hp : p a <;> cases hq : q a <;> simp [List.filter_cons, hp, hq, ih] <;> omega
/-- how many mates: here, or there -/
def mates (c : Nat) (L : List Nat) (i : Nat) : List Nat := (List.range c).filter fun j => !decide (j = i) && (decide (j ∈ L) == decide (i ∈ L))
theorem near_in {c : Nat} {L : List Nat} (h : Lot c L) (i : Nat) : near L i = ((List.range c).filter fun j => decide (j ∈ L) && !decide (j = i)).length := by
  unfold near
  conv => lhs; rw [h.mem_eq]
  rw [List.filter_filter]
  congr 1
  refine List.filter_congr fun a _ => ?_
  cases decide (a ∈ L) <;> cases decide (a = i) <;> rfl
theorem mates_here {c : Nat} {L : List Nat} (h : Lot c L) {i : Nat} (hi : i ∈ L) : (mates c L i).length = near L i := by
  rw [near_in h, mates]
  congr 1
  refine List.filter_congr fun a _ => ?_
  rw [decide_eq_true hi]
  cases decide (a ∈ L) <;> cases decide (a = i) <;> rfl
theorem one_of {c i : Nat} (hi : i < c) : ((List.range c).filter fun j => decide (j = i)).length = 1 := by
  have e : ((List.range c).filter fun j => decide (j = i)) = [i] := by
    refine List.Perm.eq_of_pairwise (le := (· < ·)) (fun a b _ _ h1 h2 => absurd (Nat.lt_trans h1 h2) (Nat.lt_irrefl _)) (List.pairwise_lt_range.filter _) (List.pairwise_singleton _ _) ?_
    refine (List.perm_ext_iff_of_nodup ((List.pairwise_lt_range.filter _).imp Nat.ne_of_lt) (by simp)).mpr fun a => ?_
    rw [List.mem_filter, List.mem_range, decide_eq_true_eq, List.mem_singleton]
    exact ⟨fun q => q.2, fun q => ⟨q ▸ hi, q⟩⟩
  rw [e]
  rfl
theorem mates_there {c : Nat} {L : List Nat} (h : Lot c L) {i : Nat} (hc : i < c) (hi : i ∉ L) : ((mates c L i).length : Int) = (c : Int) - 1 - (near L i : Int) := by
  have e1 := filter_filter_len (fun j => !decide (j = i)) (fun j => decide (j ∈ L)) (List.range c)
  have e2 := filter_filter_len (fun _ => true) (fun j => decide (j = i)) (List.range c)
  have e3 : ((List.range c).filter fun j => true && decide (j = i)).length = 1 := one_of hc
  have e4 : ((List.range c).filter fun _ => true).length = c := by rw [List.filter_eq_self.mpr fun _ _ => rfl, List.length_range]
  have e5 : ((List.range c).filter fun j => !decide (j = i) && decide (j ∈ L)).length = near L i := by
    rw [near_in h]
    congr 1
    exact List.filter_congr fun a _ => Bool.and_comm _ _
  have e6 : ((List.range c).filter fun j => !decide (j = i) && !decide (j ∈ L)).length = (mates c L i).length := by
    unfold mates
    congr 1
    refine List.filter_congr fun a _ => ?_
    rw [decide_eq_false hi]
    cases decide (a ∈ L) <;> cases decide (a = i) <;> rfl
  have e7 : ((List.range c).filter fun j => true && !decide (j = i)).length = ((List.range c).filter fun j => !decide (j = i)).length := rfl
  rw [e5, e6] at e1
  rw [e3, e4, e7] at e2
  omega
/-- afloat where it lies -/
def aflB (h t : Int) (ds : List Int) (L : List Nat) (i : Nat) : Bool := if i ∈ L then decide (ds.getD i 0 ≤ h + (near L i : Int)) else decide (ds.getD i 0 ≤ t + ((ds.length : Int) - 1 - (near L i : Int)))
def afl (h t : Int) (ds : List Int) (L : List Nat) (n : Nat) : List Nat := (List.range n).filter (aflB h t ds L)
theorem aflB_mates {h t : Int} {ds : List Int} {L : List Nat} {i : Nat} (hL : Lot ds.length L) (hi : i < ds.length) :
    aflB h t ds L i = decide (ds.getD i 0 ≤ (if i ∈ L then h else t) + ((mates ds.length L i).length : Int)) := by
  unfold aflB
  by_cases z : i ∈ L
  · rw [if_pos z, if_pos z, mates_here hL z]
  · rw [if_neg z, if_neg z, mates_there hL hi z]
theorem in_ni {i : Nat} {L : List Nat} : inV (.int (i : Int)) (ni L) = decide (i ∈ L) := by
  unfold inV ni
  rw [List.any_map, Bool.eq_iff_iff, List.any_eq_true, decide_eq_true_eq]
  constructor
  · rintro ⟨x, hx, e⟩
    have e' : ((x : Int) == (i : Int)) = true := e
    have : x = i := by have := beq_iff_eq.mp e'; omega
    rw [← this]
    exact hx
  · intro hx
    exact ⟨i, hx, beq_self_eq_true (i : Int)⟩
def spAfl (K : PySem.W.Frag) : Sp := fun vs H Q _ => ∃ (v l : V) (h t : Int) (ds : List Int) (L : List Nat), vs = [v, l] ∧ SeaA K H v h t ds ∧ LotA K H l L ∧ ds.length ≤ 1000 ∧ Lot ds.length L ∧
  ∀ (H' : Hp) (p : Addr), Same H H' → H p = none → H' p = some (.lst (ni (afl h t ds L ds.length))) → Q (.ref p) H'
/-- the same of who may go: of a standing -/
def spMay (K : PySem.W.Frag) : Sp := fun vs H Q _ => ∃ (v l : V) (h t : Int) (ds : List Int) (L : List Nat), vs = [v, l] ∧ SeaA K H v h t ds ∧ LotA K H l L ∧ ds.length ≤ 1000 ∧ Lot ds.length L ∧
  ∀ (H' : Hp) (p : Addr), Same H H' → H p = none → H' p = some (.lst (ni (lets h t ds L ds.length))) → Q (.ref p) H'
end Sh

namespace Sh
open PySem PySem.Spec PyProof.Rows L2
theorem eqv_nil (ns : List Int) : PyData.eqv (.list (ns.map .int)) (.list []) = ns.isEmpty := by cases ns <;> rfl
end Sh

namespace Sh
open PySem PySem.Spec PyProof.Rows L2
/-! ### the program: steps -/
def mk (h t : Int) (k : Nat) (s : Int) : Int := if t + ((k : Int) - 1 - s) < h + s then t + ((k : Int) - 1 - s) else h + s
def gs (m : Int) (ds : List Int) (n : Nat) : List Nat := (List.range n).filter fun i => decide (ds.getD i 0 ≤ m)
def topI (h t : Int) (k : Nat) : Int := if (if (t + ((k : Int) - 1) - h) / 2 < (k : Int) - 1 then (t + ((k : Int) - 1) - h) / 2 else (k : Int) - 1) > 0 then (if (t + ((k : Int) - 1) - h) / 2 < (k : Int) - 1 then (t + ((k : Int) - 1) - h) / 2 else (k : Int) - 1) else 0
def lowI (h d : Int) : Int := if d - h > 0 then d - h else 0
def highI (t : Int) (k : Nat) (d : Int) : Int := if t + ((k : Int) - 1) - d < (k : Int) - 1 then t + ((k : Int) - 1) - d else (k : Int) - 1
def spMark (K : PySem.W.Frag) : Sp := fun vs H Q _ => ∃ (v : V) (h t s : Int) (ds : List Int), vs = [v, .int s] ∧ SeaA K H v h t ds ∧ Q (.int (mk h t ds.length s)) H
def spGoers (K : PySem.W.Frag) : Sp := fun vs H Q _ => ∃ (v : V) (h t s : Int) (ds : List Int), vs = [v, .int s] ∧ SeaA K H v h t ds ∧ ds.length ≤ 1000 ∧
  ∀ (H' : Hp) (p : Addr), Same H H' → H p = none → H' p = some (.lst (((gs (mk h t ds.length s) ds ds.length).map fun (i : Nat) => (i : Int)).map V.int)) → Q (.ref p) H'
def spTop (K : PySem.W.Frag) : Sp := fun vs H Q _ => ∃ (v : V) (h t : Int) (ds : List Int), vs = [v] ∧ SeaA K H v h t ds ∧ Q (.int (topI h t ds.length)) H
def spWindow (K : PySem.W.Frag) : Sp := fun vs H Q _ => ∃ (v : V) (h t d : Int) (j : Nat) (ds : List Int), vs = [v, .int (j : Int)] ∧ SeaA K H v h t ds ∧ ds[j]? = some d ∧
  (lowI h d > highI t ds.length d → Q .non H) ∧ (¬ lowI h d > highI t ds.length d → ∀ p, H p = none → Q (.ref p) (upd H p (.tup [.int (lowI h d), .int (highI t ds.length d)])))
theorem gs_succ {m : Int} {ds : List Int} {n : Nat} : gs m ds (n + 1) = gs m ds n ++ (if ds.getD n 0 ≤ m then [n] else []) := by
  unfold gs
  rw [List.range_succ, List.filter_append]
  congr 1
  by_cases h : ds.getD n 0 ≤ m
  · rw [if_pos h, List.filter_cons_of_pos (by simpa using h)]
    rfl
  · rw [if_neg h, List.filter_cons_of_neg (by simpa using h)]
    rfl
theorem gs_len {m : Int} {ds : List Int} {n : Nat} : (gs m ds n).length ≤ n := by
  unfold gs
  exact Nat.le_trans (List.length_filter_le _ _) (by simp)
theorem mk_alt (h t : Int) (k : Nat) (s : Int) : (if t + (k : Int) - 1 - s < h + s then t + (k : Int) - 1 - s else h + s) = mk h t k s := by
  unfold mk
  rw [show t + (k : Int) - 1 - s = t + ((k : Int) - 1 - s) by omega]
end Sh

namespace Sh
open PySem PySem.Spec PyProof.Rows L2
/-! ### steps: the mathematics -/
def ml (h t : Int) (k n : Nat) : List Int := (List.range n).map fun (i : Nat) => mk h t k (i : Int)
theorem ml_succ (h t : Int) (k n : Nat) : ml h t k (n + 1) = ml h t k n ++ [mk h t k (n : Int)] := by
  unfold ml
  rw [List.range_succ, List.map_append]
  rfl
theorem ml_len (h t : Int) (k n : Nat) : (ml h t k n).length = n := by
  unfold ml
  simp
theorem ml_get {h t : Int} {k n i : Nat} (hi : i < n) : (ml h t k n)[i]? = some (mk h t k (i : Int)) := by
  unfold ml
  simp [hi]
theorem top_lo (h t : Int) (k : Nat) : 0 ≤ topI h t k := by
  unfold topI
  split <;> omega
theorem top_hi (h t : Int) {k : Nat} (hk : 0 < k) : topI h t k < (k : Int) := by
  unfold topI
  repeat' split
  all_goals omega
theorem top_max (h t : Int) {k i : Nat} (hi : i < k) : mk h t k (i : Int) ≤ mk h t k (topI h t k) := by
  unfold mk topI
  repeat' split
  all_goals omega
theorem top_least (h t : Int) {k i : Nat} (hi : (i : Int) < topI h t k) : mk h t k (i : Int) < mk h t k (topI h t k) := by
  unfold mk topI at *
  repeat' split
  all_goals (repeat' split at hi)
  all_goals omega
theorem win_iff (h t d : Int) {k i : Nat} (hi : i < k) : d ≤ mk h t k (i : Int) ↔ lowI h d ≤ (i : Int) ∧ (i : Int) ≤ highI t k d := by
  unfold mk lowI highI
  constructor
  · intro z
    split at z <;> (constructor <;> split <;> omega)
  · intro z
    split <;> (obtain ⟨z1, z2⟩ := z; split at z1 <;> split at z2 <;> omega)
/-- the steps at which it may go -/
def fl (h t d : Int) (k n : Nat) : List Nat := (List.range n).filter fun (i : Nat) => decide (d ≤ mk h t k (i : Int))
theorem fl_succ {h t d : Int} {k n : Nat} : fl h t d k (n + 1) = fl h t d k n ++ (if d ≤ mk h t k (n : Int) then [n] else []) := by
  unfold fl
  rw [List.range_succ, List.filter_append]
  congr 1
  by_cases z : d ≤ mk h t k (n : Int)
  · rw [if_pos z, List.filter_cons_of_pos (by simpa using z)]
    rfl
  · rw [if_neg z, List.filter_cons_of_neg (by simpa using z)]
    rfl
theorem fl_len {h t d : Int} {k n : Nat} : (fl h t d k n).length ≤ n := by
  unfold fl
  exact Nat.le_trans (List.length_filter_le _ _) (by simp)
theorem fl_mem {h t d : Int} {k i : Nat} : i ∈ fl h t d k k ↔ i < k ∧ lowI h d ≤ (i : Int) ∧ (i : Int) ≤ highI t k d := by
  unfold fl
  rw [List.mem_filter, List.mem_range, decide_eq_true_eq]
  constructor
  · rintro ⟨a, b⟩
    exact ⟨a, (win_iff h t d a).mp b⟩
  · rintro ⟨a, b⟩
    exact ⟨a, (win_iff h t d a).mpr b⟩
theorem fl_sorted (h t d : Int) (k : Nat) : (fl h t d k k).Pairwise (· < ·) := by
  unfold fl
  exact List.Pairwise.filter _ List.pairwise_lt_range
theorem high_lt (t d : Int) {k : Nat} (hk : 0 < k) : highI t k d < (k : Int) := by
  unfold highI
  split <;> omega
theorem low_nn (h d : Int) : 0 ≤ lowI h d := by
  unfold lowI
  split <;> omega
theorem fl_nil {h t d : Int} {k : Nat} (z : lowI h d > highI t k d) : fl h t d k k = [] := by
  cases e : fl h t d k k with
  | nil => rfl
  | cons x r =>
    have m : x ∈ fl h t d k k := by rw [e]; exact List.mem_cons_self
    obtain ⟨_, a, b⟩ := fl_mem.mp m
    omega
/-- a rising list has its least first, its greatest last -/
theorem fl_ends {h t d : Int} {k : Nat} (hk : 0 < k) (z : ¬ lowI h d > highI t k d) : ∃ (l : List Nat) (r : List Nat) (a b : Nat), fl h t d k k = a :: r ∧ fl h t d k k = l ++ [b] ∧ (a : Int) = lowI h d ∧ (b : Int) = highI t k d := by
  have hh := high_lt t d hk
  have hl := low_nn h d
  have ml' : (lowI h d).toNat ∈ fl h t d k k := fl_mem.mpr ⟨by omega, by omega, by omega⟩
  have mh : (highI t k d).toNat ∈ fl h t d k k := fl_mem.mpr ⟨by omega, by omega, by omega⟩
  have ne : fl h t d k k ≠ [] := List.ne_nil_of_mem ml'
  have st := fl_sorted h t d k
  obtain ⟨a, r, e1⟩ : ∃ a r, fl h t d k k = a :: r := by
    cases e : fl h t d k k with
    | nil => exact absurd e ne
    | cons x r => exact ⟨x, r, rfl⟩
  have e2 : fl h t d k k = (fl h t d k k).dropLast ++ [(fl h t d k k).getLast ne] := (List.dropLast_concat_getLast ne).symm
  refine ⟨_, r, a, _, e1, e2, ?_, ?_⟩
  · have ma : a ∈ fl h t d k k := by rw [e1]; exact List.mem_cons_self
    obtain ⟨_, g1, g2⟩ := fl_mem.mp ma
    have le : a ≤ (lowI h d).toNat := by
      rw [e1] at ml' st
      rcases List.mem_cons.mp ml' with q | q
      · omega
      · have := (List.pairwise_cons.mp st).1 _ q
        omega
    omega
  · have mb := List.getLast_mem ne
    obtain ⟨_, g1, g2⟩ := fl_mem.mp mb
    have le : (highI t k d).toNat ≤ (fl h t d k k).getLast ne := by
      have st2 := st
      rw [e2] at mh st2
      rcases List.mem_append.mp mh with q | q
      · have := (List.pairwise_append.mp st2).2.2 _ q _ List.mem_cons_self
        omega
      · have : (highI t k d).toNat = (fl h t d k k).getLast ne := by simpa using q
        omega
    omega
end Sh

namespace Sh
open PySem PySem.Spec PyProof.Rows L2
/-! ### sorted lists of ships -/
theorem nat_list {c : Nat} : ∀ {ns : List Int}, (∀ z ∈ ns, 0 ≤ z ∧ z < (c : Int)) → ∃ L : List Nat, ns = L.map (fun (i : Nat) => (i : Int)) ∧ ∀ i ∈ L, i < c
  | [], _ => ⟨[], rfl, fun _ h => by cases h⟩
  | z :: ns, h => by
    obtain ⟨L, e, hL⟩ := nat_list (ns := ns) fun y hy => h y (List.mem_cons_of_mem _ hy)
    have hz := h z List.mem_cons_self
    refine ⟨z.toNat :: L, ?_, fun i hi => ?_⟩
    · rw [List.map_cons, ← e]
      congr 1
      omega
    · rcases List.mem_cons.mp hi with q | q
      · omega
      · exact hL i q
theorem map_inj {L M : List Nat} (h : (L.map fun (i : Nat) => (i : Int)).Perm (M.map fun (i : Nat) => (i : Int))) : L.Perm M := by
  have h2 := h.map Int.toNat
  rw [List.map_map, List.map_map] at h2
  have e : (Int.toNat ∘ fun (i : Nat) => (i : Int)) = id := by
    funext i
    exact Int.toNat_natCast i
  rw [e, List.map_id, List.map_id] at h2
  exact h2
/-- sorted ints that are a rearrangement of different ships: a lot -/
theorem lot_sorted {c : Nat} {ns : List Int} {M : List Nat} (pm : ns.Perm (M.map fun (i : Nat) => (i : Int))) (up : ns.Pairwise (· ≤ ·)) (nd : M.Nodup) (lt : ∀ i ∈ M, i < c) :
    ∃ L : List Nat, ns = L.map (fun (i : Nat) => (i : Int)) ∧ L.Perm M ∧ Lot c L := by
  obtain ⟨L, rfl, hL⟩ := nat_list (c := c) (ns := ns) fun z hz => by
    obtain ⟨i, hi, rfl⟩ := List.mem_map.mp (pm.mem_iff.mp hz)
    have := lt i hi
    omega
  have p2 := map_inj pm
  refine ⟨L, rfl, p2, ?_, hL⟩
  have ndL : L.Nodup := p2.nodup_iff.mpr nd
  have up2 : L.Pairwise (· ≤ ·) := by
    rw [List.pairwise_map] at up
    exact up.imp fun h => by omega
  exact (up2.and ndL).imp fun h => Nat.lt_of_le_of_ne h.1 h.2
theorem cut_take (xs : List V) (l : Nat) : cutV xs none (some (l : Int)) = xs.take l := by
  unfold cutV
  rw [HT.sIx_none, HT.sIx_nat]
  show (xs.drop 0).take (min l xs.length - 0) = xs.take l
  rw [List.drop_zero, Nat.sub_zero]
  by_cases h : l ≤ xs.length
  · rw [Nat.min_eq_left h]
  · rw [Nat.min_eq_right (by omega), List.take_length, List.take_of_length_le (by omega)]
theorem near_out {L : List Nat} {i : Nat} (h : i ∉ L) : near L i = L.length := by
  unfold near
  rw [List.filter_eq_self.mpr fun a ha => ?_]
  have : ¬ a = i := fun e => h (e ▸ ha)
  simpa using this
theorem near_perm {L M : List Nat} (i : Nat) (h : L.Perm M) : near L i = near M i := (h.filter _).length_eq
theorem near_add {L : List Nat} {i : Nat} (h : i ∉ L) : near (L ++ [i]) i = L.length := by
  rw [← near_out h]
  unfold near
  rw [List.filter_append]
  simp
end Sh

namespace Th
/-! ### counting ships below k -/
def cnt (k : Nat) (S : Nat → Bool) : Nat := (List.range k).countP S
theorem cnt_zero (S : Nat → Bool) : cnt 0 S = 0 := rfl
theorem cnt_succ (k : Nat) (S : Nat → Bool) : cnt (k + 1) S = cnt k S + (if S k = true then 1 else 0) := by
  unfold cnt
  rw [List.range_succ, List.countP_append]
  congr 1
  cases h : S k <;> simp [h]
theorem cnt_le (k : Nat) (S : Nat → Bool) : cnt k S ≤ k := by
  induction k with
  | zero => exact Nat.le_refl _
  | succ k ih => rw [cnt_succ]; split <;> omega
theorem cnt_congr {k : Nat} {S U : Nat → Bool} (h : ∀ i, i < k → S i = U i) : cnt k S = cnt k U := by
  induction k with
  | zero => rfl
  | succ k ih => rw [cnt_succ, cnt_succ, ih fun i hi => h i (by omega), h k (by omega)]
theorem cnt_mono {k : Nat} {S U : Nat → Bool} (h : ∀ i, i < k → S i = true → U i = true) : cnt k S ≤ cnt k U := by
  induction k with
  | zero => exact Nat.le_refl _
  | succ k ih =>
    have := ih fun i hi => h i (by omega)
    rw [cnt_succ, cnt_succ]
    by_cases e : S k = true
    · rw [if_pos e, if_pos (h k (by omega) e)]
      omega
    · rw [if_neg e]
      omega
/-- as many, and all of the one among the other: the same -/
theorem cnt_eq {k : Nat} {S U : Nat → Bool} (h : ∀ i, i < k → S i = true → U i = true) (e : cnt k U ≤ cnt k S) : ∀ i, i < k → U i = true → S i = true := by
  induction k with
  | zero => intro i hi; omega
  | succ k ih =>
    have hm := cnt_mono (k := k) fun i hi => h i (by omega)
    rw [cnt_succ, cnt_succ] at e
    intro i hi hu
    by_cases ek : S k = true
    · have uk := h k (by omega) ek
      rw [if_pos ek, if_pos uk] at e
      by_cases z : i = k
      · rw [z]; exact ek
      · exact ih (fun i hi => h i (by omega)) (by omega) i (by omega) hu
    · rw [if_neg ek] at e
      by_cases uk : U k = true
      · rw [if_pos uk] at e
        omega
      · rw [if_neg uk] at e
        by_cases z : i = k
        · rw [z] at hu; exact absurd hu uk
        · exact ih (fun i hi => h i (by omega)) (by omega) i (by omega) hu
theorem cnt_ex {k : Nat} {S U : Nat → Bool} (e : cnt k S < cnt k U) : ∃ i, i < k ∧ U i = true ∧ S i = false := by
  induction k with
  | zero => rw [cnt_zero, cnt_zero] at e; omega
  | succ k ih =>
    rw [cnt_succ, cnt_succ] at e
    by_cases uk : U k = true
    · by_cases sk : S k = true
      · rw [if_pos uk, if_pos sk] at e
        obtain ⟨i, h1, h2⟩ := ih (by omega)
        exact ⟨i, by omega, h2⟩
      · exact ⟨k, by omega, uk, by simpa using sk⟩
    · rw [if_neg uk] at e
      obtain ⟨i, h1, h2⟩ := ih (by omega)
      exact ⟨i, by omega, h2⟩
theorem cnt_pos_ex {k : Nat} {S : Nat → Bool} (e : 0 < cnt k S) : ∃ i, i < k ∧ S i = true := by
  induction k with
  | zero => rw [cnt_zero] at e; omega
  | succ k ih =>
    by_cases sk : S k = true
    · exact ⟨k, by omega, sk⟩
    · rw [cnt_succ, if_neg sk] at e
      obtain ⟨i, h1, h2⟩ := ih (by omega)
      exact ⟨i, by omega, h2⟩
def flip (S : Nat → Bool) (i : Nat) : Nat → Bool := fun j => if j = i then !S j else S j
theorem flip_self (S : Nat → Bool) (i : Nat) : flip S i i = !S i := by unfold flip; rw [if_pos rfl]
theorem flip_ne (S : Nat → Bool) {i j : Nat} (h : j ≠ i) : flip S i j = S j := by unfold flip; rw [if_neg h]
theorem flip_flip (S : Nat → Bool) (i : Nat) : flip (flip S i) i = S := by
  funext j
  by_cases h : j = i
  · subst h
    rw [flip_self, flip_self, Bool.not_not]
  · rw [flip_ne _ h, flip_ne _ h]
theorem cnt_flip_up {k : Nat} {S : Nat → Bool} {i : Nat} (hi : i < k) (h : S i = false) : cnt k (flip S i) = cnt k S + 1 := by
  induction k with
  | zero => omega
  | succ k ih =>
    rw [cnt_succ, cnt_succ]
    by_cases z : i = k
    · subst z
      rw [flip_self, h]
      rw [cnt_congr (k := i) (S := flip S i) (U := S) fun j hj => flip_ne S (by omega)]
      simp
    · rw [ih (by omega), flip_ne S (show k ≠ i by omega)]
      omega
theorem cnt_flip_dn {k : Nat} {S : Nat → Bool} {i : Nat} (hi : i < k) (h : S i = true) : cnt k (flip S i) + 1 = cnt k S := by
  have e : flip S i i = false := by rw [flip_self, h]; rfl
  have := cnt_flip_up hi e
  rw [flip_flip] at this
  omega
theorem cnt_pos {k : Nat} {S : Nat → Bool} {i : Nat} (hi : i < k) (h : S i = true) : 0 < cnt k S := by
  have := cnt_flip_dn hi h
  omega
theorem cnt_or_not {k : Nat} (S U : Nat → Bool) : cnt k (fun i => S i || U i) = cnt k S + cnt k (fun i => U i && !S i) := by
  induction k with
  | zero => rfl
  | succ k ih =>
    rw [cnt_succ, cnt_succ, cnt_succ, ih]
    cases S k <;> cases U k <;> simp <;> omega
theorem cnt_split {k : Nat} (S U : Nat → Bool) : cnt k S = cnt k (fun i => S i && U i) + cnt k (fun i => S i && !U i) := by
  induction k with
  | zero => rfl
  | succ k ih =>
    rw [cnt_succ, cnt_succ, cnt_succ, ih]
    cases S k <;> cases U k <;> simp <;> omega
theorem cnt_not {k : Nat} (S : Nat → Bool) : cnt k S + cnt k (fun i => !S i) = k := by
  induction k with
  | zero => rfl
  | succ k ih =>
    rw [cnt_succ, cnt_succ]
    cases S k <;> simp <;> omega

/-! ### crossings -/
section
variable (k : Nat) (G : Nat → Nat → Bool)
inductive Step : (Nat → Bool) → (Nat → Bool) → Prop
  | up {S : Nat → Bool} {i : Nat} (hi : i < k) (hs : S i = false) (hg : G (cnt k S) i = true) : Step S (flip S i)
  | dn {S : Nat → Bool} {i : Nat} (hi : i < k) (hs : S i = true) (hg : G (cnt k S - 1) i = true) : Step S (flip S i)
inductive Reach : (Nat → Bool) → (Nat → Bool) → Prop
  | refl (S : Nat → Bool) : Reach S S
  | step {S U W : Nat → Bool} : Reach S U → Step k G U W → Reach S W
end
section
variable {k : Nat} {G : Nat → Nat → Bool} {S U W : Nat → Bool}
theorem Step.symm (h : Step k G S U) : Step k G U S := by
  cases h with
  | @up i hi hs hg =>
    have e : Step k G (flip S i) (flip (flip S i) i) := .dn hi (by rw [flip_self, hs]; rfl) (by rw [cnt_flip_up hi hs, Nat.add_sub_cancel]; exact hg)
    rwa [flip_flip] at e
  | @dn i hi hs hg =>
    have e : Step k G (flip S i) (flip (flip S i) i) := .up hi (by rw [flip_self, hs]; rfl) (by have := cnt_flip_dn hi hs; rw [show cnt k (flip S i) = cnt k S - 1 by omega]; exact hg)
    rwa [flip_flip] at e
theorem Reach.trans (a : Reach k G S U) (b : Reach k G U W) : Reach k G S W := by
  induction b with
  | refl => exact a
  | step _ s ih => exact .step ih s
theorem Reach.one (s : Step k G S U) : Reach k G S U := .step (.refl _) s
theorem Reach.symm (a : Reach k G S U) : Reach k G U S := by
  induction a with
  | refl => exact .refl _
  | step _ s ih => exact (Reach.one s.symm).trans ih
/-- whatever every crossing keeps -/
theorem Reach.inv {P : (Nat → Bool) → Prop} (hp : ∀ S U, P S → Step k G S U → P U) (a : Reach k G S U) (h : P S) : P U := by
  induction a with
  | refl => exact h
  | step _ s ih => exact hp _ _ ih s
/-! ### filled from below -/
/-- between a and b goers grow -/
def Grow (G : Nat → Nat → Bool) (b : Nat) : Prop := ∀ s s' i, s ≤ s' → s' ≤ b → G s i = true → G s' i = true
/-- S can be filled to N, if at each number on the way somebody lacks -/
theorem fill {T : Nat} (gr : Grow G T) (N : Nat) (hN : N ≤ T + 1) (h0 : cnt k S ≤ N) (hl : ∀ n, cnt k S ≤ n → n < N → n < cnt k (fun i => S i || G n i)) :
    ∃ U, Reach k G S U ∧ cnt k U = N ∧ (∀ i, S i = true → U i = true) ∧ ∀ i, i < k → U i = true → S i = true ∨ (0 < N ∧ G (N - 1) i = true) := by
  induction N with
  | zero => exact ⟨S, .refl _, by omega, fun _ h => h, fun _ _ h => .inl h⟩
  | succ N ih =>
    by_cases e : cnt k S = N + 1
    · exact ⟨S, .refl _, e, fun _ h => h, fun _ _ h => .inl h⟩
    · obtain ⟨U, r, c, h1, h2⟩ := ih (by omega) (by omega) fun n a b => hl n a (by omega)
      have hlt := hl N (by omega) (by omega)
      obtain ⟨i, hi, g, u⟩ := cnt_ex (k := k) (S := U) (U := fun i => S i || G N i) (by omega)
      have gi : G N i = true := by
        cases hs : S i with
        | true => rw [h1 i hs] at u; cases u
        | false => rw [hs] at g; exact g
      refine ⟨flip U i, r.step (.up hi u (by rw [c]; exact gi)), by rw [cnt_flip_up hi u, c], fun j hj => ?_, fun j hj hf => ?_⟩
      · by_cases z : j = i
        · subst z
          rw [h1 j hj] at u
          cases u
        · rw [flip_ne _ z]
          exact h1 j hj
      · by_cases z : j = i
        · exact .inr ⟨by omega, by rw [z]; exact gi⟩
        · rw [flip_ne _ z] at hf
          rcases h2 j hj hf with q | ⟨q, g2⟩
          · exact .inl q
          · exact .inr ⟨by omega, gr _ _ _ (by omega) (by omega) g2⟩
/-- stuck at N: the fullest one is S with all goers at N -/
theorem stuck {T N : Nat} (gr : Grow G T) (hN : N ≤ T) (h0 : cnt k S ≤ N) (hl : ∀ n, cnt k S ≤ n → n < N → n < cnt k (fun i => S i || G n i)) (hs : cnt k (fun i => S i || G N i) ≤ N) :
    ∃ U, Reach k G S U ∧ cnt k U = N ∧ ∀ i, i < k → U i = (S i || G N i) := by
  obtain ⟨U, r, c, h1, h2⟩ := fill gr N (by omega) h0 hl
  have hm : ∀ i, i < k → U i = true → (S i || G N i) = true := fun i hi hu => by
    rcases h2 i hi hu with q | ⟨_, q⟩
    · rw [q]; rfl
    · rw [gr _ _ _ (by omega) hN q, Bool.or_true]
  have he := cnt_eq (k := k) (S := U) (U := fun i => S i || G N i) hm (by omega)
  refine ⟨U, r, c, fun i hi => ?_⟩
  cases hu : U i with
  | true => exact (hm i hi hu).symm
  | false =>
    cases hq : (S i || G N i) with
    | false => rfl
    | true => rw [he i hi hq] at hu; cases hu
/-- under a low bar at N nobody gets out -/
theorem low_inv {T N : Nat} (gr : Grow G T) (hN : N ≤ T) {F : Nat → Bool} (hF : cnt k F = N) (hG : ∀ i, i < k → G N i = true → F i = true) :
    ∀ S U, (cnt k S ≤ N ∧ ∀ i, i < k → (S i || G N i) = F i) → Step k G S U → (cnt k U ≤ N ∧ ∀ i, i < k → (U i || G N i) = F i) := by
  rintro S U ⟨c, h⟩ s
  have sub : ∀ i, i < k → S i = true → F i = true := fun i hi hs => by rw [← h i hi, hs]; rfl
  cases s with
  | @up i hi hs hg =>
    by_cases z : cnt k S = N
    · exfalso
      rw [z] at hg
      have := cnt_eq sub (by omega) i hi (hG i hi hg)
      rw [hs] at this
      cases this
    · refine ⟨by rw [cnt_flip_up hi hs]; omega, fun j hj => ?_⟩
      by_cases e : j = i
      · subst e
        have gN := gr _ _ _ (by omega) hN hg
        rw [gN, Bool.or_true, hG j hj gN]
      · rw [flip_ne _ e]
        exact h j hj
  | @dn i hi hs hg =>
    have := cnt_flip_dn hi hs
    refine ⟨by omega, fun j hj => ?_⟩
    by_cases e : j = i
    · subst e
      have gN := gr _ _ _ (by omega) hN hg
      rw [gN, Bool.or_true, hG j hj gN]
    · rw [flip_ne _ e]
      exact h j hj
end
end Th
namespace Th
section
variable {k : Nat} {G : Nat → Nat → Bool} {S U W : Nat → Bool}
/-! ### met from the other basin -/
def co (S : Nat → Bool) : Nat → Bool := fun i => !S i
def dual (k : Nat) (G : Nat → Nat → Bool) : Nat → Nat → Bool := fun s i => G (k - 1 - s) i
theorem co_co (S : Nat → Bool) : co (co S) = S := by funext i; exact Bool.not_not _
theorem cnt_co (k : Nat) (S : Nat → Bool) : cnt k S + cnt k (co S) = k := cnt_not S
theorem flip_co (S : Nat → Bool) (i : Nat) : flip (co S) i = co (flip S i) := by
  funext j
  unfold co flip
  split <;> rfl
theorem Step.dual (h : Step k G S U) : Step k (dual k G) (co S) (co U) := by
  cases h with
  | @up i hi hs hg =>
    rw [← flip_co]
    have c1 := cnt_co k S
    have c2 := cnt_le k (flip S i)
    rw [cnt_flip_up hi hs] at c2
    refine .dn hi (by unfold co; rw [hs]; rfl) ?_
    unfold Th.dual
    rw [show k - 1 - (cnt k (co S) - 1) = cnt k S by omega]
    exact hg
  | @dn i hi hs hg =>
    rw [← flip_co]
    have c1 := cnt_co k S
    have c2 := cnt_pos hi hs
    refine .up hi (by unfold co; rw [hs]; rfl) ?_
    unfold Th.dual
    rw [show k - 1 - cnt k (co S) = cnt k S - 1 by omega]
    exact hg
theorem dual_dual_at {s : Nat} (hs : s < k) (i : Nat) : Th.dual k (Th.dual k G) s i = G s i := by
  unfold Th.dual
  rw [show k - 1 - (k - 1 - s) = s by omega]
theorem Reach.dual (h : Reach k G S U) : Reach k (Th.dual k G) (co S) (co U) := by
  induction h with
  | refl => exact .refl _
  | step _ s ih => exact .step ih s.dual
theorem Step.congr {G' : Nat → Nat → Bool} (hg : ∀ s i, s < k → G s i = G' s i) (h : Step k G S U) : Step k G' S U := by
  cases h with
  | @up i hi hs g =>
    have := cnt_le k (flip S i)
    rw [cnt_flip_up hi hs] at this
    exact .up hi hs (by rw [← hg _ _ (by omega)]; exact g)
  | @dn i hi hs g =>
    have := cnt_le k S
    have := cnt_pos hi hs
    exact .dn hi hs (by rw [← hg _ _ (by omega)]; exact g)
theorem Reach.congr {G' : Nat → Nat → Bool} (hg : ∀ s i, s < k → G s i = G' s i) (h : Reach k G S U) : Reach k G' S U := by
  induction h with
  | refl => exact .refl _
  | step _ s ih => exact .step ih (s.congr hg)
theorem Reach.codual (h : Reach k (Th.dual k G) (co S) (co U)) : Reach k G S U := by
  have h2 := h.dual
  rw [co_co, co_co] at h2
  exact h2.congr fun s i hs => dual_dual_at hs i
/-! ### at the top -/
structure Top (k : Nat) (G : Nat → Nat → Bool) (T : Nat) : Prop where
  lt : T < k
  up : Grow G T
  dn : ∀ s s' i, T ≤ s → s ≤ s' → s' < k → G s' i = true → G s i = true
theorem Top.all {T : Nat} (t : Top k G T) {s i : Nat} (hs : s < k) (h : G s i = true) : G T i = true := by
  by_cases z : s ≤ T
  · exact t.up s T i z (Nat.le_refl _) h
  · exact t.dn T s i (Nat.le_refl _) (by omega) hs h
theorem Top.dual {T : Nat} (t : Top k G T) : Top k (Th.dual k G) (k - 1 - T) := by
  have := t.lt
  refine ⟨by omega, fun s s' i a b g => ?_, fun s s' i a b c g => ?_⟩
  · exact t.dn (k - 1 - s') (k - 1 - s) i (by omega) (by omega) (by omega) g
  · exact t.up (k - 1 - s') (k - 1 - s) i (by omega) (by omega) g
/-- who isn't a goer at the top never goes -/
theorem fast_inv {T : Nat} (t : Top k G T) (h : Reach k G S U) : ∀ i, i < k → G T i = false → U i = S i := by
  intro i hi hg
  refine Reach.inv (P := fun W => W i = S i) (fun A B e s => ?_) h rfl
  cases s with
  | @up j hj hs g =>
    have c := cnt_le k (flip A j)
    rw [cnt_flip_up hj hs] at c
    have : i ≠ j := fun z => by
      subst z
      rw [t.all (by omega) g] at hg
      cases hg
    rw [flip_ne _ this]
    exact e
  | @dn j hj hs g =>
    have c := cnt_le k A
    have c2 := cnt_pos hj hs
    have : i ≠ j := fun z => by
      subst z
      rw [t.all (by omega) g] at hg
      cases hg
    rw [flip_ne _ this]
    exact e
def diff (k : Nat) (S U : Nat → Bool) : Nat := cnt k (fun i => S i && !U i)
theorem reach_out (h : Reach k G S U) : ∀ i, ¬ i < k → U i = S i := by
  intro i hi
  refine Reach.inv (P := fun W => W i = S i) (fun A B e s => ?_) h rfl
  cases s with
  | @up j hj hs g =>
    rw [flip_ne _ (show i ≠ j by omega)]
    exact e
  | @dn j hj hs g =>
    rw [flip_ne _ (show i ≠ j by omega)]
    exact e
/-- at the top's own number goers can be exchanged -/
theorem swap {T : Nat} (t : Top k G T) : ∀ (n : Nat) (S U : Nat → Bool), diff k S U ≤ n → cnt k S = T → cnt k U = T → (∀ i, i < k → G T i = false → U i = S i) → (∀ i, ¬ i < k → U i = S i) → Reach k G S U := by
  intro n
  induction n with
  | zero =>
    intro S U hd cs cu hf ho
    have hsub : ∀ i, i < k → S i = true → U i = true := fun i hi hs => by
      cases hu : U i with
      | true => rfl
      | false =>
        have := cnt_pos (k := k) (S := fun i => S i && !U i) hi (by show (S i && !U i) = true; rw [hs, hu]; rfl)
        unfold diff at hd
        omega
    have heq := cnt_eq hsub (by omega)
    have : U = S := by
      funext i
      by_cases hi : i < k
      · cases hs : S i with
        | true => exact hsub i hi hs
        | false =>
          cases hu : U i with
          | false => rfl
          | true => rw [heq i hi hu] at hs; cases hs
      · exact ho i hi
    rw [this]
    exact .refl _
  | succ n ih =>
    intro S U hd cs cu hf ho
    by_cases z : diff k S U = 0
    · exact ih S U (by omega) cs cu hf ho
    · obtain ⟨i, hi, h1⟩ := cnt_pos_ex (k := k) (S := fun i => S i && !U i) (by unfold diff at z; omega)
      have si : S i = true := by revert h1; cases S i <;> simp
      have ui : U i = false := by revert h1; cases U i <;> simp
      have e1 := cnt_split (k := k) S U
      have e2 := cnt_split (k := k) U S
      have e3 : cnt k (fun i => S i && U i) = cnt k (fun i => U i && S i) := cnt_congr fun i _ => Bool.and_comm _ _
      obtain ⟨j, hj, h2⟩ := cnt_pos_ex (k := k) (S := fun i => U i && !S i) (by unfold diff at z; omega)
      have uj : U j = true := by revert h2; cases U j <;> simp
      have sj : S j = false := by revert h2; cases S j <;> simp
      have gi : G T i = true := by
        cases g : G T i with
        | true => rfl
        | false => rw [hf i hi g, si] at ui; cases ui
      have gj : G T j = true := by
        cases g : G T j with
        | true => rfl
        | false => rw [hf j hj g, sj] at uj; cases uj
      have ij : i ≠ j := fun e => by rw [e, sj] at si; cases si
      have s1 : Step k G S (flip S j) := .up hj sj (by rw [cs]; exact gj)
      have c1 : cnt k (flip S j) = T + 1 := by rw [cnt_flip_up hj sj, cs]
      have s2 : Step k G (flip S j) (flip (flip S j) i) := .dn hi (by rw [flip_ne _ ij]; exact si) (by rw [c1, Nat.add_sub_cancel]; exact gi)
      have c2 := cnt_flip_dn (k := k) (S := flip S j) hi (by rw [flip_ne _ ij]; exact si)
      refine ((Reach.one s1).trans (Reach.one s2)).trans (ih _ U ?_ (by omega) cu (fun l hl g => ?_) (fun l hl => ?_))
      · have e : (fun l => flip (flip S j) i l && !U l) = flip (fun l => S l && !U l) i := by
          funext l
          by_cases li : l = i
          · subst li
            rw [flip_self, flip_self, flip_ne _ ij, si, ui]
            rfl
          · rw [flip_ne _ li, flip_ne _ li]
            by_cases lj : l = j
            · subst lj
              rw [flip_self, sj, uj]
              rfl
            · rw [flip_ne _ lj]
        unfold diff
        rw [e]
        have := cnt_flip_dn (k := k) (S := fun l => S l && !U l) hi h1
        unfold diff at hd
        omega
      · have li : l ≠ i := fun e => by rw [e, gi] at g; cases g
        have lj : l ≠ j := fun e => by rw [e, gj] at g; cases g
        rw [flip_ne _ li, flip_ne _ lj]
        exact hf l hl g
      · rw [flip_ne _ (show l ≠ i by omega), flip_ne _ (show l ≠ j by omega)]
        exact ho l hl
/-! ### which lot a standing is in -/
/-- from below it gets to the top's number -/
def Rises (k : Nat) (G : Nat → Nat → Bool) (T : Nat) (S : Nat → Bool) : Prop := cnt k S ≤ T ∧ ∀ n, cnt k S ≤ n → n < T → n < cnt k (fun i => S i || G n i)
/-- from above -/
def Sinks (k : Nat) (G : Nat → Nat → Bool) (T : Nat) (S : Nat → Bool) : Prop := T < cnt k S ∧ ∀ s, T ≤ s → s < cnt k S → cnt k (fun i => S i && !G s i) ≤ s
theorem Rises.to {T : Nat} (t : Top k G T) (h : Rises k G T S) : ∃ U, Reach k G S U ∧ cnt k U = T := by
  obtain ⟨U, r, c, _⟩ := fill t.up T (by omega) h.1 h.2
  exact ⟨U, r, c⟩
theorem co_or (S : Nat → Bool) (f : Nat → Bool) : (fun i => co S i || f i) = co (fun i => S i && !f i) := by
  funext i
  show (!S i || f i) = !(S i && !f i)
  cases S i <;> cases f i <;> rfl
theorem Sinks.to {T : Nat} (t : Top k G T) (h : Sinks k G T S) : ∃ U, Reach k G S U ∧ cnt k U = T := by
  have tl := t.lt
  have c0 := cnt_co k S
  have cle := cnt_le k S
  obtain ⟨h1, h2⟩ := h
  obtain ⟨U, r, c, _⟩ := fill (k := k) (G := Th.dual k G) (S := co S) t.dual.up (k - 1 - T + 1) (by omega) (by omega) fun n a b => by
    have e : (fun i => co S i || Th.dual k G n i) = co (fun i => S i && !G (k - 1 - n) i) := co_or S _
    rw [e]
    have q := h2 (k - 1 - n) (by omega) (by omega)
    have c1 := cnt_co k (fun i => S i && !G (k - 1 - n) i)
    omega
  refine ⟨co U, ?_, ?_⟩
  · refine Reach.codual ?_
    rw [co_co]
    exact r
  · have := cnt_co k U
    omega
/-- two that get to the top's number and have the same fast ones here come to one another -/
theorem open_reach {T : Nat} (t : Top k G T) (hS : Rises k G T S ∨ Sinks k G T S) (hU : Rises k G T U ∨ Sinks k G T U) (hf : ∀ i, i < k → G T i = false → U i = S i) (ho : ∀ i, ¬ i < k → U i = S i) : Reach k G S U := by
  obtain ⟨S', rS, cS⟩ := hS.elim (fun h => h.to t) (fun h => h.to t)
  obtain ⟨U', rU, cU⟩ := hU.elim (fun h => h.to t) (fun h => h.to t)
  refine rS.trans (Reach.trans ?_ rU.symm)
  refine swap t _ S' U' (Nat.le_refl _) cS cU (fun i hi g => ?_) (fun i hi => ?_)
  · rw [fast_inv t rS i hi g, fast_inv t rU i hi g, hf i hi g]
  · rw [reach_out rS i hi, reach_out rU i hi, ho i hi]
/-- the first number at which filling is stuck -/
def StuckLow (k : Nat) (G : Nat → Nat → Bool) (N : Nat) (S : Nat → Bool) : Prop := cnt k S ≤ N ∧ (∀ n, cnt k S ≤ n → n < N → n < cnt k (fun i => S i || G n i)) ∧ cnt k (fun i => S i || G N i) ≤ N
theorem StuckLow.full {N : Nat} (h : StuckLow k G N S) {T : Nat} (t : Top k G T) (hN : N ≤ T) : ∃ U, Reach k G S U ∧ cnt k U = N ∧ ∀ i, i < k → U i = (S i || G N i) := stuck t.up hN h.1 h.2.1 h.2.2
theorem StuckLow.cnt_full {N : Nat} (h : StuckLow k G N S) {T : Nat} (t : Top k G T) (hN : N ≤ T) : cnt k (fun i => S i || G N i) = N := by
  obtain ⟨U, _, c, e⟩ := h.full t hN
  exact (cnt_congr e).symm.trans c
/-- nobody leaves the lot under it -/
theorem StuckLow.under {N T : Nat} (h : StuckLow k G N S) (t : Top k G T) (hN : N ≤ T) (r : Reach k G S U) : cnt k U ≤ N ∧ ∀ i, i < k → (U i || G N i) = (S i || G N i) := by
  refine Reach.inv (P := fun W => cnt k W ≤ N ∧ ∀ i, i < k → (W i || G N i) = (S i || G N i)) (low_inv t.up hN (h.cnt_full t hN) fun i _ g => by rw [g, Bool.or_true]) r ⟨h.1, fun _ _ => rfl⟩
/-- all of a lot are stuck alike -/
theorem StuckLow.same {N T : Nat} (h : StuckLow k G N S) (t : Top k G T) (hN : N ≤ T) (r : Reach k G S U) : StuckLow k G N U := by
  obtain ⟨c, e⟩ := h.under t hN r
  have ce : cnt k (fun i => U i || G N i) = N := by
    rw [cnt_congr e]
    exact h.cnt_full t hN
  refine ⟨c, fun n a b => ?_, by omega⟩
  -- stuck earlier it would never get to S's fullest one
  by_cases z : n < cnt k (fun i => U i || G n i)
  · exact z
  · exfalso
    -- the first such number
    have ex : ∃ m, cnt k U ≤ m ∧ m < N ∧ ¬ m < cnt k (fun i => U i || G m i) ∧ ∀ m', cnt k U ≤ m' → m' < m → m' < cnt k (fun i => U i || G m' i) := by
      clear ce e
      induction n using Nat.strongRecOn with
      | _ n ih =>
        by_cases q : ∀ m', cnt k U ≤ m' → m' < n → m' < cnt k (fun i => U i || G m' i)
        · exact ⟨n, a, b, z, q⟩
        · have : ∃ m', cnt k U ≤ m' ∧ m' < n ∧ ¬ m' < cnt k (fun i => U i || G m' i) := by
            refine Classical.byContradiction fun w => q fun m' x y => ?_
            refine Classical.byContradiction fun v => w ⟨m', x, y, v⟩
          obtain ⟨m', x, y, v⟩ := this
          exact ih m' y x (by omega) v
    obtain ⟨m, x, y, v, u⟩ := ex
    have sl : StuckLow k G m U := ⟨x, u, by omega⟩
    obtain ⟨F, rF, cF, _⟩ := h.full t hN
    have := (sl.under t (by omega) (r.symm.trans rF)).1
    omega
theorem StuckLow.iff {N T : Nat} (h : StuckLow k G N S) (t : Top k G T) (hN : N ≤ T) (ho : ∀ i, ¬ i < k → U i = S i) : Reach k G S U ↔ StuckLow k G N U ∧ ∀ i, i < k → (U i || G N i) = (S i || G N i) := by
  constructor
  · intro r
    exact ⟨h.same t hN r, (h.under t hN r).2⟩
  · rintro ⟨hu, e⟩
    obtain ⟨A, rA, _, eA⟩ := h.full t hN
    obtain ⟨B, rB, _, eB⟩ := hu.full t hN
    have : A = B := by
      funext i
      by_cases hi : i < k
      · rw [eA i hi, eB i hi, e i hi]
      · rw [reach_out rA i hi, reach_out rB i hi, ho i hi]
    rw [this] at rA
    exact rA.trans rB.symm
/-- each standing of no more than the top's number is stuck below it, or gets there -/
theorem low_or {T : Nat} (h : cnt k S ≤ T) : (∃ N, N < T ∧ StuckLow k G N S) ∨ Rises k G T S := by
  by_cases q : ∀ n, cnt k S ≤ n → n < T → n < cnt k (fun i => S i || G n i)
  · exact .inr ⟨h, q⟩
  · refine .inl ?_
    have : ∃ m, cnt k S ≤ m ∧ m < T ∧ ¬ m < cnt k (fun i => S i || G m i) := by
      refine Classical.byContradiction fun w => q fun m' x y => ?_
      refine Classical.byContradiction fun v => w ⟨m', x, y, v⟩
    obtain ⟨n, a, b, z⟩ := this
    clear q
    induction n using Nat.strongRecOn with
    | _ n ih =>
      by_cases q : ∀ m', cnt k S ≤ m' → m' < n → m' < cnt k (fun i => S i || G m' i)
      · exact ⟨n, b, a, q, by omega⟩
      · have : ∃ m', cnt k S ≤ m' ∧ m' < n ∧ ¬ m' < cnt k (fun i => S i || G m' i) := by
          refine Classical.byContradiction fun w => q fun m' x y => ?_
          refine Classical.byContradiction fun v => w ⟨m', x, y, v⟩
        obtain ⟨m', x, y, v⟩ := this
        exact ih m' y x (by omega) v
end
end Th
namespace Th
section
variable {k : Nat} {G : Nat → Nat → Bool} {S U W : Nat → Bool}
/-- i may go at U -/
def May (k : Nat) (G : Nat → Nat → Bool) (U : Nat → Bool) (i : Nat) : Prop := G (if U i = true then cnt k U - 1 else cnt k U) i = true
theorem May.step {i : Nat} (hi : i < k) (h : May k G U i) : Step k G U (flip U i) := by
  unfold May at h
  cases e : U i with
  | true => rw [e, if_pos rfl] at h; exact .dn hi e h
  | false => rw [e, if_neg Bool.false_ne_true] at h; exact .up hi e h
/-- ever goes -/
def Moves (k : Nat) (G : Nat → Nat → Bool) (S : Nat → Bool) (i : Nat) : Prop := ∃ U, Reach k G S U ∧ May k G U i
theorem moves_low {N T i : Nat} (h : StuckLow k G N S) (t : Top k G T) (hN : N ≤ T) (hi : i < k) : Moves k G S i ↔ 0 < N ∧ G (N - 1) i = true := by
  constructor
  · rintro ⟨U, r, m⟩
    obtain ⟨c, e⟩ := h.under t hN r
    unfold May at m
    cases u : U i with
    | true =>
      rw [u, if_pos rfl] at m
      have := cnt_pos hi u
      exact ⟨by omega, t.up _ _ _ (by omega) (by omega) m⟩
    | false =>
      rw [u, if_neg Bool.false_ne_true] at m
      by_cases z : cnt k U = N
      · exfalso
        rw [z] at m
        have cf := h.cnt_full t hN
        have hsub : ∀ j, j < k → U j = true → (S j || G N j) = true := fun j hj uj => by rw [← e j hj, uj]; rfl
        have := cnt_eq hsub (by omega) i hi (by rw [m, Bool.or_true])
        rw [u] at this
        cases this
      · exact ⟨by omega, t.up _ _ _ (by omega) (by omega) m⟩
  · rintro ⟨n0, g⟩
    obtain ⟨F, r, c, e⟩ := h.full t hN
    refine ⟨F, r, ?_⟩
    have fi : F i = true := by rw [e i hi, t.up _ _ _ (show N - 1 ≤ N by omega) hN g, Bool.or_true]
    unfold May
    rw [fi, if_pos rfl, c]
    exact g
/-- gets to the top's number, and there's somebody out who may go there -/
theorem moves_open {T i : Nat} (t : Top k G T) (hS : Rises k G T S ∨ Sinks k G T S) (hc : T < cnt k (fun i => S i || G T i)) (hi : i < k) : Moves k G S i ↔ G T i = true := by
  constructor
  · rintro ⟨U, r, m⟩
    unfold May at m
    have := cnt_le k U
    by_cases u : U i = true
    · rw [if_pos u] at m
      have := cnt_pos hi u
      exact t.all (by omega) m
    · rw [if_neg u] at m
      have u' : U i = false := by simpa using u
      have c := cnt_le k (flip U i)
      rw [cnt_flip_up hi u'] at c
      exact t.all (by omega) m
  · intro g
    obtain ⟨U, r, c⟩ := hS.elim (fun h => h.to t) (fun h => h.to t)
    by_cases u : U i = true
    · -- somebody j is out: exchange them
      have hf := fast_inv t r
      have ce : cnt k (fun i => U i || G T i) = cnt k (fun i => S i || G T i) := cnt_congr fun j hj => by
        cases q : G T j with
        | true => rw [Bool.or_true, Bool.or_true]
        | false => rw [Bool.or_false, Bool.or_false, hf j hj q]
      obtain ⟨j, hj, h1, h2⟩ := cnt_ex (k := k) (S := U) (U := fun i => U i || G T i) (by omega)
      have gj : G T j = true := by rw [h2] at h1; exact h1
      have ij : i ≠ j := fun e => by rw [e, h2] at u; cases u
      have s1 : Step k G U (flip U j) := .up hj h2 (by rw [c]; exact gj)
      have c1 : cnt k (flip U j) = T + 1 := by rw [cnt_flip_up hj h2, c]
      refine ⟨flip U j, r.step s1, ?_⟩
      unfold May
      rw [flip_ne _ ij, u, if_pos rfl, c1, Nat.add_sub_cancel]
      exact g
    · refine ⟨U, r, ?_⟩
      unfold May
      rw [if_neg u, c]
      exact g
/-- stuck at some number up to N, or not before it -/
theorem stuck_or (N : Nat) : (∃ n, n < N ∧ StuckLow k G n S) ∨ ∀ n, cnt k S ≤ n → n < N → n < cnt k (fun i => S i || G n i) := by
  by_cases h : cnt k S ≤ N
  · rcases low_or (k := k) (G := G) (S := S) h with ⟨n, a, b⟩ | r
    · exact .inl ⟨n, a, b⟩
    · exact .inr r.2
  · exact .inr fun n a b => by omega
/-- the three sorts of lots -/
theorem sorts {T : Nat} (t : Top k G T) : (∃ N, N ≤ T ∧ StuckLow k G N S) ∨ (∃ N, N ≤ k - 1 - T ∧ StuckLow k (Th.dual k G) N (co S)) ∨ ((Rises k G T S ∨ Sinks k G T S) ∧ T < cnt k (fun i => S i || G T i)) := by
  have tl := t.lt
  by_cases h : cnt k S ≤ T
  · rcases stuck_or (k := k) (G := G) (S := S) (T + 1) with ⟨N, a, b⟩ | r
    · exact .inl ⟨N, by omega, b⟩
    · exact .inr (.inr ⟨.inl ⟨h, fun n a b => r n a (by omega)⟩, r T h (by omega)⟩)
  · have c0 := cnt_co k S
    rcases stuck_or (k := k) (G := Th.dual k G) (S := co S) (k - 1 - T + 1) with ⟨N, a, b⟩ | r
    · exact .inr (.inl ⟨N, by omega, b⟩)
    · refine .inr (.inr ⟨.inr ⟨by omega, fun s a b => ?_⟩, ?_⟩)
      · have cle := cnt_le k S
        have q := r (k - 1 - s) (by omega) (by omega)
        have e : (fun i => co S i || Th.dual k G (k - 1 - s) i) = co (fun i => S i && !G s i) := by
          rw [co_or]
          funext i
          show (!(S i && !Th.dual k G (k - 1 - s) i)) = !(S i && !G s i)
          have := dual_dual_at (G := G) (k := k) (s := s) (by omega) i
          unfold Th.dual at this ⊢
          rw [this]
        rw [e] at q
        have c1 := cnt_co k (fun i => S i && !G s i)
        omega
      · have := cnt_mono (k := k) (S := S) (U := fun i => S i || G T i) fun i _ hs => by show (S i || G T i) = true; rw [hs]; rfl
        omega
theorem may_co {i : Nat} (hi : i < k) : May k (Th.dual k G) (co U) i ↔ May k G U i := by
  have c0 := cnt_co k U
  have cl := cnt_le k U
  unfold May Th.dual
  cases u : U i with
  | true =>
    have := cnt_pos hi u
    have e : co U i = false := by unfold co; rw [u]; rfl
    rw [e, if_neg Bool.false_ne_true, if_pos rfl, show k - 1 - cnt k (co U) = cnt k U - 1 by omega]
  | false =>
    have e : co U i = true := by unfold co; rw [u]; rfl
    have := cnt_pos (S := co U) hi e
    rw [e, if_pos rfl, if_neg Bool.false_ne_true, show k - 1 - (cnt k (co U) - 1) = cnt k U by omega]
theorem moves_co {i : Nat} (hi : i < k) : Moves k (Th.dual k G) (co S) i ↔ Moves k G S i := by
  constructor
  · rintro ⟨U, r, m⟩
    refine ⟨co U, ?_, ?_⟩
    · refine Reach.codual ?_
      rw [co_co]
      exact r
    · rw [← may_co hi, co_co]
      exact m
  · rintro ⟨U, r, m⟩
    exact ⟨co U, r.dual, (may_co hi).mpr m⟩
/-- stuck from above at N (of the turned sea): who moves -/
theorem moves_high {N T i : Nat} (h : StuckLow k (Th.dual k G) N (co S)) (t : Top k G T) (hN : N ≤ k - 1 - T) (hi : i < k) : Moves k G S i ↔ 0 < N ∧ G (k - N) i = true := by
  have tl := t.lt
  rw [← moves_co hi, moves_low h t.dual hN hi]
  constructor
  · rintro ⟨a, b⟩
    refine ⟨a, ?_⟩
    unfold Th.dual at b
    rw [show k - N = k - 1 - (N - 1) by omega]
    exact b
  · rintro ⟨a, b⟩
    refine ⟨a, ?_⟩
    unfold Th.dual
    rw [show k - 1 - (N - 1) = k - N by omega]
    exact b
end
end Th
namespace Th
section
variable {k : Nat} {G : Nat → Nat → Bool} {S U W : Nat → Bool}
def Sub (k : Nat) (A B : Nat → Bool) : Prop := ∀ i, i < k → A i = true → B i = true
/-- so many of Z, such that each set of a nested family is among them or they among it -/
theorem chain (F : Nat → Nat → Bool) (P : Nat → Prop) (nest : ∀ s s', P s → P s' → Sub k (F s) (F s') ∨ Sub k (F s') (F s)) (Z : Nat → Bool) (inZ : ∀ s, P s → Sub k (F s) Z) :
    ∀ m, m ≤ cnt k Z → ∃ A : Nat → Bool, Sub k A Z ∧ cnt k A = m ∧ (∀ i, ¬ i < k → A i = false) ∧ ∀ s, P s → Sub k A (F s) ∨ Sub k (F s) A := by
  intro m
  induction m with
  | zero =>
    intro _
    have e : ∀ n, cnt n (fun _ => false) = 0 := fun n => by
      induction n with
      | zero => rfl
      | succ n ih => rw [cnt_succ, ih]; rfl
    exact ⟨fun _ => false, (fun _ _ h => by cases h), e k, (fun _ _ => rfl), fun s _ => .inl (fun _ _ h => by cases h)⟩
  | succ m ih =>
    intro hm
    obtain ⟨A, a1, a2, a3, a4⟩ := ih (by omega)
    -- a smallest set of the family that isn't among them, or Z
    have pick : ∃ i, i < k ∧ A i = false ∧ Z i = true ∧ ∀ s, P s → ¬ Sub k (F s) A → F s i = true := by
      -- by how many members
      have go : ∀ n, (∃ s, P s ∧ ¬ Sub k (F s) A ∧ cnt k (F s) ≤ n) → ∃ i, i < k ∧ A i = false ∧ Z i = true ∧ ∀ s, P s → ¬ Sub k (F s) A → F s i = true := by
        intro n
        induction n using Nat.strongRecOn with
        | _ n ih2 =>
          rintro ⟨s, ps, hs, hn⟩
          by_cases q : ∃ s', P s' ∧ ¬ Sub k (F s') A ∧ cnt k (F s') < cnt k (F s)
          · obtain ⟨s', ps', hs', hlt⟩ := q
            exact ih2 (cnt k (F s')) (by omega) ⟨s', ps', hs', Nat.le_refl _⟩
          · have : ∃ i, i < k ∧ F s i = true ∧ A i = false := by
              refine Classical.byContradiction fun w => hs fun i hi f => ?_
              cases e : A i with
              | true => rfl
              | false => exact absurd ⟨i, hi, f, e⟩ w
            obtain ⟨i, hi, f, e⟩ := this
            refine ⟨i, hi, e, inZ s ps i hi f, fun s' ps' hs' => ?_⟩
            rcases nest s s' ps ps' with w | w
            · exact w i hi f
            · have hge : cnt k (F s) ≤ cnt k (F s') := by
                refine Classical.byContradiction fun v => q ⟨s', ps', hs', by omega⟩
              exact cnt_eq w hge i hi f
      by_cases q : ∃ s, P s ∧ ¬ Sub k (F s) A
      · obtain ⟨s, ps, hs⟩ := q
        exact go _ ⟨s, ps, hs, Nat.le_refl _⟩
      · obtain ⟨i, hi, z, e⟩ := cnt_ex (k := k) (S := A) (U := Z) (by omega)
        exact ⟨i, hi, e, z, fun s ps hs => absurd ⟨s, ps, hs⟩ q⟩
    obtain ⟨i, hi, e, z, hp⟩ := pick
    refine ⟨flip A i, fun j hj h => ?_, by rw [cnt_flip_up hi e, a2], fun j hj => ?_, fun s ps => ?_⟩
    · by_cases q : j = i
      · rw [q]; exact z
      · rw [flip_ne _ q] at h
        exact a1 j hj h
    · rw [flip_ne _ (show j ≠ i by omega)]
      exact a3 j hj
    · by_cases q : Sub k (F s) A
      · refine .inr fun j hj h => ?_
        by_cases w : j = i
        · subst w
          have := q j hj h
          rw [e] at this
          cases this
        · rw [flip_ne _ w]
          exact q j hj h
      · rcases a4 s ps with w | w
        · refine .inl fun j hj h => ?_
          by_cases v : j = i
          · rw [v]; exact hp s ps q
          · rw [flip_ne _ v] at h
            exact w j hj h
        · exact absurd w q
theorem cnt_diff {A B : Nat → Bool} (h : Sub k B A) : cnt k (fun i => A i && !B i) + cnt k B = cnt k A := by
  have e := cnt_split (k := k) A B
  have e2 : cnt k (fun i => A i && B i) = cnt k B := cnt_congr fun i hi => by
    cases b : B i with
    | true => rw [h i hi b]; rfl
    | false => rw [Bool.and_false]
  omega
theorem cnt_none {A : Nat → Bool} (h : ∀ i, i < k → A i = false) : cnt k A = 0 := by
  have := cnt_congr (k := k) (S := A) (U := fun _ => false) h
  have e : ∀ n, cnt n (fun _ => false) = 0 := fun n => by
    induction n with
    | zero => rfl
    | succ n ih => rw [cnt_succ, ih]; rfl
  rw [this, e]
/-- how few can come to lie here, of a lot that is stuck at N -/
theorem low_counts {N T n : Nat} (h : StuckLow k G N S) (t : Top k G T) (hN : N ≤ T) (hn : n ≤ N) : (∃ U, Reach k G S U ∧ cnt k U = n) ↔ ∀ m, m < N → m + 1 ≤ n + cnt k (G m) := by
  constructor
  · rintro ⟨U, r, c⟩ m hm
    by_cases z : n ≤ m
    · have q := (h.same t hN r).2.1 m (by omega) hm
      have e := cnt_or_not (k := k) U (G m)
      have e2 := cnt_mono (k := k) (S := fun i => G m i && !U i) (U := G m) fun i _ hh => by revert hh; cases G m i <;> simp
      omega
    · omega
  · intro hc
    have cf := h.cnt_full t hN
    -- the goers at N, so many of them out: the shallowest ones
    have cR : cnt k (fun i => S i && !G N i) + cnt k (G N) = N := by
      have e := cnt_or_not (k := k) (G N) S
      have e1 : (fun i => G N i || S i) = (fun i => S i || G N i) := funext fun i => Bool.or_comm _ _
      rw [e1] at e
      omega
    have hle : N - n ≤ cnt k (G N) := by
      by_cases z : N = 0
      · omega
      · have q := hc (N - 1) (by omega)
        have := cnt_mono (k := k) (S := G (N - 1)) (U := G N) fun i _ g => t.up _ _ _ (by omega) hN g
        omega
    obtain ⟨A, a1, a2, a3, a4⟩ := chain (k := k) G (fun m => m ≤ N) (fun s s' hs hs' => by
      by_cases z : s ≤ s'
      · exact .inl fun i _ g => t.up _ _ _ z (by omega) g
      · exact .inr fun i _ g => t.up _ _ _ (by omega) (by omega) g) (G N) (fun s hs i _ g => t.up _ _ _ hs hN g) (N - n) hle
    -- all others of the fullest one
    have hout : ∀ i, ¬ i < k → (fun i => if i < k then (S i || G N i) && !A i else S i) i = S i := fun i hi => by show (if i < k then (S i || G N i) && !A i else S i) = S i; rw [if_neg hi]
    have hin : ∀ i, i < k → (fun i => if i < k then (S i || G N i) && !A i else S i) i = ((S i || G N i) && !A i) := fun i hi => by show (if i < k then (S i || G N i) && !A i else S i) = _; rw [if_pos hi]
    have subA : Sub k A (fun i => S i || G N i) := fun i hi q => by show (S i || G N i) = true; rw [a1 i hi q, Bool.or_true]
    have cU : cnt k (fun i => if i < k then (S i || G N i) && !A i else S i) = n := by
      rw [cnt_congr hin]
      have := cnt_diff subA
      omega
    have or_eq : ∀ i, i < k → ((fun i => if i < k then (S i || G N i) && !A i else S i) i || G N i) = (S i || G N i) := fun i hi => by
      rw [hin i hi]
      cases q : A i with
      | true =>
        have := a1 i hi q
        rw [this, Bool.or_true, Bool.or_true]
      | false => cases S i <;> cases G N i <;> rfl
    have sl : StuckLow k G N (fun i => if i < k then (S i || G N i) && !A i else S i) := by
      refine ⟨by omega, fun m x y => ?_, ?_⟩
      · have q := hc m y
        -- all of the fullest one but those of A that aren't goers at m
        have e1 : cnt k (fun i => (fun i => if i < k then (S i || G N i) && !A i else S i) i || G m i) = cnt k (fun i => (S i || G N i) && !(A i && !G m i)) := cnt_congr fun i hi => by
          rw [hin i hi]
          cases g : G m i with
          | true =>
            rw [t.up _ _ _ (show m ≤ N by omega) hN g]
            cases S i <;> cases A i <;> rfl
          | false => cases S i <;> cases G N i <;> cases A i <;> rfl
        have sub2 : Sub k (fun i => A i && !G m i) (fun i => S i || G N i) := fun i hi w => subA i hi (by have w' : (A i && !G m i) = true := w; revert w'; cases A i <;> simp)
        have e2 := cnt_diff sub2
        rw [e1]
        rcases a4 m (by omega) with w | w
        · have e3 : cnt k (fun i => A i && !G m i) = 0 := cnt_none fun i hi => by
            cases q : A i with
            | false => rfl
            | true => rw [w i hi q]; rfl
          omega
        · have e3 := cnt_diff w
          omega
      · rw [cnt_congr or_eq]
        omega
    exact ⟨_, (h.iff t hN hout).mpr ⟨sl, or_eq⟩, cU⟩
/-- how many can come to lie here, of a lot that gets to the top's number -/
theorem open_counts {T n : Nat} (t : Top k G T) (hS : Rises k G T S ∨ Sinks k G T S) (hn : T ≤ n) : (∃ U, Reach k G S U ∧ cnt k U = n) ↔ n ≤ cnt k (fun i => S i || G T i) ∧ ∀ s, T ≤ s → s < k → n ≤ s + cnt k (G s) := by
  obtain ⟨V, rV, cV⟩ := hS.elim (fun h => h.to t) (fun h => h.to t)
  have tl := t.lt
  constructor
  · rintro ⟨U, r, c⟩
    have sub : Sub k U (fun i => S i || G T i) := fun i hi u => by
      cases g : G T i with
      | true => show (S i || G T i) = true; rw [g, Bool.or_true]
      | false =>
        rw [fast_inv t r i hi g] at u
        show (S i || G T i) = true
        rw [u]; rfl
    refine ⟨by rw [← c]; exact cnt_mono sub, fun s hs hk => ?_⟩
    by_cases z : n ≤ s
    · omega
    · -- U isn't stuck from above
      have c0 := cnt_co k U
      have cle := cnt_le k U
      rcases stuck_or (k := k) (G := Th.dual k G) (S := co U) (k - 1 - T + 1) with ⟨N, a, b⟩ | q
      · exfalso
        have hr := (rV.symm.trans r).symm.dual
        have := (b.under t.dual (by omega) hr).1
        have c1 := cnt_co k V
        omega
      · have q2 := q (k - 1 - s) (by omega) (by omega)
        have e : (fun i => co U i || Th.dual k G (k - 1 - s) i) = co (fun i => U i && !G s i) := by
          rw [co_or]
          funext i
          show (!(U i && !Th.dual k G (k - 1 - s) i)) = !(U i && !G s i)
          have := dual_dual_at (G := G) (k := k) (s := s) hk i
          unfold Th.dual at this ⊢
          rw [this]
        rw [e] at q2
        have c1 := cnt_co k (fun i => U i && !G s i)
        have c2 := cnt_split (k := k) U (G s)
        have c3 := cnt_mono (k := k) (S := fun i => U i && G s i) (U := G s) fun i _ h => by revert h; cases U i <;> simp
        omega
  · rintro ⟨h1, h2⟩
    have cR : cnt k (fun i => S i && !G T i) + cnt k (G T) = cnt k (fun i => S i || G T i) := by
      have e := cnt_or_not (k := k) (G T) S
      have e1 : (fun i => G T i || S i) = (fun i => S i || G T i) := funext fun i => Bool.or_comm _ _
      rw [e1] at e
      omega
    have rT : cnt k (fun i => S i && !G T i) ≤ T := by
      refine Nat.le_trans (cnt_mono (U := V) fun i hi q => ?_) (Nat.le_of_eq cV)
      have q' : (S i && !G T i) = true := q
      have g : G T i = false := by revert q'; cases G T i <;> cases S i <;> simp
      have s : S i = true := by revert q'; cases G T i <;> cases S i <;> simp
      rw [fast_inv t rV i hi g]
      exact s
    obtain ⟨A, a1, a2, a3, a4⟩ := chain (k := k) G (fun s => T ≤ s ∧ s < k) (fun s s' hs hs' => by
      by_cases z : s ≤ s'
      · exact .inr fun i _ g => t.dn _ _ _ hs.1 z hs'.2 g
      · exact .inl fun i _ g => t.dn _ _ _ hs'.1 (by omega) hs.2 g) (G T) (fun s hs i _ g => t.dn _ _ _ (Nat.le_refl _) hs.1 hs.2 g) (n - cnt k (fun i => S i && !G T i)) (by omega)
    have hout : ∀ i, ¬ i < k → (fun i => if i < k then (S i && !G T i) || A i else S i) i = S i := fun i hi => by show (if i < k then (S i && !G T i) || A i else S i) = S i; rw [if_neg hi]
    have hin : ∀ i, i < k → (fun i => if i < k then (S i && !G T i) || A i else S i) i = ((S i && !G T i) || A i) := fun i hi => by show (if i < k then (S i && !G T i) || A i else S i) = _; rw [if_pos hi]
    have cU : cnt k (fun i => if i < k then (S i && !G T i) || A i else S i) = n := by
      rw [cnt_congr hin, cnt_or_not]
      have : cnt k (fun i => A i && !(S i && !G T i)) = cnt k A := cnt_congr fun i hi => by
        cases q : A i with
        | false => rfl
        | true => rw [a1 i hi q]; cases S i <;> rfl
      omega
    refine ⟨_, open_reach t hS ?_ (fun i hi g => ?_) hout, cU⟩
    · by_cases z : n = T
      · exact .inl ⟨by omega, fun m x y => by omega⟩
      · refine .inr ⟨by omega, fun s x y => ?_⟩
        rw [cU] at y
        have sk : s < k := by
          have := cnt_le k (fun i => if i < k then (S i && !G T i) || A i else S i)
          omega
        have q := h2 s x sk
        have e1 : cnt k (fun i => (fun i => if i < k then (S i && !G T i) || A i else S i) i && !G s i) ≤ cnt k (fun i => S i && !G T i) + cnt k (fun i => A i && !G s i) := by
          have e : cnt k (fun i => (fun i => if i < k then (S i && !G T i) || A i else S i) i && !G s i) ≤ cnt k (fun i => (S i && !G T i) || (A i && !G s i)) := cnt_mono fun i hi w => by
            rw [hin i hi] at w
            show ((S i && !G T i) || (A i && !G s i)) = true
            revert w
            cases S i <;> cases G T i <;> cases A i <;> cases G s i <;> simp
          have e2 := cnt_or_not (k := k) (fun i => S i && !G T i) (fun i => A i && !G s i)
          have e3 := cnt_mono (k := k) (S := fun i => (A i && !G s i) && !(S i && !G T i)) (U := fun i => A i && !G s i) fun i _ w => by revert w; cases (A i && !G s i) <;> simp
          omega
        rcases a4 s ⟨x, sk⟩ with w | w
        · have e3 : cnt k (fun i => A i && !G s i) = 0 := cnt_none fun i hi => by
            cases q : A i with
            | false => rfl
            | true => rw [w i hi q]; rfl
          omega
        · have e3 := cnt_diff w
          omega
    · show (if i < k then S i && !G T i || A i else S i) = S i
      rw [if_pos hi, g]
      cases q : A i with
      | true => rw [a1 i hi q] at g; cases g
      | false => cases S i <;> rfl
end
end Th

namespace Sh
open PySem PySem.Spec PyProof.Rows L2
def spRight : Sp := fun vs H Q _ => ∃ b : Addr, vs = [.ref b] ∧ BoxAt H b 100000 ∧ ∀ H', But b H H' → Q (.bl true) H'
end Sh

namespace Sh
open PySem PySem.Spec PyProof.Rows L2
theorem lv_ni {n : Nat} (L : List Nat) (h : L.length ≤ 100000) : Lv (n + 2) (.list ((L.map fun (i : Nat) => (i : Int)).map .int)) := lv_ints _ (by rw [List.length_map]; exact h)
theorem lv_two {n : Nat} {a b : PyData} (ha : Lv n a) (hb : Lv n b) : Lv (n + 1) (.list [a, b]) := ⟨by show 2 ≤ 100000; decide, fun e he => by
  rcases List.mem_cons.mp he with z | z
  · rw [z]; exact ha
  · rw [List.mem_singleton.mp z]; exact hb⟩
end Sh

namespace Sh
open PySem PySem.Spec PyProof.Rows L2
/-! ### windows, goers, seas beside the box -/
theorem may_mk {h t : Int} {ds : List Int} {L : List Nat} {i : Nat} : mayB h t ds L i = decide (ds.getD i 0 ≤ mk h t ds.length (near L i : Int)) := by
  unfold mayB mk
  rw [Bool.eq_iff_iff, Bool.and_eq_true, decide_eq_true_eq, decide_eq_true_eq, decide_eq_true_eq]
  constructor
  · rintro ⟨a, b⟩
    split <;> omega
  · intro a
    split at a <;> omega
theorem in_lets {h t : Int} {ds : List Int} {L : List Nat} {i : Nat} (hi : i < ds.length) : inV (.int (i : Int)) (ni (lets h t ds L ds.length)) = mayB h t ds L i := by
  rw [in_ni, Bool.eq_iff_iff, decide_eq_true_eq]
  unfold lets
  rw [List.mem_filter, List.mem_range]
  exact ⟨fun q => q.2, fun q => ⟨hi, q⟩⟩
theorem in_gs {m : Int} {ds : List Int} {i : Nat} (hi : i < ds.length) : inV (.int (i : Int)) (((gs m ds ds.length).map fun (i : Nat) => (i : Int)).map V.int) = decide (ds.getD i 0 ≤ m) := by
  rw [← ni_ints, in_ni, Bool.eq_iff_iff, decide_eq_true_eq, decide_eq_true_eq]
  unfold gs
  rw [List.mem_filter, List.mem_range, decide_eq_true_eq]
  exact ⟨fun q => q.2, fun q => ⟨hi, q⟩⟩
/-- a sea that is none of the box -/
def SeaB (K : PySem.W.Frag) (H : Hp) (b : Addr) (v : V) (h t : Int) (ds : List Int) : Prop := ∃ p q, v = .ref p ∧ SqA K H p [.int h, .int t, .ref q] ∧ SqA K H q (ds.map V.int) ∧ p ≠ b ∧ q ≠ b
theorem SeaB.but {K : PySem.W.Frag} {H H' : Hp} {b : Addr} {v : V} {h t : Int} {ds : List Int} (s : SeaB K H b v h t ds) (u : But b H H') : SeaB K H' b v h t ds := let ⟨p, q, e, hp, hq, pb, qb⟩ := s; ⟨p, q, e, (Kp.ofB u pb).sa hp, (Kp.ofB u qb).sa hq, pb, qb⟩
theorem SeaB.a {K : PySem.W.Frag} {H : Hp} {b : Addr} {v : V} {h t : Int} {ds : List Int} (s : SeaB K H b v h t ds) : SeaA K H v h t ds := let ⟨p, q, e, hp, hq, _, _⟩ := s; ⟨p, q, e, hp, hq⟩
/-- a window as it is told: None, or a new pair -/
def WinAt (H H' : Hp) (sp : V) (lo hi : Int) : Prop := (lo > hi ∧ sp = .non) ∨ (¬ lo > hi ∧ ∃ a, sp = .ref a ∧ H a = none ∧ H' a = some (.tup [.int lo, .int hi]))
def spWin (K : PySem.W.Frag) : Sp := fun vs H Q _ => ∃ (v : V) (h t d : Int) (j : Nat) (ds : List Int), vs = [v, .int (j : Int)] ∧ SeaA K H v h t ds ∧ ds[j]? = some d ∧ ∀ (sp : V) (H' : Hp), Same H H' → WinAt H H' sp (lowI h d) (highI t ds.length d) → Q sp H'
theorem win_imp {K : PySem.W.Frag} (vs : List V) (H : Hp) (Q : VK) (E : XK) (z : spWin K vs H Q E) : spWindow K vs H Q E := by
  obtain ⟨v, h, t, d, j, ds, rfl, hv, hj, q⟩ := z
  exact ⟨v, h, t, d, j, ds, rfl, hv, hj, fun c => q .non H (Same.refl _) (.inl ⟨c, rfl⟩), fun c p np => q (.ref p) _ (same_new np) (.inr ⟨c, p, rfl, np, upd_same⟩)⟩
end Sh

namespace Sh
open PySem PySem.Spec PyProof.Rows L2
/-! ### lots as sets, crossings of lots -/
def mem (L : List Nat) : Nat → Bool := fun i => decide (i ∈ L)
theorem cnt_mem {c : Nat} {L : List Nat} (h : Lot c L) : Th.cnt c (mem L) = L.length := by
  unfold Th.cnt mem
  rw [List.countP_eq_length_filter]
  exact congrArg List.length h.mem_eq.symm
theorem mem_out {c : Nat} {L : List Nat} (h : Lot c L) {i : Nat} (hi : ¬ i < c) : mem L i = false := decide_eq_false fun z => hi (h.lt i z)
theorem lot_ext {c : Nat} {L M : List Nat} (h : Lot c L) (h' : Lot c M) (e : ∀ i, i < c → mem L i = mem M i) : L = M := by
  rw [h.mem_eq, h'.mem_eq]
  exact List.filter_congr fun i hi => e i (List.mem_range.mp hi)
/-- who goes at a step -/
def Gof (h t : Int) (ds : List Int) : Nat → Nat → Bool := fun s i => decide (ds.getD i 0 ≤ mk h t ds.length (s : Int))
theorem near_cnt {c : Nat} {L : List Nat} (h : Lot c L) {i : Nat} (hi : i < c) : near L i = if i ∈ L then L.length - 1 else L.length := by
  by_cases z : i ∈ L
  · rw [if_pos z, near_in h]
    have e := filter_filter_len (fun j => decide (j ∈ L)) (fun j => decide (j = i)) (List.range c)
    have e1 : ((List.range c).filter fun j => decide (j ∈ L)).length = L.length := congrArg List.length h.mem_eq.symm
    have e2 : ((List.range c).filter fun j => decide (j ∈ L) && decide (j = i)).length = 1 := by
      rw [← one_of hi]
      congr 1
      refine List.filter_congr fun a _ => ?_
      by_cases q : a = i
      · subst q
        rw [decide_eq_true z]
        rfl
      · rw [decide_eq_false q, Bool.and_false]
    omega
  · rw [if_neg z]
    exact near_out z
theorem may_G {h t : Int} {ds : List Int} {L : List Nat} {i : Nat} : mayB h t ds L i = Gof h t ds (near L i) i := may_mk
/-- the standing behind i's going over -/
def gone (L : List Nat) (i : Nat) : List Nat := if i ∈ L then L.filter (fun j => !decide (j = i)) else L.filter (fun j => decide (j < i)) ++ i :: L.filter (fun j => decide (i < j))
theorem gone_lot {c : Nat} {L : List Nat} (h : Lot c L) {i : Nat} (hi : i < c) : Lot c (gone L i) := by
  unfold gone
  split
  · exact h.filter _
  · refine ⟨List.pairwise_append.mpr ⟨h.up.filter _, List.pairwise_cons.mpr ⟨fun a ha => ?_, h.up.filter _⟩, fun a ha b hb => ?_⟩, fun a ha => ?_⟩
    · simpa using (List.mem_filter.mp ha).2
    · have h1 : a < i := by simpa using (List.mem_filter.mp ha).2
      rcases List.mem_cons.mp hb with q | q
      · omega
      · have : i < b := by simpa using (List.mem_filter.mp q).2
        omega
    · rcases List.mem_append.mp ha with q | q
      · exact h.lt a (List.mem_filter.mp q).1
      · rcases List.mem_cons.mp q with q | q
        · omega
        · exact h.lt a (List.mem_filter.mp q).1
theorem gone_mem {L : List Nat} {i : Nat} : mem (gone L i) = Th.flip (mem L) i := by
  funext j
  unfold mem gone
  by_cases z : i ∈ L
  · rw [if_pos z]
    by_cases e : j = i
    · subst e
      rw [Th.flip_self]
      simp [z]
    · rw [Th.flip_ne _ e]
      simp [e]
  · rw [if_neg z]
    by_cases e : j = i
    · subst e
      rw [Th.flip_self]
      simp [z]
    · rw [Th.flip_ne _ e]
      by_cases q : j < i
      · simp [e, q]
        omega
      · have : i < j := by omega
        simp [e, q, this]
/-- one comes to the other -/
def Rl (h t : Int) (ds : List Int) (L M : List Nat) : Prop := Th.Reach ds.length (Gof h t ds) (mem L) (mem M)
theorem rl_one {h t : Int} {ds : List Int} {L : List Nat} {i : Nat} (hL : Lot ds.length L) (hi : i < ds.length) (m : mayB h t ds L i = true) : Rl h t ds L (gone L i) := by
  unfold Rl
  rw [gone_mem]
  rw [may_G, near_cnt hL hi] at m
  refine .one ?_
  by_cases z : i ∈ L
  · rw [if_pos z] at m
    exact .dn hi (decide_eq_true z) (by rw [cnt_mem hL]; exact m)
  · rw [if_neg z] at m
    exact .up hi (decide_eq_false z) (by rw [cnt_mem hL]; exact m)
/-- behind its going over it may go back -/
theorem may_back {h t : Int} {ds : List Int} {L : List Nat} {i : Nat} (hL : Lot ds.length L) (hi : i < ds.length) : near (gone L i) i = near L i := by
  rw [near_cnt (gone_lot hL hi) hi, near_cnt hL hi]
  have m : mem (gone L i) i = !mem L i := by rw [gone_mem, Th.flip_self]
  have c1 := cnt_mem hL
  have c2 := cnt_mem (gone_lot hL hi)
  rw [gone_mem] at c2
  by_cases z : i ∈ L
  · have z2 : ¬ i ∈ gone L i := fun q => by
      have : mem (gone L i) i = true := decide_eq_true q
      rw [m, show mem L i = true from decide_eq_true z] at this
      cases this
    have := Th.cnt_flip_dn (k := ds.length) (S := mem L) hi (decide_eq_true z)
    rw [if_pos z, if_neg z2]
    omega
  · have z2 : i ∈ gone L i := by
      have : mem (gone L i) i = true := by rw [m, show mem L i = false from decide_eq_false z]; rfl
      exact of_decide_eq_true this
    have := Th.cnt_flip_up (k := ds.length) (S := mem L) hi (decide_eq_false z)
    rw [if_neg z, if_pos z2]
    omega
theorem top_of (h t : Int) (ds : List Int) (hk : 0 < ds.length) : Th.Top ds.length (Gof h t ds) (topI h t ds.length).toNat := by
  have t0 := top_lo h t ds.length
  have t1 := top_hi h t hk
  refine ⟨by omega, fun s s' i a b g => ?_, fun s s' i a b c g => ?_⟩
  · have g' : ds.getD i 0 ≤ mk h t ds.length (s : Int) := of_decide_eq_true g
    refine decide_eq_true (Int.le_trans g' ?_)
    have b' : (s' : Int) ≤ topI h t ds.length := by omega
    clear g g' t0 t1
    unfold mk topI at *
    repeat' split
    all_goals (repeat' split at b')
    all_goals omega
  · have g' : ds.getD i 0 ≤ mk h t ds.length (s' : Int) := of_decide_eq_true g
    refine decide_eq_true (Int.le_trans g' ?_)
    have b' : topI h t ds.length ≤ (s : Int) := by omega
    clear g g' t0 t1
    unfold mk topI at *
    repeat' split
    all_goals (repeat' split at b')
    all_goals omega
/-! ### what is told of it -/
def IsMost (h t : Int) (ds : List Int) (L : List Nat) (m : Nat) : Prop := (∃ M, Lot ds.length M ∧ Rl h t ds L M ∧ M.length = m) ∧ ∀ M, Lot ds.length M → Rl h t ds L M → M.length ≤ m
def IsLeast (h t : Int) (ds : List Int) (L : List Nat) (m : Nat) : Prop := (∃ M, Lot ds.length M ∧ Rl h t ds L M ∧ M.length = m) ∧ ∀ M, Lot ds.length M → Rl h t ds L M → m ≤ M.length
def IsMovers (h t : Int) (ds : List Int) (L ms : List Nat) : Prop := Lot ds.length ms ∧ ∀ i, i < ds.length → (i ∈ ms ↔ ∃ M, Lot ds.length M ∧ Rl h t ds L M ∧ mayB h t ds M i = true)
theorem IsMost.uniq {h t : Int} {ds : List Int} {L L' : List Nat} {m m' : Nat} (r : Rl h t ds L L') (a : IsMost h t ds L m) (b : IsMost h t ds L' m') : m = m' := by
  obtain ⟨⟨M, l1, r1, e1⟩, h1⟩ := a
  obtain ⟨⟨M', l2, r2, e2⟩, h2⟩ := b
  have := h1 M' l2 (r.trans r2)
  have := h2 M l1 (r.symm.trans r1)
  omega
theorem IsLeast.uniq {h t : Int} {ds : List Int} {L L' : List Nat} {m m' : Nat} (r : Rl h t ds L L') (a : IsLeast h t ds L m) (b : IsLeast h t ds L' m') : m = m' := by
  obtain ⟨⟨M, l1, r1, e1⟩, h1⟩ := a
  obtain ⟨⟨M', l2, r2, e2⟩, h2⟩ := b
  have := h1 M' l2 (r.trans r2)
  have := h2 M l1 (r.symm.trans r1)
  omega
theorem IsMovers.uniq {h t : Int} {ds : List Int} {L L' ms ms' : List Nat} (r : Rl h t ds L L') (a : IsMovers h t ds L ms) (b : IsMovers h t ds L' ms') : ms = ms' := by
  refine lot_ext a.1 b.1 fun i hi => ?_
  unfold mem
  rw [decide_eq_decide, a.2 i hi, b.2 i hi]
  exact ⟨fun ⟨M, l, q, m⟩ => ⟨M, l, r.symm.trans q, m⟩, fun ⟨M, l, q, m⟩ => ⟨M, l, r.trans q, m⟩⟩
/-- a sea whose draughts are a tuple is handed in -/
def SeaD (K : PySem.W.Frag) (H : Hp) (v : V) (h t : Int) (ds : List Int) : Prop := ∃ p q, v = .ref p ∧ SqA K H p [.int h, .int t, .ref q] ∧ SqT K H q (ds.map V.int)
theorem SeaD.same {K : PySem.W.Frag} {H H' : Hp} {v : V} {h t : Int} {ds : List Int} (s : SeaD K H v h t ds) (e : Same H H') : SeaD K H' v h t ds := let ⟨p, q, a, b, c⟩ := s; ⟨p, q, a, Same.sqA e b, Same.tup e c⟩
theorem SeaD.a {K : PySem.W.Frag} {H : Hp} {v : V} {h t : Int} {ds : List Int} (s : SeaD K H v h t ds) : SeaA K H v h t ds := let ⟨p, q, a, b, c⟩ := s; ⟨p, q, a, b, .inr c⟩
def spMost (K : PySem.W.Frag) : Sp := fun vs H Q _ => ∃ (v l : V) (h t : Int) (ds : List Int) (L : List Nat), vs = [v, l] ∧ SeaD K H v h t ds ∧ LotA K H l L ∧ ds.length ≤ 60 ∧ 0 < ds.length ∧ Lot ds.length L ∧ ∀ (H' : Hp) (m : Nat), Same H H' → IsMost h t ds L m → Q (.int (m : Int)) H'
def spLeast (K : PySem.W.Frag) : Sp := fun vs H Q _ => ∃ (v l : V) (h t : Int) (ds : List Int) (L : List Nat), vs = [v, l] ∧ SeaD K H v h t ds ∧ LotA K H l L ∧ ds.length ≤ 60 ∧ 0 < ds.length ∧ Lot ds.length L ∧ ∀ (H' : Hp) (m : Nat), Same H H' → IsLeast h t ds L m → Q (.int (m : Int)) H'
def spMovers (K : PySem.W.Frag) : Sp := fun vs H Q _ => ∃ (v l : V) (h t : Int) (ds : List Int) (L : List Nat), vs = [v, l] ∧ SeaD K H v h t ds ∧ LotA K H l L ∧ ds.length ≤ 60 ∧ 0 < ds.length ∧ Lot ds.length L ∧
  ∀ (H' : Hp) (p : Addr) (ms : List Nat), Same H H' → H p = none → H' p = some (.lst (ni ms)) → IsMovers h t ds L ms → Q (.ref p) H'
def spComes (K : PySem.W.Frag) : Sp := fun vs H Q _ => ∃ (v l m : V) (h t : Int) (ds : List Int) (L M : List Nat), vs = [v, l, m] ∧ SeaD K H v h t ds ∧ LotA K H l L ∧ LotA K H m M ∧ ds.length ≤ 60 ∧ 0 < ds.length ∧ Lot ds.length L ∧ Lot ds.length M ∧
  ∀ (H' : Hp) (b : Bool), Same H H' → (b = true ↔ Rl h t ds L M) → Q (.bl b) H'
/-! ### turned about -/
def away (c : Nat) (L : List Nat) : List Nat := (List.range c).filter fun i => !decide (i ∈ L)
theorem away_lot (c : Nat) (L : List Nat) : Lot c (away c L) := (Lot.all c).filter _
theorem mk_turn {h t : Int} {k s : Nat} (hs : s < k) : mk t h k (s : Int) = mk h t k ((k - 1 - s : Nat) : Int) := by
  unfold mk
  split <;> split <;> omega
theorem mem_away {c : Nat} {L : List Nat} {i : Nat} (hi : i < c) : mem (away c L) i = !mem L i := by
  unfold mem away
  rw [Bool.eq_iff_iff, decide_eq_true_eq, List.mem_filter, List.mem_range]
  simp [hi]
end Sh

namespace Sh
/-! ### fleets: sums over sorts, and ships one by one -/
abbrev Srt := Int × Nat × Nat
def mny (ss : List Srt) : Nat := (ss.map fun x => x.2.1 + x.2.2).sum
def ourn (ss : List Srt) : Nat := (ss.map fun x => x.2.1).sum
def gmF (ss : List Srt) (m : Int) : Nat := ((ss.filter fun x => decide (x.1 ≤ m)).map fun x => x.2.1 + x.2.2).sum
def filF (ss : List Srt) (m : Int) : Nat := (ss.map fun x => x.2.1 + if x.1 ≤ m then x.2.2 else 0).sum
def fxF (ss : List Srt) (m : Int) : List Nat := (ss.filter fun x => decide (x.1 > m)).map fun x => x.2.1
def turnF (ss : List Srt) : List Srt := ss.map fun x => (x.1, x.2.2, x.2.1)
theorem mny_turn (ss : List Srt) : mny (turnF ss) = mny ss := by
  unfold mny turnF
  rw [List.map_map]
  congr 1
  exact List.map_congr_left fun x _ => Nat.add_comm _ _
theorem turn_turn (ss : List Srt) : turnF (turnF ss) = ss := by
  unfold turnF
  rw [List.map_map]
  exact (List.map_congr_left fun x _ => rfl).trans (List.map_id ss)
/-- the ships of a fleet one by one -/
structure Rp (ss : List Srt) (k : Nat) (D : Nat → Int) (S : Nat → Bool) : Prop where
  here : ∀ P : Int → Bool, ((ss.filter fun x => P x.1).map fun x => x.2.1).sum = Th.cnt k (fun i => P (D i) && S i)
  there : ∀ P : Int → Bool, ((ss.filter fun x => P x.1).map fun x => x.2.2).sum = Th.cnt k (fun i => P (D i) && !S i)
theorem sum_two (f g : Srt → Nat) : ∀ l : List Srt, (l.map fun x => f x + g x).sum = (l.map f).sum + (l.map g).sum
  | [] => rfl
  | a :: l => by
    simp only [List.map_cons, List.sum_cons, sum_two f g l]
    omega
theorem sum_filter (P : Srt → Bool) (f : Srt → Nat) : ∀ l : List Srt, (l.map fun x => if P x = true then f x else 0).sum = ((l.filter P).map f).sum
  | [] => rfl
  | a :: l => by
    cases h : P a <;> simp [h, sum_filter P f l]
section
variable {ss : List Srt} {k : Nat} {D : Nat → Int} {S : Nat → Bool}
theorem Rp.gm (r : Rp ss k D S) (m : Int) : gmF ss m = Th.cnt k (fun i => decide (D i ≤ m)) := by
  unfold gmF
  rw [sum_two (fun x => x.2.1) (fun x => x.2.2), r.here fun d => decide (d ≤ m), r.there fun d => decide (d ≤ m)]
  exact (Th.cnt_split _ S).symm
theorem Rp.ourn (r : Rp ss k D S) : ourn ss = Th.cnt k S := by
  have e := r.here fun _ => true
  rw [List.filter_eq_self.mpr fun _ _ => rfl] at e
  exact e
theorem Rp.mny (r : Rp ss k D S) : mny ss = k := by
  have e := r.there fun _ => true
  rw [List.filter_eq_self.mpr fun _ _ => rfl] at e
  unfold Sh.mny
  rw [sum_two (fun x => x.2.1) (fun x => x.2.2), e]
  have e2 := r.ourn
  unfold Sh.ourn at e2
  rw [e2]
  exact Th.cnt_not S
theorem Rp.fil (r : Rp ss k D S) (m : Int) : filF ss m = Th.cnt k (fun i => S i || decide (D i ≤ m)) := by
  unfold filF
  rw [sum_two (fun x => x.2.1) (fun x => if x.1 ≤ m then x.2.2 else 0)]
  have e1 := r.ourn
  unfold Sh.ourn at e1
  have e2 : (ss.map fun x => if x.1 ≤ m then x.2.2 else 0).sum = Th.cnt k (fun i => decide (D i ≤ m) && !S i) := by
    rw [← r.there fun d => decide (d ≤ m), ← sum_filter]
    congr 1
    refine List.map_congr_left fun x _ => ?_
    by_cases z : x.1 ≤ m
    · rw [if_pos z, if_pos (decide_eq_true z)]
    · rw [if_neg z, if_neg (by simpa using z)]
  rw [e1, e2, Th.cnt_or_not]
theorem Rp.fx (r : Rp ss k D S) (m : Int) : (fxF ss m).sum = Th.cnt k (fun i => S i && !decide (D i ≤ m)) := by
  unfold fxF
  rw [r.here fun d => decide (d > m)]
  refine Th.cnt_congr fun i _ => ?_
  rw [Bool.and_comm]
  congr 1
  by_cases z : D i ≤ m
  · rw [decide_eq_true z, decide_eq_false (by omega)]; rfl
  · rw [decide_eq_false z, decide_eq_true (by omega)]; rfl
theorem Rp.turn (r : Rp ss k D S) : Rp (turnF ss) k D (Th.co S) := by
  refine ⟨fun P => ?_, fun P => ?_⟩
  · have e := r.there P
    unfold turnF
    rw [List.filter_map, List.map_map]
    exact e
  · have e := r.here P
    unfold turnF
    rw [List.filter_map, List.map_map]
    refine Eq.trans e ?_
    refine Th.cnt_congr fun i _ => ?_
    unfold Th.co
    rw [Bool.not_not]
end
/-- who goes at a step -/
def Gd (h t : Int) (k : Nat) (D : Nat → Int) : Nat → Nat → Bool := fun s i => decide (D i ≤ mk h t k (s : Int))
theorem top_lo' (h t : Int) (k : Nat) : 0 ≤ topI h t k := by
  unfold topI
  split <;> omega
theorem top_hi' (h t : Int) {k : Nat} (hk : 0 < k) : topI h t k < (k : Int) := by
  unfold topI
  repeat' split
  all_goals omega
theorem mk_le {h t : Int} {k : Nat} {s s' : Int} (s0 : 0 ≤ s) (a : s ≤ s') (b : s' ≤ topI h t k) : mk h t k s ≤ mk h t k s' := by
  unfold mk topI at *
  repeat' split
  all_goals (repeat' split at b)
  all_goals omega
theorem mk_dn {h t : Int} {k : Nat} {s s' : Int} (c : topI h t k ≤ s) (a : s ≤ s') (d : s' < (k : Int)) : mk h t k s' ≤ mk h t k s := by
  unfold mk topI at *
  repeat' split
  all_goals (repeat' split at c)
  all_goals omega
theorem mk_turn' {h t : Int} {k : Nat} {s : Int} : mk t h k s = mk h t k ((k : Int) - 1 - s) := by
  unfold mk
  split <;> split <;> omega
/-- up to the top the water here bounds -/
theorem mk_low {h t : Int} {k : Nat} {s : Int} (s0 : 0 ≤ s) (b : s < topI h t k) : mk h t k s = h + s := by
  unfold mk topI at *
  repeat' split at b
  all_goals split
  all_goals omega
theorem mk_high {h t : Int} {k : Nat} {s : Int} (s0 : 0 ≤ s) (b : s < (k : Int) - 1 - topI h t k) : mk t h k s = t + s := by
  unfold mk topI at *
  repeat' split at b
  all_goals split
  all_goals omega
theorem top_D (h t : Int) {k : Nat} (D : Nat → Int) (hk : 0 < k) : Th.Top k (Gd h t k D) (topI h t k).toNat := by
  have t0 := top_lo' h t k
  have t1 := top_hi' h t hk
  refine ⟨by omega, fun s s' i a b g => ?_, fun s s' i a b c g => ?_⟩
  · have g' : D i ≤ mk h t k (s : Int) := of_decide_eq_true g
    exact decide_eq_true (Int.le_trans g' (mk_le (by omega) (by omega) (by omega)))
  · have g' : D i ≤ mk h t k (s' : Int) := of_decide_eq_true g
    exact decide_eq_true (Int.le_trans g' (mk_dn (by omega) (by omega) (by omega)))
theorem Gd_turn {h t : Int} {k : Nat} {D : Nat → Int} {s i : Nat} (hs : s < k) : Gd t h k D s i = Th.dual k (Gd h t k D) s i := by
  unfold Gd Th.dual
  rw [mk_turn', show ((k : Int) - 1 - (s : Int)) = ((k - 1 - s : Nat) : Int) by omega]
/-! ### stuck, by sums -/
def StuckF (h t : Int) (ss : List Srt) (N : Nat) : Prop := ourn ss ≤ N ∧ (∀ n : Nat, ourn ss ≤ n → n < N → n < filF ss (mk h t (mny ss) (n : Int))) ∧ filF ss (mk h t (mny ss) (N : Int)) ≤ N
theorem Rp.stuck {ss : List Srt} {k : Nat} {D : Nat → Int} {S : Nat → Bool} (r : Rp ss k D S) (h t : Int) (N : Nat) : StuckF h t ss N ↔ Th.StuckLow k (Gd h t k D) N S := by
  unfold StuckF Th.StuckLow
  rw [r.ourn, r.mny, r.fil]
  have e : ∀ n : Nat, filF ss (Sh.mk h t k (n : Int)) = Th.cnt k (fun i => S i || Gd h t k D n i) := fun n => r.fil _
  simp only [e]
  exact Iff.rfl
end Sh
namespace Th
theorem StuckLow.congr {k : Nat} {G G' : Nat → Nat → Bool} {S : Nat → Bool} {N : Nat} (hN : N < k) (e : ∀ s i, s < k → G s i = G' s i) (h : StuckLow k G N S) : StuckLow k G' N S := by
  have e2 : ∀ n, n < k → cnt k (fun i => S i || G n i) = cnt k (fun i => S i || G' n i) := fun n hn => cnt_congr fun i _ => by rw [e n i hn]
  refine ⟨h.1, fun n a b => ?_, ?_⟩
  · rw [← e2 n (by omega)]
    exact h.2.1 n a b
  · rw [← e2 N hN]
    exact h.2.2
/-- gets to the top's number, and somebody may go there -/
def Open (k : Nat) (G : Nat → Nat → Bool) (T : Nat) (S : Nat → Bool) : Prop := (Rises k G T S ∨ Sinks k G T S) ∧ T < cnt k (fun i => S i || G T i)
theorem Open.congr {k : Nat} {G G' : Nat → Nat → Bool} {T : Nat} {S : Nat → Bool} (hT : T < k) (e : ∀ s i, s < k → G s i = G' s i) (h : Open k G T S) : Open k G' T S := by
  have e2 : ∀ n, n < k → cnt k (fun i => S i || G n i) = cnt k (fun i => S i || G' n i) := fun n hn => cnt_congr fun i _ => by rw [e n i hn]
  have e3 : ∀ n, n < k → cnt k (fun i => S i && !G n i) = cnt k (fun i => S i && !G' n i) := fun n hn => cnt_congr fun i _ => by rw [e n i hn]
  have cl := cnt_le k S
  refine ⟨h.1.imp (fun q => ⟨q.1, fun n a b => ?_⟩) (fun q => ⟨q.1, fun s a b => ?_⟩), ?_⟩
  · rw [← e2 n (by omega)]
    exact q.2 n a b
  · rw [← e3 s (by omega)]
    exact q.2 s a b
  · rw [← e2 T hT]
    exact h.2
theorem cnt_and_or {k : Nat} (S f : Nat → Bool) : cnt k (fun i => S i && !f i) + cnt k f = cnt k (fun i => S i || f i) := by
  have e := cnt_or_not (k := k) f S
  have e1 : (fun i => f i || S i) = (fun i => S i || f i) := funext fun i => Bool.or_comm _ _
  rw [e1] at e
  omega
theorem Open.dual {k : Nat} {G : Nat → Nat → Bool} {T : Nat} {S : Nat → Bool} (t : Top k G T) (h : Open k G T S) : Open k (Th.dual k G) (k - 1 - T) (co S) := by
  have tl := t.lt
  have c0 := cnt_co k S
  have cle := cnt_le k S
  have key : ∀ n, n < k → cnt k (fun i => co S i && !Th.dual k G (k - 1 - n) i) + cnt k (fun i => S i || G n i) = k := fun n hn => by
    have e : (fun i => co S i && !Th.dual k G (k - 1 - n) i) = co (fun i => S i || G n i) := by
      funext i
      have := dual_dual_at (G := G) (k := k) (s := n) hn i
      unfold Th.dual at this
      show (!S i && !G (k - 1 - (k - 1 - n)) i) = !(S i || G n i)
      rw [this]
      cases S i <;> cases G n i <;> rfl
    rw [e, Nat.add_comm]
    exact cnt_co k _
  have key2 : ∀ n, n < k → cnt k (fun i => co S i || Th.dual k G (k - 1 - n) i) + cnt k (fun i => S i && !G n i) = k := fun n hn => by
    have e : (fun i => co S i || Th.dual k G (k - 1 - n) i) = co (fun i => S i && !G n i) := by
      rw [co_or]
      funext i
      have := dual_dual_at (G := G) (k := k) (s := n) hn i
      unfold Th.dual at this
      show (!(S i && !G (k - 1 - (k - 1 - n)) i)) = !(S i && !G n i)
      rw [this]
    rw [e, Nat.add_comm]
    exact cnt_co k _
  obtain ⟨rs, hc⟩ := h
  have hf : cnt k (fun i => S i && !G T i) ≤ T := by
    rcases rs with q | q
    · exact Nat.le_trans (cnt_mono fun i _ w => by revert w; cases S i <;> simp) q.1
    · exact q.2 T (Nat.le_refl _) q.1
  refine ⟨?_, ?_⟩
  · rcases rs with ⟨q1, q2⟩ | ⟨q1, q2⟩
    · refine .inr ⟨by omega, fun s a b => ?_⟩
      have hk := key (k - 1 - s) (by omega)
      rw [show k - 1 - (k - 1 - s) = s by omega] at hk
      have : k - 1 - s < cnt k (fun i => S i || G (k - 1 - s) i) := by
        by_cases z : k - 1 - s = T
        · rw [z]; exact hc
        · exact q2 _ (by omega) (by omega)
      omega
    · refine .inl ⟨by omega, fun n a b => ?_⟩
      have hk := key2 (k - 1 - n) (by omega)
      rw [show k - 1 - (k - 1 - n) = n by omega] at hk
      have := q2 (k - 1 - n) (by omega) (by omega)
      omega
  · have hk := key2 T tl
    omega
/-- how few can come to lie here, of a lot that gets to the top's number -/
theorem open_counts_low {k : Nat} {G : Nat → Nat → Bool} {T n : Nat} {S : Nat → Bool} (t : Top k G T) (h : Open k G T S) (hn : n ≤ T + 1) : (∃ U, Reach k G S U ∧ cnt k U = n) ↔ cnt k (fun i => S i && !G T i) ≤ n ∧ ∀ m, m ≤ T → m + 1 ≤ n + cnt k (G m) := by
  have tl := t.lt
  have hd := h.dual t
  have oc := open_counts (n := k - n) t.dual hd.1 (by omega)
  have e1 : (∃ U, Reach k G S U ∧ cnt k U = n) ↔ ∃ U, Reach k (Th.dual k G) (co S) U ∧ cnt k U = k - n := by
    constructor
    · rintro ⟨U, r, c⟩
      refine ⟨co U, r.dual, ?_⟩
      have := cnt_co k U
      omega
    · rintro ⟨U, r, c⟩
      refine ⟨co U, ?_, ?_⟩
      · refine Reach.codual ?_
        rw [co_co]
        exact r
      · have := cnt_co k U
        omega
  have e2 : cnt k (fun i => co S i || Th.dual k G (k - 1 - T) i) + cnt k (fun i => S i && !G T i) = k := by
    have e : (fun i => co S i || Th.dual k G (k - 1 - T) i) = co (fun i => S i && !G T i) := by
      rw [co_or]
      funext i
      have := dual_dual_at (G := G) (k := k) (s := T) tl i
      unfold Th.dual at this
      show (!(S i && !G (k - 1 - (k - 1 - T)) i)) = !(S i && !G T i)
      rw [this]
    rw [e, Nat.add_comm]
    exact cnt_co k _
  rw [e1, oc]
  constructor
  · rintro ⟨a, b⟩
    refine ⟨by omega, fun m hm => ?_⟩
    have := b (k - 1 - m) (by omega) (by omega)
    unfold Th.dual at this
    rw [show k - 1 - (k - 1 - m) = m by omega] at this
    have this' : k - n ≤ k - 1 - m + cnt k (G m) := this
    omega
  · rintro ⟨a, b⟩
    refine ⟨by omega, fun s hs hk => ?_⟩
    have := b (k - 1 - s) (by omega)
    show k - n ≤ s + cnt k (G (k - 1 - s))
    omega
def IsMin (k : Nat) (G : Nat → Nat → Bool) (S : Nat → Bool) (n : Nat) : Prop := (∃ U, Reach k G S U ∧ cnt k U = n) ∧ ∀ U, Reach k G S U → n ≤ cnt k U
def IsMax (k : Nat) (G : Nat → Nat → Bool) (S : Nat → Bool) (n : Nat) : Prop := (∃ U, Reach k G S U ∧ cnt k U = n) ∧ ∀ U, Reach k G S U → cnt k U ≤ n
theorem IsMin.co {k : Nat} {G : Nat → Nat → Bool} {S : Nat → Bool} {n : Nat} (h : IsMin k (Th.dual k G) (co S) n) : n ≤ k ∧ IsMax k G S (k - n) := by
  obtain ⟨⟨U, r, c⟩, hm⟩ := h
  have cu := cnt_le k U
  refine ⟨by omega, ⟨Th.co U, ?_, ?_⟩, fun W rW => ?_⟩
  · refine Reach.codual ?_
    rw [co_co]
    exact r
  · have := cnt_co k U
    omega
  · have := hm _ rW.dual
    have := cnt_co k W
    omega
theorem IsMin.congr {k : Nat} {G G' : Nat → Nat → Bool} {S : Nat → Bool} {n : Nat} (e : ∀ s i, s < k → G s i = G' s i) (h : IsMin k G S n) : IsMin k G' S n := by
  obtain ⟨⟨U, r, c⟩, hm⟩ := h
  exact ⟨⟨U, r.congr e, c⟩, fun W rW => hm W (rW.congr fun s i hs => (e s i hs).symm)⟩
theorem stuck_min_high {k : Nat} {G : Nat → Nat → Bool} {T N : Nat} {S : Nat → Bool} (t : Top k G T) (hN : N ≤ T) (h : StuckLow k G N S) : IsMax k G S N := by
  obtain ⟨U, r, c, _⟩ := h.full t hN
  exact ⟨⟨U, r, c⟩, fun W rW => (h.under t hN rW).1⟩
end Th
namespace Sh
/-! ### the least number, as it's told -/
/-- m is the greatest of what least_in looks at -/
def LeastI (h t : Int) (ss : List Srt) (step : Int) (m : Int) : Prop :=
  (m = ((fxF ss (mk h t (mny ss) step)).sum : Int) ∨ ∃ e : Int, (e = step ∨ (∃ x ∈ ss, e = x.1 - h ∧ e < step)) ∧ 0 < e ∧ m = e - (gmF ss (mk h t (mny ss) (e - 1)) : Int)) ∧
  ((fxF ss (mk h t (mny ss) step)).sum : Int) ≤ m ∧ ∀ e : Int, (e = step ∨ (∃ x ∈ ss, e = x.1 - h ∧ e < step)) → 0 < e → e - (gmF ss (mk h t (mny ss) (e - 1)) : Int) ≤ m
/-- the ends are enough -/
theorem least_ends {h t : Int} {ss : List Srt} {N : Nat} {m0 : Int} (hm : ∀ m : Nat, m < N → mk h t (mny ss) (m : Int) = h + m)
    (ub : ∀ e : Int, (e = (N : Int) ∨ (∃ x ∈ ss, e = x.1 - h ∧ e < (N : Int))) → 0 < e → e - (gmF ss (mk h t (mny ss) (e - 1)) : Int) ≤ m0) :
    ∀ (j m : Nat), m < N → N - m = j → (m : Int) + 1 - (gmF ss (mk h t (mny ss) (m : Int)) : Int) ≤ m0 := by
  intro j
  induction j with
  | zero => intro m a b; omega
  | succ j ih =>
    intro m a b
    by_cases z : m + 1 = N
    · have := ub N (.inl rfl) (by omega)
      rw [show (N : Int) - 1 = (m : Int) by omega] at this
      omega
    · by_cases q : ∃ x ∈ ss, x.1 - h = (m : Int) + 1
      · obtain ⟨x, hx, e⟩ := q
        have := ub ((m : Int) + 1) (.inr ⟨x, hx, e.symm, by omega⟩) (by omega)
        rw [show (m : Int) + 1 - 1 = (m : Int) by omega] at this
        exact this
      · have i2 := ih (m + 1) (by omega) (by omega)
        rw [hm (m + 1) (by omega)] at i2
        rw [hm m a]
        have e : gmF ss (h + ((m + 1 : Nat) : Int)) = gmF ss (h + (m : Int)) := by
          unfold gmF
          congr 2
          refine List.filter_congr fun x hx => ?_
          rw [decide_eq_decide]
          have : ¬ x.1 - h = (m : Int) + 1 := fun w => q ⟨x, hx, w⟩
          omega
        rw [e] at i2
        omega
section
variable {ss : List Srt} {k : Nat} {D : Nat → Int} {S : Nat → Bool} {h t : Int}
theorem least_low (r : Rp ss k D S) {T N : Nat} (tp : Th.Top k (Gd h t k D) T) (hN : N ≤ T) (sl : Th.StuckLow k (Gd h t k D) N S) (hm : ∀ m : Nat, m < N → mk h t k (m : Int) = h + m) {m0 : Int} (L : LeastI h t ss (N : Int) m0) :
    ∃ n : Nat, m0 = (n : Int) ∧ Th.IsMin k (Gd h t k D) S n := by
  obtain ⟨l1, l2, l3⟩ := L
  have km := r.mny
  have hends := least_ends (h := h) (t := t) (ss := ss) (N := N) (by rw [km]; exact hm) l3
  have efx := r.fx (mk h t (mny ss) (N : Int))
  rw [km] at efx hends l1 l2 l3
  have gme : ∀ m : Nat, gmF ss (mk h t k (m : Int)) = Th.cnt k (Gd h t k D m) := fun m => r.gm _
  have fxle : (fxF ss (mk h t k (N : Int))).sum ≤ Th.cnt k S := by
    rw [efx]
    exact Th.cnt_mono fun i _ w => by revert w; cases S i <;> simp
  have m0N : m0 ≤ (N : Int) := by
    have := sl.1
    rcases l1 with e | ⟨e, he, e0, e1⟩
    · omega
    · rcases he with he | ⟨x, _, _, he⟩ <;> omega
  have cond : ∀ m, m < N → m + 1 ≤ m0.toNat + Th.cnt k (Gd h t k D m) := fun m a => by
    have := hends _ m a rfl
    rw [gme] at this
    omega
  refine ⟨m0.toNat, by omega, (Th.low_counts sl tp hN (by omega)).mpr cond, fun U rU => ?_⟩
  have ur := sl.under tp hN rU
  have lc := (Th.low_counts sl tp hN ur.1).mp ⟨U, rU, rfl⟩
  rcases l1 with e | ⟨e, he, e0, e1⟩
  · have : Th.cnt k (fun i => S i && !Gd h t k D N i) ≤ Th.cnt k U := Th.cnt_mono fun i hi w => by
      have := ur.2 i hi
      revert w this
      cases S i <;> cases U i <;> cases Gd h t k D N i <;> simp
    have e3 : (fxF ss (mk h t k (N : Int))).sum = Th.cnt k (fun i => S i && !Gd h t k D N i) := efx
    omega
  · have eN : e ≤ (N : Int) := by rcases he with he | ⟨x, _, _, he⟩ <;> omega
    have := lc (e - 1).toNat (by omega)
    rw [show e - 1 = (((e - 1).toNat : Nat) : Int) by omega, gme] at e1
    omega
theorem least_open (r : Rp ss k D S) {T : Nat} (tp : Th.Top k (Gd h t k D) T) (op : Th.Open k (Gd h t k D) T S) (hm : ∀ m : Nat, m < T → mk h t k (m : Int) = h + m) {m0 : Int} (L : LeastI h t ss (T : Int) m0) :
    ∃ n : Nat, m0 = (n : Int) ∧ Th.IsMin k (Gd h t k D) S n := by
  obtain ⟨l1, l2, l3⟩ := L
  have km := r.mny
  have hends := least_ends (h := h) (t := t) (ss := ss) (N := T) (by rw [km]; exact hm) l3
  have efx := r.fx (mk h t (mny ss) (T : Int))
  rw [km] at efx hends l1 l2 l3
  have e3 : (fxF ss (mk h t k (T : Int))).sum = Th.cnt k (fun i => S i && !Gd h t k D T i) := efx
  have gme : ∀ m : Nat, gmF ss (mk h t k (m : Int)) = Th.cnt k (Gd h t k D m) := fun m => r.gm _
  have fT : Th.cnt k (fun i => S i && !Gd h t k D T i) ≤ T := by
    rcases op.1 with q | q
    · exact Nat.le_trans (Th.cnt_mono fun i _ w => by revert w; cases S i <;> simp) q.1
    · exact q.2 T (Nat.le_refl _) q.1
  have m0N : m0 ≤ (T : Int) := by
    rcases l1 with e | ⟨e, he, e0, e1⟩
    · omega
    · rcases he with he | ⟨x, _, _, he⟩ <;> omega
  have ca := Th.cnt_and_or (k := k) S (Gd h t k D T)
  have opc := op.2
  refine ⟨m0.toNat, by omega, (Th.open_counts_low tp op (by omega)).mpr ⟨by omega, fun m a => ?_⟩, fun U rU => ?_⟩
  · by_cases z : m = T
    · subst z
      omega
    · have := hends _ m (by omega) rfl
      rw [gme] at this
      omega
  · by_cases z : Th.cnt k U ≤ T + 1
    · have lc := (Th.open_counts_low tp op z).mp ⟨U, rU, rfl⟩
      rcases l1 with e | ⟨e, he, e0, e1⟩
      · have := lc.1
        omega
      · have eN : e ≤ (T : Int) := by rcases he with he | ⟨x, _, _, he⟩ <;> omega
        have := lc.2 (e - 1).toNat (by omega)
        rw [show e - 1 = (((e - 1).toNat : Nat) : Int) by omega, gme] at e1
        omega
    · omega
end
end Sh

namespace Sh
open PySem PySem.Spec PyProof.Rows L2
theorem may_May {h t : Int} {ds : List Int} {L : List Nat} {i : Nat} (hL : Lot ds.length L) (hi : i < ds.length) : mayB h t ds L i = true ↔ Th.May ds.length (Gof h t ds) (mem L) i := by
  rw [may_G, near_cnt hL hi]
  unfold Th.May
  rw [cnt_mem hL]
  unfold mem
  by_cases z : i ∈ L
  · rw [if_pos z, decide_eq_true z, if_pos rfl]
  · rw [if_neg z, decide_eq_false z, if_neg Bool.false_ne_true]
/-- the lot of a set -/
def lotOf (c : Nat) (U : Nat → Bool) : List Nat := (List.range c).filter U
theorem lotOf_lot (c : Nat) (U : Nat → Bool) : Lot c (lotOf c U) := (Lot.all c).filter _
theorem lotOf_mem {c : Nat} {U : Nat → Bool} {i : Nat} (hi : i < c) : mem (lotOf c U) i = U i := by
  unfold mem lotOf
  rw [Bool.eq_iff_iff, decide_eq_true_eq, List.mem_filter, List.mem_range]
  exact ⟨fun q => q.2, fun q => ⟨hi, q⟩⟩
theorem lotOf_eq {h t : Int} {ds : List Int} {L : List Nat} {U : Nat → Bool} (hL : Lot ds.length L) (r : Th.Reach ds.length (Gof h t ds) (mem L) U) : mem (lotOf ds.length U) = U := by
  funext i
  by_cases hi : i < ds.length
  · exact lotOf_mem hi
  · rw [Th.reach_out r i hi, mem_out hL hi, mem_out (lotOf_lot _ _) hi]
/-- to be one of those that ever go, by lots or by sets -/
theorem ex_moves {h t : Int} {ds : List Int} {L : List Nat} (hL : Lot ds.length L) {i : Nat} (hi : i < ds.length) : (∃ M, Lot ds.length M ∧ Rl h t ds L M ∧ mayB h t ds M i = true) ↔ Th.Moves ds.length (Gof h t ds) (mem L) i := by
  constructor
  · rintro ⟨M, l, r, m⟩
    exact ⟨mem M, r, (may_May l hi).mp m⟩
  · rintro ⟨U, r, m⟩
    have e := lotOf_eq hL r
    refine ⟨lotOf ds.length U, lotOf_lot _ _, ?_, ?_⟩
    · unfold Rl
      rw [e]
      exact r
    · rw [may_May (lotOf_lot _ _) hi, e]
      exact m
theorem movers_moves {h t : Int} {ds : List Int} {L ms : List Nat} (hL : Lot ds.length L) (im : IsMovers h t ds L ms) {i : Nat} (hi : i < ds.length) : i ∈ ms ↔ Th.Moves ds.length (Gof h t ds) (mem L) i := by
  rw [im.2 i hi, ex_moves hL hi]
/-- the most, the least, by sets -/
theorem isMost_of {h t : Int} {ds : List Int} {L : List Nat} {n : Nat} (hL : Lot ds.length L) (q : Th.IsMax ds.length (Gof h t ds) (mem L) n) : IsMost h t ds L n := by
  obtain ⟨⟨U, r, c⟩, hm⟩ := q
  have e := lotOf_eq hL r
  refine ⟨⟨lotOf ds.length U, lotOf_lot _ _, ?_, ?_⟩, fun M l rM => ?_⟩
  · unfold Rl
    rw [e]
    exact r
  · rw [← cnt_mem (lotOf_lot _ _), e]
    exact c
  · rw [← cnt_mem l]
    exact hm _ rM
theorem isLeast_of {h t : Int} {ds : List Int} {L : List Nat} {n : Nat} (hL : Lot ds.length L) (q : Th.IsMin ds.length (Gof h t ds) (mem L) n) : IsLeast h t ds L n := by
  obtain ⟨⟨U, r, c⟩, hm⟩ := q
  have e := lotOf_eq hL r
  refine ⟨⟨lotOf ds.length U, lotOf_lot _ _, ?_, ?_⟩, fun M l rM => ?_⟩
  · unfold Rl
    rw [e]
    exact r
  · rw [← cnt_mem (lotOf_lot _ _), e]
    exact c
  · rw [← cnt_mem l]
    exact hm _ rM
end Sh

/-! set(xs) of a list of ints, by the walk of the list -/
namespace Sh
open PySem PySem.Spec PyProof.Rows L2
section
variable {P : Program} {w : World} {A : Around} {E : Value → Shared → Prop} {s : Shared}
/-- a set as it is born -/
abbrev Bare (w : World) : Obj := { cls := .type "set", dict := none, data := .set #[] 0 (.fresh 0 0 (!w.params.followText "set-order")) }
/-- what is left: a set of the ints; all that stood stands -/
def Made (w : World) (s : Shared) (ns : List Int) (t : Shared) : Prop := ∃ (h' : Heap) (tk c : Nat), t = { s with heap := h', toks := tk } ∧ SetR w h' s.heap.objs.size (fun j => decide (j ∈ ns)) c ∧ c ≤ ns.length ∧ ∀ b o, s.heap.get? b = some o → h'.get? b = some o
/-- the ints of the list, one by one, into the set that was born at the end of the heap -/
theorem fill_lst {A3 : Around} {l : Addr} {items : Array Value} {ns : List Int} {R : Result → Shared → Prop} (hh : A3.in1.handled = none) (hl : s.heap.IsList l items) (hit : IntsAre items.toList ns) (hb : ns.length + 1 < scanBound)
    (hR : ∀ t, Made w s ns t → R (.ok (.ret .none)) t) :
    codeAny (model P w) A3 (.builtin "set.update.loop" ⟨[.ref s.heap.objs.size, .ref (s.heap.push (Bare w)).objs.size], []⟩) R { s with heap := (s.heap.push (Bare w)).push { cls := .type "list_iterator", data := .fields #[.ref l, .int 0 0] } } := by
  have n1 : items.size = ns.length := by rw [← Array.length_toList]; exact hit.length
  obtain ⟨ol, e1, e2, e3⟩ := id hl
  have l1 : l < s.heap.objs.size := Heap.lt_size e1
  have z1 : (s.heap.push (Bare w)).objs.size = s.heap.objs.size + 1 := Heap.size_push ..
  have l2 : l ≠ (s.heap.push (Bare w)).objs.size := by rw [z1]; exact Nat.ne_of_lt (Nat.lt_succ_of_lt l1)
  have vals : ∀ (i : Nat) (v : Value), items[i]? = some v → ∃ k t, ns[i]? = some k ∧ v = .int k t := by
    intro i v hv
    have hi : i < ns.length := n1 ▸ (Array.getElem?_eq_some_iff.mp hv).1
    obtain ⟨t, e⟩ := IntsAre.int_at hit i v (by rw [Array.getElem?_toList]; exact hv)
    exact ⟨ns[i], t, List.getElem?_eq_getElem hi, by rw [e, List.getD_eq_getElem?_getD, List.getElem?_eq_getElem hi]; rfl⟩
  have born : ((s.heap.push (Bare w)).push { cls := .type "list_iterator", data := .fields #[.ref l, .int 0 0] }).get? s.heap.objs.size = some (Bare w) := Heap.get?_push_of_some _ (Heap.get?_push_size _ rfl)
  refine set_update_ints ((Walks.list hh _ l l2 items).toS) s.heap.objs.size (by rw [z1]; simp only [List.mem_cons, List.not_mem_nil, or_false, not_or]; exact ⟨Nat.ne_of_lt (Nat.lt_succ_self _), Nat.ne_of_gt l1⟩) ns n1 hb vals (items.size - 0) 0 _ (by omega) (Nat.zero_le _) ⟨⟨_, Heap.get?_push_size _ rfl, rfl, rfl⟩, (hl.push _).push _⟩ ⟨0, Nat.le_refl 0, setR_new_at born⟩ ?_
  rintro ⟨h', g2, d', tk', os'⟩ c' mv hc' hS'
  obtain rfl : g2 = s.gens := mv.gens
  obtain rfl : d' = s.drawn := mv.drawn
  obtain rfl : os' = s.os := mv.os
  refine hR _ ⟨h', tk', c', rfl, hS', by omega, fun b o e => ?_⟩
  have b0 := Heap.lt_size e
  exact mv.heap b o (by rw [z1]; simp only [List.mem_cons, List.not_mem_nil, or_false, not_or]; exact ⟨Nat.ne_of_lt b0, Nat.ne_of_lt (Nat.lt_succ_of_lt b0)⟩) (Heap.get?_push_of_some _ (Heap.get?_push_of_some _ e))
set_option maxHeartbeats 4000000 in
/-- set(xs) -/
theorem call_set_lst {l : Addr} {items : Array Value} {ns : List Int} {Q : Value → Shared → Prop} (hh : A.handled = none) (hl : s.heap.IsList l items) (hit : IntsAre items.toList ns) (hb : ns.length + 1 < scanBound)
    (h : ∀ t, Made w s ns t → Q (.ref s.heap.objs.size) t) : wpAny (model P w) A (call (.type "set") [.ref l]) Q E s := by
  have ⟨_, _, m1⟩ := F.called_set.mro; have m2 := F.called_set.made; have m3 := F.called_set.sub; have m4 := F.called_set.notType; have m5 := F.called_set.canCreate; have m6 := F.typeCall_set_1 (.ref l)
  refine wpAny_call (codeAny_of_tree (show wpAny _ _ (callAny (.type "set") _) _ _ _ from wpAny_pure ⟨Code.quiet_builtin _ (by decide +kernel), codeAny_builtin F.entry_type_call ?_⟩))
  rw [Around.under_plain (weight_type_call_type "set" [.ref l] []) rfl]
  repeat (any_goals (first | assumption | wp_step))
  refine codeAny_mono (code_set_led1 (.ref l) (E := E) (Q₁ := fun x t => x = .ref s.heap.objs.size ∧ t = { s with heap := s.heap.push (Bare w) }) ⟨rfl, rfl⟩) fun r t hr => ?_
  rcases r with e | fl
  · exact hr
  · rcases fl with x | _ | _ | _
    all_goals try exact hr.elim
    obtain ⟨rfl, rfl⟩ := hr
    have born : (s.heap.push (Bare w)).get? s.heap.objs.size = some (Bare w) := Heap.get?_push_size _ rfl
    have ty : Shared.TypeIs { s with heap := s.heap.push (Bare w) } (.ref s.heap.objs.size) "set" := ⟨_, born, rfl⟩
    have i1 := F.called_set.init.lookup; have i2 := F.called_set.init.bind (.ref s.heap.objs.size)
    repeat (any_goals (first | assumption | wp_step))
    refine codeAny_mono (codeAny_call_builtin (R := wants (fun x t => x = .none ∧ Made w s ns t) E) F.called_set.init.plain F.entry_set_init (check_set_init_1 ty ?_)) fun r2 t2 hr2 => ?_
    · obtain ⟨⟨ocls, odict, odata, oslots⟩, e1, e2, nl, e3⟩ := id hl
      simp only at e2 e3
      subst e2 e3
      have l1 : (s.heap.push (Bare w)).IsList l items := hl.push _
      have e4 : (s.heap.push (Bare w)).get? l = some { cls := .type "list", dict := odict, data := .seq items nl, slots := oslots } := Heap.get?_push_of_some _ e1
      have f1 := F.sub_list_set; have f2 := F.sub_list_frozenset; have f3 : (Value.type "list" == Value.type "dict") = false := by decide
      unfold Builtin.«set.__init__» noKeywords Builtin.Frozenset.updateFrom
      generalize eI : pyIter = it; wp_walk; subst eI
      refine wpAny_pyIter_list l1 (wpAny_bind (wpAny_runValue (fill_lst (by simp [hh]) hl hit hb fun t m => ?_)))
      exact wpAny_pure (wpAny_pure ⟨rfl, m⟩)
    · rcases r2 with e | fl
      · exact hr2
      · rcases fl with x | _ | _ | _
        all_goals try exact hr2.elim
        obtain ⟨rfl, m⟩ := hr2
        repeat (any_goals (first | assumption | wp_step))
        exact h _ m
/-- the members, each once -/
theorem SetR.keys {h : Heap} {a : Addr} {ns : List Int} {c : Nat} (R : SetR w h a (fun j => decide (j ∈ ns)) c) : ∃ ks : List Int, ks.Nodup ∧ (∀ k, k ∈ ks ↔ k ∈ ns) ∧ c = ks.length := by
  obtain ⟨o, es, ep, t, _, _, _, _, nd, hm, _, _, hn, _⟩ := R
  refine ⟨es.toList.map keyOf, nd, fun k => ?_, ?_⟩
  · rw [← hm k, decide_eq_true_eq]
  · rw [List.length_map, Array.length_toList, hn]
/-- set(xs) of a list or a tuple of ints, as a thing that stands -/
def rSetA (K : PySem.W.Frag) (w : World) : List V → Hp → VK → Prop := fun xs H Q => ∃ (q : Addr) (ns : List Int), xs = [.ref q] ∧ SqA K H q (ns.map V.int) ∧ ns.length ≤ 1000 ∧ ∀ (a : Addr) (ks : List Int), H a = none → ks.Nodup → (∀ k, k ∈ ks ↔ k ∈ ns) → Q (.ref a) (upd H a (SetO w a (fun j => decide (j ∈ ns)) ks.length))
theorem cr_setA {X : Cx} (hc : X.calm = true) : CallR X (.type "set") (rSetA X.K X.w) := by
  intro pins s σ H xs us Q I r h
  obtain ⟨q, ns, rfl, hq | hq, hl, k⟩ := h
  · rw [Vals.ref1 r]
    obtain ⟨its, rv, pl, hz⟩ := I.list hq
    refine call_set_lst (ns := ns) (I.ok.hd hc) pl.isList (ints_of_vals rv) (by unfold scanBound; omega) ?_
    rintro t ⟨h', tk, c, rfl, R1, hcn, kk⟩
    obtain ⟨ks, k1, k2, rfl⟩ := SetR.keys R1
    exact ⟨.ref _, upd H s.heap.objs.size (SetO X.w s.heap.objs.size _ ks.length), I.laid (t' := tk) kk (Nat.le_refl _) (setO_new R1), rfl, k _ _ (I.hok.fresh (Nat.le_refl _)) k1 k2⟩
  · rw [Vals.ref1 r]
    obtain ⟨its, rv, pt, hz⟩ := I.tuple hq
    refine call_set_tupI ns (I.ok.hd hc) (show s.heap.IsTuple q its.toArray from pt) (ints_of_vals rv) (by unfold scanBound; omega) fun h' tk c R1 hcn kk => ?_
    obtain ⟨ks, k1, k2, rfl⟩ := SetR.keys R1
    exact ⟨.ref _, upd H s.heap.objs.size (SetO X.w s.heap.objs.size _ ks.length), I.laid (t' := tk) kk (Nat.le_refl _) (setO_new R1), rfl, k _ _ (I.hok.fresh (Nat.le_refl _)) k1 k2⟩
theorem cr_setAw {X : Cx} (w : World) (hc : X.calm = true) (hw : X.w = w := by rfl) : CallR X (.type "set") (rSetA X.K w) := hw ▸ cr_setA hc
end
end Sh

namespace Sh
open PySem PySem.Spec PyProof.Rows L2
/-! ### the program: water -/
def spMarkOf : Sp := fun vs H Q _ => ∃ (h t s : Int) (n : Nat), vs = [.int h, .int t, .int (n : Int), .int s] ∧ Q (.int (mk h t n s)) H
def spTopOf : Sp := fun vs H Q _ => ∃ (h t : Int) (n : Nat), vs = [.int h, .int t, .int (n : Int)] ∧ Q (.int (topI h t n)) H
abbrev s_mark_of : Stmt := topS 1
theorem sc_mark_of : FnScope (["here", "there", "many", "step"] : List Str) (["here", "there", "many", "step"] : List Str) (defScope s_mark_of) := ⟨rfl, rfl, rfl, by decide +kernel, rfl, by decide +kernel, by decide +kernel⟩
theorem b_mark_of (kV doc pm : Value) (an : Option Addr) (cdv ct : Value) (us : List Value) (hl : us.length = (["here", "there", "many", "step"] : List Str).length) : bindArgs (PySem.W.fnOf "mark_of" "mark_of" (defArgs s_mark_of) (defBody s_mark_of) (defScope s_mark_of) .none kV doc pm an cdv ct) ⟨us, []⟩ = pure ((["here", "there", "many", "step"] : List Str).zip us) :=
  match us, hl with | [_, _, _, _], _ => rfl
abbrev s_top_of : Stmt := topS 2
theorem sc_top_of : FnScope (["here", "there", "many", "last", "meeting"] : List Str) (["here", "there", "many"] : List Str) (defScope s_top_of) := ⟨rfl, rfl, rfl, by decide +kernel, rfl, by decide +kernel, by decide +kernel⟩
theorem b_top_of (kV doc pm : Value) (an : Option Addr) (cdv ct : Value) (us : List Value) (hl : us.length = (["here", "there", "many"] : List Str).length) : bindArgs (PySem.W.fnOf "top_of" "top_of" (defArgs s_top_of) (defBody s_top_of) (defScope s_top_of) .none kV doc pm an cdv ct) ⟨us, []⟩ = pure ((["here", "there", "many"] : List Str).zip us) :=
  match us, hl with | [_, _, _], _ => rfl
section
variable {P : Program} {w : World} {K : PySem.W.Frag} {mg : Str → Option Value} {base : Heap}
theorem ok_mark_of {k : Nat} (D : Df K mg "mark_of" s_mark_of) (T : Bt mg) : Ok P w K mg base (k + 1) "mark_of" s_mark_of ["here", "there", "many", "step"] spMarkOf := by
  refine D.ok sc_mark_of b_mark_of (fun vs H Q E h => ?_) (fun f cdv A outer s H vs Q E hr h => ?_)
  · obtain ⟨h, t, s, n, rfl, _⟩ := h
    rfl
  · obtain ⟨h, t, s, n, rfl, k⟩ := h
    refine ⟨_, (pss_one (ps_ret (pe_callB (call_min2 rfl) (by rfl) T.min_ (by decide +kernel) (pa_cons (pe_op op_add (pv 0) (pv 3)) (pa_cons (pe_op op_sub (pe_op op_sub (pe_op op_add (pv 1) (pv 2)) pe_int) (pv 3)) pa_nil))))), ?_⟩
    refine ⟨_, rfl, _, rfl, h, s, rfl, rfl, _, rfl, _, rfl, t, _, rfl, rfl, _, 1, rfl, rfl, _, rfl, _, s, rfl, rfl, _, _, rfl, ?_⟩
    rw [← mk_alt] at k
    exact k
theorem ok_top_of {k : Nat} (D : Df K mg "top_of" s_top_of) (T : Bt mg) : Ok P w K mg base (k + 1) "top_of" s_top_of ["here", "there", "many"] spTopOf := by
  refine D.ok sc_top_of b_top_of (fun vs H Q E h => ?_) (fun f cdv A outer s H vs Q E hr h => ?_)
  · obtain ⟨h, t, n, rfl, _⟩ := h
    rfl
  · obtain ⟨h, t, n, rfl, k⟩ := h
    refine ⟨_, (pss_cons (ps_set (i := 3) sc_top_of.nd rfl (.inl rfl) (pe_op op_sub (pv 2) pe_int))
      (pss_cons (ps_set (i := 4) sc_top_of.nd rfl (.inl rfl) (pe_op op_fdiv (pe_op op_sub (pe_op op_add (pv 1) (pv 3)) (pv 0)) pe_int))
      (pss_one (ps_ret (pe_callB (call_max2 rfl) (by rfl) T.max_ (by decide +kernel) (pa_cons pe_int (pa_cons (pe_callB (call_min2 rfl) (by rfl) T.min_ (by decide +kernel) (pa_cons (pv 3) (pa_cons (pv 4) pa_nil))) pa_nil))))))), ?_⟩
    refine ⟨_, rfl, _, 1, rfl, rfl, ?_⟩
    refine ⟨_, rfl, _, rfl, t, _, rfl, rfl, _, rfl, _, h, rfl, rfl, _, 2, rfl, rfl, ⟨by decide, by decide⟩, ?_⟩
    refine ⟨_, rfl, _, rfl, _, _, rfl, 0, _, rfl, ?_⟩
    exact k
end
end Sh

namespace Sh
open PySem PySem.Spec PyProof.Rows L2
/-! ### the program: lots, of fleets as they are handed in -/
def SrtV (x : Srt) : List V := [.int x.1, .int (x.2.1 : Int), .int (x.2.2 : Int)]
def SrtsA (K : PySem.W.Frag) (H : Hp) (rs : List Addr) (ss : List Srt) : Prop := rs.length = ss.length ∧ ∀ (i : Nat) (r : Addr) (x : Srt), rs[i]? = some r → ss[i]? = some x → SqA K H r (SrtV x)
theorem SrtsA.same {K : PySem.W.Frag} {H H' : Hp} {rs : List Addr} {ss : List Srt} (w : SrtsA K H rs ss) (e : Same H H') : SrtsA K H' rs ss := ⟨w.1, fun i r x a b => Same.sqA e (w.2 i r x a b)⟩
theorem srt_at {K : PySem.W.Frag} {H : Hp} {rs : List Addr} {ss : List Srt} {i : Nat} {v : V} (w : SrtsA K H rs ss) (g : (rs.map V.ref)[i]? = some v) : ∃ (r : Addr) (hi : i < ss.length), v = .ref r ∧ SqA K H r (SrtV ss[i]) := by
  rw [List.getElem?_map] at g
  cases e : rs[i]? with
  | none => rw [e] at g; cases g
  | some r =>
    rw [e] at g
    have hi : i < rs.length := (List.getElem?_eq_some_iff.mp e).1
    have hi2 : i < ss.length := w.1 ▸ hi
    exact ⟨r, hi2, (Option.some.inj g).symm, w.2 i r _ e (List.getElem?_eq_getElem hi2)⟩
/-- a fleet (lists or tuples) is handed in -/
def FltA (K : PySem.W.Frag) (H : Hp) (v : V) (h t : Int) (ss : List Srt) : Prop := ∃ (p q : Addr) (rs : List Addr), v = .ref p ∧ SqA K H p [.int h, .int t, .ref q] ∧ SqA K H q (rs.map V.ref) ∧ SrtsA K H rs ss
theorem FltA.same {K : PySem.W.Frag} {H H' : Hp} {v : V} {h t : Int} {ss : List Srt} (s : FltA K H v h t ss) (e : Same H H') : FltA K H' v h t ss := let ⟨p, q, rs, a, b, c, d⟩ := s; ⟨p, q, rs, a, Same.sqA e b, Same.sqA e c, d.same e⟩
/-- new sorts, as tuples -/
def SrtsN (H : Hp) (rs : List Addr) (ss : List Srt) : Prop := rs.length = ss.length ∧ ∀ (i : Nat) (r : Addr) (x : Srt), rs[i]? = some r → ss[i]? = some x → H r = some (.tup (SrtV x))
theorem SrtsN.a {K : PySem.W.Frag} {H : Hp} {rs : List Addr} {ss : List Srt} (w : SrtsN H rs ss) : SrtsA K H rs ss := ⟨w.1, fun i r x a b => SqA.t (w.2 i r x a b)⟩
theorem SrtsN.same {H H' : Hp} {rs : List Addr} {ss : List Srt} (w : SrtsN H rs ss) (e : Same H H') : SrtsN H' rs ss := ⟨w.1, fun i r x a b => e _ _ (w.2 i r x a b)⟩
theorem SrtsN.put {H : Hp} {rs : List Addr} {ss : List Srt} {C : Addr} {xs ys : List V} (w : SrtsN H rs ss) (h : H C = some (.lst xs)) : SrtsN (upd H C (.lst ys)) rs ss := ⟨w.1, fun i r x a b => by
  have q := w.2 i r x a b
  rw [upd_ne (ne_of q h (by intro z; cases z))]
  exact q⟩
theorem SrtsN.push {H : Hp} {rs : List Addr} {ss : List Srt} {u : Addr} {x : Srt} (w : SrtsN H rs ss) (n : H u = none) : SrtsN (upd H u (.tup (SrtV x))) (rs ++ [u]) (ss ++ [x]) := by
  refine ⟨by rw [List.length_append, List.length_append, w.1]; rfl, fun i r y a b => ?_⟩
  by_cases z : i < rs.length
  · rw [List.getElem?_append_left z] at a
    rw [List.getElem?_append_left (by rw [← w.1]; exact z)] at b
    exact same_new n _ _ (w.2 i r y a b)
  · have e : i = rs.length := by
      have := (List.getElem?_eq_some_iff.mp a).1
      rw [List.length_append] at this
      simp at this
      omega
    subst e
    rw [List.getElem?_append_right (Nat.le_refl _), Nat.sub_self] at a
    rw [List.getElem?_append_right (by rw [w.1]; exact Nat.le_refl _), w.1, Nat.sub_self] at b
    obtain rfl : u = r := Option.some.inj a
    obtain rfl : x = y := Option.some.inj b
    exact upd_same
theorem SrtsN.push' {H : Hp} {rs : List Addr} {ss : List Srt} {u : Addr} {x : Srt} {o : HO} (w : SrtsN H rs ss) (n : H u = none) (e : o = .tup (SrtV x)) : SrtsN (upd H u o) (rs ++ [u]) (ss ++ [x]) := by
  subst e
  exact w.push n
theorem isum (f : Srt → Nat) : ∀ l : List Srt, (l.map fun x => (f x : Int)).sum = ((l.map f).sum : Int)
  | [] => rfl
  | a :: l => by
    rw [List.map_cons, List.sum_cons, isum f l, List.map_cons, List.sum_cons]
    rfl
theorem tm {β : Type} (f : Srt → β) {ss : List Srt} {i : Nat} (hi : i < ss.length) : (ss.take (i + 1)).map f = (ss.take i).map f ++ [f ss[i]] := by rw [take_succ_get hi, List.map_append]; rfl
theorem tfm {β : Type} (p : Srt → Bool) (f : Srt → β) {ss : List Srt} {i : Nat} (hi : i < ss.length) : ((ss.take (i + 1)).filter p).map f = ((ss.take i).filter p).map f ++ (if p ss[i] = true then [f ss[i]] else []) := by
  rw [take_succ_get hi, List.filter_append, List.map_append]
  congr 1
  by_cases c : p ss[i] = true
  · rw [if_pos c, List.filter_cons_of_pos c]; rfl
  · rw [if_neg c, List.filter_cons_of_neg c]; rfl
theorem take_le {ss : List Srt} {i : Nat} (hi : i < ss.length) : (ss.take i).length < ss.length := by rw [List.length_take]; omega
theorem tf_le {p : Srt → Bool} {ss : List Srt} {i : Nat} (hi : i < ss.length) : ((ss.take i).filter p).length < ss.length := Nat.lt_of_le_of_lt (List.length_filter_le _ _) (take_le hi)
def spShips (K : PySem.W.Frag) : Sp := fun vs H Q _ => ∃ (v : V) (h t : Int) (ss : List Srt), vs = [v] ∧ FltA K H v h t ss ∧ ss.length ≤ 1000 ∧ ∀ H', Same H H' → Q (.int (mny ss : Int)) H'
def spMarkIn (K : PySem.W.Frag) : Sp := fun vs H Q _ => ∃ (v : V) (h t s : Int) (ss : List Srt), vs = [v, .int s] ∧ FltA K H v h t ss ∧ ss.length ≤ 1000 ∧ ∀ H', Same H H' → Q (.int (mk h t (mny ss) s)) H'
def spGoersMany (K : PySem.W.Frag) : Sp := fun vs H Q _ => ∃ (v : V) (h t s : Int) (ss : List Srt), vs = [v, .int s] ∧ FltA K H v h t ss ∧ ss.length ≤ 1000 ∧ ∀ H', Same H H' → Q (.int (gmF ss (mk h t (mny ss) s) : Int)) H'
def spTopIn (K : PySem.W.Frag) : Sp := fun vs H Q _ => ∃ (v : V) (h t : Int) (ss : List Srt), vs = [v] ∧ FltA K H v h t ss ∧ ss.length ≤ 1000 ∧ ∀ H', Same H H' → Q (.int (topI h t (mny ss))) H'
def spFilled (K : PySem.W.Frag) : Sp := fun vs H Q _ => ∃ (v : V) (h t s : Int) (ss : List Srt), vs = [v, .int s] ∧ FltA K H v h t ss ∧ ss.length ≤ 1000 ∧ ∀ H', Same H H' → Q (.int (filF ss (mk h t (mny ss) s) : Int)) H'
/-- marks rise up to top -/
def Rise (h t : Int) (n : Nat) (top : Int) : Prop := ∀ s s' : Int, 0 ≤ s → s ≤ s' → s' ≤ top → mk h t n s ≤ mk h t n s'
def spLowStop (K : PySem.W.Frag) : Sp := fun vs H Q _ => ∃ (v : V) (h t top : Int) (ss : List Srt), vs = [v, .int top] ∧ FltA K H v h t ss ∧ ss.length ≤ 1000 ∧ Rise h t (mny ss) top ∧
  (∀ (H' : Hp) (N : Nat), Same H H' → (N : Int) ≤ top → StuckF h t ss N → Q (.int (N : Int)) H') ∧ (∀ H', Same H H' → (∀ N : Nat, (N : Int) ≤ top → ¬ StuckF h t ss N) → Q .non H')
def spTurnedF (K : PySem.W.Frag) : Sp := fun vs H Q _ => ∃ (v : V) (h t : Int) (ss : List Srt), vs = [v] ∧ FltA K H v h t ss ∧ ss.length ≤ 1000 ∧ ∀ (H' : Hp) (z : V), Same H H' → FltA K H' z t h (turnF ss) → Q z H'
theorem fil_mono {ss : List Srt} {m m' : Int} (e : m ≤ m') : filF ss m ≤ filF ss m' := by
  unfold filF
  induction ss with
  | nil => exact Nat.le_refl _
  | cons a l ih =>
    simp only [List.map_cons, List.sum_cons]
    have : (if a.1 ≤ m then a.2.2 else 0) ≤ (if a.1 ≤ m' then a.2.2 else 0) := by
      by_cases z : a.1 ≤ m
      · rw [if_pos z, if_pos (by omega)]
        exact Nat.le_refl _
      · rw [if_neg z]
        exact Nat.zero_le _
    omega
theorem fil_ge {ss : List Srt} {m : Int} : ourn ss ≤ filF ss m := by
  unfold filF ourn
  induction ss with
  | nil => exact Nat.le_refl _
  | cons a l ih =>
    simp only [List.map_cons, List.sum_cons]
    omega
theorem fil_le {ss : List Srt} {m : Int} : filF ss m ≤ mny ss := by
  unfold filF mny
  induction ss with
  | nil => exact Nat.le_refl _
  | cons a l ih =>
    simp only [List.map_cons, List.sum_cons]
    have : (if a.1 ≤ m then a.2.2 else 0) ≤ a.2.2 := by split <;> omega
    omega
abbrev s_ships_many : Stmt := topS 9
theorem sc_ships_many : FnScope (["fleet", "draught", "ours", "theirs"] : List Str) (["fleet"] : List Str) (defScope s_ships_many) := ⟨rfl, rfl, rfl, by decide +kernel, rfl, by decide +kernel, by decide +kernel⟩
theorem b_ships_many (kV doc pm : Value) (an : Option Addr) (cdv ct : Value) (us : List Value) (hl : us.length = (["fleet"] : List Str).length) : bindArgs (PySem.W.fnOf "ships_many" "ships_many" (defArgs s_ships_many) (defBody s_ships_many) (defScope s_ships_many) .none kV doc pm an cdv ct) ⟨us, []⟩ = pure ((["fleet"] : List Str).zip us) :=
  match us, hl with | [_], _ => rfl
abbrev s_mark_in : Stmt := topS 10
theorem sc_mark_in : FnScope (["fleet", "step", "here", "there", "sorts"] : List Str) (["fleet", "step"] : List Str) (defScope s_mark_in) := ⟨rfl, rfl, rfl, by decide +kernel, rfl, by decide +kernel, by decide +kernel⟩
theorem b_mark_in (kV doc pm : Value) (an : Option Addr) (cdv ct : Value) (us : List Value) (hl : us.length = (["fleet", "step"] : List Str).length) : bindArgs (PySem.W.fnOf "mark_in" "mark_in" (defArgs s_mark_in) (defBody s_mark_in) (defScope s_mark_in) .none kV doc pm an cdv ct) ⟨us, []⟩ = pure ((["fleet", "step"] : List Str).zip us) :=
  match us, hl with | [_, _], _ => rfl
abbrev s_goers_many : Stmt := topS 11
theorem sc_goers_many : FnScope (["fleet", "step", "mark", "draught", "ours", "theirs"] : List Str) (["fleet", "step"] : List Str) (defScope s_goers_many) := ⟨rfl, rfl, rfl, by decide +kernel, rfl, by decide +kernel, by decide +kernel⟩
theorem b_goers_many (kV doc pm : Value) (an : Option Addr) (cdv ct : Value) (us : List Value) (hl : us.length = (["fleet", "step"] : List Str).length) : bindArgs (PySem.W.fnOf "goers_many" "goers_many" (defArgs s_goers_many) (defBody s_goers_many) (defScope s_goers_many) .none kV doc pm an cdv ct) ⟨us, []⟩ = pure ((["fleet", "step"] : List Str).zip us) :=
  match us, hl with | [_, _], _ => rfl
abbrev s_top_in : Stmt := topS 12
theorem sc_top_in : FnScope (["fleet", "here", "there", "sorts"] : List Str) (["fleet"] : List Str) (defScope s_top_in) := ⟨rfl, rfl, rfl, by decide +kernel, rfl, by decide +kernel, by decide +kernel⟩
theorem b_top_in (kV doc pm : Value) (an : Option Addr) (cdv ct : Value) (us : List Value) (hl : us.length = (["fleet"] : List Str).length) : bindArgs (PySem.W.fnOf "top_in" "top_in" (defArgs s_top_in) (defBody s_top_in) (defScope s_top_in) .none kV doc pm an cdv ct) ⟨us, []⟩ = pure ((["fleet"] : List Str).zip us) :=
  match us, hl with | [_], _ => rfl
abbrev s_filled_at : Stmt := topS 13
theorem sc_filled_at : FnScope (["fleet", "step", "mark", "draught", "ours", "theirs"] : List Str) (["fleet", "step"] : List Str) (defScope s_filled_at) := ⟨rfl, rfl, rfl, by decide +kernel, rfl, by decide +kernel, by decide +kernel⟩
theorem b_filled_at (kV doc pm : Value) (an : Option Addr) (cdv ct : Value) (us : List Value) (hl : us.length = (["fleet", "step"] : List Str).length) : bindArgs (PySem.W.fnOf "filled_at" "filled_at" (defArgs s_filled_at) (defBody s_filled_at) (defScope s_filled_at) .none kV doc pm an cdv ct) ⟨us, []⟩ = pure ((["fleet", "step"] : List Str).zip us) :=
  match us, hl with | [_, _], _ => rfl
abbrev s_low_stop : Stmt := topS 14
theorem sc_low_stop : FnScope (["fleet", "top", "step", "filled", "draught", "ours", "theirs"] : List Str) (["fleet", "top"] : List Str) (defScope s_low_stop) := ⟨rfl, rfl, rfl, by decide +kernel, rfl, by decide +kernel, by decide +kernel⟩
theorem b_low_stop (kV doc pm : Value) (an : Option Addr) (cdv ct : Value) (us : List Value) (hl : us.length = (["fleet", "top"] : List Str).length) : bindArgs (PySem.W.fnOf "low_stop" "low_stop" (defArgs s_low_stop) (defBody s_low_stop) (defScope s_low_stop) .none kV doc pm an cdv ct) ⟨us, []⟩ = pure ((["fleet", "top"] : List Str).zip us) :=
  match us, hl with | [_, _], _ => rfl
abbrev s_turned_fleet : Stmt := topS 8
theorem sc_turned_fleet : FnScope (["fleet", "here", "there", "sorts", "draught", "ours", "theirs"] : List Str) (["fleet"] : List Str) (defScope s_turned_fleet) := ⟨rfl, rfl, rfl, by decide +kernel, rfl, by decide +kernel, by decide +kernel⟩
theorem b_turned_fleet (kV doc pm : Value) (an : Option Addr) (cdv ct : Value) (us : List Value) (hl : us.length = (["fleet"] : List Str).length) : bindArgs (PySem.W.fnOf "turned_fleet" "turned_fleet" (defArgs s_turned_fleet) (defBody s_turned_fleet) (defScope s_turned_fleet) .none kV doc pm an cdv ct) ⟨us, []⟩ = pure ((["fleet"] : List Str).zip us) :=
  match us, hl with | [_], _ => rfl
section
variable {P : Program} {w : World} {K : PySem.W.Frag} {mg : Str → Option Value} {base : Heap}
theorem ok_ships {k : Nat} (D : Df K mg "ships_many" s_ships_many) (T : Bt mg) : Ok P w K mg base (k + 1) "ships_many" s_ships_many ["fleet"] (spShips K) := by
  refine D.ok sc_ships_many b_ships_many (fun vs H Q E h => ?_) (fun f cdv A outer s H vs Q E hr h => ?_)
  · obtain ⟨v, h, t, ss, rfl, _⟩ := h
    rfl
  · obtain ⟨v, h, t, ss, rfl, ⟨p, q, rs, rfl, hp, hq, hs⟩, l1, k⟩ := h
    refine ⟨_, (pss_one (ps_ret (pe_callB (cr_sum rfl) (by rfl) T.sum_ (by decide +kernel) (pa_cons (pe_lc (own := [("draught", 1), ("ours", 2), ("theirs", 3)]) (g := (gSeq K 3 (gCons (gName 1) (gCons (gName 2) (gCons (gName 3) gNil))))) (tt := tYes) (by rfl) sc_ships_many.nd (pi_seq (pe_ix ix_lt (pv 0) pe_int (fun _ _ => rfl))) (blkOk_by (own := [("draught", 1), ("ours", 2), ("theirs", 3)]) (N := (["fleet", "draught", "ours", "theirs"] : List Str)) (sc := defScope s_ships_many) (by decide +kernel)) (fun _ _ _ _ _ => (pg_seq rfl (pgs_cons (pg_name (i := 1) sc_ships_many.nd rfl (.inl rfl)) (pgs_cons (pg_name (i := 2) sc_ships_many.nd rfl (.inl rfl)) (pgs_cons (pg_name (i := 3) sc_ships_many.nd rfl (.inl rfl)) pgs_nil))))) (fun _ _ _ _ _ => pts_nil) (fun _ _ _ _ _ => (pe_op op_add (pv 2) (pv 3)))) pa_nil)))), ?_⟩
    refine ⟨_, rfl, p, _, 2, .ref q, rfl, rfl, hp, rfl, q, _, H, rfl, hq, Kp.refl _ _, fun J hJ C nC => ?_⟩
    obtain ⟨G, g, W⟩ := hJ.walk
    refine lc_it W (fun i H' => Same H H' ∧ H' C = some (.lst (((ss.take i).map fun x => ((x.2.1 + x.2.2 : Nat) : Int)).map V.int))) ⟨same_new nC, upd_same⟩ (fun i H' _ z => g H' (.ofS z.1)) ?_ ?_
    · rintro i x H1 H2 _ ⟨sm, hC⟩ ⟨rfl, gx⟩
      obtain ⟨r, hi, rfl, hr1⟩ := srt_at (hs.same sm) gx
      refine ⟨r, _, rfl, hr1, rfl, _, _, rfl, _, _, rfl, _, _, rfl, rfl, rfl, tyes (iteT ⟨_, rfl, _, rfl, _, _, rfl, rfl, _, hC, ?_, same_over sm nC, ?_⟩)⟩
      · rw [List.length_map, List.length_map]
        exact Nat.lt_of_lt_of_le (take_le hi) (Nat.le_trans l1 (by decide))
      · rw [upd_same, tm _ hi, List.map_append]
        rfl
    · rintro H1 ⟨sm, hC⟩
      rw [List.length_map, hs.1, List.take_length] at hC
      refine ⟨C, _, rfl, SqL.of hC, ?_⟩
      rw [isum]
      exact k H1 sm
theorem ok_mark_in {k : Nat} (D : Df K mg "mark_in" s_mark_in) (T : Bt mg) (O_mark_of : Ok P w K mg base k "mark_of" s_mark_of ["here", "there", "many", "step"] spMarkOf) (O_ships_many : Ok P w K mg base k "ships_many" s_ships_many ["fleet"] (spShips K)) :
    Ok P w K mg base (k + 1) "mark_in" s_mark_in ["fleet", "step"] (spMarkIn K) := by
  refine D.ok sc_mark_in b_mark_in (fun vs H Q E h => ?_) (fun f cdv A outer s H vs Q E hr h => ?_)
  · obtain ⟨v, h, t, s, ss, rfl, _⟩ := h
    rfl
  · obtain ⟨v, h, t, s, ss, rfl, hv, l1, k⟩ := h
    obtain ⟨p, q, rs, rfl, hp, hq, hs⟩ := id hv
    refine ⟨_, (pss_cons (ps_asg (pv 0) (pg_seq rfl (pgs_cons (pg_name (i := 2) sc_mark_in.nd rfl (.inl rfl)) (pgs_cons (pg_name (i := 3) sc_mark_in.nd rfl (.inl rfl)) (pgs_cons (pg_name (i := 4) sc_mark_in.nd rfl (.inl rfl)) pgs_nil)))))
      (pss_one (ps_ret (pe_fn O_mark_of (hr.mono (by omega)) (pa_cons (pv 2) (pa_cons (pv 3) (pa_cons (pe_fn O_ships_many (hr.mono (by omega)) (pa_cons (pv 0) pa_nil)) (pa_cons (pv 1) pa_nil)))))))), ?_⟩
    refine ⟨_, rfl, p, _, rfl, hp, rfl, _, _, rfl, _, _, rfl, _, _, rfl, rfl, ?_⟩
    exact ⟨_, rfl, _, rfl, _, rfl, .ref p, h, t, ss, rfl, hv, l1, fun H' s1 => ⟨_, rfl, h, t, s, mny ss, rfl, k H' s1⟩⟩
theorem ok_top_in {k : Nat} (D : Df K mg "top_in" s_top_in) (T : Bt mg) (O_top_of : Ok P w K mg base k "top_of" s_top_of ["here", "there", "many"] spTopOf) (O_ships_many : Ok P w K mg base k "ships_many" s_ships_many ["fleet"] (spShips K)) :
    Ok P w K mg base (k + 1) "top_in" s_top_in ["fleet"] (spTopIn K) := by
  refine D.ok sc_top_in b_top_in (fun vs H Q E h => ?_) (fun f cdv A outer s H vs Q E hr h => ?_)
  · obtain ⟨v, h, t, ss, rfl, _⟩ := h
    rfl
  · obtain ⟨v, h, t, ss, rfl, hv, l1, k⟩ := h
    obtain ⟨p, q, rs, rfl, hp, hq, hs⟩ := id hv
    refine ⟨_, (pss_cons (ps_asg (pv 0) (pg_seq rfl (pgs_cons (pg_name (i := 1) sc_top_in.nd rfl (.inl rfl)) (pgs_cons (pg_name (i := 2) sc_top_in.nd rfl (.inl rfl)) (pgs_cons (pg_name (i := 3) sc_top_in.nd rfl (.inl rfl)) pgs_nil)))))
      (pss_one (ps_ret (pe_fn O_top_of (hr.mono (by omega)) (pa_cons (pv 1) (pa_cons (pv 2) (pa_cons (pe_fn O_ships_many (hr.mono (by omega)) (pa_cons (pv 0) pa_nil)) pa_nil))))))), ?_⟩
    refine ⟨_, rfl, p, _, rfl, hp, rfl, _, _, rfl, _, _, rfl, _, _, rfl, rfl, ?_⟩
    exact ⟨_, rfl, _, rfl, _, rfl, .ref p, h, t, ss, rfl, hv, l1, fun H' s1 => ⟨h, t, mny ss, rfl, k H' s1⟩⟩
theorem ok_goers_many {k : Nat} (D : Df K mg "goers_many" s_goers_many) (T : Bt mg) (O_mark_in : Ok P w K mg base k "mark_in" s_mark_in ["fleet", "step"] (spMarkIn K)) :
    Ok P w K mg base (k + 1) "goers_many" s_goers_many ["fleet", "step"] (spGoersMany K) := by
  refine D.ok sc_goers_many b_goers_many (fun vs H Q E h => ?_) (fun f cdv A outer s H vs Q E hr h => ?_)
  · obtain ⟨v, h, t, s, ss, rfl, _⟩ := h
    rfl
  · obtain ⟨v, h, t, s, ss, rfl, hv, l1, k⟩ := h
    refine ⟨_, (pss_cons (ps_set (i := 2) sc_goers_many.nd rfl (.inr rfl) (pe_fn O_mark_in (hr.mono (by omega)) (pa_cons (pv 0) (pa_cons (pv 1) pa_nil))))
      (pss_one (ps_ret (pe_callB (cr_sum rfl) (by rfl) T.sum_ (by decide +kernel) (pa_cons (pe_lc (own := [("draught", 3), ("ours", 4), ("theirs", 5)]) (g := (gSeq K 3 (gCons (gName 3) (gCons (gName 4) (gCons (gName 5) gNil))))) (by rfl) sc_goers_many.nd (pi_seq (pe_ix ix_lt (pv 0) pe_int (fun _ _ => rfl))) (blkOk_by (own := [("draught", 3), ("ours", 4), ("theirs", 5)]) (N := (["fleet", "step", "mark", "draught", "ours", "theirs"] : List Str)) (sc := defScope s_goers_many) (by decide +kernel)) (fun _ _ _ _ _ => (pg_seq rfl (pgs_cons (pg_name (i := 3) sc_goers_many.nd rfl (.inl rfl)) (pgs_cons (pg_name (i := 4) sc_goers_many.nd rfl (.inl rfl)) (pgs_cons (pg_name (i := 5) sc_goers_many.nd rfl (.inl rfl)) pgs_nil))))) (fun _ _ _ _ _ => (pts_one (pt_cmpR op_le (pv 3) (pv 2) (nomark _)))) (fun _ _ _ _ _ => (pe_op op_add (pv 4) (pv 5)))) pa_nil))))), ?_⟩
    refine ⟨_, rfl, _, rfl, v, h, t, s, ss, rfl, hv, l1, fun H0 s0 => ?_⟩
    obtain ⟨p, q, rs, rfl, hp, hq, hs⟩ := hv.same s0
    generalize mk h t (mny ss) s = m at k
    refine ⟨_, rfl, p, _, 2, .ref q, rfl, rfl, hp, rfl, q, _, H0, rfl, hq, Kp.refl _ _, fun J hJ C nC => ?_⟩
    obtain ⟨G, g, W⟩ := hJ.walk
    refine lc_it W (fun i H' => Same H0 H' ∧ H' C = some (.lst ((((ss.take i).filter fun x => decide (x.1 ≤ m)).map fun x => ((x.2.1 + x.2.2 : Nat) : Int)).map V.int))) ⟨same_new nC, upd_same⟩ (fun i H' _ z => g H' (.ofS z.1)) ?_ ?_
    · rintro i x H1 H2 _ ⟨sm, hC⟩ ⟨rfl, gx⟩
      obtain ⟨r, hi, rfl, hr1⟩ := srt_at (hs.same sm) gx
      refine ⟨r, _, rfl, hr1, rfl, _, _, rfl, _, _, rfl, _, _, rfl, rfl, rfl, _, rfl, _, rfl, _, _, rfl, rfl, _, rfl, ite2 (fun c => ⟨_, rfl, _, rfl, _, _, rfl, rfl, _, hC, ?_, same_over sm nC, ?_⟩) (fun c => ⟨sm, ?_⟩)⟩
      · rw [List.length_map, List.length_map]
        exact Nat.lt_of_lt_of_le (tf_le hi) (Nat.le_trans l1 (by decide))
      · rw [upd_same, tfm _ _ hi, if_pos c, List.map_append]
        rfl
      · rw [hC, tfm _ _ hi, if_neg c, List.append_nil]
    · rintro H1 ⟨sm, hC⟩
      rw [List.length_map, hs.1, List.take_length] at hC
      refine ⟨C, _, rfl, SqL.of hC, ?_⟩
      rw [isum]
      exact k H1 (s0.trans sm)
theorem ok_filled {k : Nat} (D : Df K mg "filled_at" s_filled_at) (T : Bt mg) (O_mark_in : Ok P w K mg base k "mark_in" s_mark_in ["fleet", "step"] (spMarkIn K)) :
    Ok P w K mg base (k + 1) "filled_at" s_filled_at ["fleet", "step"] (spFilled K) := by
  refine D.ok sc_filled_at b_filled_at (fun vs H Q E h => ?_) (fun f cdv A outer s H vs Q E hr h => ?_)
  · obtain ⟨v, h, t, s, ss, rfl, _⟩ := h
    rfl
  · obtain ⟨v, h, t, s, ss, rfl, hv, l1, k⟩ := h
    refine ⟨_, (pss_cons (ps_set (i := 2) sc_filled_at.nd rfl (.inr rfl) (pe_fn O_mark_in (hr.mono (by omega)) (pa_cons (pv 0) (pa_cons (pv 1) pa_nil))))
      (pss_one (ps_ret (pe_callB (cr_sum rfl) (by rfl) T.sum_ (by decide +kernel) (pa_cons (pe_lc (own := [("draught", 3), ("ours", 4), ("theirs", 5)]) (g := (gSeq K 3 (gCons (gName 3) (gCons (gName 4) (gCons (gName 5) gNil))))) (tt := tYes) (by rfl) sc_filled_at.nd (pi_seq (pe_ix ix_lt (pv 0) pe_int (fun _ _ => rfl))) (blkOk_by (own := [("draught", 3), ("ours", 4), ("theirs", 5)]) (N := (["fleet", "step", "mark", "draught", "ours", "theirs"] : List Str)) (sc := defScope s_filled_at) (by decide +kernel)) (fun _ _ _ _ _ => (pg_seq rfl (pgs_cons (pg_name (i := 3) sc_filled_at.nd rfl (.inl rfl)) (pgs_cons (pg_name (i := 4) sc_filled_at.nd rfl (.inl rfl)) (pgs_cons (pg_name (i := 5) sc_filled_at.nd rfl (.inl rfl)) pgs_nil))))) (fun _ _ _ _ _ => pts_nil) (fun _ _ _ _ _ => (pe_op op_add (pv 4) (pe_ifExp (pt_cmpR op_le (pv 3) (pv 2) (nomark _)) (pv 5) pe_int)))) pa_nil))))), ?_⟩
    refine ⟨_, rfl, _, rfl, v, h, t, s, ss, rfl, hv, l1, fun H0 s0 => ?_⟩
    obtain ⟨p, q, rs, rfl, hp, hq, hs⟩ := hv.same s0
    generalize mk h t (mny ss) s = m at k
    refine ⟨_, rfl, p, _, 2, .ref q, rfl, rfl, hp, rfl, q, _, H0, rfl, hq, Kp.refl _ _, fun J hJ C nC => ?_⟩
    obtain ⟨G, g, W⟩ := hJ.walk
    refine lc_it W (fun i H' => Same H0 H' ∧ H' C = some (.lst (((ss.take i).map fun x => ((x.2.1 + if x.1 ≤ m then x.2.2 else 0 : Nat) : Int)).map V.int))) ⟨same_new nC, upd_same⟩ (fun i H' _ z => g H' (.ofS z.1)) ?_ ?_
    · rintro i x H1 H2 _ ⟨sm, hC⟩ ⟨rfl, gx⟩
      obtain ⟨r, hi, rfl, hr1⟩ := srt_at (hs.same sm) gx
      have len : (((ss.take i).map fun x => ((x.2.1 + if x.1 ≤ m then x.2.2 else 0 : Nat) : Int)).map V.int).length < sizeLine := by
        rw [List.length_map, List.length_map]
        exact Nat.lt_of_lt_of_le (take_le hi) (Nat.le_trans l1 (by decide))
      refine ⟨r, _, rfl, hr1, rfl, _, _, rfl, _, _, rfl, _, _, rfl, rfl, rfl, tyes (iteT ⟨_, rfl, _, rfl, _, rfl, _, _, rfl, rfl, _, rfl, ite2 (fun c => ⟨_, rfl, _, _, rfl, rfl, _, hC, len, same_over sm nC, ?_⟩) (fun c => ⟨_, _, rfl, rfl, _, hC, len, same_over sm nC, ?_⟩)⟩)⟩
      · have c0 : ss[i].1 ≤ m := of_decide_eq_true c
        rw [upd_same, tm _ hi, List.map_append, if_pos c0]
        rfl
      · have c0 : ¬ ss[i].1 ≤ m := fun z => c (decide_eq_true z)
        rw [upd_same, tm _ hi, List.map_append, if_neg c0]
        rfl
    · rintro H1 ⟨sm, hC⟩
      rw [List.length_map, hs.1, List.take_length] at hC
      refine ⟨C, _, rfl, SqL.of hC, ?_⟩
      rw [isum]
      exact k H1 (s0.trans sm)
theorem ok_low_stop {k : Nat} (D : Df K mg "low_stop" s_low_stop) (T : Bt mg) (O_filled_at : Ok P w K mg base k "filled_at" s_filled_at ["fleet", "step"] (spFilled K)) :
    Ok P w K mg base (k + 1) "low_stop" s_low_stop ["fleet", "top"] (spLowStop K) := by
  refine D.ok sc_low_stop b_low_stop (fun vs H Q E h => ?_) (fun f cdv A outer s H vs Q E hr h => ?_)
  · obtain ⟨v, h, t, top, ss, rfl, _⟩ := h
    rfl
  · obtain ⟨v, h, t, top, ss, rfl, hv, l1, ris, k1, k2⟩ := h
    refine ⟨_, (pss_cons (ps_set (i := 2) sc_low_stop.nd rfl (.inl rfl) (pe_callB (cr_sum rfl) (by rfl) T.sum_ (by decide +kernel) (pa_cons (pe_lc (own := [("draught", 4), ("ours", 5), ("theirs", 6)]) (g := (gSeq K 3 (gCons (gName 4) (gCons (gName 5) (gCons (gName 6) gNil))))) (tt := tYes) (by rfl) sc_low_stop.nd (pi_seq (pe_ix ix_lt (pv 0) pe_int (fun _ _ => rfl))) (blkOk_by (own := [("draught", 4), ("ours", 5), ("theirs", 6)]) (N := (["fleet", "top", "step", "filled", "draught", "ours", "theirs"] : List Str)) (sc := defScope s_low_stop) (by decide +kernel)) (fun _ _ _ _ _ => (pg_seq rfl (pgs_cons (pg_name (i := 4) sc_low_stop.nd rfl (.inl rfl)) (pgs_cons (pg_name (i := 5) sc_low_stop.nd rfl (.inl rfl)) (pgs_cons (pg_name (i := 6) sc_low_stop.nd rfl (.inl rfl)) pgs_nil))))) (fun _ _ _ _ _ => pts_nil) (fun _ _ _ _ _ => (pv 5))) pa_nil)))
      (pss_cons (ps_while PassesOwn.never (pt_cmpR op_le (pv 2) (pv 1) (nomark _))
        (pss_cons (ps_set (i := 3) sc_low_stop.nd rfl (.inl rfl) (pe_fn O_filled_at (hr.mono (by omega)) (pa_cons (pv 0) (pa_cons (pv 2) pa_nil))))
          (pss_cons (ps_if (pt_cmpR op_eq (pv 3) (pv 2) (nomark _))
            (pss_one (ps_ret (pv 2)))
            pss_nil)
          (pss_one (ps_set (i := 2) sc_low_stop.nd rfl (.inl rfl) (pv 3))))))
      (pss_one (ps_ret pe_non)))), ?_⟩
    obtain ⟨p, q, rs, rfl, hp, hq, hs⟩ := id hv
    refine ⟨_, rfl, p, _, 2, .ref q, rfl, rfl, hp, rfl, q, _, H, rfl, hq, Kp.refl _ _, fun J hJ C nC => ?_⟩
    obtain ⟨G, g, W⟩ := hJ.walk
    refine lc_it W (fun i H' => Same H H' ∧ H' C = some (.lst (((ss.take i).map fun x => ((x.2.1 : Nat) : Int)).map V.int))) ⟨same_new nC, upd_same⟩ (fun i H' _ z => g H' (.ofS z.1)) ?_ ?_
    · rintro i x H1 H2 _ ⟨sm, hC⟩ ⟨rfl, gx⟩
      obtain ⟨r, hi, rfl, hr1⟩ := srt_at (hs.same sm) gx
      refine ⟨r, _, rfl, hr1, rfl, _, _, rfl, _, _, rfl, _, _, rfl, rfl, rfl, tyes (iteT ⟨_, rfl, _, hC, ?_, same_over sm nC, ?_⟩)⟩
      · rw [List.length_map, List.length_map]
        exact Nat.lt_of_lt_of_le (take_le hi) (Nat.le_trans l1 (by decide))
      · rw [upd_same, tm _ hi, List.map_append]
        rfl
    rintro H1 ⟨sm, hC⟩
    rw [List.length_map, hs.1, List.take_length] at hC
    refine ⟨C, _, rfl, SqL.of hC, ?_⟩
    rw [isum]
    -- the loop: step is no less than those here; at no step between is it stuck
    refine ⟨fun m σ H' => ∃ (y : Option V) (n : Nat), σ = [some (.ref p), some (.int top), some (.int (n : Int)), y, none, none, none] ∧ Same H H' ∧ ourn ss ≤ n ∧ n ≤ mny ss ∧ mny ss - n = m ∧ (∀ j : Nat, ourn ss ≤ j → j < n → (j : Int) ≤ top → j < filF ss (mk h t (mny ss) (j : Int))) ∧ ((n : Int) ≤ top → n ≤ filF ss (mk h t (mny ss) (n : Int))),
      ⟨_, none, ourn ss, rfl, sm, Nat.le_refl _, ?_, rfl, fun j a b => by omega, fun _ => fil_ge⟩, ?_⟩
    · exact Nat.le_trans (fil_ge (m := 0)) fil_le
    rintro m σ H2 ⟨y, n, rfl, s2, n0, n1, rfl, hj, hn⟩
    refine ⟨_, rfl, _, rfl, _, _, rfl, rfl, _, rfl, ite2 (fun c => ?_) (fun c => ?_)⟩
    · have c0 : (n : Int) ≤ top := of_decide_eq_true c
      refine ⟨fun σ' H' => ∃ (y : Option V) (n' : Nat), σ' = [some (.ref p), some (.int top), some (.int (n' : Int)), y, none, none, none] ∧ Same H H' ∧ ourn ss ≤ n' ∧ n' ≤ mny ss ∧ n < n' ∧ (∀ j : Nat, ourn ss ≤ j → j < n' → (j : Int) ≤ top → j < filF ss (mk h t (mny ss) (j : Int))) ∧ ((n' : Int) ≤ top → n' ≤ filF ss (mk h t (mny ss) (n' : Int))),
        fun σ' H' ⟨y', n', z1, z2, z3, z4, z5, z6, z7⟩ => ⟨_, by omega, y', n', z1, z2, z3, z4, rfl, z6, z7⟩, ?_⟩
      refine ⟨_, rfl, _, rfl, .ref p, h, t, (n : Int), ss, rfl, hv.same s2, l1, fun H3 s3 => ?_⟩
      have s23 := s2.trans s3
      refine ⟨_, rfl, _, rfl, rfl, _, rfl, ite2 (fun c2 => ?_) (fun c2 => ?_)⟩
      · have e : (filF ss (mk h t (mny ss) (n : Int)) : Int) = (n : Int) := V.int.inj (of_decide_eq_true c2)
        exact ⟨_, rfl, k1 H3 n s23 c0 ⟨n0, fun j a b => hj j a b (by omega), by omega⟩⟩
      · have e : ¬ (filF ss (mk h t (mny ss) (n : Int)) : Int) = (n : Int) := fun z => c2 (decide_eq_true (by rw [z]))
        have hn' := hn c0
        refine ⟨_, rfl, _, filF ss (mk h t (mny ss) (n : Int)), rfl, s23, fil_ge, fil_le, by omega, fun j a b d => ?_, fun d => ?_⟩
        · by_cases z : j < n
          · exact hj j a z d
          · have := fil_mono (ss := ss) (ris (n : Int) (j : Int) (by omega) (by omega) d)
            omega
        · exact fil_mono (ris _ _ (by omega) (by omega) d)
    · have c0 : ¬ (n : Int) ≤ top := fun z => c (decide_eq_true z)
      refine k2 H2 s2 fun N a ⟨b1, b2, b3⟩ => ?_
      have := hj N b1 (by omega) a
      omega
theorem ok_turned_fleet {k : Nat} (D : Df K mg "turned_fleet" s_turned_fleet) (T : Bt mg) : Ok P w K mg base (k + 1) "turned_fleet" s_turned_fleet ["fleet"] (spTurnedF K) := by
  refine D.ok sc_turned_fleet b_turned_fleet (fun vs H Q E h => ?_) (fun f cdv A outer s H vs Q E hr h => ?_)
  · obtain ⟨v, h, t, ss, rfl, _⟩ := h
    rfl
  · obtain ⟨v, h, t, ss, rfl, hv, l1, k⟩ := h
    obtain ⟨p, q, rs, rfl, hp, hq, hs⟩ := id hv
    refine ⟨_, (pss_cons (ps_asg (pv 0) (pg_seq rfl (pgs_cons (pg_name (i := 1) sc_turned_fleet.nd rfl (.inl rfl)) (pgs_cons (pg_name (i := 2) sc_turned_fleet.nd rfl (.inl rfl)) (pgs_cons (pg_name (i := 3) sc_turned_fleet.nd rfl (.inl rfl)) pgs_nil)))))
      (pss_one (ps_ret (pe_tup (pa_cons (pv 2) (pa_cons (pv 1) (pa_cons (pe_callTy call_tuple_of (by rfl) T.tuple_ (by decide +kernel) (pa_cons (pe_lc (own := [("draught", 4), ("ours", 5), ("theirs", 6)]) (g := (gSeq K 3 (gCons (gName 4) (gCons (gName 5) (gCons (gName 6) gNil))))) (tt := tYes) (by rfl) sc_turned_fleet.nd (pi_seq (pv 3)) (blkOk_by (own := [("draught", 4), ("ours", 5), ("theirs", 6)]) (N := (["fleet", "here", "there", "sorts", "draught", "ours", "theirs"] : List Str)) (sc := defScope s_turned_fleet) (by decide +kernel)) (fun _ _ _ _ _ => (pg_seq rfl (pgs_cons (pg_name (i := 4) sc_turned_fleet.nd rfl (.inl rfl)) (pgs_cons (pg_name (i := 5) sc_turned_fleet.nd rfl (.inl rfl)) (pgs_cons (pg_name (i := 6) sc_turned_fleet.nd rfl (.inl rfl)) pgs_nil))))) (fun _ _ _ _ _ => pts_nil) (fun _ _ _ _ _ => (pe_tup (pa_cons (pv 4) (pa_cons (pv 6) (pa_cons (pv 5) pa_nil)))))) pa_nil)) pa_nil))))))), ?_⟩
    refine ⟨_, rfl, p, _, rfl, hp, rfl, _, _, rfl, _, _, rfl, _, _, rfl, rfl, ?_⟩
    refine ⟨_, rfl, _, rfl, _, rfl, q, _, H, rfl, hq, Kp.refl _ _, fun J hJ C nC => ?_⟩
    obtain ⟨G, g, W⟩ := hJ.walk
    refine lc_it W (fun i H' => Same H H' ∧ ∃ us : List Addr, H' C = some (.lst (us.map V.ref)) ∧ SrtsN H' us (turnF (ss.take i))) ⟨same_new nC, [], upd_same, ?_⟩ (fun i H' _ z => g H' (.ofS z.1)) ?_ ?_
    · exact ⟨rfl, fun i r x a _ => by simp at a⟩
    · rintro i x H1 H2 _ ⟨sm, us, hC, hu⟩ ⟨rfl, gx⟩
      obtain ⟨r, hi, rfl, hr1⟩ := srt_at (hs.same sm) gx
      have lu : us.length = i := by
        rw [hu.1]
        unfold turnF
        rw [List.length_map, List.length_take]
        omega
      refine ⟨r, _, rfl, hr1, rfl, _, _, rfl, _, _, rfl, _, _, rfl, rfl, rfl, tyes (iteT ⟨_, rfl, _, rfl, _, rfl, (by show 3 ≤ sizeLine; decide), fun u nu => ⟨_, same_new nu _ _ hC, ?_, ?_, us ++ [u], ?_, ?_⟩⟩)⟩
      · rw [List.length_map, lu]
        exact Nat.lt_of_lt_of_le hi (Nat.le_trans l1 (by decide))
      · exact same_over (sm.trans (same_new nu)) nC
      · rw [upd_same, List.map_append]
        rfl
      · have e : turnF (ss.take (i + 1)) = turnF (ss.take i) ++ [(ss[i].1, ss[i].2.2, ss[i].2.1)] := tm _ hi
        rw [e]
        exact (hu.push (x := (ss[i].1, ss[i].2.2, ss[i].2.1)) nu).put (same_new nu _ _ hC)
    · rintro H1 ⟨sm, us, hC, hu⟩
      rw [List.length_map, hs.1, List.take_length] at hu
      refine ⟨C, _, rfl, .inl ⟨SqL.of hC, fun a na => ⟨(by show 3 ≤ sizeLine; decide), fun b nb => ?_⟩⟩⟩
      have s1 : Same H1 (upd H1 a (.tup (us.map V.ref))) := same_new na
      have s2 := s1.trans (same_new nb (o := .tup [.int t, .int h, .ref a]))
      exact k _ _ (sm.trans s2) ⟨b, a, us, rfl, SqA.t upd_same, SqA.t (same_new nb _ _ upd_same), (hu.same s2).a⟩
end
end Sh

namespace Sh
open PySem PySem.Spec PyProof.Rows L2
/-! ### which lot: its kind and its step -/
/-- constants of the top -/
structure Cn (mg : Str → Option Value) : Prop where
  low : ∃ t, mg "LOW" = some (.str "low" t)
  high : ∃ t, mg "HIGH" = some (.str "high" t)
  top : ∃ t, mg "TOP" = some (.str "top" t)
structure Ck (mg : Str → Option Value) (K : PySem.W.Frag) (w : World) : Prop where
  kinds : ∃ a, mg "TURNED_KINDS" = some (.ref a) ∧ KDct K w a "low" (.str "high") ∧ KDct K w a "high" (.str "low") ∧ KDct K w a "top" (.str "top")
section
variable {K : PySem.W.Frag} {mg : Str → Option Value} {w : World}
theorem with_cn {R : Prop} {h : Heap} {t1 t2 t3 : Tok} (X : K.In h) (G : h.Ns mainGlobals mg) (a : PySem.W.nsIn K mainGlobals "LOW" = some (some (.str "low" t1))) (b : PySem.W.nsIn K mainGlobals "HIGH" = some (some (.str "high" t2)))
    (c : PySem.W.nsIn K mainGlobals "TOP" = some (some (.str "top" t3))) (r : Cn mg → R) : R := r ⟨⟨_, PySem.W.mg_of X G a⟩, ⟨_, PySem.W.mg_of X G b⟩, ⟨_, PySem.W.mg_of X G c⟩⟩
theorem with_ck {R : Prop} {h : Heap} {p : Addr} {es : Array DictEntry} {n : Nat} {t1 t2 t3 : Tok} (X : K.In h) (G : h.Ns mainGlobals mg) (a : PySem.W.nsIn K mainGlobals "TURNED_KINDS" = some (some (.ref p))) (l : K.lookup p = some ⟨.type "dict", none, .dict es n, #[]⟩)
    (k : PySem.W.KeysLit w.params es.toList) (d1 : PySem.W.nsIn K p "low" = some (some (.str "high" t1))) (d2 : PySem.W.nsIn K p "high" = some (some (.str "low" t2))) (d3 : PySem.W.nsIn K p "top" = some (some (.str "top" t3))) (r : Ck mg K w → R) : R :=
  r ⟨⟨p, PySem.W.mg_of X G a, ⟨es, n, _, l, k, d1, _, rfl⟩, ⟨es, n, _, l, k, d2, _, rfl⟩, ⟨es, n, _, l, k, d3, _, rfl⟩⟩⟩
end
inductive Kd where
  | low | high | top
def Kd.str : Kd → Str
  | .low => "low"
  | .high => "high"
  | .top => "top"
def Kd.turn : Kd → Kd
  | .low => .high
  | .high => .low
  | .top => .top
theorem Kd.str_inj {a b : Kd} (h : a.str = b.str) : a = b := by
  cases a <;> cases b <;> first | rfl | (exfalso; revert h; decide)
/-- the lot of a fleet -/
def LotF (h t : Int) (ss : List Srt) : Kd → Int → Prop
  | .low, s => ∃ N : Nat, s = (N : Int) ∧ (N : Int) ≤ topI h t (mny ss) ∧ StuckF h t ss N
  | .high, s => ∃ N : Nat, s = (mny ss : Int) - 1 - (N : Int) ∧ (N : Int) ≤ (mny ss : Int) - 1 - topI h t (mny ss) ∧ StuckF t h (turnF ss) N
  | .top, s => s = topI h t (mny ss) ∧ (∀ N : Nat, (N : Int) ≤ topI h t (mny ss) → ¬ StuckF h t ss N) ∧ ∀ N : Nat, (N : Int) ≤ (mny ss : Int) - 1 - topI h t (mny ss) → ¬ StuckF t h (turnF ss) N
/-- a lot told or handed in -/
def LtA (K : PySem.W.Frag) (H : Hp) (v : V) (kd : Kd) (s : Int) : Prop := ∃ p, v = .ref p ∧ SqA K H p [.str kd.str, .int s]
theorem LtA.same {K : PySem.W.Frag} {H H' : Hp} {v : V} {kd : Kd} {s : Int} (l : LtA K H v kd s) (e : Same H H') : LtA K H' v kd s := let ⟨p, a, b⟩ := l; ⟨p, a, Same.sqA e b⟩
theorem rise_top (h t : Int) (n : Nat) : Rise h t n (topI h t n) := fun _ _ a b c => mk_le a b c
theorem rise_turn (h t : Int) (n : Nat) : Rise t h n ((n : Int) - 1 - topI h t n) := fun s s' a b c => by
  rw [mk_turn' (h := h) (t := t), mk_turn' (h := h) (t := t)]
  exact mk_dn (by omega) (by omega) (by omega)
theorem isumN : ∀ l : List Nat, (l.map fun (n : Nat) => (n : Int)).sum = (l.sum : Int)
  | [] => rfl
  | a :: l => by
    rw [List.map_cons, List.sum_cons, isumN l, List.sum_cons]
    rfl
def spLotOf (K : PySem.W.Frag) : Sp := fun vs H Q _ => ∃ (v : V) (h t : Int) (ss : List Srt), vs = [v] ∧ FltA K H v h t ss ∧ ss.length ≤ 1000 ∧
  ∀ (H' : Hp) (p : Addr) (kd : Kd) (s : Int), Same H H' → H p = none → H' p = some (.tup [.str kd.str, .int s]) → LotF h t ss kd s → Q (.ref p) H'
def spTurnedLot (K : PySem.W.Frag) : Sp := fun vs H Q _ => ∃ (v l : V) (h t s : Int) (ss : List Srt) (kd : Kd), vs = [v, l] ∧ FltA K H v h t ss ∧ ss.length ≤ 1000 ∧ LtA K H l kd s ∧
  ∀ (H' : Hp) (z : V), Same H H' → LtA K H' z kd.turn ((mny ss : Int) - 1 - s) → Q z H'
def spFixed (K : PySem.W.Frag) : Sp := fun vs H Q _ => ∃ (v l : V) (h t s : Int) (ss : List Srt) (kd : Kd), vs = [v, l] ∧ FltA K H v h t ss ∧ ss.length ≤ 1000 ∧ LtA K H l kd s ∧
  ∀ (H' : Hp) (p : Addr), Same H H' → H p = none → H' p = some (.lst (((fxF ss (mk h t (mny ss) s)).map fun (n : Nat) => (n : Int)).map V.int)) → Q (.ref p) H'
def spLeastIn (K : PySem.W.Frag) : Sp := fun vs H Q _ => ∃ (v l : V) (h t s : Int) (ss : List Srt) (kd : Kd), vs = [v, l] ∧ FltA K H v h t ss ∧ ss.length ≤ 1000 ∧ LtA K H l kd s ∧
  (kd = .high → ∀ H', Same H H' → Q (.int (s + 1)) H') ∧ (kd ≠ .high → ∀ (H' : Hp) (m : Int), Same H H' → LeastI h t ss s m → Q (.int m) H')
def spMostIn (K : PySem.W.Frag) : Sp := fun vs H Q _ => ∃ (v l : V) (h t s : Int) (ss : List Srt) (kd : Kd), vs = [v, l] ∧ FltA K H v h t ss ∧ ss.length ≤ 1000 ∧ LtA K H l kd s ∧
  (kd = .low → ∀ H', Same H H' → Q (.int s) H') ∧ (kd ≠ .low → ∀ (H' : Hp) (m : Int), Same H H' → LeastI t h (turnF ss) ((mny ss : Int) - 1 - s) m → Q (.int ((mny ss : Int) - m)) H')
/-- the step next to which one goes -/
def nextS : Kd → Int → Int
  | .low, s => s - 1
  | .high, s => s + 1
  | .top, s => s
def spMoving (K : PySem.W.Frag) : Sp := fun vs H Q _ => ∃ (v l : V) (h t s : Int) (ss : List Srt) (kd : Kd), vs = [v, l] ∧ FltA K H v h t ss ∧ ss.length ≤ 1000 ∧ LtA K H l kd s ∧
  ((nextS kd s < 0 ∨ (mny ss : Int) ≤ nextS kd s) → ∀ H', Same H H' → Q .non H') ∧ (0 ≤ nextS kd s → nextS kd s < (mny ss : Int) → ∀ H', Same H H' → Q (.int (mk h t (mny ss) (nextS kd s))) H')
abbrev s_lot_of : Stmt := topS 15
theorem sc_lot_of : FnScope (["fleet", "last", "top", "stop"] : List Str) (["fleet"] : List Str) (defScope s_lot_of) := ⟨rfl, rfl, rfl, by decide +kernel, rfl, by decide +kernel, by decide +kernel⟩
theorem b_lot_of (kV doc pm : Value) (an : Option Addr) (cdv ct : Value) (us : List Value) (hl : us.length = (["fleet"] : List Str).length) : bindArgs (PySem.W.fnOf "lot_of" "lot_of" (defArgs s_lot_of) (defBody s_lot_of) (defScope s_lot_of) .none kV doc pm an cdv ct) ⟨us, []⟩ = pure ((["fleet"] : List Str).zip us) :=
  match us, hl with | [_], _ => rfl
abbrev s_turned_lot : Stmt := topS 16
theorem sc_turned_lot : FnScope (["fleet", "lot", "kind", "step"] : List Str) (["fleet", "lot"] : List Str) (defScope s_turned_lot) := ⟨rfl, rfl, rfl, by decide +kernel, rfl, by decide +kernel, by decide +kernel⟩
theorem b_turned_lot (kV doc pm : Value) (an : Option Addr) (cdv ct : Value) (us : List Value) (hl : us.length = (["fleet", "lot"] : List Str).length) : bindArgs (PySem.W.fnOf "turned_lot" "turned_lot" (defArgs s_turned_lot) (defBody s_turned_lot) (defScope s_turned_lot) .none kV doc pm an cdv ct) ⟨us, []⟩ = pure ((["fleet", "lot"] : List Str).zip us) :=
  match us, hl with | [_, _], _ => rfl
abbrev s_fixed_ones : Stmt := topS 17
theorem sc_fixed_ones : FnScope (["fleet", "lot", "mark", "draught", "ours", "theirs"] : List Str) (["fleet", "lot"] : List Str) (defScope s_fixed_ones) := ⟨rfl, rfl, rfl, by decide +kernel, rfl, by decide +kernel, by decide +kernel⟩
theorem b_fixed_ones (kV doc pm : Value) (an : Option Addr) (cdv ct : Value) (us : List Value) (hl : us.length = (["fleet", "lot"] : List Str).length) : bindArgs (PySem.W.fnOf "fixed_ones" "fixed_ones" (defArgs s_fixed_ones) (defBody s_fixed_ones) (defScope s_fixed_ones) .none kV doc pm an cdv ct) ⟨us, []⟩ = pure ((["fleet", "lot"] : List Str).zip us) :=
  match us, hl with | [_, _], _ => rfl
abbrev s_least_in : Stmt := topS 18
theorem sc_least_in : FnScope (["fleet", "lot", "kind", "step", "here", "there", "sorts", "ends", "bounds", "draught", "ours", "theirs", "end"] : List Str) (["fleet", "lot"] : List Str) (defScope s_least_in) := ⟨rfl, rfl, rfl, by decide +kernel, rfl, by decide +kernel, by decide +kernel⟩
theorem b_least_in (kV doc pm : Value) (an : Option Addr) (cdv ct : Value) (us : List Value) (hl : us.length = (["fleet", "lot"] : List Str).length) : bindArgs (PySem.W.fnOf "least_in" "least_in" (defArgs s_least_in) (defBody s_least_in) (defScope s_least_in) .none kV doc pm an cdv ct) ⟨us, []⟩ = pure ((["fleet", "lot"] : List Str).zip us) :=
  match us, hl with | [_, _], _ => rfl
abbrev s_most_in : Stmt := topS 19
theorem sc_most_in : FnScope (["fleet", "lot"] : List Str) (["fleet", "lot"] : List Str) (defScope s_most_in) := ⟨rfl, rfl, rfl, by decide +kernel, rfl, by decide +kernel, by decide +kernel⟩
theorem b_most_in (kV doc pm : Value) (an : Option Addr) (cdv ct : Value) (us : List Value) (hl : us.length = (["fleet", "lot"] : List Str).length) : bindArgs (PySem.W.fnOf "most_in" "most_in" (defArgs s_most_in) (defBody s_most_in) (defScope s_most_in) .none kV doc pm an cdv ct) ⟨us, []⟩ = pure ((["fleet", "lot"] : List Str).zip us) :=
  match us, hl with | [_, _], _ => rfl
abbrev s_moving_mark : Stmt := topS 20
theorem sc_moving_mark : FnScope (["fleet", "lot", "kind", "step"] : List Str) (["fleet", "lot"] : List Str) (defScope s_moving_mark) := ⟨rfl, rfl, rfl, by decide +kernel, rfl, by decide +kernel, by decide +kernel⟩
theorem b_moving_mark (kV doc pm : Value) (an : Option Addr) (cdv ct : Value) (us : List Value) (hl : us.length = (["fleet", "lot"] : List Str).length) : bindArgs (PySem.W.fnOf "moving_mark" "moving_mark" (defArgs s_moving_mark) (defBody s_moving_mark) (defScope s_moving_mark) .none kV doc pm an cdv ct) ⟨us, []⟩ = pure ((["fleet", "lot"] : List Str).zip us) :=
  match us, hl with | [_, _], _ => rfl
section
variable {P : Program} {w : World} {K : PySem.W.Frag} {mg : Str → Option Value} {base : Heap}
theorem ok_lot_of {k : Nat} (D : Df K mg "lot_of" s_lot_of) (T : Bt mg) (C : Cn mg) (O_ships_many : Ok P w K mg base k "ships_many" s_ships_many ["fleet"] (spShips K)) (O_top_in : Ok P w K mg base k "top_in" s_top_in ["fleet"] (spTopIn K))
    (O_low_stop : Ok P w K mg base k "low_stop" s_low_stop ["fleet", "top"] (spLowStop K)) (O_turned_fleet : Ok P w K mg base k "turned_fleet" s_turned_fleet ["fleet"] (spTurnedF K)) : Ok P w K mg base (k + 1) "lot_of" s_lot_of ["fleet"] (spLotOf K) := by
  obtain ⟨_, g_LOW⟩ := C.low
  obtain ⟨_, g_HIGH⟩ := C.high
  obtain ⟨_, g_TOP⟩ := C.top
  refine D.ok sc_lot_of b_lot_of (fun vs H Q E h => ?_) (fun f cdv A outer s H vs Q E hr h => ?_)
  · obtain ⟨v, h, t, ss, rfl, _⟩ := h
    rfl
  · obtain ⟨v, h, t, ss, rfl, hv, l1, k⟩ := h
    refine ⟨_, (pss_cons (ps_set (i := 1) sc_lot_of.nd rfl (.inl rfl) (pe_op op_sub (pe_fn O_ships_many (hr.mono (by omega)) (pa_cons (pv 0) pa_nil)) pe_int))
      (pss_cons (ps_set (i := 2) sc_lot_of.nd rfl (.inl rfl) (pe_fn O_top_in (hr.mono (by omega)) (pa_cons (pv 0) pa_nil)))
      (pss_cons (ps_set (i := 3) sc_lot_of.nd rfl (.inl rfl) (pe_fn O_low_stop (hr.mono (by omega)) (pa_cons (pv 0) (pa_cons (pv 2) pa_nil))))
      (pss_cons (ps_if (pt_cmpR op_notN (pv 3) pe_non (nomark _))
        (pss_one (ps_ret (pe_tup (pa_cons (pe_glob (v := .str "low") (by rfl) g_LOW ⟨_, rfl⟩) (pa_cons (pv 3) pa_nil)))))
        pss_nil)
      (pss_cons (ps_set (i := 3) sc_lot_of.nd rfl (.inl rfl) (pe_fn O_low_stop (hr.mono (by omega)) (pa_cons (pe_fn O_turned_fleet (hr.mono (by omega)) (pa_cons (pv 0) pa_nil)) (pa_cons (pe_op op_sub (pv 1) (pv 2)) pa_nil))))
      (pss_cons (ps_if (pt_cmpR op_notN (pv 3) pe_non (nomark _))
        (pss_one (ps_ret (pe_tup (pa_cons (pe_glob (v := .str "high") (by rfl) g_HIGH ⟨_, rfl⟩) (pa_cons (pe_op op_sub (pv 1) (pv 3)) pa_nil)))))
        pss_nil)
      (pss_one (ps_ret (pe_tup (pa_cons (pe_glob (v := .str "top") (by rfl) g_TOP ⟨_, rfl⟩) (pa_cons (pv 2) pa_nil))))))))))), ?_⟩
    refine ⟨_, rfl, v, h, t, ss, rfl, hv, l1, fun H1 s1 => ⟨_, 1, rfl, rfl, ?_⟩⟩
    refine ⟨_, rfl, v, h, t, ss, rfl, hv.same s1, l1, fun H2 s2 => ?_⟩
    have s02 := s1.trans s2
    refine ⟨_, rfl, _, rfl, v, h, t, topI h t (mny ss), ss, rfl, hv.same s02, l1, rise_top _ _ _, fun H3 N s3 a b => ?_, fun H3 s3 no => ?_⟩
    · refine ⟨_, rfl, rfl, _, rfl, iteT ⟨_, rfl, (by show 2 ≤ sizeLine; decide), fun p np => ?_⟩⟩
      have s03 := s02.trans s3
      exact k _ p .low (N : Int) (s03.trans (same_new np)) (s03.free np) upd_same ⟨N, rfl, a, b⟩
    · have s03 := s02.trans s3
      refine ⟨_, rfl, rfl, _, rfl, iteF ?_⟩
      refine ⟨_, rfl, v, h, t, ss, rfl, hv.same s03, l1, fun H4 z s4 hz => ?_⟩
      have s04 := s03.trans s4
      refine ⟨_, rfl, _, rfl, _, _, rfl, rfl, z, t, h, (mny ss : Int) - 1 - topI h t (mny ss), turnF ss, rfl, hz, ?_, ?_, fun H5 N s5 a b => ?_, fun H5 s5 no2 => ?_⟩
      · unfold turnF
        rw [List.length_map]
        exact l1
      · rw [mny_turn]
        exact rise_turn h t _
      · refine ⟨_, rfl, rfl, _, rfl, iteT ⟨_, rfl, _, rfl, _, _, rfl, rfl, (by show 2 ≤ sizeLine; decide), fun p np => ?_⟩⟩
        have s05 := s04.trans s5
        exact k _ p .high _ (s05.trans (same_new np)) (s05.free np) upd_same ⟨N, rfl, a, b⟩
      · refine ⟨_, rfl, rfl, _, rfl, iteF ⟨_, rfl, (by show 2 ≤ sizeLine; decide), fun p np => ?_⟩⟩
        have s05 := s04.trans s5
        exact k _ p .top _ (s05.trans (same_new np)) (s05.free np) upd_same ⟨rfl, no, no2⟩
theorem ok_turned_lot {k : Nat} (D : Df K mg "turned_lot" s_turned_lot) (T : Bt mg) (C : Ck mg K w) (O_ships_many : Ok P w K mg base k "ships_many" s_ships_many ["fleet"] (spShips K)) : Ok P w K mg base (k + 1) "turned_lot" s_turned_lot ["fleet", "lot"] (spTurnedLot K) := by
  obtain ⟨a_TURNED_KINDS, g_TURNED_KINDS, d1, d2, d3⟩ := C.kinds
  refine D.ok sc_turned_lot b_turned_lot (fun vs H Q E h => ?_) (fun f cdv A outer s H vs Q E hr h => ?_)
  · obtain ⟨v, l, h, t, s, ss, kd, rfl, _⟩ := h
    rfl
  · obtain ⟨v, l, h, t, s, ss, kd, rfl, hv, l1, ⟨p, rfl, hp⟩, k⟩ := h
    have dd : KDct K w a_TURNED_KINDS kd.str (.str kd.turn.str) := by
      cases kd
      · exact d1
      · exact d2
      · exact d3
    refine ⟨_, (pss_cons (ps_asg (pv 1) (pg_seq rfl (pgs_cons (pg_name (i := 2) sc_turned_lot.nd rfl (.inl rfl)) (pgs_cons (pg_name (i := 3) sc_turned_lot.nd rfl (.inl rfl)) pgs_nil))))
      (pss_one (ps_ret (pe_tup (pa_cons (pe_ix ix_kdict (pe_glob (v := .ref a_TURNED_KINDS) (by rfl) g_TURNED_KINDS rfl) (pv 2) (fun _ _ => rfl)) (pa_cons (pe_op op_sub (pe_op op_sub (pe_fn O_ships_many (hr.mono (by omega)) (pa_cons (pv 0) pa_nil)) pe_int) (pv 3)) pa_nil)))))), ?_⟩
    refine ⟨_, rfl, p, _, rfl, hp, rfl, _, _, rfl, _, _, rfl, rfl, ?_⟩
    refine ⟨_, rfl, a_TURNED_KINDS, _, _, rfl, rfl, dd, ?_⟩
    refine ⟨_, rfl, v, h, t, ss, rfl, hv, l1, fun H1 s1 => ⟨_, 1, rfl, rfl, _, rfl, _, _, rfl, rfl, (by show 2 ≤ sizeLine; decide), fun u nu => ?_⟩⟩
    exact k _ _ (s1.trans (same_new nu)) ⟨u, rfl, SqA.t upd_same⟩
theorem ok_fixed {k : Nat} (D : Df K mg "fixed_ones" s_fixed_ones) (T : Bt mg) (O_mark_in : Ok P w K mg base k "mark_in" s_mark_in ["fleet", "step"] (spMarkIn K)) : Ok P w K mg base (k + 1) "fixed_ones" s_fixed_ones ["fleet", "lot"] (spFixed K) := by
  refine D.ok sc_fixed_ones b_fixed_ones (fun vs H Q E h => ?_) (fun f cdv A outer s H vs Q E hr h => ?_)
  · obtain ⟨v, l, h, t, s, ss, kd, rfl, _⟩ := h
    rfl
  · obtain ⟨v, l, h, t, s, ss, kd, rfl, hv, l1, ⟨pl, rfl, hpl⟩, k⟩ := h
    refine ⟨_, (pss_cons (ps_set (i := 2) sc_fixed_ones.nd rfl (.inr rfl) (pe_fn O_mark_in (hr.mono (by omega)) (pa_cons (pv 0) (pa_cons (pe_ix ix_lt (pv 1) pe_int (fun _ _ => rfl)) pa_nil))))
      (pss_one (ps_ret (pe_lc (own := [("draught", 3), ("ours", 4), ("theirs", 5)]) (g := (gSeq K 3 (gCons (gName 3) (gCons (gName 4) (gCons (gName 5) gNil))))) (by rfl) sc_fixed_ones.nd (pi_seq (pe_ix ix_lt (pv 0) pe_int (fun _ _ => rfl))) (blkOk_by (own := [("draught", 3), ("ours", 4), ("theirs", 5)]) (N := (["fleet", "lot", "mark", "draught", "ours", "theirs"] : List Str)) (sc := defScope s_fixed_ones) (by decide +kernel)) (fun _ _ _ _ _ => (pg_seq rfl (pgs_cons (pg_name (i := 3) sc_fixed_ones.nd rfl (.inl rfl)) (pgs_cons (pg_name (i := 4) sc_fixed_ones.nd rfl (.inl rfl)) (pgs_cons (pg_name (i := 5) sc_fixed_ones.nd rfl (.inl rfl)) pgs_nil))))) (fun _ _ _ _ _ => (pts_one (pt_cmpR op_gt (pv 3) (pv 2) (nomark _)))) (fun _ _ _ _ _ => (pv 4)))))), ?_⟩
    refine ⟨_, rfl, _, rfl, pl, _, 1, _, rfl, rfl, hpl, rfl, v, h, t, s, ss, rfl, hv, l1, fun H0 s0 => ?_⟩
    obtain ⟨p, q, rs, rfl, hp, hq, hs⟩ := hv.same s0
    unfold fxF at k
    generalize mk h t (mny ss) s = m at k
    refine ⟨_, rfl, p, _, 2, .ref q, rfl, rfl, hp, rfl, q, _, H0, rfl, hq, Kp.refl _ _, fun J hJ C nC => ?_⟩
    obtain ⟨G, g, W⟩ := hJ.walk
    refine lc_it W (fun i H' => Same H0 H' ∧ H' C = some (.lst (((((ss.take i).filter fun x => decide (x.1 > m)).map fun x => x.2.1).map fun (n : Nat) => (n : Int)).map V.int))) ⟨same_new nC, upd_same⟩ (fun i H' _ z => g H' (.ofS z.1)) ?_ ?_
    · rintro i x H1 H2 _ ⟨sm, hC⟩ ⟨rfl, gx⟩
      obtain ⟨r, hi, rfl, hr1⟩ := srt_at (hs.same sm) gx
      refine ⟨r, _, rfl, hr1, rfl, _, _, rfl, _, _, rfl, _, _, rfl, rfl, rfl, _, rfl, _, rfl, _, _, rfl, rfl, _, rfl, ite2 (fun c => ⟨_, rfl, _, hC, ?_, same_over sm nC, ?_⟩) (fun c => ⟨sm, ?_⟩)⟩
      · rw [List.length_map, List.length_map, List.length_map]
        exact Nat.lt_of_lt_of_le (tf_le hi) (Nat.le_trans l1 (by decide))
      · rw [upd_same, tfm _ _ hi, if_pos c, List.map_append, List.map_append]
        rfl
      · rw [hC, tfm _ _ hi, if_neg c, List.append_nil]
    · rintro H1 ⟨sm, hC⟩
      rw [List.length_map, hs.1, List.take_length] at hC
      exact k H1 C (s0.trans sm) (s0.free nC) hC
set_option maxHeartbeats 8000000 in
theorem ok_least_in {k : Nat} (D : Df K mg "least_in" s_least_in) (T : Bt mg) (C : Cn mg) (O_goers_many : Ok P w K mg base k "goers_many" s_goers_many ["fleet", "step"] (spGoersMany K)) (O_fixed_ones : Ok P w K mg base k "fixed_ones" s_fixed_ones ["fleet", "lot"] (spFixed K)) :
    Ok P w K mg base (k + 1) "least_in" s_least_in ["fleet", "lot"] (spLeastIn K) := by
  obtain ⟨_, g_HIGH⟩ := C.high
  refine D.ok sc_least_in b_least_in (fun vs H Q E h => ?_) (fun f cdv A outer s H vs Q E hr h => ?_)
  · obtain ⟨v, l, h, t, s, ss, kd, rfl, _⟩ := h
    rfl
  · obtain ⟨v, l, h, t, s, ss, kd, rfl, hv, l1, hlt, k1, k2⟩ := h
    obtain ⟨pl, rfl, hpl⟩ := id hlt
    refine ⟨_, (pss_cons (ps_asg (pv 1) (pg_seq rfl (pgs_cons (pg_name (i := 2) sc_least_in.nd rfl (.inl rfl)) (pgs_cons (pg_name (i := 3) sc_least_in.nd rfl (.inr rfl)) pgs_nil))))
      (pss_cons (ps_if (pt_cmpR op_eq (pv 2) (pe_glob (v := .str "high") (by rfl) g_HIGH ⟨_, rfl⟩) (nomark _))
        (pss_one (ps_ret (pe_op op_add (pv 3) pe_int)))
        pss_nil)
      (pss_cons (ps_asg (pv 0) (pg_seq rfl (pgs_cons (pg_name (i := 4) sc_least_in.nd rfl (.inr rfl)) (pgs_cons (pg_name (i := 5) sc_least_in.nd rfl (.inl rfl)) (pgs_cons (pg_name (i := 6) sc_least_in.nd rfl (.inl rfl)) pgs_nil)))))
      (pss_cons (ps_set (i := 7) sc_least_in.nd rfl (.inl rfl) (pe_op op_cat (pe_lst (pa_cons (pv 3) pa_nil)) (pe_lc (own := [("draught", 9), ("ours", 10), ("theirs", 11)]) (g := (gSeq K 3 (gCons (gName 9) (gCons (gName 10) (gCons (gName 11) gNil))))) (by rfl) sc_least_in.nd (pi_seq (pv 6)) (blkOk_by (own := [("draught", 9), ("ours", 10), ("theirs", 11)]) (N := (["fleet", "lot", "kind", "step", "here", "there", "sorts", "ends", "bounds", "draught", "ours", "theirs", "end"] : List Str)) (sc := defScope s_least_in) (by decide +kernel)) (fun _ _ _ _ _ => (pg_seq rfl (pgs_cons (pg_name (i := 9) sc_least_in.nd rfl (.inl rfl)) (pgs_cons (pg_name (i := 10) sc_least_in.nd rfl (.inl rfl)) (pgs_cons (pg_name (i := 11) sc_least_in.nd rfl (.inl rfl)) pgs_nil))))) (fun _ _ _ _ _ => (pts_one (pt_cmpR op_lt (pe_op op_sub (pv 9) (pv 4)) (pv 3) (nomark _)))) (fun _ _ _ _ _ => (pe_op op_sub (pv 9) (pv 4))))))
      (pss_cons (ps_setLc (i := 8) (own := [("end", 12)]) (g := (gName 12)) (by rfl) sc_least_in.nd rfl rfl (sw_true rfl rfl rfl (by decide +kernel)) (pi_seq (pv 7)) (blkOk_by (own := [("end", 12)]) (N := (["fleet", "lot", "kind", "step", "here", "there", "sorts", "ends", "bounds", "draught", "ours", "theirs", "end"] : List Str)) (sc := defScope s_least_in) (by decide +kernel)) (fun _ _ _ _ _ => (pg_name (i := 12) sc_least_in.nd rfl (.inl rfl))) (fun _ _ _ _ _ => (pts_one (pt_cmpR op_gt (pv 12) pe_int (nomark _)))) (fun _ _ _ _ _ => (pe_op op_sub (pv 12) (pe_fn O_goers_many (hr.mono (by omega)) (pa_cons (pv 0) (pa_cons (pe_op op_sub (pv 12) pe_int) pa_nil))))))
      (pss_one (ps_ret (pe_callB (cr_max rfl) (by rfl) T.max_ (by decide +kernel) (pa_cons (pe_lst (pa_cons (pe_callB (cr_sum rfl) (by rfl) T.sum_ (by decide +kernel) (pa_cons (pe_fn O_fixed_ones (hr.mono (by omega)) (pa_cons (pv 0) (pa_cons (pv 1) pa_nil))) pa_nil)) (StX.pa_star (pv 8) pa_nil))) pa_nil))))))))), ?_⟩
    refine ⟨_, rfl, pl, _, rfl, hpl, rfl, _, _, rfl, _, _, rfl, rfl, ?_⟩
    refine ⟨_, rfl, rfl, _, rfl, ite2 (fun c => ?_) (fun c => ?_)⟩
    · have e : kd = .high := Kd.str_inj (V.str.inj (of_decide_eq_true c))
      exact ⟨_, rfl, _, 1, rfl, rfl, k1 e H (Same.refl _)⟩
    have ne : kd ≠ .high := fun e => c (by rw [e]; exact decide_eq_true rfl)
    replace k2 := k2 ne
    obtain ⟨p, q, rs, rfl, hp, hq, hs⟩ := id hv
    refine ⟨_, rfl, p, _, rfl, hp, rfl, _, _, rfl, _, _, rfl, _, _, rfl, rfl, ?_⟩
    -- ends
    refine ⟨_, rfl, (by show 1 ≤ sizeLine; decide), fun o no => ?_⟩
    have s1 : Same H (upd H o (.lst [.int s])) := same_new no
    have e1 : upd H o (.lst [.int s]) o = some (.lst [.int s]) := upd_same
    generalize upd H o (.lst [.int s]) = H1 at s1 e1
    refine ⟨_, rfl, q, _, H1, rfl, Same.sqA s1 hq, Kp.refl _ _, fun J hJ C nC => ?_⟩
    obtain ⟨G, g, W⟩ := hJ.walk
    refine lc_it W (fun i H' => Same H1 H' ∧ H' C = some (.lst ((((ss.take i).filter fun x => decide (x.1 - h < s)).map fun x => x.1 - h).map V.int))) ⟨same_new nC, upd_same⟩ (fun i H' _ z => g H' (.ofS z.1)) ?_ ?_
    · rintro i x H2 H3 _ ⟨sm, hC⟩ ⟨rfl, gx⟩
      obtain ⟨r, hi, rfl, hr1⟩ := srt_at (hs.same (s1.trans sm)) gx
      refine ⟨r, _, rfl, hr1, rfl, _, _, rfl, _, _, rfl, _, _, rfl, rfl, rfl, ?_⟩
      refine ⟨_, rfl, _, rfl, ss[i].1, h, rfl, rfl, _, rfl, ss[i].1 - h, s, rfl, rfl, _, rfl, ite2 (fun c => ?_) (fun c => ?_)⟩
      · refine ⟨_, rfl, _, rfl, ss[i].1, h, rfl, rfl, _, hC, ?_, same_over sm nC, ?_⟩
        · rw [List.length_map, List.length_map]
          exact Nat.lt_of_lt_of_le (tf_le hi) (Nat.le_trans l1 (by decide))
        · rw [upd_same, tfm _ _ hi, if_pos c, List.map_append]
          rfl
      · refine ⟨sm, ?_⟩
        rw [hC, tfm _ _ hi, if_neg c, List.append_nil]
    rintro H2 ⟨sm2, hC⟩
    rw [List.length_map, hs.1, List.take_length] at hC
    refine ⟨o, C, _, _, rfl, rfl, sm2 _ _ e1, hC, ?_, fun ad nad => ?_⟩
    · rw [List.length_map, List.length_map]
      have := List.length_filter_le (fun x : Srt => decide (x.1 - h < s)) ss
      show 1 + _ ≤ sizeLine
      exact Nat.le_trans (show 1 + (ss.filter fun x => decide (x.1 - h < s)).length ≤ 1001 by omega) (by decide)
    have e3 : upd H2 ad (.lst ([.int s] ++ ((ss.filter fun x => decide (x.1 - h < s)).map fun x => x.1 - h).map V.int)) ad = some (.lst ((s :: (ss.filter fun x => decide (x.1 - h < s)).map fun x => x.1 - h).map V.int)) := by rw [upd_same]; rfl
    have s3 : Same H (upd H2 ad (.lst ([.int s] ++ ((ss.filter fun x => decide (x.1 - h < s)).map fun x => x.1 - h).map V.int))) := s1.trans (sm2.trans (same_new nad))
    generalize upd H2 ad (.lst ([.int s] ++ ((ss.filter fun x => decide (x.1 - h < s)).map fun x => x.1 - h).map V.int)) = H3 at e3 s3
    have hends : ∀ e : Int, e ∈ (s :: (ss.filter fun x => decide (x.1 - h < s)).map fun x => x.1 - h) ↔ (e = s ∨ ∃ x ∈ ss, e = x.1 - h ∧ e < s) := fun e => by
      rw [List.mem_cons, List.mem_map]
      constructor
      · rintro (z | ⟨x, hx, rfl⟩)
        · exact .inl z
        · obtain ⟨a, b⟩ := List.mem_filter.mp hx
          exact .inr ⟨x, a, rfl, of_decide_eq_true b⟩
      · rintro (z | ⟨x, hx, rfl, b⟩)
        · exact .inl z
        · exact .inr ⟨x, List.mem_filter.mpr ⟨hx, decide_eq_true b⟩, rfl⟩
    have lends : (s :: (ss.filter fun x => decide (x.1 - h < s)).map fun x => x.1 - h).length ≤ 1001 := by
      rw [List.length_cons, List.length_map]
      have := List.length_filter_le (fun x : Srt => decide (x.1 - h < s)) ss
      omega
    generalize (s :: (ss.filter fun x => decide (x.1 - h < s)).map fun x => x.1 - h) = ends at e3 hends lends
    -- bounds
    refine ⟨_, rfl, ad, _, H3, rfl, SqA.l e3, Kp.refl _ _, fun J2 hJ2 B nB => ?_⟩
    obtain ⟨G2, g2, W2⟩ := hJ2.walk
    refine lc_it W2 (fun i H' => Same H3 H' ∧ H' B = some (.lst ((((ends.take i).filter fun e => decide (e > 0)).map fun e => e - (gmF ss (mk h t (mny ss) (e - 1)) : Int)).map V.int))) ⟨same_new nB, upd_same⟩ (fun i H' _ z => g2 H' (.ofS z.1)) ?_ ?_
    · rintro i x H4 H5 hi ⟨sm, hB⟩ ⟨rfl, gx⟩
      rw [List.length_map] at hi
      obtain rfl : .int ends[i] = x := by
        have g3 : (ends.map V.int)[i]? = some (.int ends[i]) := by simp [hi]
        exact Option.some.inj (g3.symm.trans gx)
      refine ⟨rfl, _, rfl, _, 0, rfl, rfl, _, rfl, ite2 (fun c => ?_) (fun c => ⟨sm, ?_⟩)⟩
      · refine ⟨_, rfl, _, rfl, _, rfl, _, 1, rfl, rfl, .ref p, h, t, _, ss, rfl, hv.same (s3.trans sm), l1, fun H6 s6 => ⟨_, _, rfl, rfl, _, s6 _ _ hB, ?_, same_over (sm.trans s6) nB, ?_⟩⟩
        · rw [List.length_map, List.length_map]
          have h1 := List.length_filter_le (fun e : Int => decide (e > 0)) (ends.take i)
          rw [List.length_take] at h1
          exact Nat.lt_of_le_of_lt (show _ ≤ 1001 by omega) (by decide)
        · rw [upd_same, take_succ_get hi, List.filter_append, List.map_append, List.map_append, List.filter_cons_of_pos (p := fun e : Int => decide (e > 0)) c]
          rfl
      · rw [hB, take_succ_get hi, List.filter_append, List.map_append, List.map_append, List.filter_cons_of_neg (p := fun e : Int => decide (e > 0)) c]
        simp
    rintro H4 ⟨sm4, hB⟩
    rw [List.length_map, List.take_length] at hB
    have s4 := s3.trans sm4
    -- max
    refine ⟨_, rfl, _, rfl, .ref p, .ref pl, h, t, s, ss, kd, rfl, hv.same s4, l1, hlt.same s4, fun H5 fo s5 nfo hfo => ?_⟩
    refine ⟨fo, _, rfl, SqL.of hfo, ?_⟩
    have hB5 := s5 _ _ hB
    refine ⟨_, rfl, B, _, rfl, .inr (SqL.of hB5), ?_, fun mx nmx => ?_⟩
    · rw [List.append_nil]
      show _ + 1 ≤ sizeLine
      rw [List.length_map, List.length_map]
      have h1 := List.length_filter_le (fun e : Int => decide (e > 0)) ends
      exact Nat.le_trans (show _ ≤ 1002 by omega) (by decide)
    have e6 : upd H5 mx (.lst (.int ((fxF ss (mk h t (mny ss) s)).map fun (n : Nat) => (n : Int)).sum :: ((((ends.filter fun e => decide (e > 0)).map fun e => e - (gmF ss (mk h t (mny ss) (e - 1)) : Int)).map V.int) ++ []))) mx = some (.lst ((((fxF ss (mk h t (mny ss) s)).map fun (n : Nat) => (n : Int)).sum :: ((ends.filter fun e => decide (e > 0)).map fun e => e - (gmF ss (mk h t (mny ss) (e - 1)) : Int))).map V.int)) := by
      rw [upd_same, List.append_nil]
      rfl
    have s6 := (s4.trans s5).trans (same_new nmx (o := .lst (.int ((fxF ss (mk h t (mny ss) s)).map fun (n : Nat) => (n : Int)).sum :: ((((ends.filter fun e => decide (e > 0)).map fun e => e - (gmF ss (mk h t (mny ss) (e - 1)) : Int)).map V.int) ++ []))))
    refine ⟨mx, _, rfl, SqL.of e6, Nat.zero_lt_succ _, fun m hm hu => ?_⟩
    refine k2 _ m s6 ?_
    have efx : ((fxF ss (mk h t (mny ss) s)).map fun (n : Nat) => (n : Int)).sum = ((fxF ss (mk h t (mny ss) s)).sum : Int) := isumN _
    rw [efx] at hm hu
    refine ⟨?_, hu _ List.mem_cons_self, fun e he e0 => ?_⟩
    · rcases List.mem_cons.mp hm with z | z
      · exact .inl z
      · obtain ⟨e, he, rfl⟩ := List.mem_map.mp z
        obtain ⟨a, b⟩ := List.mem_filter.mp he
        exact .inr ⟨e, (hends e).mp a, of_decide_eq_true b, rfl⟩
    · exact hu _ (List.mem_cons_of_mem _ (List.mem_map.mpr ⟨e, List.mem_filter.mpr ⟨(hends e).mpr he, decide_eq_true e0⟩, rfl⟩))
theorem ok_most_in {k : Nat} (D : Df K mg "most_in" s_most_in) (T : Bt mg) (O_ships_many : Ok P w K mg base k "ships_many" s_ships_many ["fleet"] (spShips K)) (O_turned_fleet : Ok P w K mg base k "turned_fleet" s_turned_fleet ["fleet"] (spTurnedF K))
    (O_turned_lot : Ok P w K mg base k "turned_lot" s_turned_lot ["fleet", "lot"] (spTurnedLot K)) (O_least_in : Ok P w K mg base k "least_in" s_least_in ["fleet", "lot"] (spLeastIn K)) : Ok P w K mg base (k + 1) "most_in" s_most_in ["fleet", "lot"] (spMostIn K) := by
  refine D.ok sc_most_in b_most_in (fun vs H Q E h => ?_) (fun f cdv A outer s H vs Q E hr h => ?_)
  · obtain ⟨v, l, h, t, s, ss, kd, rfl, _⟩ := h
    rfl
  · obtain ⟨v, l, h, t, s, ss, kd, rfl, hv, l1, hlt, k1, k2⟩ := h
    refine ⟨_, (pss_one (ps_ret (pe_op op_sub (pe_fn O_ships_many (hr.mono (by omega)) (pa_cons (pv 0) pa_nil)) (pe_fn O_least_in (hr.mono (by omega)) (pa_cons (pe_fn O_turned_fleet (hr.mono (by omega)) (pa_cons (pv 0) pa_nil)) (pa_cons (pe_fn O_turned_lot (hr.mono (by omega)) (pa_cons (pv 0) (pa_cons (pv 1) pa_nil))) pa_nil)))))), ?_⟩
    refine ⟨_, rfl, v, h, t, ss, rfl, hv, l1, fun H1 s1 => ?_⟩
    refine ⟨_, rfl, v, h, t, ss, rfl, hv.same s1, l1, fun H2 z s2 hz => ?_⟩
    have s02 := s1.trans s2
    refine ⟨_, rfl, _, rfl, v, l, h, t, s, ss, kd, rfl, hv.same s02, l1, hlt.same s02, fun H3 y s3 hy => ?_⟩
    have s03 := s02.trans s3
    refine ⟨z, y, t, h, (mny ss : Int) - 1 - s, turnF ss, kd.turn, rfl, hz.same s3, ?_, hy, fun e H4 s4 => ?_, fun e H4 m s4 L => ?_⟩
    · unfold turnF
      rw [List.length_map]
      exact l1
    · have e' : kd = .low := by cases kd <;> first | rfl | cases e
      have := k1 e' H4 (s03.trans s4)
      refine ⟨_, _, rfl, rfl, ?_⟩
      show Q (.int ((mny ss : Int) - ((mny ss : Int) - 1 - s + 1))) H4
      rw [show (mny ss : Int) - ((mny ss : Int) - 1 - s + 1) = s by omega]
      exact this
    · have e' : kd ≠ .low := fun q => e (by rw [q]; rfl)
      exact ⟨_, _, rfl, rfl, k2 e' H4 m (s03.trans s4) L⟩
theorem ok_moving {k : Nat} (D : Df K mg "moving_mark" s_moving_mark) (T : Bt mg) (C : Cn mg) (O_ships_many : Ok P w K mg base k "ships_many" s_ships_many ["fleet"] (spShips K)) (O_mark_in : Ok P w K mg base k "mark_in" s_mark_in ["fleet", "step"] (spMarkIn K)) :
    Ok P w K mg base (k + 1) "moving_mark" s_moving_mark ["fleet", "lot"] (spMoving K) := by
  obtain ⟨_, g_LOW⟩ := C.low
  obtain ⟨_, g_HIGH⟩ := C.high
  refine D.ok sc_moving_mark b_moving_mark (fun vs H Q E h => ?_) (fun f cdv A outer s H vs Q E hr h => ?_)
  · obtain ⟨v, l, h, t, s, ss, kd, rfl, _⟩ := h
    rfl
  · obtain ⟨v, l, h, t, s, ss, kd, rfl, hv, l1, ⟨pl, rfl, hpl⟩, k1, k2⟩ := h
    refine ⟨_, (pss_cons (ps_asg (pv 1) (pg_seq rfl (pgs_cons (pg_name (i := 2) sc_moving_mark.nd rfl (.inl rfl)) (pgs_cons (pg_name (i := 3) sc_moving_mark.nd rfl (.inl rfl)) pgs_nil))))
      (pss_cons (ps_if (pt_cmpR op_eq (pv 2) (pe_glob (v := .str "low") (by rfl) g_LOW ⟨_, rfl⟩) (nomark _))
        (pss_one (ps_aug (i := 3) sc_moving_mark.nd rfl (.inl rfl) pe_int ip_sub))
        pss_nil)
      (pss_cons (ps_if (pt_cmpR op_eq (pv 2) (pe_glob (v := .str "high") (by rfl) g_HIGH ⟨_, rfl⟩) (nomark _))
        (pss_one (ps_aug (i := 3) sc_moving_mark.nd rfl (.inl rfl) pe_int ip_add))
        pss_nil)
      (pss_cons (ps_if (PW.pt (pw_or (pt_cmpR op_lt (pv 3) pe_int (nomark _)) (pw_or1 (pt_cmpR op_ge (pv 3) (pe_fn O_ships_many (hr.mono (by omega)) (pa_cons (pv 0) pa_nil)) (nomark _)))))
        (pss_one (ps_ret pe_non))
        pss_nil)
      (pss_one (ps_ret (pe_fn O_mark_in (hr.mono (by omega)) (pa_cons (pv 0) (pa_cons (pv 3) pa_nil))))))))), ?_⟩
    refine ⟨_, rfl, pl, _, rfl, hpl, rfl, _, _, rfl, _, _, rfl, rfl, ?_⟩
    cases kd with
    | low =>
      refine ⟨_, rfl, rfl, _, rfl, iteT ⟨_, rfl, _, 1, rfl, rfl, ?_⟩⟩
      refine ⟨_, rfl, rfl, _, rfl, iteF ?_⟩
      refine ⟨_, rfl, _, 0, rfl, rfl, _, rfl, ite2 (fun c => ?_) (fun c => ?_)⟩
      · exact k1 (.inl (of_decide_eq_true c)) H (Same.refl _)
      · have c0 : 0 ≤ nextS .low s := by have : ¬ s - 1 < 0 := fun z => c (decide_eq_true z); show 0 ≤ s - 1; omega
        refine ⟨_, rfl, _, rfl, v, h, t, ss, rfl, hv, l1, fun H1 s1 => ⟨_, _, rfl, rfl, _, rfl, ite2 (fun c2 => ?_) (fun c2 => ?_)⟩⟩
        · exact k1 (.inr (of_decide_eq_true c2)) H1 s1
        · have c3 : nextS .low s < (mny ss : Int) := by have : ¬ (s - 1 ≥ (mny ss : Int)) := fun z => c2 (decide_eq_true z); show s - 1 < _; omega
          exact ⟨_, rfl, _, rfl, v, h, t, _, ss, rfl, hv.same s1, l1, fun H2 s2 => k2 c0 c3 H2 (s1.trans s2)⟩
    | high =>
      refine ⟨_, rfl, rfl, _, rfl, iteF ?_⟩
      refine ⟨_, rfl, rfl, _, rfl, iteT ⟨_, rfl, _, 1, rfl, rfl, ?_⟩⟩
      refine ⟨_, rfl, _, 0, rfl, rfl, _, rfl, ite2 (fun c => ?_) (fun c => ?_)⟩
      · exact k1 (.inl (of_decide_eq_true c)) H (Same.refl _)
      · have c0 : 0 ≤ nextS .high s := by have : ¬ s + 1 < 0 := fun z => c (decide_eq_true z); show 0 ≤ s + 1; omega
        refine ⟨_, rfl, _, rfl, v, h, t, ss, rfl, hv, l1, fun H1 s1 => ⟨_, _, rfl, rfl, _, rfl, ite2 (fun c2 => ?_) (fun c2 => ?_)⟩⟩
        · exact k1 (.inr (of_decide_eq_true c2)) H1 s1
        · have c3 : nextS .high s < (mny ss : Int) := by have : ¬ (s + 1 ≥ (mny ss : Int)) := fun z => c2 (decide_eq_true z); show s + 1 < _; omega
          exact ⟨_, rfl, _, rfl, v, h, t, _, ss, rfl, hv.same s1, l1, fun H2 s2 => k2 c0 c3 H2 (s1.trans s2)⟩
    | top =>
      refine ⟨_, rfl, rfl, _, rfl, iteF ?_⟩
      refine ⟨_, rfl, rfl, _, rfl, iteF ?_⟩
      refine ⟨_, rfl, _, 0, rfl, rfl, _, rfl, ite2 (fun c => ?_) (fun c => ?_)⟩
      · exact k1 (.inl (of_decide_eq_true c)) H (Same.refl _)
      · have c0 : 0 ≤ nextS .top s := by have : ¬ s < 0 := fun z => c (decide_eq_true z); show 0 ≤ s; omega
        refine ⟨_, rfl, _, rfl, v, h, t, ss, rfl, hv, l1, fun H1 s1 => ⟨_, _, rfl, rfl, _, rfl, ite2 (fun c2 => ?_) (fun c2 => ?_)⟩⟩
        · exact k1 (.inr (of_decide_eq_true c2)) H1 s1
        · have c3 : nextS .top s < (mny ss : Int) := by have : ¬ (s ≥ (mny ss : Int)) := fun z => c2 (decide_eq_true z); show s < _; omega
          exact ⟨_, rfl, _, rfl, v, h, t, _, ss, rfl, hv.same s1, l1, fun H2 s2 => k2 c0 c3 H2 (s1.trans s2)⟩
end
end Sh

namespace Sh
open PySem PySem.Spec PyProof.Rows L2
/-! ### a sea's fleet -/
theorem len_os {k : Nat} {L : List Nat} (hL : Lot k L) (D : Nat → Int) (d : Int) : ((L.map D).filter fun o => decide (o = d)).length = Th.cnt k (fun i => mem L i && decide (D i = d)) := by
  rw [List.filter_map, List.length_map]
  conv => lhs; rw [hL.mem_eq]
  rw [List.filter_filter]
  unfold Th.cnt
  rw [List.countP_eq_length_filter]
  congr 1
  refine List.filter_congr fun a _ => ?_
  show (decide (D a = d) && decide (a ∈ L)) = (mem L a && decide (D a = d))
  rw [Bool.and_comm]
  rfl
theorem ds_map (ds : List Int) : ds = (List.range ds.length).map fun i => ds.getD i 0 := by
  refine List.ext_getElem (by simp) fun i h1 h2 => ?_
  simp [h1]
theorem len_ds (ds : List Int) (d : Int) : (ds.filter fun o => decide (o = d)).length = Th.cnt ds.length (fun i => decide (ds.getD i 0 = d)) := by
  conv => lhs; rw [ds_map ds]
  rw [List.filter_map, List.length_map]
  unfold Th.cnt
  rw [List.countP_eq_length_filter]
  rfl
theorem sum_if (P : Int → Bool) (x : Int) (b : Bool) : ∀ {ns : List Int}, ns.Nodup → x ∈ ns → ((ns.filter P).map fun d => if (b && decide (x = d)) = true then 1 else 0).sum = if (P x && b) = true then 1 else 0 := by
  have none : ∀ {ns : List Int}, ¬ x ∈ ns → ((ns.filter P).map fun d => if (b && decide (x = d)) = true then 1 else 0).sum = 0 := by
    intro ns
    induction ns with
    | nil => intro _; rfl
    | cons a l ih =>
      intro h
      have h1 : ¬ x = a := fun e => h (e ▸ List.mem_cons_self)
      have h2 := ih fun q => h (List.mem_cons_of_mem _ q)
      by_cases c : P a = true
      · rw [List.filter_cons_of_pos c, List.map_cons, List.sum_cons, h2, decide_eq_false h1, Bool.and_false]
        rfl
      · rw [List.filter_cons_of_neg c]
        exact h2
  intro ns
  induction ns with
  | nil => intro _ h; cases h
  | cons a l ih =>
    intro nd h
    obtain ⟨n1, n2⟩ := List.nodup_cons.mp nd
    by_cases e : x = a
    · subst e
      have h0 := none n1
      by_cases c : P x = true
      · rw [List.filter_cons_of_pos c, List.map_cons, List.sum_cons, h0, decide_eq_true rfl, Bool.and_true, c, Bool.true_and, Nat.add_zero]
      · rw [List.filter_cons_of_neg c, h0]
        have c' : P x = false := by simpa using c
        rw [c', Bool.false_and]
        rfl
    · have hx : x ∈ l := by
        rcases List.mem_cons.mp h with q | q
        · exact absurd q e
        · exact q
      have h2 := ih n2 hx
      by_cases c : P a = true
      · rw [List.filter_cons_of_pos c, List.map_cons, List.sum_cons, h2, decide_eq_false e, Bool.and_false]
        show 0 + _ = _
        rw [Nat.zero_add]
      · rw [List.filter_cons_of_neg c]
        exact h2
theorem sum_two' {α : Type} (f g : α → Nat) : ∀ l : List α, (l.map fun x => f x + g x).sum = (l.map f).sum + (l.map g).sum
  | [] => rfl
  | a :: l => by
    simp only [List.map_cons, List.sum_cons, sum_two' f g l]
    omega
theorem sum_zero {α : Type} : ∀ l : List α, (l.map fun _ => 0).sum = 0
  | [] => rfl
  | a :: l => by rw [List.map_cons, List.sum_cons, sum_zero l]
theorem sum_cnt (P : Int → Bool) (D : Nat → Int) (R : Nat → Bool) {ns : List Int} (nd : ns.Nodup) : ∀ k : Nat, (∀ i, i < k → D i ∈ ns) → ((ns.filter P).map fun d => Th.cnt k (fun i => R i && decide (D i = d))).sum = Th.cnt k (fun i => P (D i) && R i)
  | 0, _ => sum_zero _
  | k + 1, h => by
    have ih := sum_cnt P D R nd k fun i hi => h i (by omega)
    have e : ((ns.filter P).map fun d => Th.cnt (k + 1) (fun i => R i && decide (D i = d))).sum = ((ns.filter P).map fun d => Th.cnt k (fun i => R i && decide (D i = d)) + if (R k && decide (D k = d)) = true then 1 else 0).sum := by
      congr 1
      exact List.map_congr_left fun d _ => Th.cnt_succ _ _
    rw [e, sum_two', ih, sum_if P (D k) (R k) nd (h k (by omega)), Th.cnt_succ]
/-- the sorts of a sea's ships -/
def sortsOf (ds : List Int) (L : List Nat) (ns : List Int) : List Srt := ns.map fun d => (d, ((L.map fun i => ds.getD i 0).filter fun o => decide (o = d)).length, (ds.filter fun o => decide (o = d)).length - ((L.map fun i => ds.getD i 0).filter fun o => decide (o = d)).length)
theorem sorts_rp {ds : List Int} {L : List Nat} {ns : List Int} (hL : Lot ds.length L) (nd : ns.Nodup) (hm : ∀ d : Int, d ∈ ds → d ∈ ns) : Rp (sortsOf ds L ns) ds.length (fun i => ds.getD i 0) (mem L) := by
  have hD : ∀ i, i < ds.length → ds.getD i 0 ∈ ns := fun i hi => hm _ (by
    have : ds.getD i 0 = ds[i] := by simp [hi]
    rw [this]
    exact List.getElem_mem hi)
  refine ⟨fun P => ?_, fun P => ?_⟩
  · unfold sortsOf
    rw [List.filter_map, List.map_map, ← sum_cnt P (fun i => ds.getD i 0) (mem L) nd ds.length hD]
    congr 1
    exact List.map_congr_left fun d _ => len_os hL _ d
  · unfold sortsOf
    rw [List.filter_map, List.map_map, ← sum_cnt P (fun i => ds.getD i 0) (fun i => !mem L i) nd ds.length hD]
    congr 1
    refine List.map_congr_left fun d _ => ?_
    show (ds.filter fun o => decide (o = d)).length - ((L.map fun i => ds.getD i 0).filter fun o => decide (o = d)).length = _
    rw [len_os hL, len_ds]
    have e := Th.cnt_split (k := ds.length) (fun i => decide (ds.getD i 0 = d)) (mem L)
    have e1 : Th.cnt ds.length (fun i => decide (ds.getD i 0 = d) && mem L i) = Th.cnt ds.length (fun i => mem L i && decide (ds.getD i 0 = d)) := Th.cnt_congr fun i _ => Bool.and_comm _ _
    have e2 : Th.cnt ds.length (fun i => decide (ds.getD i 0 = d) && !mem L i) = Th.cnt ds.length (fun i => !mem L i && decide (ds.getD i 0 = d)) := Th.cnt_congr fun i _ => Bool.and_comm _ _
    omega
theorem lying_le {ds : List Int} {L : List Nat} (hL : Lot ds.length L) (d : Int) : ((L.map fun i => ds.getD i 0).filter fun o => decide (o = d)).length ≤ (ds.filter fun o => decide (o = d)).length := by
  rw [len_os hL, len_ds]
  exact Th.cnt_mono fun i _ h => by
    revert h
    cases mem L i <;> simp
/-! ### what a lot tells of its standings -/
section
variable {ss : List Srt} {k : Nat} {D : Nat → Int} {S : Nat → Bool} {h t : Int}
theorem low_low (r : Rp ss k D S) {N : Nat} (st : StuckF h t ss N) : Th.StuckLow k (Gd h t k D) N S := (r.stuck h t N).mp st
theorem high_high (r : Rp ss k D S) (hk : 0 < k) {N : Nat} (hN : (N : Int) ≤ (k : Int) - 1 - topI h t k) (st : StuckF t h (turnF ss) N) : Th.StuckLow k (Th.dual k (Gd h t k D)) N (Th.co S) := by
  have t0 := top_lo' h t k
  exact Th.StuckLow.congr (by omega) (fun s i hs => Gd_turn hs) ((r.turn.stuck t h N).mp st)
theorem high_back (r : Rp ss k D S) (hk : 0 < k) {N : Nat} (hN : (N : Int) ≤ (k : Int) - 1 - topI h t k) (st : Th.StuckLow k (Th.dual k (Gd h t k D)) N (Th.co S)) : StuckF t h (turnF ss) N := by
  have t0 := top_lo' h t k
  exact (r.turn.stuck t h N).mpr (Th.StuckLow.congr (by omega) (fun s i hs => (Gd_turn hs).symm) st)
/-- a lot by its kind, in terms of ships -/
def LotS (h t : Int) (k : Nat) (D : Nat → Int) (S : Nat → Bool) : Kd → Int → Prop
  | .low, s => ∃ N : Nat, s = (N : Int) ∧ N ≤ (topI h t k).toNat ∧ Th.StuckLow k (Gd h t k D) N S
  | .high, s => ∃ N : Nat, s = (k : Int) - 1 - (N : Int) ∧ N ≤ k - 1 - (topI h t k).toNat ∧ Th.StuckLow k (Th.dual k (Gd h t k D)) N (Th.co S)
  | .top, s => s = topI h t k ∧ Th.Open k (Gd h t k D) (topI h t k).toNat S
theorem LotF.ships (r : Rp ss k D S) (hk : 0 < k) {kd : Kd} {s : Int} (l : LotF h t ss kd s) : LotS h t k D S kd s := by
  have t0 := top_lo' h t k
  have t1 := top_hi' h t hk
  have tp := top_D h t D hk
  unfold LotF at l
  cases kd with
  | low =>
    obtain ⟨N, e, a, b⟩ := l
    rw [r.mny] at a
    exact ⟨N, e, by omega, low_low r b⟩
  | high =>
    obtain ⟨N, e, a, b⟩ := l
    rw [r.mny] at a e
    exact ⟨N, e, by omega, high_high r hk a b⟩
  | top =>
    obtain ⟨e, a, b⟩ := l
    rw [r.mny] at a e b
    refine ⟨e, ?_⟩
    rcases Th.sorts (S := S) tp with ⟨N, hN, sl⟩ | ⟨N, hN, sl⟩ | q
    · exact absurd ((r.stuck h t N).mpr sl) (a N (by omega))
    · exact absurd (high_back r hk (by omega) sl) (b N (by omega))
    · exact q
end
end Sh
namespace Th
section
variable {k : Nat} {G : Nat → Nat → Bool} {S U : Nat → Bool} {T : Nat}
/-- where one stops tells from the other -/
theorem low_uniq {N N' : Nat} (a : StuckLow k G N S) (b : StuckLow k G N' S) : N = N' := by
  obtain ⟨a1, a2, a3⟩ := a
  obtain ⟨b1, b2, b3⟩ := b
  by_cases z : N < N'
  · have := b2 N a1 z
    omega
  · by_cases z2 : N' < N
    · have := a2 N' b1 z2
      omega
    · omega
theorem low_high {N N' : Nat} (t : Top k G T) (hN : N ≤ T) (a : StuckLow k G N S) (hN' : N' ≤ k - 1 - T) (b : StuckLow k (Th.dual k G) N' (co S)) : False := by
  have := a.1
  have := b.1
  have := cnt_co k S
  have := t.lt
  omega
theorem low_open {N : Nat} (t : Top k G T) (hN : N ≤ T) (a : StuckLow k G N S) (b : Open k G T S) : False := by
  obtain ⟨rs, c⟩ := b
  rcases rs with q | q
  · by_cases z : N = T
    · subst z
      have := a.2.2
      omega
    · have := q.2 N a.1 (by omega)
      have := a.2.2
      omega
  · have := a.1
    have := q.1
    omega
theorem high_open {N : Nat} (t : Top k G T) (hN : N ≤ k - 1 - T) (a : StuckLow k (Th.dual k G) N (co S)) (b : Open k G T S) : False := low_open t.dual hN a (b.dual t)
theorem Reach.out (r : Reach k G S U) : ∀ i, ¬ i < k → U i = S i := reach_out r
/-- the lot of an open one is kept -/
theorem Open.same (t : Top k G T) (a : Open k G T S) (r : Reach k G S U) : Open k G T U := by
  rcases sorts (S := U) t with ⟨N, hN, sl⟩ | ⟨N, hN, sl⟩ | q
  · exact absurd a fun a => low_open t hN (sl.same t hN r.symm) a
  · exact absurd a fun a => high_open t hN (sl.same t.dual hN r.symm.dual) a
  · exact q
theorem high_iff {N : Nat} (t : Top k G T) (hN : N ≤ k - 1 - T) (h : StuckLow k (Th.dual k G) N (co S)) (ho : ∀ i, ¬ i < k → U i = S i) : Reach k G S U ↔ StuckLow k (Th.dual k G) N (co U) ∧ ∀ i, i < k → (co U i || Th.dual k G N i) = (co S i || Th.dual k G N i) := by
  rw [← h.iff (U := co U) t.dual hN fun i hi => by unfold co; rw [ho i hi]]
  exact ⟨fun r => r.dual, fun r => r.codual⟩
end
end Th
namespace Sh
open PySem PySem.Spec PyProof.Rows L2
section
variable {ss : List Srt} {k : Nat} {D : Nat → Int} {S U : Nat → Bool} {h t : Int}
/-- a lot's kind and step are kept by crossings -/
theorem LotS.same (hk : 0 < k) {kd : Kd} {s : Int} (l : LotS h t k D S kd s) (r : Th.Reach k (Gd h t k D) S U) : LotS h t k D U kd s := by
  have tp := top_D h t D hk
  cases kd with
  | low =>
    obtain ⟨N, e, a, b⟩ := l
    exact ⟨N, e, a, b.same tp a r⟩
  | high =>
    obtain ⟨N, e, a, b⟩ := l
    exact ⟨N, e, a, b.same tp.dual a r.dual⟩
  | top =>
    obtain ⟨e, a⟩ := l
    exact ⟨e, a.same tp r⟩
theorem LotS.uniq (hk : 0 < k) {kd kd' : Kd} {s s' : Int} (l : LotS h t k D S kd s) (l' : LotS h t k D S kd' s') : kd = kd' ∧ s = s' := by
  have tp := top_D h t D hk
  cases kd with
  | low =>
    obtain ⟨N, e, a, b⟩ := l
    cases kd' with
    | low =>
      obtain ⟨N', e', a', b'⟩ := l'
      have := Th.low_uniq b b'
      exact ⟨rfl, by omega⟩
    | high =>
      obtain ⟨N', e', a', b'⟩ := l'
      exact (Th.low_high tp a b a' b').elim
    | top => exact (Th.low_open tp a b l'.2).elim
  | high =>
    obtain ⟨N, e, a, b⟩ := l
    cases kd' with
    | low =>
      obtain ⟨N', e', a', b'⟩ := l'
      exact (Th.low_high tp a' b' a b).elim
    | high =>
      obtain ⟨N', e', a', b'⟩ := l'
      have := Th.low_uniq b b'
      exact ⟨rfl, by omega⟩
    | top => exact (Th.high_open tp a b l'.2).elim
  | top =>
    obtain ⟨e, a⟩ := l
    cases kd' with
    | low =>
      obtain ⟨N', e', a', b'⟩ := l'
      exact (Th.low_open tp a' b' a).elim
    | high =>
      obtain ⟨N', e', a', b'⟩ := l'
      exact (Th.high_open tp a' b' a).elim
    | top => exact ⟨rfl, by rw [e, l'.1]⟩
/-- one comes to the other just where the lots' words are the same and those that don't go lie alike -/
theorem LotS.reach (hk : 0 < k) {kd : Kd} {s : Int} (l : LotS h t k D S kd s) (l' : LotS h t k D U kd s) (ho : ∀ i, ¬ i < k → U i = S i) : Th.Reach k (Gd h t k D) S U ↔ ∀ i, i < k → ¬ D i ≤ mk h t k s → U i = S i := by
  have tp := top_D h t D hk
  have t0 := top_lo' h t k
  have t1 := top_hi' h t hk
  cases kd with
  | low =>
    obtain ⟨N, e, a, b⟩ := l
    obtain ⟨N', e', a', b'⟩ := l'
    obtain rfl : N = N' := by omega
    rw [b.iff tp a ho]
    have key : ∀ i, ((U i || Gd h t k D N i) = (S i || Gd h t k D N i)) ↔ (¬ D i ≤ mk h t k s → U i = S i) := fun i => by
      unfold Gd
      rw [← e]
      by_cases z : D i ≤ mk h t k s
      · rw [decide_eq_true z, Bool.or_true, Bool.or_true]
        exact ⟨fun _ w => absurd z w, fun _ => rfl⟩
      · rw [decide_eq_false z, Bool.or_false, Bool.or_false]
        exact ⟨fun q _ => q, fun q => q z⟩
    exact ⟨fun q i hi => (key i).mp (q.2 i hi), fun q => ⟨b', fun i hi => (key i).mpr (q i hi)⟩⟩
  | high =>
    obtain ⟨N, e, a, b⟩ := l
    obtain ⟨N', e', a', b'⟩ := l'
    obtain rfl : N = N' := by omega
    rw [Th.high_iff tp a b ho]
    have key : ∀ i, ((Th.co U i || Th.dual k (Gd h t k D) N i) = (Th.co S i || Th.dual k (Gd h t k D) N i)) ↔ (¬ D i ≤ mk h t k s → U i = S i) := fun i => by
      show ((!U i || decide (D i ≤ mk h t k ((k - 1 - N : Nat) : Int))) = (!S i || decide (D i ≤ mk h t k ((k - 1 - N : Nat) : Int)))) ↔ _
      rw [show ((k - 1 - N : Nat) : Int) = s by omega]
      by_cases z : D i ≤ mk h t k s
      · rw [decide_eq_true z, Bool.or_true, Bool.or_true]
        exact ⟨fun _ w => absurd z w, fun _ => rfl⟩
      · rw [decide_eq_false z, Bool.or_false, Bool.or_false]
        refine ⟨fun q _ => ?_, fun q => by rw [q z]⟩
        revert q
        cases U i <;> cases S i <;> simp
    exact ⟨fun q i hi => (key i).mp (q.2 i hi), fun q => ⟨b', fun i hi => (key i).mpr (q i hi)⟩⟩
  | top =>
    obtain ⟨e, a⟩ := l
    obtain ⟨_, a'⟩ := l'
    have key : ∀ i, (Gd h t k D (topI h t k).toNat i = false) ↔ ¬ D i ≤ mk h t k s := fun i => by
      unfold Gd
      rw [show (((topI h t k).toNat : Nat) : Int) = s by omega, decide_eq_false_iff_not]
    exact ⟨fun r i hi z => Th.fast_inv tp r i hi ((key i).mpr z), fun q => Th.open_reach tp a.1 a'.1 (fun i hi g => q i hi ((key i).mp g)) ho⟩
theorem LotS.comes (hk : 0 < k) {kd kd' : Kd} {s s' : Int} (l : LotS h t k D S kd s) (l' : LotS h t k D U kd' s') (ho : ∀ i, ¬ i < k → U i = S i) : Th.Reach k (Gd h t k D) S U ↔ (kd = kd' ∧ s = s') ∧ ∀ i, i < k → ¬ D i ≤ mk h t k s → U i = S i := by
  constructor
  · intro r
    obtain ⟨e1, e2⟩ := (l.same hk r).uniq hk l'
    subst e1
    subst e2
    exact ⟨⟨rfl, rfl⟩, (l.reach hk l' ho).mp r⟩
  · rintro ⟨⟨e1, e2⟩, q⟩
    subst e1
    subst e2
    exact (l.reach hk l' ho).mpr q
/-- who ever goes -/
theorem LotS.moves (hk : 0 < k) {kd : Kd} {s : Int} (l : LotS h t k D S kd s) {i : Nat} (hi : i < k) : Th.Moves k (Gd h t k D) S i ↔ 0 ≤ nextS kd s ∧ nextS kd s < (k : Int) ∧ D i ≤ mk h t k (nextS kd s) := by
  have tp := top_D h t D hk
  have t0 := top_lo' h t k
  have t1 := top_hi' h t hk
  cases kd with
  | low =>
    obtain ⟨N, e, a, b⟩ := l
    rw [Th.moves_low b tp a hi]
    show (0 < N ∧ decide (D i ≤ mk h t k ((N - 1 : Nat) : Int)) = true) ↔ 0 ≤ s - 1 ∧ s - 1 < (k : Int) ∧ D i ≤ mk h t k (s - 1)
    rw [decide_eq_true_eq]
    constructor
    · rintro ⟨n0, g⟩
      rw [show ((N - 1 : Nat) : Int) = s - 1 by omega] at g
      exact ⟨by omega, by omega, g⟩
    · rintro ⟨n0, n1, g⟩
      refine ⟨by omega, ?_⟩
      rw [show ((N - 1 : Nat) : Int) = s - 1 by omega]
      exact g
  | high =>
    obtain ⟨N, e, a, b⟩ := l
    rw [Th.moves_high b tp a hi]
    show (0 < N ∧ decide (D i ≤ mk h t k ((k - N : Nat) : Int)) = true) ↔ 0 ≤ s + 1 ∧ s + 1 < (k : Int) ∧ D i ≤ mk h t k (s + 1)
    rw [decide_eq_true_eq]
    constructor
    · rintro ⟨n0, g⟩
      rw [show ((k - N : Nat) : Int) = s + 1 by omega] at g
      exact ⟨by omega, by omega, g⟩
    · rintro ⟨n0, n1, g⟩
      refine ⟨by omega, ?_⟩
      rw [show ((k - N : Nat) : Int) = s + 1 by omega]
      exact g
  | top =>
    obtain ⟨e, a⟩ := l
    rw [Th.moves_open tp a.1 a.2 hi]
    show decide (D i ≤ mk h t k (((topI h t k).toNat : Nat) : Int)) = true ↔ 0 ≤ s ∧ s < (k : Int) ∧ D i ≤ mk h t k s
    rw [decide_eq_true_eq, show (((topI h t k).toNat : Nat) : Int) = s by omega]
    exact ⟨fun g => ⟨by omega, by omega, g⟩, fun g => g.2.2⟩
/-- how few -/
theorem LotS.min (r : Rp ss k D S) (hk : 0 < k) {kd : Kd} {s m : Int} (l : LotS h t k D S kd s) (hm : (kd = .high ∧ m = s + 1) ∨ (kd ≠ .high ∧ LeastI h t ss s m)) : ∃ n : Nat, m = (n : Int) ∧ Th.IsMin k (Gd h t k D) S n := by
  have tp := top_D h t D hk
  have t0 := top_lo' h t k
  have t1 := top_hi' h t hk
  cases kd with
  | low =>
    obtain ⟨N, e, a, b⟩ := l
    rcases hm with ⟨z, _⟩ | ⟨_, L⟩
    · cases z
    · rw [e] at L
      exact least_low r tp a b (fun m' hm' => mk_low (by omega) (by omega)) L
  | high =>
    obtain ⟨N, e, a, b⟩ := l
    rcases hm with ⟨_, z⟩ | ⟨z, _⟩
    · have mx := Th.stuck_min_high tp.dual a b
      refine ⟨k - N, by omega, ?_⟩
      obtain ⟨⟨U, rU, cU⟩, hU⟩ := mx
      refine ⟨⟨Th.co U, ?_, ?_⟩, fun W rW => ?_⟩
      · refine Th.Reach.codual ?_
        rw [Th.co_co]
        exact rU
      · have := Th.cnt_co k U
        omega
      · have := hU _ rW.dual
        have := Th.cnt_co k W
        omega
    · exact absurd rfl z
  | top =>
    obtain ⟨e, a⟩ := l
    rcases hm with ⟨z, _⟩ | ⟨_, L⟩
    · cases z
    · rw [show s = (((topI h t k).toNat : Nat) : Int) by omega] at L
      exact least_open r tp a (fun m' hm' => mk_low (by omega) (by omega)) L
/-- how many, by the turned one -/
theorem LotS.max (r : Rp ss k D S) (hk : 0 < k) {kd : Kd} {s m : Int} (l : LotS h t k D S kd s) (hm : (kd = .low ∧ m = s) ∨ (kd ≠ .low ∧ ∃ m', LeastI t h (turnF ss) ((k : Int) - 1 - s) m' ∧ m = (k : Int) - m')) : ∃ n : Nat, m = (n : Int) ∧ Th.IsMax k (Gd h t k D) S n := by
  have tp := top_D h t D hk
  have t0 := top_lo' h t k
  have t1 := top_hi' h t hk
  have gt : ∀ s i, s < k → Gd t h k D s i = Th.dual k (Gd h t k D) s i := fun s i hs => Gd_turn hs
  have gt' : ∀ s i, s < k → Th.dual k (Gd h t k D) s i = Gd t h k D s i := fun s i hs => (Gd_turn hs).symm
  have tpd : Th.Top k (Gd t h k D) (k - 1 - (topI h t k).toNat) := by
    have q := tp.dual
    refine ⟨q.lt, fun s s' i a b g => ?_, fun s s' i a b c g => ?_⟩
    · rw [gt _ _ (by omega)]
      exact q.up s s' i a b (by rw [← gt _ _ (by omega)]; exact g)
    · rw [gt _ _ (by omega)]
      exact q.dn s s' i a b c (by rw [← gt _ _ (by omega)]; exact g)
  cases kd with
  | low =>
    obtain ⟨N, e, a, b⟩ := l
    rcases hm with ⟨_, z⟩ | ⟨z, _⟩
    · exact ⟨N, by omega, Th.stuck_min_high tp a b⟩
    · exact absurd rfl z
  | high =>
    obtain ⟨N, e, a, b⟩ := l
    rcases hm with ⟨z, _⟩ | ⟨_, m', L, em⟩
    · cases z
    · rw [show (k : Int) - 1 - s = (N : Int) by omega] at L
      obtain ⟨n, en, q⟩ := least_low r.turn tpd a (b.congr (by omega) gt') (fun m' hm' => mk_high (h := h) (t := t) (k := k) (by omega) (by omega)) L
      obtain ⟨q1, q2⟩ := (q.congr gt).co
      exact ⟨k - n, by omega, q2⟩
  | top =>
    obtain ⟨e, a⟩ := l
    rcases hm with ⟨z, _⟩ | ⟨_, m', L, em⟩
    · cases z
    · rw [show (k : Int) - 1 - s = ((k - 1 - (topI h t k).toNat : Nat) : Int) by omega] at L
      have od : Th.Open k (Gd t h k D) (k - 1 - (topI h t k).toNat) (Th.co S) := (a.dual tp).congr tp.dual.lt gt'
      obtain ⟨n, en, q⟩ := least_open r.turn tpd od (fun m' hm' => mk_high (h := h) (t := t) (k := k) (by omega) (by omega)) L
      obtain ⟨q1, q2⟩ := (q.congr gt).co
      exact ⟨k - n, by omega, q2⟩
end
end Sh

namespace Sh
open PySem PySem.Spec PyProof.Rows L2
/-! ### the program: fleets of seas, reach -/
theorem eqv_ints : ∀ ns ms : List Int, PyData.eqv (.list (ns.map .int)) (.list (ms.map .int)) = decide (ns = ms)
  | [], [] => rfl
  | [], _ :: _ => rfl
  | _ :: _, [] => rfl
  | a :: l, b :: m => by
    have e := eqv_ints l m
    show (PyData.eqv (.int a) (.int b) && PyData.eqv (.list (l.map .int)) (.list (m.map .int))) = _
    rw [e]
    show ((a == b) && decide (l = m)) = _
    rw [Bool.eq_iff_iff, Bool.and_eq_true, beq_iff_eq, decide_eq_true_eq, decide_eq_true_eq, List.cons.injEq]
theorem eqv_lot (a b : Str) (i j : Int) : PyData.eqv (.tuple [.str a, .int i]) (.tuple [.str b, .int j]) = (decide (a = b) && decide (i = j)) := by
  show ((a == b) && ((i == j) && true)) = _
  rw [Bool.and_true, Bool.eq_iff_iff, Bool.and_eq_true, Bool.and_eq_true, beq_iff_eq, beq_iff_eq, decide_eq_true_eq, decide_eq_true_eq]
theorem shaped_lot (kd : Kd) (s : Int) : SeqAt.shaped (.tuple [.str kd.str, .int s]) = true := by
  have a : PyData.canLay0 (.str kd.str) = true := by cases kd <;> decide +kernel
  have b : PyData.canLay0 (.tuple [.str kd.str, .int s]) = true := by
    show (PyData.canLay0 (.str kd.str) && (PyData.canLay0 (.int s) && true)) = true
    rw [a]
    rfl
  unfold SeqAt.shaped
  rw [b]
  rfl
def spFleetOf (K : PySem.W.Frag) : Sp := fun vs H Q _ => ∃ (v l : V) (h t : Int) (ds : List Int) (L : List Nat), vs = [v, l] ∧ SeaD K H v h t ds ∧ LotA K H l L ∧ ds.length ≤ 60 ∧ Lot ds.length L ∧
  ∀ (H' : Hp) (z : V) (ss : List Srt), Same H H' → FltA K H' z h t ss → ss.length ≤ 1000 → Rp ss ds.length (fun i => ds.getD i 0) (mem L) → Q z H'
def MaxF (h t : Int) (ss : List Srt) (m : Int) : Prop := ∃ kd s, LotF h t ss kd s ∧ ((kd = .low ∧ m = s) ∨ (kd ≠ .low ∧ ∃ m', LeastI t h (turnF ss) ((mny ss : Int) - 1 - s) m' ∧ m = (mny ss : Int) - m'))
def MinF (h t : Int) (ss : List Srt) (m : Int) : Prop := ∃ kd s, LotF h t ss kd s ∧ ((kd = .high ∧ m = s + 1) ∨ (kd ≠ .high ∧ LeastI h t ss s m))
def spFleetMost (K : PySem.W.Frag) : Sp := fun vs H Q _ => ∃ (v : V) (h t : Int) (ss : List Srt), vs = [v] ∧ FltA K H v h t ss ∧ ss.length ≤ 1000 ∧ ∀ (H' : Hp) (m : Int), Same H H' → MaxF h t ss m → Q (.int m) H'
def spFleetLeast (K : PySem.W.Frag) : Sp := fun vs H Q _ => ∃ (v : V) (h t : Int) (ss : List Srt), vs = [v] ∧ FltA K H v h t ss ∧ ss.length ≤ 1000 ∧ ∀ (H' : Hp) (m : Int), Same H H' → MinF h t ss m → Q (.int m) H'
abbrev s_fleet_most : Stmt := topS 22
theorem sc_fleet_most : FnScope (["fleet"] : List Str) (["fleet"] : List Str) (defScope s_fleet_most) := ⟨rfl, rfl, rfl, by decide +kernel, rfl, by decide +kernel, by decide +kernel⟩
theorem b_fleet_most (kV doc pm : Value) (an : Option Addr) (cdv ct : Value) (us : List Value) (hl : us.length = (["fleet"] : List Str).length) : bindArgs (PySem.W.fnOf "fleet_most" "fleet_most" (defArgs s_fleet_most) (defBody s_fleet_most) (defScope s_fleet_most) .none kV doc pm an cdv ct) ⟨us, []⟩ = pure ((["fleet"] : List Str).zip us) :=
  match us, hl with | [_], _ => rfl
abbrev s_fleet_least : Stmt := topS 23
theorem sc_fleet_least : FnScope (["fleet"] : List Str) (["fleet"] : List Str) (defScope s_fleet_least) := ⟨rfl, rfl, rfl, by decide +kernel, rfl, by decide +kernel, by decide +kernel⟩
theorem b_fleet_least (kV doc pm : Value) (an : Option Addr) (cdv ct : Value) (us : List Value) (hl : us.length = (["fleet"] : List Str).length) : bindArgs (PySem.W.fnOf "fleet_least" "fleet_least" (defArgs s_fleet_least) (defBody s_fleet_least) (defScope s_fleet_least) .none kV doc pm an cdv ct) ⟨us, []⟩ = pure ((["fleet"] : List Str).zip us) :=
  match us, hl with | [_], _ => rfl
section
variable {P : Program} {w : World} {K : PySem.W.Frag} {mg : Str → Option Value} {base : Heap}
theorem ok_fleet_most {k : Nat} (D : Df K mg "fleet_most" s_fleet_most) (T : Bt mg) (O_most_in : Ok P w K mg base k "most_in" s_most_in ["fleet", "lot"] (spMostIn K)) (O_lot_of : Ok P w K mg base k "lot_of" s_lot_of ["fleet"] (spLotOf K)) : Ok P w K mg base (k + 1) "fleet_most" s_fleet_most ["fleet"] (spFleetMost K) := by
  refine D.ok sc_fleet_most b_fleet_most (fun vs H Q E h => ?_) (fun f cdv A outer s H vs Q E hr h => ?_)
  · obtain ⟨v, h, t, ss, rfl, _⟩ := h
    rfl
  · obtain ⟨v, h, t, ss, rfl, hv, l1, k⟩ := h
    refine ⟨_, (pss_one (ps_ret (pe_fn O_most_in (hr.mono (by omega)) (pa_cons (pv 0) (pa_cons (pe_fn O_lot_of (hr.mono (by omega)) (pa_cons (pv 0) pa_nil)) pa_nil))))), ?_⟩
    refine ⟨_, rfl, _, rfl, v, h, t, ss, rfl, hv, l1, fun H1 p kd s s1 np hp L => ?_⟩
    exact ⟨v, .ref p, h, t, s, ss, kd, rfl, hv.same s1, l1, ⟨p, rfl, SqA.t hp⟩, fun e H2 s2 => k H2 s (s1.trans s2) ⟨kd, s, L, .inl ⟨e, rfl⟩⟩, fun e H2 m s2 lm => k H2 _ (s1.trans s2) ⟨kd, s, L, .inr ⟨e, m, lm, rfl⟩⟩⟩
theorem ok_fleet_least {k : Nat} (D : Df K mg "fleet_least" s_fleet_least) (T : Bt mg) (O_least_in : Ok P w K mg base k "least_in" s_least_in ["fleet", "lot"] (spLeastIn K)) (O_lot_of : Ok P w K mg base k "lot_of" s_lot_of ["fleet"] (spLotOf K)) : Ok P w K mg base (k + 1) "fleet_least" s_fleet_least ["fleet"] (spFleetLeast K) := by
  refine D.ok sc_fleet_least b_fleet_least (fun vs H Q E h => ?_) (fun f cdv A outer s H vs Q E hr h => ?_)
  · obtain ⟨v, h, t, ss, rfl, _⟩ := h
    rfl
  · obtain ⟨v, h, t, ss, rfl, hv, l1, k⟩ := h
    refine ⟨_, (pss_one (ps_ret (pe_fn O_least_in (hr.mono (by omega)) (pa_cons (pv 0) (pa_cons (pe_fn O_lot_of (hr.mono (by omega)) (pa_cons (pv 0) pa_nil)) pa_nil))))), ?_⟩
    refine ⟨_, rfl, _, rfl, v, h, t, ss, rfl, hv, l1, fun H1 p kd s s1 np hp L => ?_⟩
    exact ⟨v, .ref p, h, t, s, ss, kd, rfl, hv.same s1, l1, ⟨p, rfl, SqA.t hp⟩, fun e H2 s2 => k H2 _ (s1.trans s2) ⟨kd, s, L, .inl ⟨e, rfl⟩⟩, fun e H2 m s2 lm => k H2 _ (s1.trans s2) ⟨kd, s, L, .inr ⟨e, lm⟩⟩⟩
end
end Sh

namespace Sh
open PySem PySem.Spec PyProof.Rows L2
/-! ### the program: fleets -/
def MoversF (h t : Int) (ss : List Srt) (ms : List Int) : Prop := ∃ kd s, LotF h t ss kd s ∧
  (((nextS kd s < 0 ∨ (mny ss : Int) ≤ nextS kd s) ∧ ms = []) ∨ (0 ≤ nextS kd s ∧ nextS kd s < (mny ss : Int) ∧ ms = (ss.filter fun x => decide (x.1 ≤ mk h t (mny ss) (nextS kd s)) && decide (0 < x.2.1 + x.2.2)).map fun x => x.1))
def ComesF (h t : Int) (ss ss' : List Srt) (b : Bool) : Prop := ∃ kd s kd' s', LotF h t ss kd s ∧ LotF h t ss' kd' s' ∧ (b = true ↔ (kd = kd' ∧ s = s') ∧ fxF ss (mk h t (mny ss) s) = fxF ss' (mk h t (mny ss') s))
def spFleetMovers (K : PySem.W.Frag) : Sp := fun vs H Q _ => ∃ (v : V) (h t : Int) (ss : List Srt), vs = [v] ∧ FltA K H v h t ss ∧ ss.length ≤ 1000 ∧ ∀ (H' : Hp) (p : Addr) (ms : List Int), Same H H' → H p = none → H' p = some (.lst (ms.map V.int)) → MoversF h t ss ms → Q (.ref p) H'
def spFleetComes (K : PySem.W.Frag) : Sp := fun vs H Q _ => ∃ (v v' : V) (h t : Int) (ss ss' : List Srt), vs = [v, v'] ∧ FltA K H v h t ss ∧ FltA K H v' h t ss' ∧ ss.length ≤ 1000 ∧ ss'.length ≤ 1000 ∧ ∀ (H' : Hp) (b : Bool), Same H H' → ComesF h t ss ss' b → Q (.bl b) H'
abbrev s_fleet_movers : Stmt := topS 24
theorem sc_fleet_movers : FnScope (["fleet", "mark", "draught", "ours", "theirs"] : List Str) (["fleet"] : List Str) (defScope s_fleet_movers) := ⟨rfl, rfl, rfl, by decide +kernel, rfl, by decide +kernel, by decide +kernel⟩
theorem b_fleet_movers (kV doc pm : Value) (an : Option Addr) (cdv ct : Value) (us : List Value) (hl : us.length = (["fleet"] : List Str).length) : bindArgs (PySem.W.fnOf "fleet_movers" "fleet_movers" (defArgs s_fleet_movers) (defBody s_fleet_movers) (defScope s_fleet_movers) .none kV doc pm an cdv ct) ⟨us, []⟩ = pure ((["fleet"] : List Str).zip us) :=
  match us, hl with | [_], _ => rfl
abbrev s_fleet_comes : Stmt := topS 25
theorem sc_fleet_comes : FnScope (["one", "other", "lot"] : List Str) (["one", "other"] : List Str) (defScope s_fleet_comes) := ⟨rfl, rfl, rfl, by decide +kernel, rfl, by decide +kernel, by decide +kernel⟩
theorem b_fleet_comes (kV doc pm : Value) (an : Option Addr) (cdv ct : Value) (us : List Value) (hl : us.length = (["one", "other"] : List Str).length) : bindArgs (PySem.W.fnOf "fleet_comes" "fleet_comes" (defArgs s_fleet_comes) (defBody s_fleet_comes) (defScope s_fleet_comes) .none kV doc pm an cdv ct) ⟨us, []⟩ = pure ((["one", "other"] : List Str).zip us) :=
  match us, hl with | [_, _], _ => rfl
section
variable {P : Program} {w : World} {K : PySem.W.Frag} {mg : Str → Option Value} {base : Heap}
theorem ok_fleet_movers {k : Nat} (D : Df K mg "fleet_movers" s_fleet_movers) (T : Bt mg) (O_moving_mark : Ok P w K mg base k "moving_mark" s_moving_mark ["fleet", "lot"] (spMoving K)) (O_lot_of : Ok P w K mg base k "lot_of" s_lot_of ["fleet"] (spLotOf K)) : Ok P w K mg base (k + 1) "fleet_movers" s_fleet_movers ["fleet"] (spFleetMovers K) := by
  refine D.ok sc_fleet_movers b_fleet_movers (fun vs H Q E h => ?_) (fun f cdv A outer s H vs Q E hr h => ?_)
  · obtain ⟨v, h, t, ss, rfl, _⟩ := h
    rfl
  · obtain ⟨v, h, t, ss, rfl, hv, l1, k⟩ := h
    refine ⟨_, (pss_cons (ps_set (i := 1) sc_fleet_movers.nd rfl (.inr rfl) (pe_fn O_moving_mark (hr.mono (by omega)) (pa_cons (pv 0) (pa_cons (pe_fn O_lot_of (hr.mono (by omega)) (pa_cons (pv 0) pa_nil)) pa_nil))))
      (pss_cons (ps_if (pt_cmpR op_isN (pv 1) pe_non (nomark _))
        (pss_one (ps_ret (pe_lst pa_nil)))
        pss_nil)
      (pss_one (ps_ret (pe_lc (own := [("draught", 2), ("ours", 3), ("theirs", 4)]) (g := (gSeq K 3 (gCons (gName 2) (gCons (gName 3) (gCons (gName 4) gNil))))) (by rfl) sc_fleet_movers.nd (pi_seq (pe_ix ix_lt (pv 0) pe_int (fun _ _ => rfl))) (blkOk_by (own := [("draught", 2), ("ours", 3), ("theirs", 4)]) (N := (["fleet", "mark", "draught", "ours", "theirs"] : List Str)) (sc := defScope s_fleet_movers) (by decide +kernel)) (fun _ _ _ _ _ => (pg_seq rfl (pgs_cons (pg_name (i := 2) sc_fleet_movers.nd rfl (.inl rfl)) (pgs_cons (pg_name (i := 3) sc_fleet_movers.nd rfl (.inl rfl)) (pgs_cons (pg_name (i := 4) sc_fleet_movers.nd rfl (.inl rfl)) pgs_nil))))) (fun _ _ _ _ _ => (pts_one (PW.pt (pw_and (pt_cmpR op_le (pv 2) (pv 1) (nomark _)) (pw_and1 (pt_cmpR op_gt (pe_op op_add (pv 3) (pv 4)) pe_int (nomark _))))))) (fun _ _ _ _ _ => (pv 2))))))), ?_⟩
    refine ⟨_, rfl, _, rfl, v, h, t, ss, rfl, hv, l1, fun H2 pp kd s s2 np hp lf => ?_⟩
    refine ⟨v, .ref pp, h, t, s, ss, kd, rfl, hv.same s2, l1, ⟨pp, rfl, SqA.t hp⟩, fun no H3 s3 => ?_, fun n0 n1 H3 s3 => ?_⟩
    · refine ⟨_, rfl, rfl, _, rfl, iteT ⟨Nat.zero_le _, fun a na => ?_⟩⟩
      have s03 := s2.trans s3
      exact k _ a [] (s03.trans (same_new na)) (s03.free na) upd_same ⟨kd, s, lf, .inl ⟨no, rfl⟩⟩
    · have s03 := s2.trans s3
      refine ⟨_, rfl, rfl, _, rfl, iteF ?_⟩
      obtain ⟨p, q, rs, rfl, hpp, hq, hs⟩ := hv.same s03
      have km : ∀ (H' : Hp) (p : Addr), Same H H' → H p = none → H' p = some (.lst (((ss.filter fun x => decide (x.1 ≤ mk h t (mny ss) (nextS kd s)) && decide (0 < x.2.1 + x.2.2)).map fun x => x.1).map V.int)) → Q (.ref p) H' := fun H' p a b c => k H' p _ a b c ⟨kd, s, lf, .inr ⟨n0, n1, rfl⟩⟩
      generalize mk h t (mny ss) (nextS kd s) = m at km
      refine ⟨_, rfl, p, _, 2, .ref q, rfl, rfl, hpp, rfl, q, _, H3, rfl, hq, Kp.refl _ _, fun J hJ C nC => ?_⟩
      obtain ⟨G, g, W⟩ := hJ.walk
      refine lc_it W (fun i H' => Same H3 H' ∧ H' C = some (.lst ((((ss.take i).filter fun x => decide (x.1 ≤ m) && decide (0 < x.2.1 + x.2.2)).map fun x => x.1).map V.int))) ⟨same_new nC, upd_same⟩ (fun i H' _ z => g H' (.ofS z.1)) ?_ ?_
      · rintro i x H4 H5 _ ⟨sm, hC⟩ ⟨rfl, gx⟩
        obtain ⟨r, hi, rfl, hr1⟩ := srt_at (hs.same sm) gx
        refine ⟨r, _, rfl, hr1, rfl, _, _, rfl, _, _, rfl, _, _, rfl, rfl, rfl, ?_⟩
        refine ⟨_, rfl, _, rfl, ss[i].1, m, rfl, rfl, _, rfl, ite2 (fun c => ?_) (fun c => ?_)⟩
        · refine ⟨_, rfl, _, rfl, (ss[i].2.1 : Int), (ss[i].2.2 : Int), rfl, rfl, _, 0, rfl, rfl, _, rfl, ite2 (fun c2 => ?_) (fun c2 => ?_)⟩
          · have c3 : 0 < ss[i].2.1 + ss[i].2.2 := by have z := of_decide_eq_true c2; omega
            refine ⟨_, rfl, _, hC, ?_, same_over sm nC, ?_⟩
            · rw [List.length_map, List.length_map]
              exact Nat.lt_of_lt_of_le (tf_le hi) (Nat.le_trans l1 (by decide))
            · rw [upd_same, tfm _ _ hi, if_pos (by rw [c, decide_eq_true c3]; rfl), List.map_append]
              rfl
          · have c3 : ¬ 0 < ss[i].2.1 + ss[i].2.2 := fun z => c2 (decide_eq_true (by show (0 : Int) < _; omega))
            refine ⟨sm, ?_⟩
            rw [hC, tfm _ _ hi, if_neg (by rw [decide_eq_false c3, Bool.and_false]; exact Bool.false_ne_true), List.append_nil]
        · refine ⟨sm, ?_⟩
          have c' : decide (ss[i].1 ≤ m) = false := by simpa using c
          rw [hC, tfm _ _ hi, if_neg (by rw [c', Bool.false_and]; exact Bool.false_ne_true), List.append_nil]
      · rintro H4 ⟨sm, hC⟩
        rw [List.length_map, hs.1, List.take_length] at hC
        exact km H4 C (s03.trans sm) (s03.free nC) hC
theorem ok_fleet_comes {k : Nat} (D : Df K mg "fleet_comes" s_fleet_comes) (T : Bt mg) (O_lot_of : Ok P w K mg base k "lot_of" s_lot_of ["fleet"] (spLotOf K)) (O_fixed_ones : Ok P w K mg base k "fixed_ones" s_fixed_ones ["fleet", "lot"] (spFixed K)) : Ok P w K mg base (k + 1) "fleet_comes" s_fleet_comes ["one", "other"] (spFleetComes K) := by
  refine D.ok sc_fleet_comes b_fleet_comes (fun vs H Q E h => ?_) (fun f cdv A outer s H vs Q E hr h => ?_)
  · obtain ⟨v, v', h, t, ss, ss', rfl, _⟩ := h
    rfl
  · obtain ⟨v, v', h, t, ss, ss', rfl, hv, hv', l1, l1', k⟩ := h
    refine ⟨_, (pss_cons (ps_set (i := 2) sc_fleet_comes.nd rfl (.inl rfl) (pe_fn O_lot_of (hr.mono (by omega)) (pa_cons (pv 0) pa_nil)))
      (pss_cons (ps_if (pt_cmpR (op_neD hr.units) (pe_fn O_lot_of (hr.mono (by omega)) (pa_cons (pv 1) pa_nil)) (pv 2) (nomark _))
        (pss_one (ps_ret pe_bl))
        pss_nil)
      (pss_one (ps_ret (pe_cmpR (op_eqD hr.units) (pe_fn O_fixed_ones (hr.mono (by omega)) (pa_cons (pv 0) (pa_cons (pv 2) pa_nil))) (pe_fn O_fixed_ones (hr.mono (by omega)) (pa_cons (pv 1) (pa_cons (pv 2) pa_nil))) (nomark _)))))), ?_⟩
    refine ⟨_, rfl, v, h, t, ss, rfl, hv, l1, fun H2 p kd s s2 np hp lf => ?_⟩
    refine ⟨_, rfl, v', h, t, ss', rfl, hv'.same s2, l1', fun H4 p' kd' s' s4 np' hp' lf' => ?_⟩
    have s04 := s2.trans s4
    refine ⟨_, rfl, .tuple [.str kd'.str, .int s'], .tuple [.str kd.str, .int s], .tup (SqT.of hp') (.cons (.str _) (.cons (.int _) .nil)), .tup (SqT.of (s4 _ _ hp)) (.cons (.str _) (.cons (.int _) .nil)), shaped_lot _ _, shaped_lot _ _, _, rfl, ?_⟩
    rw [eqv_lot]
    by_cases e : kd = kd' ∧ s = s'
    · obtain ⟨e1, e2⟩ := e
      subst e1
      subst e2
      rw [decide_eq_true rfl, decide_eq_true rfl]
      refine iteF ?_
      refine ⟨_, rfl, _, rfl, v, .ref p, h, t, s, ss, kd, rfl, hv.same s04, l1, ⟨p, rfl, SqA.t (s4 _ _ hp)⟩, fun H5 a1 s5 na1 ha1 => ?_⟩
      have s05 := s04.trans s5
      refine ⟨_, rfl, _, rfl, v', .ref p, h, t, s, ss', kd, rfl, hv'.same s05, l1', ⟨p, rfl, SqA.t (s5 _ _ (s4 _ _ hp))⟩, fun H6 a2 s6 na2 ha2 => ?_⟩
      refine ⟨_, _, .lst (SqL.of (s6 _ _ ha1)) (DpAll.ints _), .lst (SqL.of ha2) (DpAll.ints _), shaped_ints _, shaped_ints _, ?_⟩
      rw [eqv_ints]
      refine k H6 _ (s05.trans s6) ⟨kd, s, kd, s, lf, lf', ?_⟩
      rw [decide_eq_true_eq]
      constructor
      · intro q
        refine ⟨⟨rfl, rfl⟩, ?_⟩
        have e2 := congrArg (List.map Int.toNat) q
        rw [List.map_map, List.map_map] at e2
        have e3 : (Int.toNat ∘ fun (i : Nat) => (i : Int)) = id := by
          funext i
          exact Int.toNat_natCast i
        rw [e3, List.map_id, List.map_id] at e2
        exact e2
      · rintro ⟨_, q⟩
        rw [q]
    · have no : (decide (kd'.str = kd.str) && decide (s' = s)) = false := by
        rw [Bool.and_eq_false_iff, decide_eq_false_iff_not, decide_eq_false_iff_not]
        by_cases e1 : kd'.str = kd.str
        · exact .inr fun e2 => e ⟨(Kd.str_inj e1).symm, e2.symm⟩
        · exact .inl e1
      rw [no]
      refine iteT (k H4 false s04 ⟨kd, s, kd', s', lf, lf', ?_⟩)
      exact ⟨fun z => (by cases z), fun z => absurd z.1 e⟩
end
/-! ### every fleet has its ships one by one -/
end Sh
namespace Th
theorem cnt_add (a b : Nat) (f : Nat → Bool) : cnt (a + b) f = cnt a f + cnt b (fun i => f (a + i)) := by
  induction b with
  | zero => rfl
  | succ b ih =>
    rw [← Nat.add_assoc, cnt_succ, ih, cnt_succ]
    omega
theorem cnt_const (n : Nat) (b : Bool) : cnt n (fun _ => b) = if b = true then n else 0 := by
  induction n with
  | zero => cases b <;> rfl
  | succ n ih =>
    rw [cnt_succ, ih]
    cases b <;> simp
end Th
namespace Sh
theorem le_sum : ∀ {l : List Nat} {a : Nat}, a ∈ l → a ≤ l.sum
  | b :: l, a, h => by
    rw [List.sum_cons]
    rcases List.mem_cons.mp h with e | e
    · omega
    · have := le_sum e
      omega
theorem filter_one : ∀ {l : List Srt} {x : Srt}, (l.map fun x => x.1).Nodup → x ∈ l → l.filter (fun y => decide (y.1 = x.1)) = [x]
  | a :: l, x, nd, h => by
    rw [List.map_cons] at nd
    obtain ⟨n1, n2⟩ := List.nodup_cons.mp nd
    rcases List.mem_cons.mp h with e | e
    · subst e
      rw [List.filter_cons_of_pos (by simp)]
      have : l.filter (fun y => decide (y.1 = x.1)) = [] := by
        rw [List.filter_eq_nil_iff]
        intro y hy q
        exact n1 (List.mem_map.mpr ⟨y, hy, of_decide_eq_true q⟩)
      rw [this]
    · have ne : ¬ a.1 = x.1 := fun q => n1 (List.mem_map.mpr ⟨x, e, q.symm⟩)
      rw [List.filter_cons_of_neg (by simpa using ne)]
      exact filter_one n2 e
theorem rp_ex : ∀ ss : List Srt, ∃ (D : Nat → Int) (S : Nat → Bool), Rp ss (mny ss) D S
  | [] => ⟨fun _ => 0, fun _ => false, ⟨fun _ => rfl, fun _ => rfl⟩⟩
  | x :: ss => by
    obtain ⟨D, S, r⟩ := rp_ex ss
    have em : mny (x :: ss) = mny ss + (x.2.1 + x.2.2) := by
      unfold mny
      rw [List.map_cons, List.sum_cons]
      omega
    refine ⟨fun i => if i < mny ss then D i else x.1, fun i => if i < mny ss then S i else decide (i < mny ss + x.2.1), ?_⟩
    have key : ∀ (P : Int → Bool) (b : Bool), Th.cnt (mny (x :: ss)) (fun i => P (if i < mny ss then D i else x.1) && ((if i < mny ss then S i else decide (i < mny ss + x.2.1)) == b)) = Th.cnt (mny ss) (fun i => P (D i) && (S i == b)) + if P x.1 = true then (if b = true then x.2.1 else x.2.2) else 0 := fun P b => by
      rw [em, Th.cnt_add]
      congr 1
      · refine Th.cnt_congr fun i hi => ?_
        rw [if_pos hi, if_pos hi]
      · rw [Th.cnt_add]
        have e1 : Th.cnt x.2.1 (fun i => P (if mny ss + i < mny ss then D (mny ss + i) else x.1) && ((if mny ss + i < mny ss then S (mny ss + i) else decide (mny ss + i < mny ss + x.2.1)) == b)) = Th.cnt x.2.1 (fun _ => P x.1 && b) := Th.cnt_congr fun i hi => by
          rw [if_neg (by omega), if_neg (by omega), decide_eq_true (by omega)]
          cases b <;> rfl
        have e2 : Th.cnt x.2.2 (fun i => P (if mny ss + (x.2.1 + i) < mny ss then D (mny ss + (x.2.1 + i)) else x.1) && ((if mny ss + (x.2.1 + i) < mny ss then S (mny ss + (x.2.1 + i)) else decide (mny ss + (x.2.1 + i) < mny ss + x.2.1)) == b)) = Th.cnt x.2.2 (fun _ => P x.1 && !b) := Th.cnt_congr fun i hi => by
          rw [if_neg (by omega), if_neg (by omega), decide_eq_false (by omega)]
          cases b <;> rfl
        rw [e1, e2, Th.cnt_const, Th.cnt_const]
        cases P x.1 <;> cases b <;> simp
    refine ⟨fun P => ?_, fun P => ?_⟩
    · have k := key P true
      have e : ∀ (f g : Nat → Bool), (fun i => f i && (g i == true)) = (fun i => f i && g i) := fun f g => by
        funext i
        cases g i <;> rfl
      rw [e (fun i => P (if i < mny ss then D i else x.1)), e (fun i => P (D i)) S, ← r.here P] at k
      rw [k]
      by_cases c : P x.1 = true
      · rw [List.filter_cons_of_pos (p := fun x : Srt => P x.1) c, List.map_cons, List.sum_cons, if_pos c]
        show x.2.1 + _ = _ + x.2.1
        omega
      · rw [List.filter_cons_of_neg (p := fun x : Srt => P x.1) c, if_neg c]
        rfl
    · have k := key P false
      have e : ∀ (f g : Nat → Bool), (fun i => f i && (g i == false)) = (fun i => f i && !g i) := fun f g => by
        funext i
        cases g i <;> rfl
      rw [e (fun i => P (if i < mny ss then D i else x.1)), e (fun i => P (D i)) S, ← r.there P] at k
      rw [k]
      by_cases c : P x.1 = true
      · rw [List.filter_cons_of_pos (p := fun x : Srt => P x.1) c, List.map_cons, List.sum_cons, if_pos c]
        show x.2.2 + _ = _ + x.2.2
        omega
      · rw [List.filter_cons_of_neg (p := fun x : Srt => P x.1) c, if_neg c]
        rfl
section
variable {ss : List Srt} {h t : Int} {D : Nat → Int} {S : Nat → Bool}
theorem MaxF.ships {m : Int} (r : Rp ss (mny ss) D S) (k0 : 0 < mny ss) (q : MaxF h t ss m) : ∃ n : Nat, m = (n : Int) ∧ Th.IsMax (mny ss) (Gd h t (mny ss) D) S n := by
  obtain ⟨kd, s, lf, hm⟩ := q
  exact (lf.ships r k0).max r k0 hm
theorem MinF.ships {m : Int} (r : Rp ss (mny ss) D S) (k0 : 0 < mny ss) (q : MinF h t ss m) : ∃ n : Nat, m = (n : Int) ∧ Th.IsMin (mny ss) (Gd h t (mny ss) D) S n := by
  obtain ⟨kd, s, lf, hm⟩ := q
  exact (lf.ships r k0).min r k0 hm
theorem max_uniq {m m' : Int} (k0 : 0 < mny ss) (a : MaxF h t ss m) (b : MaxF h t ss m') : m = m' := by
  obtain ⟨D, S, r⟩ := rp_ex ss
  obtain ⟨n, rfl, ⟨U, rU, cU⟩, hU⟩ := a.ships r k0
  obtain ⟨n', rfl, ⟨U', rU', cU'⟩, hU'⟩ := b.ships r k0
  have := hU U' rU'
  have := hU' U rU
  omega
theorem min_uniq {m m' : Int} (k0 : 0 < mny ss) (a : MinF h t ss m) (b : MinF h t ss m') : m = m' := by
  obtain ⟨D, S, r⟩ := rp_ex ss
  obtain ⟨n, rfl, ⟨U, rU, cU⟩, hU⟩ := a.ships r k0
  obtain ⟨n', rfl, ⟨U', rU', cU'⟩, hU'⟩ := b.ships r k0
  have := hU U' rU'
  have := hU' U rU
  omega
/-- turned about: all less the least, all less the most -/
theorem max_turn {m m' : Int} (k0 : 0 < mny ss) (a : MaxF t h (turnF ss) m) (b : MinF h t ss m') : m = (mny ss : Int) - m' := by
  obtain ⟨D, S, r⟩ := rp_ex ss
  have r' := r.turn
  have km := mny_turn ss
  rw [← km] at r'
  obtain ⟨n, rfl, ⟨U, rU, cU⟩, hU⟩ := a.ships r' (by omega)
  obtain ⟨n', rfl, ⟨U', rU', cU'⟩, hU'⟩ := b.ships r k0
  rw [km] at rU cU hU
  have gt : ∀ s i, s < mny ss → Gd t h (mny ss) D s i = Th.dual (mny ss) (Gd h t (mny ss) D) s i := fun s i hs => Gd_turn hs
  have r1 : Th.Reach (mny ss) (Gd h t (mny ss) D) S (Th.co U) := by
    refine Th.Reach.codual ?_
    rw [Th.co_co]
    exact rU.congr gt
  have r2 := rU'.dual.congr (G' := Gd t h (mny ss) D) fun s i hs => (gt s i hs).symm
  have := hU _ r2
  have := hU' _ r1
  have := Th.cnt_co (mny ss) U
  have := Th.cnt_co (mny ss) U'
  omega
theorem min_turn {m m' : Int} (k0 : 0 < mny ss) (a : MinF t h (turnF ss) m) (b : MaxF h t ss m') : m = (mny ss : Int) - m' := by
  have km := mny_turn ss
  have b' : MaxF h t (turnF (turnF ss)) m' := by rw [turn_turn]; exact b
  have := max_turn (ss := turnF ss) (h := t) (t := h) (by omega) b' a
  omega
/-- who moves, by ships -/
theorem movers_ships {ms : List Int} (r : Rp ss (mny ss) D S) (k0 : 0 < mny ss) (up : (ss.map fun x => x.1).Nodup) (q : MoversF h t ss ms) : ms.Sublist (ss.map fun x => x.1) ∧ ∀ x ∈ ss, x.1 ∈ ms ↔ ∃ i, i < mny ss ∧ D i = x.1 ∧ Th.Moves (mny ss) (Gd h t (mny ss) D) S i := by
  obtain ⟨kd, s, lf, q⟩ := q
  have ls := lf.ships r k0
  rcases q with ⟨no, rfl⟩ | ⟨n0, n1, rfl⟩
  · refine ⟨List.nil_sublist _, fun x hx => ⟨fun z => (by cases z), fun ⟨i, hi, _, m⟩ => ?_⟩⟩
    have := (ls.moves k0 hi).mp m
    omega
  · refine ⟨(List.filter_sublist).map _, fun x hx => ?_⟩
    rw [List.mem_map]
    constructor
    · rintro ⟨y, hy, e⟩
      obtain ⟨hy1, hy2⟩ := List.mem_filter.mp hy
      rw [Bool.and_eq_true, decide_eq_true_eq, decide_eq_true_eq] at hy2
      have c1 := r.here fun d => decide (d = y.1)
      have c2 := r.there fun d => decide (d = y.1)
      have m1 : y.2.1 ≤ ((ss.filter fun x => decide (x.1 = y.1)).map fun x => x.2.1).sum := le_sum (List.mem_map.mpr ⟨y, List.mem_filter.mpr ⟨hy1, decide_eq_true rfl⟩, rfl⟩)
      have m2 : y.2.2 ≤ ((ss.filter fun x => decide (x.1 = y.1)).map fun x => x.2.2).sum := le_sum (List.mem_map.mpr ⟨y, List.mem_filter.mpr ⟨hy1, decide_eq_true rfl⟩, rfl⟩)
      have c3 := Th.cnt_split (k := mny ss) (fun i => decide (D i = y.1)) S
      obtain ⟨i, hi, hd⟩ := Th.cnt_pos_ex (k := mny ss) (S := fun i => decide (D i = y.1)) (by omega)
      have hd' : D i = y.1 := of_decide_eq_true hd
      exact ⟨i, hi, by rw [hd', e], (ls.moves k0 hi).mpr ⟨n0, n1, by rw [hd']; exact hy2.1⟩⟩
    · rintro ⟨i, hi, e, m⟩
      have q := (ls.moves k0 hi).mp m
      refine ⟨x, List.mem_filter.mpr ⟨hx, ?_⟩, rfl⟩
      rw [Bool.and_eq_true, decide_eq_true_eq, decide_eq_true_eq]
      refine ⟨by rw [← e]; exact q.2.2, ?_⟩
      -- the one sort of that draught has a ship
      have one : ss.filter (fun y => decide (y.1 = x.1)) = [x] := filter_one up hx
      have c1 := r.here fun d => decide (d = x.1)
      have c2 := r.there fun d => decide (d = x.1)
      rw [one] at c1 c2
      have c3 := Th.cnt_split (k := mny ss) (fun i => decide (D i = x.1)) S
      have c4 := Th.cnt_pos (k := mny ss) (S := fun i => decide (D i = x.1)) hi (decide_eq_true e)
      have c1' : x.2.1 + 0 = Th.cnt (mny ss) (fun i => decide (D i = x.1) && S i) := c1
      have c2' : x.2.2 + 0 = Th.cnt (mny ss) (fun i => decide (D i = x.1) && !S i) := c2
      omega
end
end Sh

namespace Sh
open PySem PySem.Spec PyProof.Rows L2
/-- a fleet of tuples that stand -/
def FltT (H : Hp) (p : Addr) (h t : Int) (ss : List Srt) : Prop := ∃ (q : Addr) (rs : List Addr), H p = some (.tup [.int h, .int t, .ref q]) ∧ H q = some (.tup (rs.map V.ref)) ∧ SrtsN H rs ss
theorem FltT.a {K : PySem.W.Frag} {H : Hp} {p : Addr} {h t : Int} {ss : List Srt} (f : FltT H p h t ss) : FltA K H (.ref p) h t ss := let ⟨q, rs, a, b, c⟩ := f; ⟨p, q, rs, rfl, SqA.t a, SqA.t b, c.a⟩
theorem FltT.same {H H' : Hp} {p : Addr} {h t : Int} {ss : List Srt} (f : FltT H p h t ss) (e : Same H H') : FltT H' p h t ss := let ⟨q, rs, a, b, c⟩ := f; ⟨q, rs, e _ _ a, e _ _ b, c.same e⟩
theorem FltT.but {H H' : Hp} {b p : Addr} {n : Nat} {h t : Int} {ss : List Srt} (f : FltT H p h t ss) (x : BoxAt H b n) (u : But b H H') : FltT H' p h t ss := by
  obtain ⟨q, rs, a, c, d⟩ := f
  obtain ⟨xs, hb, _⟩ := x
  have ne : ∀ {z : Addr} {l : List V}, H z = some (.tup l) → z ≠ b := fun e => ne_of e hb (by intro w; cases w)
  exact ⟨q, rs, u _ _ (ne a) a, u _ _ (ne c) c, d.1, fun i r y e1 e2 => u _ _ (ne (d.2 i r y e1 e2)) (d.2 i r y e1 e2)⟩
end Sh

namespace Sh
open PySem PySem.Spec PyProof.Rows L2
/-! ### drawn numbers of fleets -/
theorem nodup_le : ∀ {ks ns : List Int}, ks.Nodup → (∀ k ∈ ks, k ∈ ns) → ks.length ≤ ns.length
  | [], _, _, _ => Nat.zero_le _
  | k :: ks, ns, nd, h => by
    have hk := h k (by simp)
    rw [List.nodup_cons] at nd
    have ih := nodup_le (ns := ns.erase k) nd.2 (fun x hx => by
      have ne : x ≠ k := fun z => nd.1 (z ▸ hx)
      exact (List.mem_erase_of_ne ne).mpr (h x (by simp [hx])))
    rw [List.length_erase_of_mem hk] at ih
    have := List.length_pos_of_mem hk
    rw [List.length_cons]
    omega
theorem get_app {α : Type} {xs : List α} {x y : α} {i : Nat} (h : (xs ++ [x])[i]? = some y) : xs[i]? = some y ∨ (i = xs.length ∧ y = x) := by
  by_cases c : i < xs.length
  · rw [List.getElem?_append_left c] at h
    exact .inl h
  · rw [List.getElem?_append_right (by omega)] at h
    cases e : i - xs.length with
    | zero =>
      rw [e] at h
      exact .inr ⟨by omega, by simpa using h.symm⟩
    | succ m =>
      rw [e] at h
      simp at h
theorem get_lt {α : Type} {xs : List α} {x : α} {i : Nat} (h : xs[i]? = some x) : i < xs.length := (List.getElem?_eq_some_iff.mp h).1
/-- the drawn numbers: lists of two, in a list -/
structure Nums (b L : Addr) (H H' : Hp) (rs : List Addr) (ps : List (Nat × Nat)) : Prop where
  bt : But b H H'
  at_ : H' L = some (.lst (rs.map V.ref))
  len : rs.length = ps.length
  inj : ∀ (i j : Nat) (r : Addr), rs[i]? = some r → rs[j]? = some r → i = j
  got : ∀ (i : Nat) (r : Addr) (p : Nat × Nat), rs[i]? = some r → ps[i]? = some p → H' r = some (.lst [.int (p.1 : Int), .int (p.2 : Int)])
  new : ∀ r ∈ rs, r ≠ b ∧ r ≠ L ∧ H r = none
theorem Nums.but {b L : Addr} {H H' H'' : Hp} {rs : List Addr} {ps : List (Nat × Nat)} (N : Nums b L H H' rs ps) (lb : L ≠ b) (u : But b H' H'') : Nums b L H H'' rs ps :=
  ⟨N.bt.trans u, u _ _ lb N.at_, N.len, N.inj, fun i r p a c => u _ _ (N.new r (List.mem_of_getElem? a)).1 (N.got i r p a c), N.new⟩
theorem Nums.push {b L C : Addr} {H H1 H2 : Hp} {rs : List Addr} {ps : List (Nat × Nat)} {x y : Nat} (N : Nums b L H H1 rs ps) (lb : L ≠ b) (nL : H L = none) (u : But b H1 H2) (nC : H1 C = none) (cb : C ≠ b) (hC : H2 C = some (.lst [.int (x : Int), .int (y : Int)])) :
    Nums b L H (upd H2 L (.lst (rs.map V.ref ++ [.ref C]))) (rs ++ [C]) (ps ++ [(x, y)]) := by
  have M := N.but lb u
  have cL : C ≠ L := fun z => by rw [z, N.at_] at nC; cases nC
  have hr : ∀ r ∈ rs, r ≠ C := fun r hr z => by
    obtain ⟨i, hi⟩ := List.getElem?_of_mem hr
    have hi' : i < ps.length := by rw [← N.len]; exact get_lt hi
    have := N.got i r _ hi (List.getElem?_eq_getElem hi')
    rw [z, nC] at this
    cases this
  refine ⟨M.bt.put nL, by rw [upd_same, List.map_append]; rfl, by simp [N.len], fun i j r hi hj => ?_, fun i r p hi hp => ?_, fun r hm => ?_⟩
  · rcases get_app hi with a | ⟨a, rfl⟩
    · rcases get_app hj with c | ⟨c, rfl⟩
      · exact N.inj i j r a c
      · exact absurd rfl (hr _ (List.mem_of_getElem? a))
    · rcases get_app hj with c | ⟨c, _⟩
      · exact absurd rfl (hr _ (List.mem_of_getElem? c))
      · rw [a, c]
  · rcases get_app hi with a | ⟨a, rfl⟩
    · rcases get_app hp with c | ⟨c, rfl⟩
      · rw [upd_ne (N.new r (List.mem_of_getElem? a)).2.1]
        exact M.got i r p a c
      · have := get_lt a
        have := N.len
        omega
    · rcases get_app hp with c | ⟨c, rfl⟩
      · have := get_lt c
        have := N.len
        omega
      · rw [upd_ne cL]
        exact hC
  · rcases List.mem_append.mp hm with a | a
    · exact N.new r a
    · obtain rfl : r = C := by simpa using a
      exact ⟨cb, cL, N.bt.free cb nC⟩
theorem Nums.first {b L r : Addr} {H H' : Hp} {rs : List Addr} {ps : List (Nat × Nat)} {x y : Nat} (N : Nums b L H H' (r :: rs) ((x, y) :: ps)) : Nums b L H (upd H' r (.lst [.int ((x : Int) + 1), .int (y : Int)])) (r :: rs) ((x + 1, y) :: ps) := by
  obtain ⟨n1, n2, n3⟩ := N.new r (by simp)
  refine ⟨N.bt.put n3, by rw [upd_ne n2.symm]; exact N.at_, N.len, N.inj, fun i r' p hi hp => ?_, N.new⟩
  cases i with
  | zero =>
    obtain rfl : r = r' := by simpa using hi
    obtain rfl : (x + 1, y) = p := by simpa using hp
    rw [upd_same]
    rfl
  | succ i =>
    have ne : r' ≠ r := fun z => by
      have := N.inj (i + 1) 0 r' hi (by rw [z]; rfl)
      cases this
    rw [upd_ne ne]
    exact N.got (i + 1) r' p hi hp
theorem Nums.get {b L : Addr} {H H' : Hp} {rs : List Addr} {ps : List (Nat × Nat)} {i : Nat} {v : V} (N : Nums b L H H' rs ps) (h : (rs.map V.ref)[i]? = some v) : ∃ (r : Addr) (hi : i < ps.length), v = .ref r ∧ H' r = some (.lst [.int (ps[i].1 : Int), .int (ps[i].2 : Int)]) := by
  rw [List.getElem?_map] at h
  cases e : rs[i]? with
  | none =>
    rw [e] at h
    cases h
  | some r =>
    rw [e] at h
    have hi : i < ps.length := by rw [← N.len]; exact get_lt e
    exact ⟨r, hi, by simpa using h.symm, N.got i r _ e (List.getElem?_eq_getElem hi)⟩
def sm2 (p : Nat × Nat) : Int := ([(p.1 : Int), (p.2 : Int)] : List Int).sum
def whole2 (ps : List (Nat × Nat)) : Nat := (ps.map fun p => p.1 + p.2).sum
theorem sum_sm2 : ∀ ps : List (Nat × Nat), (ps.map sm2).sum = ((whole2 ps : Nat) : Int)
  | [] => rfl
  | p :: ps => by
    have ih := sum_sm2 ps
    unfold whole2 at ih ⊢
    rw [List.map_cons, List.map_cons, List.sum_cons, List.sum_cons, ih]
    have : sm2 p = (p.1 : Int) + (p.2 : Int) := by unfold sm2; simp
    rw [this]
    omega
theorem whole2_le {S : Nat} : ∀ {ps : List (Nat × Nat)}, (∀ p ∈ ps, p.1 ≤ S ∧ p.2 ≤ S) → whole2 ps ≤ ps.length * (2 * S)
  | [], _ => Nat.zero_le _
  | p :: ps, h => by
    have ih := whole2_le (ps := ps) fun q hq => h q (by simp [hq])
    have hp := h p (by simp)
    unfold whole2 at ih ⊢
    rw [List.map_cons, List.sum_cons, List.length_cons, Nat.succ_mul]
    omega
theorem mny_zip : ∀ (ds : List Int) (ps : List (Nat × Nat)), mny (ds.zip ps) ≤ whole2 ps
  | [], _ => Nat.zero_le _
  | _ :: _, [] => Nat.zero_le _
  | d :: ds, p :: ps => by
    have ih := mny_zip ds ps
    unfold mny whole2 at ih ⊢
    rw [List.zip_cons_cons, List.map_cons, List.map_cons, List.sum_cons, List.sum_cons]
    show p.1 + p.2 + _ ≤ _
    omega
theorem mny_zip0 {d : Int} {ds : List Int} {p : Nat × Nat} {ps : List (Nat × Nat)} (h : 0 < p.1) : 0 < mny ((d :: ds).zip (p :: ps)) := by
  unfold mny
  rw [List.zip_cons_cons, List.map_cons, List.sum_cons]
  show 0 < p.1 + p.2 + _
  omega
theorem tmG {α β : Type} (f : α → β) {xs : List α} {i : Nat} (hi : i < xs.length) : (xs.take (i + 1)).map f = (xs.take i).map f ++ [f xs[i]] := by rw [take_succ_get hi, List.map_append]; rfl
theorem cr_sumK {X : Cx} (K : PySem.W.Frag) (hc : X.calm = true) (hK : X.K = K := by rfl) : CallR X (.builtin "sum") (rSum K) := hK ▸ cr_sum hc
end Sh

namespace Sh
open PySem PySem.Spec PyProof.Rows L2
/-! ### a drawn fleet -/
structure FleetF (so mo : Nat) (fa h t : Int) (ss : List Srt) : Prop where
  l0 : 0 < ss.length
  l1 : ss.length ≤ so
  k0 : 0 < mny ss
  cnt : ∀ x ∈ ss, x.2.1 ≤ mo ∧ x.2.2 ≤ mo
  up : (ss.map fun x => x.1).Pairwise (· < ·)
  h0 : 0 ≤ h ∧ h ≤ fa + 100000
  t0 : 0 ≤ t ∧ t ≤ fa + 100000
  d0 : ∀ x ∈ ss, 0 ≤ x.1 ∧ x.1 ≤ fa + 100000
  hd : ∀ x xs, ss = x :: xs → 0 < x.2.1 + x.2.2
def spFleet : Sp := fun vs H Q _ => ∃ (b : Addr) (n so mo : Nat) (fa : Int), vs = [.ref b, .int (so : Int), .int (mo : Int), .int fa] ∧ 1 ≤ so ∧ so ≤ 7 ∧ 1 ≤ mo ∧ mo ≤ 100 ∧ 0 ≤ fa ∧ fa ≤ 1000000000000 ∧ BoxAt H b (n + 200) ∧
  ∀ (H' : Hp) (p : Addr) (h t : Int) (ss : List Srt), But b H H' → BoxAt H' b n → FltT H' p h t ss → FleetF so mo fa h t ss → Q (.ref p) H'
theorem fst_zip : ∀ {ds : List Int} {ps : List (Nat × Nat)}, ds.length ≤ ps.length → ((ds.zip ps).map fun x => x.1) = ds
  | [], _, _ => rfl
  | d :: ds, [], h => by simp at h
  | d :: ds, p :: ps, h => by
    rw [List.zip_cons_cons, List.map_cons, fst_zip (by simpa using h)]
theorem snd_zip {ds : List Int} {ps : List (Nat × Nat)} {x : Srt} (h : x ∈ ds.zip ps) : x.1 ∈ ds ∧ x.2 ∈ ps := by
  obtain ⟨d, p⟩ := x
  exact ⟨(List.of_mem_zip h).1, (List.of_mem_zip h).2⟩
theorem Nums.head {b L r : Addr} {H H' : Hp} {rs : List Addr} {ps : List (Nat × Nat)} {x y : Nat} (N : Nums b L H H' (r :: rs) ((x, y) :: ps)) (z : Nat) : Nums b L H (upd H' r (.lst [.int (z : Int), .int (y : Int)])) (r :: rs) ((z, y) :: ps) := by
  obtain ⟨n1, n2, n3⟩ := N.new r (by simp)
  refine ⟨N.bt.put n3, by rw [upd_ne n2.symm]; exact N.at_, N.len, N.inj, fun i r' p hi hp => ?_, N.new⟩
  cases i with
  | zero =>
    obtain rfl : r = r' := by simpa using hi
    obtain rfl : (z, y) = p := by simpa using hp
    rw [upd_same]
  | succ i =>
    have ne : r' ≠ r := fun z => by
      have := N.inj (i + 1) 0 r' hi (by rw [z]; rfl)
      cases this
    rw [upd_ne ne]
    exact N.got (i + 1) r' p hi hp
theorem mny_zip1 {d : Int} {ds : List Int} {p : Nat × Nat} {ps : List (Nat × Nat)} (h : 0 < p.1 + p.2) : 0 < mny ((d :: ds).zip (p :: ps)) := by
  unfold mny
  rw [List.zip_cons_cons, List.map_cons, List.sum_cons]
  show 0 < p.1 + p.2 + _
  omega
abbrev s__law_fleet : Stmt := topS 32
theorem sc__law_fleet : FnScope (["_law_box_here", "_law_sorts", "_law_most", "_law_far", "_law_numbers", "_law_whole", "_law_depths", "_law_wide", "_law_deeps", "_law_turn", "_law_pair", "_law_deep"] : List Str) (["_law_box_here", "_law_sorts", "_law_most", "_law_far"] : List Str) (defScope s__law_fleet) := ⟨rfl, rfl, rfl, by decide +kernel, rfl, by decide +kernel, by decide +kernel⟩
theorem b__law_fleet (kV doc pm : Value) (an : Option Addr) (cdv ct : Value) (us : List Value) (hl : us.length = (["_law_box_here", "_law_sorts", "_law_most", "_law_far"] : List Str).length) : bindArgs (PySem.W.fnOf "_law_fleet" "_law_fleet" (defArgs s__law_fleet) (defBody s__law_fleet) (defScope s__law_fleet) .none kV doc pm an cdv ct) ⟨us, []⟩ = pure ((["_law_box_here", "_law_sorts", "_law_most", "_law_far"] : List Str).zip us) :=
  match us, hl with | [_, _, _, _], _ => rfl
section
variable {P : Program} {w : World} {K : PySem.W.Frag} {mg : Str → Option Value} {base : Heap}
set_option maxHeartbeats 8000000 in
theorem ok_fleet {k : Nat} (D : Df K mg "_law_fleet" s__law_fleet) (T : Bt mg) (O__law_take : Ok P w K mg base k "_law_take" s__law_take ["_law_box_here", "_law_span"] spTake) (O__law_of : Ok P w K mg base k "_law_of" s__law_of ["_law_box_here", "_law_some"] (spOf K)) :
    Ok P w K mg base (k + 1) "_law_fleet" s__law_fleet ["_law_box_here", "_law_sorts", "_law_most", "_law_far"] spFleet := by
  refine D.ok sc__law_fleet b__law_fleet (fun vs H Q E h => ?_) (fun f cdv A outer s H vs Q E hr h => ?_)
  · obtain ⟨b, n, so, mo, fa, rfl, _⟩ := h
    rfl
  · obtain ⟨b, n, so, mo, fa, rfl, so0, so1, mo0, mo1, fa0, fa1, hb, q⟩ := h
    refine ⟨_, (pss_cons (ps_setLc (i := 4) (own := [("_law_turn", 9)]) (g := (gName 9)) (tt := tYes) (by rfl) sc__law_fleet.nd rfl rfl (sw_true rfl rfl rfl (by decide +kernel)) (pi_range1 (by rfl) T.range_ (pa_cons (pe_op op_add pe_int (pe_fn O__law_take (hr.mono (by omega)) (pa_cons (pv 0) (pa_cons (pv 1) pa_nil)))) pa_nil)) (blkOk_by (own := [("_law_turn", 9)]) (N := (["_law_box_here", "_law_sorts", "_law_most", "_law_far", "_law_numbers", "_law_whole", "_law_depths", "_law_wide", "_law_deeps", "_law_turn", "_law_pair", "_law_deep"] : List Str)) (sc := defScope s__law_fleet) (by decide +kernel)) (fun _ _ _ _ _ => (pg_name (i := 9) sc__law_fleet.nd rfl (.inl rfl))) (fun _ _ _ _ _ => pts_nil) (fun _ _ _ _ _ => (pe_lst (pa_cons (pe_fn O__law_take (hr.mono (by omega)) (pa_cons (pv 0) (pa_cons (pe_op op_add (pv 2) pe_int) pa_nil))) (pa_cons (pe_fn O__law_take (hr.mono (by omega)) (pa_cons (pv 0) (pa_cons (pe_op op_add (pv 2) pe_int) pa_nil))) pa_nil)))))
      (pss_cons (ps_asg (pe_callB (call_max2 rfl) (by rfl) T.max_ (by decide +kernel) (pa_cons (pe_ix ix_lt (pe_ix ix_lt (pv 4) pe_int (fun _ _ => rfl)) pe_int (fun _ _ => rfl)) (pa_cons (pe_callTy call_int1 (by rfl) T.int_ (by decide +kernel) (pa_cons (pe_cmpR op_eq (pe_ix ix_lt (pe_ix ix_lt (pv 4) pe_int (fun _ _ => rfl)) pe_int (fun _ _ => rfl)) pe_int (nomark _)) pa_nil)) pa_nil))) (pg_sub (pe_ix ix_lt (pv 4) pe_int (fun _ _ => rfl)) pe_int set_list))
      (pss_cons (ps_set (i := 5) sc__law_fleet.nd rfl (.inr rfl) (pe_callB (cr_sum rfl) (by rfl) T.sum_ (by decide +kernel) (pa_cons (pe_lc (own := [("_law_pair", 10)]) (g := (gName 10)) (tt := tYes) (by rfl) sc__law_fleet.nd (pi_seq (pv 4)) (blkOk_by (own := [("_law_pair", 10)]) (N := (["_law_box_here", "_law_sorts", "_law_most", "_law_far", "_law_numbers", "_law_whole", "_law_depths", "_law_wide", "_law_deeps", "_law_turn", "_law_pair", "_law_deep"] : List Str)) (sc := defScope s__law_fleet) (by decide +kernel)) (fun _ _ _ _ _ => (pg_name (i := 10) sc__law_fleet.nd rfl (.inl rfl))) (fun _ _ _ _ _ => pts_nil) (fun _ _ _ _ _ => (pe_callB (cr_sumK K rfl) (by rfl) T.sum_ (by decide +kernel) (pa_cons (pv 10) pa_nil)))) pa_nil)))
      (pss_cons (ps_setLc (i := 6) (own := [("_law_turn", 9)]) (g := (gName 9)) (tt := tYes) (by rfl) sc__law_fleet.nd rfl rfl (sw_true rfl rfl rfl (by decide +kernel)) (pi_range1 (by rfl) T.range_ (pa_cons pe_int pa_nil)) (blkOk_by (own := [("_law_turn", 9)]) (N := (["_law_box_here", "_law_sorts", "_law_most", "_law_far", "_law_numbers", "_law_whole", "_law_depths", "_law_wide", "_law_deeps", "_law_turn", "_law_pair", "_law_deep"] : List Str)) (sc := defScope s__law_fleet) (by decide +kernel)) (fun _ _ _ _ _ => (pg_name (i := 9) sc__law_fleet.nd rfl (.inl rfl))) (fun _ _ _ _ _ => pts_nil) (fun _ _ _ _ _ => (pe_op op_add (pv 3) (pe_op op_mul (pe_fn O__law_take (hr.mono (by omega)) (pa_cons (pv 0) (pa_cons (pe_op op_add (pv 5) pe_int) pa_nil))) (pe_fn O__law_take (hr.mono (by omega)) (pa_cons (pv 0) (pa_cons pe_int pa_nil)))))))
      (pss_cons (ps_set (i := 7) sc__law_fleet.nd rfl (.inr rfl) (pe_fn O__law_of (hr.mono (by omega)) (pa_cons (pv 0) (pa_cons (pe_lst (pa_cons pe_int (pa_cons (pe_op op_add (pv 5) pe_int) (pa_cons (pe_op op_add (pe_op op_mul pe_int (pv 5)) pe_int) pa_nil)))) pa_nil))))
      (pss_cons (ps_set (i := 8) sc__law_fleet.nd rfl (.inl rfl) (pe_callB (cr_sortedSetw w rfl) (by rfl) T.sorted_ (by decide +kernel) (pa_cons (pe_callTy (cr_setAw w rfl) (by rfl) T.set_ (by decide +kernel) (pa_cons (pe_lc (own := [("_law_pair", 10)]) (g := (gName 10)) (tt := tYes) (by rfl) sc__law_fleet.nd (pi_seq (pv 4)) (blkOk_by (own := [("_law_pair", 10)]) (N := (["_law_box_here", "_law_sorts", "_law_most", "_law_far", "_law_numbers", "_law_whole", "_law_depths", "_law_wide", "_law_deeps", "_law_turn", "_law_pair", "_law_deep"] : List Str)) (sc := defScope s__law_fleet) (by decide +kernel)) (fun _ _ _ _ _ => (pg_name (i := 10) sc__law_fleet.nd rfl (.inl rfl))) (fun _ _ _ _ _ => pts_nil) (fun _ _ _ _ _ => (pe_op op_add (pv 3) (pe_fn O__law_take (hr.mono (by omega)) (pa_cons (pv 0) (pa_cons (pv 7) pa_nil)))))) pa_nil)) pa_nil)))
      (pss_one (ps_ret (pe_tup (pa_cons (pe_ix ix_lt (pv 6) pe_int (fun _ _ => rfl)) (pa_cons (pe_ix ix_lt (pv 6) pe_int (fun _ _ => rfl)) (pa_cons (pe_callTy call_tuple_of (by rfl) T.tuple_ (by decide +kernel) (pa_cons (pe_lc (own := [("_law_deep", 11), ("_law_pair", 10)]) (g := (gSeq K 2 (gCons (gName 11) (gCons (gName 10) gNil)))) (tt := tYes) (by rfl) sc__law_fleet.nd (RZ.pi_zipA (by rfl) T.zip_ (pa_cons (pv 8) (pa_cons (pv 4) pa_nil))) (blkOk_by (own := [("_law_deep", 11), ("_law_pair", 10)]) (N := (["_law_box_here", "_law_sorts", "_law_most", "_law_far", "_law_numbers", "_law_whole", "_law_depths", "_law_wide", "_law_deeps", "_law_turn", "_law_pair", "_law_deep"] : List Str)) (sc := defScope s__law_fleet) (by decide +kernel)) (fun _ _ _ _ _ => (pg_seq rfl (pgs_cons (pg_name (i := 11) sc__law_fleet.nd rfl (.inl rfl)) (pgs_cons (pg_name (i := 10) sc__law_fleet.nd rfl (.inl rfl)) pgs_nil)))) (fun _ _ _ _ _ => pts_nil) (fun _ _ _ _ _ => (pe_tup (pa_cons (pv 11) (pa_cons (pe_ix (ix_ltK K) (pv 10) pe_int (fun _ _ => rfl)) (pa_cons (pe_ix (ix_ltK K) (pv 10) pe_int (fun _ _ => rfl)) pa_nil)))))) pa_nil)) pa_nil)))))))))))), ?_⟩
    -- the numbers
    refine ⟨_, rfl, _, rfl, b, n + 199, (so : Int), rfl, by omega, by omega, hb, fun c ys1 c0 c1 y1 => ?_⟩
    refine ⟨1, c, rfl, rfl, ?_⟩
    obtain ⟨u1, x1⟩ := tk (But.refl b H) y1
    generalize upd H b (.lst ys1) = H1 at u1 x1
    obtain ⟨cn, ec⟩ : ∃ cn : Nat, 1 + c = ((cn : Nat) : Int) := ⟨(1 + c).toNat, by omega⟩
    have cn0 : 0 < cn := by omega
    have cn1 : cn ≤ so := by omega
    refine ⟨1 + c, rfl, by omega, by omega, fun L nL => ?_⟩
    rw [show (1 + c).toNat = cn by omega]
    have n3 : L ≠ b := (x1.ne nL).symm
    have nL0 : H L = none := u1.free n3 nL
    refine lc_range (fun i H' => ∃ (rs : List Addr) (ps : List (Nat × Nat)), Nums b L H H' rs ps ∧ ps.length = i ∧ BoxAt H' b (n + 199 - 2 * i) ∧ ∀ p ∈ ps, p.1 ≤ mo ∧ p.2 ≤ mo) ?_ ?_ ?_
    · exact ⟨[], [], ⟨(al u1 x1 nL).1, upd_same, rfl, fun i j r h => by simp at h, fun i r p h => by simp at h, fun r h => by simp at h⟩, rfl, (al u1 x1 nL).2.1, fun p h => by simp at h⟩
    · rintro i Ha hi ⟨rs, ps, N, hl, xa, hp⟩
      have hi' : i < cn := hi
      refine ⟨rfl, tyes (iteT ?_)⟩
      refine ⟨_, rfl, _, rfl, _, 1, rfl, rfl, b, n + 199 - 2 * i - 1, _, rfl, by omega, by omega, xa.mono (by omega), fun v ys v0 v1 y => ?_⟩
      obtain ⟨ud, xd⟩ := tk (But.refl b Ha) y
      generalize upd Ha b (.lst ys) = Hd at ud xd
      refine ⟨_, rfl, _, rfl, _, 1, rfl, rfl, b, n + 199 - 2 * i - 2, _, rfl, by omega, by omega, xd.mono (by omega), fun v' ys' v0' v1' y' => ?_⟩
      obtain ⟨ue, xe⟩ := tk ud y'
      generalize upd Hd b (.lst ys') = He at ue xe
      refine ⟨(by show 2 ≤ sizeLine; decide), fun C nC => ?_⟩
      obtain ⟨xn, rfl⟩ := Int.eq_ofNat_of_zero_le v0
      obtain ⟨yn, rfl⟩ := Int.eq_ofNat_of_zero_le v0'
      obtain ⟨uf, xf, ef, nf⟩ := al (o := .lst [.int (xn : Int), .int (yn : Int)]) ue xe nC
      have nCa : Ha C = none := ue.free nf nC
      refine ⟨rs.map V.ref, uf _ _ n3 N.at_, ?_, rs ++ [C], ps ++ [(xn, yn)], N.push n3 nL0 uf nCa nf ef, by simp [hl], (xf.at n3.symm).mono (by omega), fun p hm => ?_⟩
      · rw [List.length_map, N.len, hl]
        exact Nat.lt_of_lt_of_le hi' (Nat.le_trans cn1 (Nat.le_trans so1 (by decide)))
      rcases List.mem_append.mp hm with z | z
      · exact hp p z
      · obtain rfl : p = (xn, yn) := by simpa using z
        exact ⟨by show xn ≤ mo; omega, by show yn ≤ mo; omega⟩
    rintro H5 ⟨rs, ps, N, hl, x5, hp⟩
    -- one ship at least
    cases rs with
    | nil =>
      have := N.len
      simp at this
      omega
    | cons r0 rs =>
      cases ps with
      | nil =>
        simp at hl
        omega
      | cons p0 ps =>
        obtain ⟨a0, c0'⟩ := p0
        have g0 : H5 r0 = some (.lst [.int (a0 : Int), .int (c0' : Int)]) := N.got 0 _ _ rfl rfl
        refine ⟨_, rfl, L, _, 0, .ref r0, rfl, rfl, SqA.l N.at_, at_nat (j := 0) rfl rfl, r0, _, 0, .int (a0 : Int), rfl, rfl, SqA.l g0, rfl, _, rfl, L, _, 0, .ref r0, rfl, rfl, SqA.l N.at_, at_nat (j := 0) rfl rfl, r0, _, 1, .int (c0' : Int), rfl, rfl, SqA.l g0, rfl, ?_⟩
        refine ⟨rfl, .inr ⟨_, rfl, _, _, rfl, ?_⟩⟩
        refine ⟨_, rfl, L, _, 0, .ref r0, rfl, rfl, SqA.l N.at_, at_nat (j := 0) rfl rfl, r0, _, 0, 0, rfl, rfl, g0, rfl, ?_⟩
        have rb := (N.new r0 (by simp)).1
        obtain ⟨a1, ea1, ha1, hb1⟩ : ∃ a1 : Nat, (if (if decide (V.int (c0' : Int) = V.int 0) = true then (1 : Int) else 0) > (a0 : Int) then (if decide (V.int (c0' : Int) = V.int 0) = true then (1 : Int) else 0) else (a0 : Int)) = (a1 : Int) ∧ a1 ≤ mo ∧ 0 < a1 + c0' := by
          have h0 := hp (a0, c0') (by simp)
          have h1 : a0 ≤ mo := h0.1
          by_cases z : (V.int (c0' : Int) = V.int 0)
          · have z' : c0' = 0 := by have := V.int.inj z; omega
            rw [decide_eq_true z, if_pos rfl]
            by_cases y : (1 : Int) > (a0 : Int)
            · exact ⟨1, by rw [if_pos y]; rfl, mo0, by omega⟩
            · exact ⟨a0, by rw [if_neg y], h1, by omega⟩
          · have z' : c0' ≠ 0 := fun e => z (by rw [e]; rfl)
            rw [decide_eq_false z, if_neg Bool.false_ne_true]
            by_cases y : (0 : Int) > (a0 : Int)
            · omega
            · exact ⟨a0, by rw [if_neg y], h1, by omega⟩
        obtain ⟨Rs, Ps, N6, l6, h6, b6⟩ : ∃ (Rs : List Addr) (Ps : List (Nat × Nat)), Nums b L H (upd H5 r0 (.lst [.int (a1 : Int), .int (c0' : Int)])) Rs Ps ∧ Ps.length = cn ∧ (∃ p tl, Ps = p :: tl ∧ 0 < p.1 + p.2) ∧ ∀ p ∈ Ps, p.1 ≤ mo ∧ p.2 ≤ mo := by
          refine ⟨r0 :: rs, (a1, c0') :: ps, N.head a1, hl, ⟨_, _, rfl, hb1⟩, fun p hm => ?_⟩
          rcases List.mem_cons.mp hm with z | z
          · have := hp (a0, c0') (by simp)
            rw [z]
            exact ⟨ha1, this.2⟩
          · exact hp p (by simp [z])
        have x6 : BoxAt (upd H5 r0 (.lst [.int (a1 : Int), .int (c0' : Int)])) b (n + 180) := (x5.mono (by omega)).at rb.symm
        clear N g0 hp hl x5
        dsimp only
        rw [ea1, show ([V.int (a0 : Int), .int (c0' : Int)]).set 0 (.int (a1 : Int)) = [.int (a1 : Int), .int (c0' : Int)] from rfl]
        generalize upd H5 r0 (.lst [.int (a1 : Int), .int (c0' : Int)]) = H6 at N6 x6
        -- all of them
        refine ⟨_, rfl, L, _, H6, rfl, SqA.l N6.at_, Kp.refl _ _, fun J hJ C nC => ?_⟩
        obtain ⟨G, g, W⟩ := hJ.walk
        refine lc_it W (fun i H' => Same H6 H' ∧ H' C = some (.lst (((Ps.take i).map sm2).map V.int))) ⟨same_new nC, upd_same⟩ (fun i H' _ z => g H' (.ofS z.1)) ?_ ?_
        · rintro i x Ha Hb _ ⟨sm, hC⟩ ⟨rfl, gx⟩
          obtain ⟨r, hi, rfl, hr1⟩ := N6.get gx
          refine ⟨rfl, tyes (iteT ⟨_, rfl, r, [(Ps[i].1 : Int), (Ps[i].2 : Int)], rfl, SqL.of (sm _ _ hr1), _, hC, ?_, same_over sm nC, ?_⟩)⟩
          · rw [List.length_map, List.length_map, List.length_take]
            exact Nat.lt_of_le_of_lt (Nat.min_le_right _ _) (Nat.lt_of_le_of_lt (show Ps.length ≤ 7 by omega) (by decide))
          · rw [upd_same, tmG _ hi, List.map_append]
            rfl
        rintro H7 ⟨s7, hC⟩
        rw [List.length_map, N6.len, List.take_length] at hC
        refine ⟨C, _, rfl, SqL.of hC, ?_⟩
        rw [sum_sm2]
        have wb : whole2 Ps ≤ 1400 := by
          have := whole2_le b6
          rw [l6] at this
          have : cn * (2 * mo) ≤ 7 * (2 * 100) := Nat.mul_le_mul (by omega) (by omega)
          omega
        have N7 := N6.but n3 (Same.but s7)
        have x7 := x6.same s7
        clear hC W g G hJ J nC C N6 x6 s7
        -- the depths
        refine ⟨2, rfl, by decide, by decide, fun C2 nC2 => ?_⟩
        have cb : C2 ≠ b := (x7.ne nC2).symm
        refine lc_range (fun j Hc => ∃ ns : List Int, But b H7 Hc ∧ BoxAt Hc b (n + 180 - 2 * j) ∧ Hc C2 = some (.lst (ns.map V.int)) ∧ ns.length = j ∧ ∀ d ∈ ns, 0 ≤ d ∧ d ≤ fa + 100000) ?_ ?_ ?_
        · exact ⟨[], (al (But.refl b H7) x7 nC2).1, (al (But.refl b H7) x7 nC2).2.1, upd_same, rfl, fun d hd => by simp at hd⟩
        · rintro j Hc hj ⟨ns, uc, xc, hC, hl2, hn⟩
          have j2 : j < 2 := hj
          refine ⟨rfl, tyes (iteT ?_)⟩
          refine ⟨_, rfl, _, rfl, _, rfl, _, 2, rfl, rfl, b, n + 180 - 2 * j - 1, _, rfl, by omega, by omega, xc.mono (by omega), fun v ys v0 v1 y => ?_⟩
          obtain ⟨ud, xd⟩ := tk uc y
          have hD : upd Hc b (.lst ys) C2 = some (.lst (ns.map V.int)) := by rw [upd_ne cb]; exact hC
          generalize upd Hc b (.lst ys) = Hd at ud xd hD
          refine ⟨_, rfl, b, n + 180 - 2 * j - 2, 2, rfl, by decide, by decide, xd.mono (by omega), fun v' ys' v0' v1' y' => ?_⟩
          obtain ⟨ue, xe⟩ := tk ud y'
          have hE : upd Hd b (.lst ys') C2 = some (.lst (ns.map V.int)) := by rw [upd_ne cb]; exact hD
          generalize upd Hd b (.lst ys') = He at ue xe hE
          refine ⟨v, v', rfl, rfl, .inl ⟨by omega, by omega⟩, fa, _, rfl, rfl, ns.map V.int, hE, ?_, ns ++ [fa + v * v'], ?_, ?_, ?_, ?_, ?_⟩
          · rw [List.length_map, hl2]
            exact Nat.lt_trans j2 (by decide)
          · exact fun a o na e => by rw [upd_ne (ne_of_none e nC2)]; exact ue a o na e
          · exact (xe.at cb.symm).mono (by omega)
          · rw [upd_same, List.map_append]
            rfl
          · simp [hl2]
          · intro d hd
            rcases List.mem_append.mp hd with z | z
            · exact hn d z
            · have e : d = fa + v * v' := by simpa using z
              have e01 : v' = 0 ∨ v' = 1 := by omega
              rcases e01 with z | z <;> (rw [e, z]; omega)
        rintro H8 ⟨ds2, u8, x8, h8, l8, b8⟩
        obtain ⟨d0, d1, rfl⟩ := two_of l8
        have N8 := N7.but n3 u8
        replace x8 : BoxAt H8 b (n + 176) := x8.mono (by omega)
        clear N7 x7 u8 l8
        -- how wide
        refine ⟨_, rfl, _, rfl, _, 2, rfl, rfl, _, rfl, 2, _, rfl, rfl, .inl ⟨by decide, by decide⟩, _, 2, rfl, rfl, (by show 3 ≤ sizeLine; decide), fun l nl => ?_⟩
        obtain ⟨u9, x9, e9, n9⟩ := al (o := .lst [.int 3, .int ((whole2 Ps : Int) + 2), .int (2 * (whole2 Ps : Int) + 2)]) (But.refl b H8) x8 nl
        refine ⟨b, l, n + 175, [.int 3, .int ((whole2 Ps : Int) + 2), .int (2 * (whole2 Ps : Int) + 2)], rfl, SqA.l upd_same, n9, (by show 0 < 3; decide), (by show 3 < 1000000; decide), x9.mono (by omega), fun v ys hv y => ?_⟩
        obtain ⟨wide, w0, w1, rfl⟩ : ∃ wide : Int, 0 < wide ∧ wide ≤ 10000 ∧ v = .int wide := by
          have e5 : v = .int 3 ∨ v = .int ((whole2 Ps : Int) + 2) ∨ v = .int (2 * (whole2 Ps : Int) + 2) := by simpa using hv
          rcases e5 with e | e | e
          · exact ⟨3, by decide, by decide, e⟩
          · exact ⟨_, by omega, by omega, e⟩
          · exact ⟨_, by omega, by omega, e⟩
        obtain ⟨uA, xA⟩ := tk u9 y
        have NA := N8.but n3 uA
        have hA2 := uA _ _ cb h8
        clear e9 x9 u9 N8 h8
        dsimp only
        generalize upd (upd H8 l (.lst [.int 3, .int ((whole2 Ps : Int) + 2), .int (2 * (whole2 Ps : Int) + 2)])) b (.lst ys) = HA at uA xA NA hA2
        clear uA
        -- the draughts
        refine ⟨_, rfl, L, _, HA, rfl, SqA.l NA.at_, Kp.refl _ _, fun J hJ C3 nC3 => ?_⟩
        have cb3 : C3 ≠ b := (xA.ne nC3).symm
        obtain ⟨G, g, W⟩ := hJ.walk
        refine lc_it W (fun i H' => ∃ ns : List Int, But b HA H' ∧ BoxAt H' b (n + 175 - i) ∧ H' C3 = some (.lst (ns.map V.int)) ∧ ns.length = i ∧ ∀ d ∈ ns, 0 ≤ d ∧ d ≤ fa + 100000) ?_ (fun i H' _ z => g H' (.ofB z.choose_spec.1 n3)) ?_ ?_
        · exact ⟨[], (al (But.refl b HA) xA nC3).1, (al (But.refl b HA) xA nC3).2.1, upd_same, rfl, fun d hd => by simp at hd⟩
        · rintro i x Hb Ha hi ⟨ns, uc, xc, hC, hl2, hn⟩ ⟨rfl, gx⟩
          rw [List.length_map, NA.len, l6] at hi
          refine ⟨rfl, tyes (iteT ?_)⟩
          refine ⟨_, rfl, _, rfl, _, rfl, b, n + 175 - i - 1, wide, rfl, w0, by omega, xc.mono (by omega), fun v' ys' v0' v1' y' => ?_⟩
          obtain ⟨uf, xf⟩ := tk uc y'
          have hF : upd Ha b (.lst ys') C3 = some (.lst (ns.map V.int)) := by rw [upd_ne cb3]; exact hC
          generalize upd Ha b (.lst ys') = Hf at uf xf hF
          refine ⟨fa, v', rfl, rfl, ns.map V.int, hF, ?_, ns ++ [fa + v'], ?_, ?_, ?_, ?_, ?_⟩
          · rw [List.length_map, hl2]
            exact Nat.lt_of_lt_of_le hi (Nat.le_trans (show cn ≤ 7 by omega) (by decide))
          · exact fun a o na e => by rw [upd_ne (ne_of_none e nC3)]; exact uf a o na e
          · exact (xf.at cb3.symm).mono (by omega)
          · rw [upd_same, List.map_append]
            rfl
          · simp [hl2]
          · intro d hd
            rcases List.mem_append.mp hd with z | z
            · exact hn d z
            · have e : d = fa + v' := by simpa using z
              omega
        rintro H9 ⟨ns, u9, x9, h9, l9, b9⟩
        rw [List.length_map, NA.len, l6] at l9 x9
        have N9 := NA.but n3 u9
        replace x9 : BoxAt H9 b (n + 100) := x9.mono (by omega)
        have h82 := u9 _ _ cb hA2
        clear NA xA u9 W g G hJ J hA2
        refine ⟨C3, ns, rfl, SqA.l h9, by omega, fun sa ks nsa nd hk => ?_⟩
        have kl : ks.length ≤ 7 := Nat.le_trans (nodup_le nd fun k hm => (hk k).mp hm) (by omega)
        obtain ⟨uB, xB, eB, nB⟩ := al (o := SetO w sa (fun j => decide (j ∈ ns)) ks.length) (But.refl b H9) x9 nsa
        have hB2 := uB _ _ cb h82
        refine ⟨sa, _, _, rfl, upd_same, by omega, fun ds p hpw hm hlen np => ?_⟩
        generalize upd H9 sa (SetO w sa (fun j => decide (j ∈ ns)) ks.length) = HB at uB xB eB np hB2
        have NB := N9.but n3 uB
        obtain ⟨uC, xC, eC, nC'⟩ := al (o := .lst (ds.map V.int)) (But.refl b HB) xB np
        have NC := NB.but n3 uC
        have hC2 := uC _ _ cb hB2
        generalize upd HB p (.lst (ds.map V.int)) = HC at NC xC eC hC2
        have dm : ∀ d ∈ ds, 0 ≤ d ∧ d ≤ fa + 100000 := fun d hd => b9 d (of_decide_eq_true ((hm d).mp hd))
        have d0' : ∃ d tl, ds = d :: tl := by
          cases ds with
          | cons d tl => exact ⟨d, tl, rfl⟩
          | nil =>
            exfalso
            cases ns with
            | nil =>
              simp at l9
              omega
            | cons m ns =>
              have := (hm m).mpr (by simp)
              simp at this
        have dl : ds.length ≤ cn := by
          have := nodup_le nd fun k hm => (hk k).mp hm
          omega
        have dz : (ds.zip Ps).length = ds.length := by rw [List.length_zip]; omega
        clear uB xB eB hB2 NB N9 uC x9 h9 h82 hm hk
        refine ⟨_, rfl, C2, _, 0, .int d0, rfl, rfl, SqA.l hC2, rfl, _, rfl, C2, _, 1, .int d1, rfl, rfl, SqA.l hC2, rfl, _, rfl, _, rfl, p, L, _, _, rfl, .inl ⟨SqL.of eC, SqL.of NC.at_, fun C4 nC4 => ?_⟩⟩
        refine lc_it (walk_zip (n := ds.length) (by rw [List.length_map, List.length_map, NC.len]; omega)) (fun i H' => ∃ ts : List Addr, Same HC H' ∧ H' C4 = some (.lst (ts.map V.ref)) ∧ SrtsN H' ts ((ds.zip Ps).take i)) ⟨[], same_new nC4, upd_same, rfl, fun i r x h => by simp at h⟩ (fun i H' _ z => ⟨z.choose_spec.1.seq (SqL.of eC), z.choose_spec.1.seq (SqL.of NC.at_)⟩) ?_ ?_
        · rintro i z Ha Hb hi ⟨ts, sm, hC, st⟩ ⟨t, u, v, rfl, nt, rfl, gu, gv⟩
          obtain ⟨r, hi2, rfl, hr1⟩ := NC.get gv
          obtain rfl : u = .int ds[i] := by
            have gu' : (ds.map V.int)[i]? = some u := gu
            rw [List.getElem?_map, List.getElem?_eq_getElem hi] at gu'
            simpa using gu'.symm
          have smT : Same HC (upd Ha t (.tup [.int ds[i], .ref r])) := sm.trans (same_new nt)
          have stT := st.same (same_new (o := .tup [.int ds[i], .ref r]) nt)
          have hCT : upd Ha t (.tup [.int ds[i], .ref r]) C4 = some (.lst (ts.map V.ref)) := by rw [upd_ne (ne_of_none hC nt)]; exact hC
          have etT : upd Ha t (.tup [.int ds[i], .ref r]) t = some (.tup [.int ds[i], .ref r]) := upd_same
          generalize upd Ha t (.tup [.int ds[i], .ref r]) = Ht at smT stT hCT etT
          refine ⟨t, _, rfl, SqA.t etT, rfl, _, _, rfl, _, _, rfl, rfl, rfl, tyes (iteT ?_)⟩
          refine ⟨_, rfl, _, rfl, r, _, 0, .int (Ps[i].1 : Int), rfl, rfl, SqA.l (smT _ _ hr1), rfl, _, rfl, r, _, 1, .int (Ps[i].2 : Int), rfl, rfl, SqA.l (smT _ _ hr1), rfl, (by show 3 ≤ sizeLine; decide), fun t2 nt2 => ?_⟩
          have stU := stT.push (x := (ds[i], Ps[i])) nt2
          have hiz : i < (ds.zip Ps).length := by omega
          have ez : (ds.zip Ps)[i] = (ds[i], Ps[i]) := List.getElem_zip ..
          have smU : Same HC (upd Ht t2 (.tup (SrtV (ds[i], Ps[i])))) := smT.trans (same_new nt2)
          have hCU : upd Ht t2 (.tup (SrtV (ds[i], Ps[i]))) C4 = some (.lst (ts.map V.ref)) := by rw [upd_ne (ne_of_none hCT nt2)]; exact hCT
          refine ⟨_, hCU, ?_, ts ++ [t2], same_over smU nC4, ?_, ?_⟩
          · rw [List.length_map, st.1, List.length_take]
            exact Nat.lt_of_le_of_lt (Nat.min_le_right _ _) (Nat.lt_of_le_of_lt (show (ds.zip Ps).length ≤ 7 by omega) (by decide))
          · rw [upd_same, List.map_append]
            rfl
          · rw [take_succ_get hiz, ez]
            exact stU.put hCU
        rintro HD ⟨ts, sD, hD, st⟩
        rw [← dz, List.take_length] at st
        refine ⟨C4, _, rfl, .inl ⟨SqL.of hD, fun q' nq => ?_⟩⟩
        refine ⟨(by show 3 ≤ sizeLine; decide), fun p' np' => ?_⟩
        obtain ⟨d, tl, rfl⟩ := d0'
        obtain ⟨p0, tl2, rfl, hp0⟩ := h6
        have sE : Same HD (upd HD q' (.tup (ts.map V.ref))) := same_new nq
        have eE : upd HD q' (.tup (ts.map V.ref)) q' = some (.tup (ts.map V.ref)) := upd_same
        generalize upd HD q' (.tup (ts.map V.ref)) = HE at sE eE np'
        have sF : Same HE (upd HE p' (.tup [.int d0, .int d1, .ref q'])) := same_new np'
        refine q _ p' d0 d1 ((d :: tl).zip (p0 :: tl2)) ?_ ?_ ⟨q', ts, upd_same, sF _ _ eE, (st.same sE).same sF⟩ ⟨by rw [dz]; simp, by omega, mny_zip1 hp0, fun x hx => b6 _ (snd_zip hx).2, ?_, b8 d0 (by simp), b8 d1 (by simp), fun x hx => dm _ (snd_zip hx).1, fun x xs e => by rw [List.zip_cons_cons] at e; cases e; exact hp0⟩
        · exact NC.bt.trans (Same.but ((sD.trans sE).trans sF))
        · exact ((xC.same ((sD.trans sE).trans sF)).mono (by omega))
        · rw [fst_zip (by omega)]
          exact hpw
end
end Sh

namespace Sh
/-! ### fleets by counts: what comes to what -/
/-- the same draughts, as many ships of each sort in all -/
def Alike (ss ss' : List Srt) : Prop := (ss.map fun x => (x.1, x.2.1 + x.2.2)) = ss'.map fun x => (x.1, x.2.1 + x.2.2)
theorem Alike.refl (ss : List Srt) : Alike ss ss := rfl
theorem Alike.symm {ss ss' : List Srt} (a : Alike ss ss') : Alike ss' ss := Eq.symm a
theorem Alike.trans {a b c : List Srt} (h : Alike a b) (h' : Alike b c) : Alike a c := Eq.trans h h'
theorem Alike.mny {ss ss' : List Srt} (a : Alike ss ss') : mny ss' = mny ss := by
  have := congrArg (fun l : List (Int × Nat) => (l.map fun p => p.2).sum) a
  simp only [List.map_map] at this
  exact this.symm
theorem Alike.fst {ss ss' : List Srt} (a : Alike ss ss') : (ss.map fun x => x.1) = ss'.map fun x => x.1 := by
  have := congrArg (fun l : List (Int × Nat) => l.map fun p => p.1) a
  simp only [List.map_map] at this
  exact this
theorem Alike.cons {x x' : Srt} {ss ss' : List Srt} (a : Alike (x :: ss) (x' :: ss')) : x.1 = x'.1 ∧ x.2.1 + x.2.2 = x'.2.1 + x'.2.2 ∧ Alike ss ss' := by
  unfold Alike at a
  rw [List.map_cons, List.map_cons, List.cons.injEq, Prod.mk.injEq] at a
  exact ⟨a.1.1, a.1.2, a.2⟩
theorem Alike.set {ss : List Srt} {j : Nat} {x y : Srt} (h : ss[j]? = some x) (e : y.1 = x.1) (e' : y.2.1 + y.2.2 = x.2.1 + x.2.2) : Alike ss (ss.set j y) := by
  unfold Alike
  rw [List.map_set]
  refine List.ext_getElem (by simp) fun i h1 h2 => ?_
  rw [List.getElem_set]
  split
  · rename_i z
    subst z
    have hj : j < ss.length := (List.getElem?_eq_some_iff.mp h).1
    have hx : ss[j] = x := (List.getElem?_eq_some_iff.mp h).2
    rw [List.getElem_map, hx, e, e']
  · rfl
/-- a sort more, its ships behind the others -/
theorem rp_cons {x : Srt} {ss : List Srt} {D : Nat → Int} {S : Nat → Bool} {n : Nat} (r : Rp ss n D S) : Rp (x :: ss) (n + (x.2.1 + x.2.2)) (fun i => if i < n then D i else x.1) (fun i => if i < n then S i else decide (i < n + x.2.1)) := by
  have key : ∀ (P : Int → Bool) (b : Bool), Th.cnt (n + (x.2.1 + x.2.2)) (fun i => P (if i < n then D i else x.1) && ((if i < n then S i else decide (i < n + x.2.1)) == b)) = Th.cnt n (fun i => P (D i) && (S i == b)) + if P x.1 = true then (if b = true then x.2.1 else x.2.2) else 0 := fun P b => by
    rw [Th.cnt_add]
    congr 1
    · refine Th.cnt_congr fun i hi => ?_
      rw [if_pos hi, if_pos hi]
    · rw [Th.cnt_add]
      have e1 : Th.cnt x.2.1 (fun i => P (if n + i < n then D (n + i) else x.1) && ((if n + i < n then S (n + i) else decide (n + i < n + x.2.1)) == b)) = Th.cnt x.2.1 (fun _ => P x.1 && b) := Th.cnt_congr fun i hi => by
        rw [if_neg (by omega), if_neg (by omega), decide_eq_true (by omega)]
        cases b <;> rfl
      have e2 : Th.cnt x.2.2 (fun i => P (if n + (x.2.1 + i) < n then D (n + (x.2.1 + i)) else x.1) && ((if n + (x.2.1 + i) < n then S (n + (x.2.1 + i)) else decide (n + (x.2.1 + i) < n + x.2.1)) == b)) = Th.cnt x.2.2 (fun _ => P x.1 && !b) := Th.cnt_congr fun i hi => by
        rw [if_neg (by omega), if_neg (by omega), decide_eq_false (by omega)]
        cases b <;> rfl
      rw [e1, e2, Th.cnt_const, Th.cnt_const]
      cases P x.1 <;> cases b <;> simp
  refine ⟨fun P => ?_, fun P => ?_⟩
  · have k := key P true
    have e : ∀ (f g : Nat → Bool), (fun i => f i && (g i == true)) = (fun i => f i && g i) := fun f g => by
      funext i
      cases g i <;> rfl
    rw [e (fun i => P (if i < n then D i else x.1)), e (fun i => P (D i)) S, ← r.here P] at k
    rw [k]
    by_cases c : P x.1 = true
    · rw [List.filter_cons_of_pos (p := fun x : Srt => P x.1) c, List.map_cons, List.sum_cons, if_pos c]
      show x.2.1 + _ = _ + x.2.1
      omega
    · rw [List.filter_cons_of_neg (p := fun x : Srt => P x.1) c, if_neg c]
      rfl
  · have k := key P false
    have e : ∀ (f g : Nat → Bool), (fun i => f i && (g i == false)) = (fun i => f i && !g i) := fun f g => by
      funext i
      cases g i <;> rfl
    rw [e (fun i => P (if i < n then D i else x.1)), e (fun i => P (D i)) S, ← r.there P] at k
    rw [k]
    by_cases c : P x.1 = true
    · rw [List.filter_cons_of_pos (p := fun x : Srt => P x.1) c, List.map_cons, List.sum_cons, if_pos c]
      show x.2.2 + _ = _ + x.2.2
      omega
    · rw [List.filter_cons_of_neg (p := fun x : Srt => P x.1) c, if_neg c]
      rfl
/-- two fleets that are alike, their ships numbered as one -/
theorem rp_two : ∀ {ss ss' : List Srt}, Alike ss ss' → ∃ (D : Nat → Int) (S U : Nat → Bool), Rp ss (mny ss) D S ∧ Rp ss' (mny ss) D U ∧ (∀ i, ¬ i < mny ss → U i = S i) ∧ ∀ m : Int, fxF ss m = fxF ss' m → ∀ i, i < mny ss → ¬ D i ≤ m → U i = S i
  | [], [], _ => ⟨fun _ => 0, fun _ => false, fun _ => false, ⟨fun _ => rfl, fun _ => rfl⟩, ⟨fun _ => rfl, fun _ => rfl⟩, fun _ _ => rfl, fun _ _ _ _ _ => rfl⟩
  | [], x' :: ss', a => by cases a
  | x :: ss, [], a => by cases a
  | x :: ss, x' :: ss', a => by
    obtain ⟨e1, e2, a'⟩ := a.cons
    obtain ⟨D, S, U, r, r', out, fx⟩ := rp_two a'
    have em : mny (x :: ss) = mny ss + (x.2.1 + x.2.2) := by
      unfold mny
      rw [List.map_cons, List.sum_cons]
      omega
    have q := rp_cons (x := x) r
    have q' := rp_cons (x := x') r'
    rw [← e2, ← em, ← e1] at q'
    rw [← em] at q
    refine ⟨_, _, _, q, q', fun i hi => ?_, fun m f i hi hd => ?_⟩
    · have n1 : ¬ i < mny ss := by omega
      show (if i < mny ss then U i else decide (i < mny ss + x'.2.1)) = if i < mny ss then S i else decide (i < mny ss + x.2.1)
      rw [if_neg n1, if_neg n1, decide_eq_false (by omega), decide_eq_false (by omega)]
    · have hd : ¬ (if i < mny ss then D i else x.1) ≤ m := hd
      show (if i < mny ss then U i else decide (i < mny ss + x'.2.1)) = if i < mny ss then S i else decide (i < mny ss + x.2.1)
      unfold fxF at f
      by_cases c : x.1 > m
      · rw [List.filter_cons_of_pos (p := fun x : Srt => decide (x.1 > m)) (decide_eq_true c), List.filter_cons_of_pos (p := fun x : Srt => decide (x.1 > m)) (decide_eq_true (by rw [← e1]; exact c)), List.map_cons, List.map_cons, List.cons.injEq] at f
        by_cases n1 : i < mny ss
        · rw [if_pos n1] at hd
          rw [if_pos n1, if_pos n1]
          exact fx m f.2 i n1 hd
        · rw [if_neg n1, if_neg n1, f.1]
      · rw [List.filter_cons_of_neg (p := fun x : Srt => decide (x.1 > m)) (by simpa using c), List.filter_cons_of_neg (p := fun x : Srt => decide (x.1 > m)) (by rw [← e1]; simpa using c)] at f
        by_cases n1 : i < mny ss
        · rw [if_pos n1] at hd
          rw [if_pos n1, if_pos n1]
          exact fx m f i n1 hd
        · rw [if_neg n1] at hd
          omega
theorem Rp.ours {ss : List Srt} {k : Nat} {D : Nat → Int} {S : Nat → Bool} (r : Rp ss k D S) (nd : (ss.map fun x => x.1).Nodup) {x : Srt} (hx : x ∈ ss) : x.2.1 = Th.cnt k (fun i => decide (D i = x.1) && S i) := by
  have := r.here fun d => decide (d = x.1)
  rw [filter_one nd hx] at this
  simpa using this
theorem Rp.theirs {ss : List Srt} {k : Nat} {D : Nat → Int} {S : Nat → Bool} (r : Rp ss k D S) (nd : (ss.map fun x => x.1).Nodup) {x : Srt} (hx : x ∈ ss) : x.2.2 = Th.cnt k (fun i => decide (D i = x.1) && !S i) := by
  have := r.there fun d => decide (d = x.1)
  rw [filter_one nd hx] at this
  simpa using this
theorem fx_eq {m : Int} : ∀ {ss ss' : List Srt}, Alike ss ss' → (∀ (j : Nat) (x x' : Srt), ss[j]? = some x → ss'[j]? = some x' → x.1 > m → x.2.1 = x'.2.1) → fxF ss m = fxF ss' m
  | [], [], _, _ => rfl
  | [], x' :: ss', a, _ => by cases a
  | x :: ss, [], a, _ => by cases a
  | x :: ss, x' :: ss', a, h => by
    obtain ⟨e1, _, a'⟩ := a.cons
    have ih := fx_eq (m := m) a' fun j y y' hy hy' => h (j + 1) y y' (by simpa using hy) (by simpa using hy')
    unfold fxF at ih ⊢
    by_cases c : x.1 > m
    · rw [List.filter_cons_of_pos (p := fun x : Srt => decide (x.1 > m)) (decide_eq_true c), List.filter_cons_of_pos (p := fun x : Srt => decide (x.1 > m)) (decide_eq_true (by rw [← e1]; exact c)), List.map_cons, List.map_cons, ih, h 0 x x' rfl rfl c]
    · rw [List.filter_cons_of_neg (p := fun x : Srt => decide (x.1 > m)) (by simpa using c), List.filter_cons_of_neg (p := fun x : Srt => decide (x.1 > m)) (by rw [← e1]; simpa using c), ih]
theorem Alike.at {ss ss' : List Srt} (a : Alike ss ss') {j : Nat} {x x' : Srt} (h : ss[j]? = some x) (h' : ss'[j]? = some x') : x.1 = x'.1 ∧ x.2.1 + x.2.2 = x'.2.1 + x'.2.2 := by
  have := congrArg (fun l : List (Int × Nat) => l[j]?) a
  simp only [List.getElem?_map, h, h', Option.map_some, Option.some.injEq, Prod.mk.injEq] at this
  exact this
section
variable {h t : Int} {ss ss' : List Srt} {b : Bool}
/-- it comes to it just where ships can be numbered so -/
theorem comes_yes (k0 : 0 < mny ss) (a : Alike ss ss') (q : ComesF h t ss ss' b) (e : b = true) : ∃ (D : Nat → Int) (S U : Nat → Bool), Rp ss (mny ss) D S ∧ Rp ss' (mny ss) D U ∧ Th.Reach (mny ss) (Gd h t (mny ss) D) S U := by
  obtain ⟨kd, s, kd', s', l, l', q⟩ := q
  obtain ⟨⟨rfl, rfl⟩, f⟩ := q.mp e
  obtain ⟨D, S, U, r, r', out, fx⟩ := rp_two a
  have m' := a.mny
  have lS := l.ships r k0
  have r2 : Rp ss' (mny ss') D U := by rw [m']; exact r'
  have lU := l'.ships r2 (by rw [m']; exact k0)
  rw [m'] at lU f
  exact ⟨D, S, U, r, r', (lS.comes k0 lU out).mpr ⟨⟨rfl, rfl⟩, fx _ f⟩⟩
theorem comes_by (k0 : 0 < mny ss) (a : Alike ss ss') (nd : (ss.map fun x => x.1).Nodup) (q : ComesF h t ss ss' b) {D : Nat → Int} {S U : Nat → Bool} (r : Rp ss (mny ss) D S) (r' : Rp ss' (mny ss) D U) (R : Th.Reach (mny ss) (Gd h t (mny ss) D) S U) : b = true := by
  obtain ⟨kd, s, kd', s', l, l', q⟩ := q
  have m' := a.mny
  have lS := l.ships r k0
  have r2 : Rp ss' (mny ss') D U := by rw [m']; exact r'
  have lU := l'.ships r2 (by rw [m']; exact k0)
  rw [m'] at lU
  obtain ⟨e, fx⟩ := (lS.comes k0 lU (Th.reach_out R)).mp R
  refine q.mpr ⟨e, ?_⟩
  rw [m']
  have nd' : (ss'.map fun x => x.1).Nodup := by rw [← a.fst]; exact nd
  refine fx_eq a fun j x x' hx hx' g => ?_
  obtain ⟨e1, _⟩ := a.at hx hx'
  rw [r.ours nd (List.mem_of_getElem? hx), r'.ours nd' (List.mem_of_getElem? hx'), ← e1]
  refine Th.cnt_congr fun i hi => ?_
  by_cases c : D i = x.1
  · rw [fx i hi (by rw [c]; omega)]
  · rw [decide_eq_false c]
    rfl
end
/-! ### one ship over, by counts -/
inductive CStep (h t : Int) : List Srt → List Srt → Prop
  | up {ss : List Srt} {j : Nat} {x : Srt} (hx : ss[j]? = some x) (ht : 0 < x.2.2) (g : x.1 ≤ mk h t (mny ss) (ourn ss : Int)) : CStep h t ss (ss.set j (x.1, x.2.1 + 1, x.2.2 - 1))
  | dn {ss : List Srt} {j : Nat} {x : Srt} (hx : ss[j]? = some x) (ho : 0 < x.2.1) (g : x.1 ≤ mk h t (mny ss) ((ourn ss - 1 : Nat) : Int)) : CStep h t ss (ss.set j (x.1, x.2.1 - 1, x.2.2 + 1))
inductive CReach (h t : Int) : List Srt → List Srt → Prop
  | refl (ss : List Srt) : CReach h t ss ss
  | step {a b c : List Srt} : CReach h t a b → CStep h t b c → CReach h t a c
theorem CStep.alike {h t : Int} {ss ss' : List Srt} (c : CStep h t ss ss') : Alike ss ss' := by
  cases c with
  | @up j x hx ht g => exact Alike.set hx rfl (by show x.2.1 + 1 + (x.2.2 - 1) = x.2.1 + x.2.2; omega)
  | @dn j x hx ho g => exact Alike.set hx rfl (by show x.2.1 - 1 + (x.2.2 + 1) = x.2.1 + x.2.2; omega)
theorem CReach.alike {h t : Int} {ss ss' : List Srt} (c : CReach h t ss ss') : Alike ss ss' := by
  induction c with
  | refl => exact Alike.refl _
  | step _ s ih => exact ih.trans s.alike
theorem sum_set (P : Int → Bool) (f : Srt → Nat) : ∀ {ss : List Srt} {j : Nat} {x y : Srt}, ss[j]? = some x → y.1 = x.1 → (((ss.set j y).filter fun z => P z.1).map f).sum + (if P x.1 = true then f x else 0) = ((ss.filter fun z => P z.1).map f).sum + (if P x.1 = true then f y else 0)
  | a :: ss, 0, x, y, h, e => by
    obtain rfl : a = x := by simpa using h
    show (((y :: ss).filter fun z => P z.1).map f).sum + _ = _
    by_cases c : P a.1 = true
    · rw [List.filter_cons_of_pos (p := fun z : Srt => P z.1) (by rw [e]; exact c), List.filter_cons_of_pos (p := fun z : Srt => P z.1) c, List.map_cons, List.map_cons, List.sum_cons, List.sum_cons, if_pos c, if_pos c]
      omega
    · rw [List.filter_cons_of_neg (p := fun z : Srt => P z.1) (by rw [e]; exact c), List.filter_cons_of_neg (p := fun z : Srt => P z.1) c, if_neg c, if_neg c]
  | a :: ss, j + 1, x, y, h, e => by
    have ih := sum_set P f (ss := ss) (j := j) (x := x) (y := y) (by simpa using h) e
    show (((a :: ss.set j y).filter fun z => P z.1).map f).sum + _ = _
    by_cases c : P a.1 = true
    · rw [List.filter_cons_of_pos (p := fun z : Srt => P z.1) c, List.filter_cons_of_pos (p := fun z : Srt => P z.1) c, List.map_cons, List.map_cons, List.sum_cons, List.sum_cons]
      omega
    · rw [List.filter_cons_of_neg (p := fun z : Srt => P z.1) c, List.filter_cons_of_neg (p := fun z : Srt => P z.1) c]
      exact ih
theorem cnt_flip_and {k : Nat} {S f : Nat → Bool} {i : Nat} (hi : i < k) (hs : S i = false) : Th.cnt k (fun j => f j && Th.flip S i j) = Th.cnt k (fun j => f j && S j) + (if f i = true then 1 else 0) ∧ Th.cnt k (fun j => f j && !Th.flip S i j) + (if f i = true then 1 else 0) = Th.cnt k (fun j => f j && !S j) := by
  by_cases c : f i = true
  · rw [if_pos c]
    constructor
    · rw [← Th.cnt_flip_up (S := fun j => f j && S j) hi (by show (f i && S i) = false; rw [hs, Bool.and_false])]
      refine Th.cnt_congr fun j _ => ?_
      by_cases z : j = i
      · subst z
        rw [Th.flip_self, Th.flip_self, c, hs]
        rfl
      · rw [Th.flip_ne _ z, Th.flip_ne _ z]
    · rw [← Th.cnt_flip_dn (S := fun j => f j && !S j) hi (by show (f i && !S i) = true; rw [hs, c]; rfl)]
      congr 1
      refine Th.cnt_congr fun j _ => ?_
      by_cases z : j = i
      · subst z
        rw [Th.flip_self, Th.flip_self, c, hs]
        rfl
      · rw [Th.flip_ne _ z, Th.flip_ne _ z]
  · have c' : f i = false := by simpa using c
    rw [if_neg c]
    constructor
    · refine Th.cnt_congr fun j _ => ?_
      by_cases z : j = i
      · subst z
        rw [c']
        rfl
      · rw [Th.flip_ne _ z]
    · refine Th.cnt_congr fun j _ => ?_
      by_cases z : j = i
      · subst z
        rw [c']
        rfl
      · rw [Th.flip_ne _ z]
theorem Rp.up {ss : List Srt} {k : Nat} {D : Nat → Int} {S : Nat → Bool} (r : Rp ss k D S) {j i : Nat} {x : Srt} (hx : ss[j]? = some x) (hi : i < k) (hs : S i = false) (hd : D i = x.1) (h2 : 0 < x.2.2) : Rp (ss.set j (x.1, x.2.1 + 1, x.2.2 - 1)) k D (Th.flip S i) := by
  refine ⟨fun P => ?_, fun P => ?_⟩
  · have a := sum_set P (fun z => z.2.1) hx (y := (x.1, x.2.1 + 1, x.2.2 - 1)) rfl
    have c := (cnt_flip_and (k := k) (f := fun i => P (D i)) hi hs).1
    rw [r.here P] at a
    simp only [hd] at c
    by_cases z : P x.1 = true
    · rw [if_pos z] at c
      rw [if_pos z, if_pos z] at a
      simp only at a
      omega
    · rw [if_neg z] at c
      rw [if_neg z, if_neg z] at a
      omega
  · have a := sum_set P (fun z => z.2.2) hx (y := (x.1, x.2.1 + 1, x.2.2 - 1)) rfl
    have c := (cnt_flip_and (k := k) (f := fun i => P (D i)) hi hs).2
    rw [r.there P] at a
    simp only [hd] at c
    by_cases z : P x.1 = true
    · rw [if_pos z] at c
      rw [if_pos z, if_pos z] at a
      simp only at a
      omega
    · rw [if_neg z] at c
      rw [if_neg z, if_neg z] at a
      omega
theorem turn_set (ss : List Srt) (j : Nat) (y : Srt) : turnF (ss.set j y) = (turnF ss).set j (y.1, y.2.2, y.2.1) := by
  unfold turnF
  rw [List.map_set]
theorem Rp.dn {ss : List Srt} {k : Nat} {D : Nat → Int} {S : Nat → Bool} (r : Rp ss k D S) {j i : Nat} {x : Srt} (hx : ss[j]? = some x) (hi : i < k) (hs : S i = true) (hd : D i = x.1) (h2 : 0 < x.2.1) : Rp (ss.set j (x.1, x.2.1 - 1, x.2.2 + 1)) k D (Th.flip S i) := by
  have hx' : (turnF ss)[j]? = some (x.1, x.2.2, x.2.1) := by
    unfold turnF
    rw [List.getElem?_map, hx]
    rfl
  have q := (r.turn.up hx' hi (by show (!S i) = false; rw [hs]; rfl) hd h2).turn
  have e1 : turnF ((turnF ss).set j (x.1, x.2.2 + 1, x.2.1 - 1)) = ss.set j (x.1, x.2.1 - 1, x.2.2 + 1) := by
    rw [turn_set, turn_turn]
  have e2 : Th.co (Th.flip (Th.co S) i) = Th.flip S i := by
    rw [Th.flip_co]
    funext z
    show (!(!(Th.flip S i z))) = _
    cases Th.flip S i z <;> rfl
  rw [e2] at q
  have e3 : ((turnF ss).set j ((x.1, x.2.2, x.2.1).1, (x.1, x.2.2, x.2.1).2.1 + 1, (x.1, x.2.2, x.2.1).2.2 - 1)) = (turnF ss).set j (x.1, x.2.2 + 1, x.2.1 - 1) := rfl
  rw [e3, e1] at q
  exact q
/-- counts that are come to are come to by ships -/
theorem CReach.ships {h t : Int} {ss ss' : List Srt} (c : CReach h t ss ss') {D : Nat → Int} {S : Nat → Bool} (r : Rp ss (mny ss) D S) : ∃ U, Rp ss' (mny ss) D U ∧ Th.Reach (mny ss) (Gd h t (mny ss) D) S U := by
  induction c with
  | refl => exact ⟨S, r, .refl _⟩
  | @step b c' hab hbc ih =>
    obtain ⟨U, rU, R⟩ := ih
    have mb : mny b = mny ss := hab.alike.mny
    have ob : ourn b = Th.cnt (mny ss) U := rU.ourn
    cases hbc with
    | @up j x hx ht g =>
      have t1 := rU.there fun d => decide (d = x.1)
      have m2 : x.2.2 ≤ ((b.filter fun z => decide (z.1 = x.1)).map fun z => z.2.2).sum := le_sum (List.mem_map.mpr ⟨x, List.mem_filter.mpr ⟨List.mem_of_getElem? hx, decide_eq_true rfl⟩, rfl⟩)
      obtain ⟨i, hi, hd⟩ := Th.cnt_pos_ex (k := mny ss) (S := fun i => decide (D i = x.1) && !U i) (by omega)
      rw [Bool.and_eq_true] at hd
      have hd1 : D i = x.1 := of_decide_eq_true hd.1
      have hd2 : U i = false := by simpa using hd.2
      refine ⟨Th.flip U i, rU.up hx hi hd2 hd1 ht, R.step (.up hi hd2 ?_)⟩
      refine decide_eq_true ?_
      rw [hd1, ← ob]
      rw [mb] at g
      exact g
    | @dn j x hx ho g =>
      have t1 := rU.here fun d => decide (d = x.1)
      have m2 : x.2.1 ≤ ((b.filter fun z => decide (z.1 = x.1)).map fun z => z.2.1).sum := le_sum (List.mem_map.mpr ⟨x, List.mem_filter.mpr ⟨List.mem_of_getElem? hx, decide_eq_true rfl⟩, rfl⟩)
      obtain ⟨i, hi, hd⟩ := Th.cnt_pos_ex (k := mny ss) (S := fun i => decide (D i = x.1) && U i) (by omega)
      rw [Bool.and_eq_true] at hd
      have hd1 : D i = x.1 := of_decide_eq_true hd.1
      refine ⟨Th.flip U i, rU.dn hx hi hd.2 hd1 ho, R.step (.dn hi hd.2 ?_)⟩
      refine decide_eq_true ?_
      rw [hd1, ← ob]
      rw [mb] at g
      exact g
/-- each ship is of some sort -/
theorem Rp.sort {ss : List Srt} {k : Nat} {D : Nat → Int} {S : Nat → Bool} (r : Rp ss k D S) {i : Nat} (hi : i < k) : ∃ (j : Nat) (x : Srt), ss[j]? = some x ∧ x.1 = D i := by
  have a := r.here fun d => decide (d = D i)
  have c := r.there fun d => decide (d = D i)
  have s := Th.cnt_split (k := k) (fun j => decide (D j = D i)) S
  have p := Th.cnt_pos (k := k) (S := fun j => decide (D j = D i)) hi (decide_eq_true rfl)
  cases e : ss.filter (fun x => decide (x.1 = D i)) with
  | nil =>
    rw [e] at a c
    simp at a c
    omega
  | cons x l =>
    have hx : x ∈ ss.filter (fun x => decide (x.1 = D i)) := by rw [e]; exact List.mem_cons_self
    obtain ⟨h1, h2⟩ := List.mem_filter.mp hx
    obtain ⟨j, hj⟩ := List.getElem?_of_mem h1
    exact ⟨j, x, hj, of_decide_eq_true h2⟩
/-- what ships come to is come to by counts -/
theorem CReach.of {h t : Int} {ss : List Srt} {D : Nat → Int} {S U : Nat → Bool} (nd : (ss.map fun x => x.1).Nodup) (r : Rp ss (mny ss) D S) (R : Th.Reach (mny ss) (Gd h t (mny ss) D) S U) : ∃ ss', CReach h t ss ss' ∧ Rp ss' (mny ss) D U := by
  induction R with
  | refl => exact ⟨ss, .refl _, r⟩
  | @step B W RB sBW ih =>
    obtain ⟨b, cb, rb⟩ := ih
    have mb : mny b = mny ss := cb.alike.mny
    have nb : (b.map fun x => x.1).Nodup := by rw [← cb.alike.fst]; exact nd
    have ob : ourn b = Th.cnt (mny ss) B := rb.ourn
    cases sBW with
    | @up i hi hs hg =>
      obtain ⟨j, x, hx, hd⟩ := rb.sort hi
      have th := rb.theirs nb (List.mem_of_getElem? hx)
      have p := Th.cnt_pos (k := mny ss) (S := fun z => decide (D z = x.1) && !B z) hi (by show (decide (D i = x.1) && !B i) = true; rw [decide_eq_true hd.symm, hs]; rfl)
      have g : D i ≤ mk h t (mny ss) (Th.cnt (mny ss) B : Int) := of_decide_eq_true hg
      exact ⟨_, cb.step (.up hx (by omega) (by rw [mb, ob, hd]; exact g)), rb.up hx hi hs hd.symm (by omega)⟩
    | @dn i hi hs hg =>
      obtain ⟨j, x, hx, hd⟩ := rb.sort hi
      have th := rb.ours nb (List.mem_of_getElem? hx)
      have p := Th.cnt_pos (k := mny ss) (S := fun z => decide (D z = x.1) && B z) hi (by show (decide (D i = x.1) && B i) = true; rw [decide_eq_true hd.symm, hs]; rfl)
      have g : D i ≤ mk h t (mny ss) ((Th.cnt (mny ss) B - 1 : Nat) : Int) := of_decide_eq_true hg
      exact ⟨_, cb.step (.dn hx (by omega) (by rw [mb, ob, hd]; exact g)), rb.dn hx hi hs hd.symm (by omega)⟩
/-- the counts of a lot of ships -/
theorem rp_uniq {ss ss' : List Srt} {k : Nat} {D : Nat → Int} {S : Nat → Bool} (a : Alike ss ss') (nd : (ss.map fun x => x.1).Nodup) (r : Rp ss k D S) (r' : Rp ss' k D S) : ss = ss' := by
  have nd' : (ss'.map fun x => x.1).Nodup := by rw [← a.fst]; exact nd
  have ln : ss.length = ss'.length := by
    have := congrArg List.length a
    simpa using this
  refine List.ext_getElem ln fun j h1 h2 => ?_
  have x1 : ss[j]? = some ss[j] := List.getElem?_eq_getElem h1
  have x2 : ss'[j]? = some ss'[j] := List.getElem?_eq_getElem h2
  obtain ⟨e1, _⟩ := a.at x1 x2
  have o1 := r.ours nd (List.getElem_mem h1)
  have o2 := r'.ours nd' (List.getElem_mem h2)
  have t1 := r.theirs nd (List.getElem_mem h1)
  have t2 := r'.theirs nd' (List.getElem_mem h2)
  rw [← e1] at o2 t2
  exact Prod.ext e1 (Prod.ext (o1.trans o2.symm) (t1.trans t2.symm))
section
variable {h t : Int} {ss ss' : List Srt} {b : Bool}
/-- fleet_comes by counts -/
theorem comes_counts (k0 : 0 < mny ss) (a : Alike ss ss') (nd : (ss.map fun x => x.1).Nodup) (q : ComesF h t ss ss' b) : b = true ↔ CReach h t ss ss' := by
  constructor
  · intro e
    obtain ⟨D, S, U, r, r', R⟩ := comes_yes k0 a q e
    obtain ⟨s2, c, r2⟩ := CReach.of nd r R
    rw [← rp_uniq (c.alike.symm.trans a) (by rw [← c.alike.fst]; exact nd) r2 r']
    exact c
  · intro c
    obtain ⟨D, S, r⟩ := rp_ex ss
    obtain ⟨U, r', R⟩ := c.ships r
    exact comes_by k0 a nd q r r' R
/-- the most, the least by counts -/
theorem max_counts {m : Int} (k0 : 0 < mny ss) (nd : (ss.map fun x => x.1).Nodup) (q : MaxF h t ss m) : (∃ s', CReach h t ss s' ∧ m = (ourn s' : Int)) ∧ ∀ s', CReach h t ss s' → (ourn s' : Int) ≤ m := by
  obtain ⟨D, S, r⟩ := rp_ex ss
  obtain ⟨n, rfl, ⟨U, R, e⟩, up⟩ := q.ships r k0
  constructor
  · obtain ⟨s2, c, r2⟩ := CReach.of nd r R
    exact ⟨s2, c, by rw [r2.ourn, e]⟩
  · intro s' c
    obtain ⟨U', r', R'⟩ := c.ships r
    have := up U' R'
    rw [r'.ourn]
    omega
theorem min_counts {m : Int} (k0 : 0 < mny ss) (nd : (ss.map fun x => x.1).Nodup) (q : MinF h t ss m) : (∃ s', CReach h t ss s' ∧ m = (ourn s' : Int)) ∧ ∀ s', CReach h t ss s' → m ≤ (ourn s' : Int) := by
  obtain ⟨D, S, r⟩ := rp_ex ss
  obtain ⟨n, rfl, ⟨U, R, e⟩, lo⟩ := q.ships r k0
  constructor
  · obtain ⟨s2, c, r2⟩ := CReach.of nd r R
    exact ⟨s2, c, by rw [r2.ourn, e]⟩
  · intro s' c
    obtain ⟨U', r', R'⟩ := c.ships r
    have := lo U' R'
    rw [r'.ourn]
    omega
end
end Sh

namespace Sh
/-! ### one sort more, its ships behind all others -/
theorem mny_cons (x : Srt) (l : List Srt) : mny (x :: l) = x.2.1 + x.2.2 + mny l := by
  unfold mny
  rw [List.map_cons, List.sum_cons]
theorem mny_snoc (l : List Srt) (x : Srt) : mny (l ++ [x]) = mny l + (x.2.1 + x.2.2) := by
  unfold mny
  rw [List.map_append, List.sum_append]
  simp
theorem rp_snoc {ss : List Srt} {k : Nat} {D D' : Nat → Int} {S S' : Nat → Bool} {x : Srt} (r : Rp ss k D S) (hD : ∀ i, i < k → D' i = D i) (hS : ∀ i, i < k → S' i = S i) (hd : ∀ i, i < x.2.1 + x.2.2 → D' (k + i) = x.1) (hs : ∀ i, i < x.2.1 + x.2.2 → S' (k + i) = decide (i < x.2.1)) :
    Rp (ss ++ [x]) (k + (x.2.1 + x.2.2)) D' S' := by
  have key : ∀ (P : Int → Bool) (b : Bool), Th.cnt (k + (x.2.1 + x.2.2)) (fun i => P (D' i) && (S' i == b)) = Th.cnt k (fun i => P (D i) && (S i == b)) + if P x.1 = true then (if b = true then x.2.1 else x.2.2) else 0 := fun P b => by
    rw [Th.cnt_add]
    congr 1
    · exact Th.cnt_congr fun i hi => by rw [hD i hi, hS i hi]
    · rw [Th.cnt_add]
      have e1 : Th.cnt x.2.1 (fun i => P (D' (k + i)) && (S' (k + i) == b)) = Th.cnt x.2.1 (fun _ => P x.1 && b) := Th.cnt_congr fun i hi => by
        rw [hd i (by omega), hs i (by omega), decide_eq_true hi]
        cases b <;> rfl
      have e2 : Th.cnt x.2.2 (fun i => P (D' (k + (x.2.1 + i))) && (S' (k + (x.2.1 + i)) == b)) = Th.cnt x.2.2 (fun _ => P x.1 && !b) := Th.cnt_congr fun i hi => by
        rw [hd _ (by omega), hs _ (by omega), decide_eq_false (by omega)]
        cases b <;> rfl
      rw [e1, e2, Th.cnt_const, Th.cnt_const]
      cases P x.1 <;> cases b <;> simp
  have eT : ∀ (f g : Nat → Bool), (fun i => f i && (g i == true)) = (fun i => f i && g i) := fun f g => by
    funext i
    cases g i <;> rfl
  have eF : ∀ (f g : Nat → Bool), (fun i => f i && (g i == false)) = (fun i => f i && !g i) := fun f g => by
    funext i
    cases g i <;> rfl
  refine ⟨fun P => ?_, fun P => ?_⟩
  · have q := key P true
    rw [eT (fun i => P (D' i)) S', eT (fun i => P (D i)) S, ← r.here P] at q
    rw [q, List.filter_append, List.map_append, List.sum_append]
    congr 1
    by_cases c : P x.1 = true
    · rw [if_pos c, List.filter_cons_of_pos (p := fun x : Srt => P x.1) c]
      simp
    · rw [if_neg c, List.filter_cons_of_neg (p := fun x : Srt => P x.1) c]
      rfl
  · have q := key P false
    rw [eF (fun i => P (D' i)) S', eF (fun i => P (D i)) S, ← r.there P] at q
    rw [q, List.filter_append, List.map_append, List.sum_append]
    congr 1
    by_cases c : P x.1 = true
    · rw [if_pos c, List.filter_cons_of_pos (p := fun x : Srt => P x.1) c]
      simp
    · rw [if_neg c, List.filter_cons_of_neg (p := fun x : Srt => P x.1) c]
      rfl
end Sh

namespace Th
section
variable {k : Nat} {G G' : Nat → Nat → Bool} {S U : Nat → Bool}
theorem moves_along (r : Reach k G S U) {i : Nat} : Moves k G U i ↔ Moves k G S i := ⟨fun ⟨W, x, m⟩ => ⟨W, r.trans x, m⟩, fun ⟨W, x, m⟩ => ⟨W, r.symm.trans x, m⟩⟩
theorem Reach.mono (hg : ∀ s i, G s i = true → G' s i = true) (r : Reach k G S U) : Reach k G' S U := by
  induction r with
  | refl => exact .refl _
  | step _ st ih =>
    cases st with
    | up hi hs hG => exact .step ih (.up hi hs (hg _ _ hG))
    | dn hi hs hG => exact .step ih (.dn hi hs (hg _ _ hG))
theorem may_lt {i : Nat} (hi : i < k) : (if U i = true then cnt k U - 1 else cnt k U) < k := by
  have := cnt_le k U
  cases e : U i with
  | true => rw [if_pos rfl]; omega
  | false =>
    rw [if_neg Bool.false_ne_true]
    have a := cnt_flip_up hi e
    have := cnt_le k (flip U i)
    omega
/-- what is told of a standing's ships: most, least, the draughts of those who ever go -/
structure ToldS (k : Nat) (G : Nat → Nat → Bool) (D : Nat → Int) (S : Nat → Bool) (m l : Int) (ms : List Int) : Prop where
  mx : ∃ n : Nat, m = (n : Int) ∧ IsMax k G S n
  mn : ∃ n : Nat, l = (n : Int) ∧ IsMin k G S n
  up : ms.Pairwise (· < ·)
  mv : ∀ d, d ∈ ms ↔ ∃ i, i < k ∧ D i = d ∧ Moves k G S i
theorem riseI : ∀ {L M : List Int}, L.Pairwise (· < ·) → M.Pairwise (· < ·) → (∀ i, i ∈ L ↔ i ∈ M) → L = M
  | [], [], _, _, _ => rfl
  | [], b :: M, _, _, h => absurd ((h b).mpr (.head _)) (by simp)
  | a :: L, [], _, _, h => absurd ((h a).mp (.head _)) (by simp)
  | a :: L, b :: M, p, q, h => by
    obtain ⟨p1, p2⟩ := List.pairwise_cons.mp p
    obtain ⟨q1, q2⟩ := List.pairwise_cons.mp q
    have ab : a = b := by
      rcases List.mem_cons.mp ((h a).mp (.head _)) with z | z
      · exact z
      · rcases List.mem_cons.mp ((h b).mpr (.head _)) with y | y
        · exact y.symm
        · have := q1 a z
          have := p1 b y
          omega
    subst ab
    rw [riseI p2 q2 fun i => ?_]
    constructor
    · intro z
      rcases List.mem_cons.mp ((h i).mp (.tail _ z)) with y | y
      · have := p1 i z
        omega
      · exact y
    · intro z
      rcases List.mem_cons.mp ((h i).mpr (.tail _ z)) with y | y
      · have := q1 i z
        omega
      · exact y
variable {D : Nat → Int} {m l m' l' : Int} {ms ms' : List Int}
theorem ToldS.uniq (a : ToldS k G D S m l ms) (b : ToldS k G D S m' l' ms') : m' = m ∧ l' = l ∧ ms' = ms := by
  obtain ⟨n, rfl, ⟨A, ra, ca⟩, ua⟩ := a.mx
  obtain ⟨n', rfl, ⟨B, rb, cb⟩, ub⟩ := b.mx
  obtain ⟨o, rfl, ⟨A2, ra2, ca2⟩, ua2⟩ := a.mn
  obtain ⟨o', rfl, ⟨B2, rb2, cb2⟩, ub2⟩ := b.mn
  have := ua B rb
  have := ub A ra
  have := ua2 B2 rb2
  have := ub2 A2 ra2
  exact ⟨by omega, by omega, riseI b.up a.up fun d => (b.mv d).trans (a.mv d).symm⟩
theorem ToldS.along (r : Reach k G S U) (a : ToldS k G D U m l ms) : ToldS k G D S m l ms := by
  obtain ⟨n, rfl, ⟨A, ra, ca⟩, ua⟩ := a.mx
  obtain ⟨o, rfl, ⟨A2, ra2, ca2⟩, ua2⟩ := a.mn
  refine ⟨⟨n, rfl, ⟨A, r.trans ra, ca⟩, fun W x => ua W (r.symm.trans x)⟩, ⟨o, rfl, ⟨A2, r.trans ra2, ca2⟩, fun W x => ua2 W (r.symm.trans x)⟩, a.up, fun d => (a.mv d).trans ?_⟩
  exact ⟨fun ⟨i, hi, e, z⟩ => ⟨i, hi, e, (moves_along r).mp z⟩, fun ⟨i, hi, e, z⟩ => ⟨i, hi, e, (moves_along r).mpr z⟩⟩
theorem ToldS.deeper (hg : ∀ s i, G s i = true → G' s i = true) (a : ToldS k G D S m l ms) (b : ToldS k G' D S m' l' ms') : m ≤ m' ∧ l' ≤ l ∧ ∀ d ∈ ms, d ∈ ms' := by
  obtain ⟨n, rfl, ⟨A, ra, ca⟩, ua⟩ := a.mx
  obtain ⟨n', rfl, ⟨B, rb, cb⟩, ub⟩ := b.mx
  obtain ⟨o, rfl, ⟨A2, ra2, ca2⟩, ua2⟩ := a.mn
  obtain ⟨o', rfl, ⟨B2, rb2, cb2⟩, ub2⟩ := b.mn
  have := ub A (ra.mono hg)
  have := ub2 A2 (ra2.mono hg)
  refine ⟨by omega, by omega, fun d hd => ?_⟩
  obtain ⟨i, hi, e, W, x, z⟩ := (a.mv d).mp hd
  exact (b.mv d).mpr ⟨i, hi, e, W, x.mono hg, hg _ _ z⟩
/-- told of it turned about -/
theorem ToldS.turn {H : Nat → Nat → Bool} (gt : ∀ s i, s < k → H s i = dual k G s i) (a : ToldS k H D (co S) m l ms) : ToldS k G D S ((k : Int) - l) ((k : Int) - m) ms := by
  have back : ∀ {U : Nat → Bool}, Reach k H (co S) U → Reach k G S (co U) := fun {U} r => by
    refine Reach.codual ?_
    rw [co_co]
    exact r.congr gt
  have fwd : ∀ {U : Nat → Bool}, Reach k G S U → Reach k H (co S) (co U) := fun {U} r => r.dual.congr fun s i hs => (gt s i hs).symm
  obtain ⟨n, rfl, ⟨A, ra, ca⟩, ua⟩ := a.mx
  obtain ⟨o, rfl, ⟨A2, ra2, ca2⟩, ua2⟩ := a.mn
  have cA := cnt_co k A
  have cA2 := cnt_co k A2
  refine ⟨⟨k - o, by omega, ⟨co A2, back ra2, by omega⟩, fun W x => ?_⟩, ⟨k - n, by omega, ⟨co A, back ra, by omega⟩, fun W x => ?_⟩, a.up, fun d => (a.mv d).trans ?_⟩
  · have := ua2 _ (fwd x)
    have := cnt_co k W
    omega
  · have := ua _ (fwd x)
    have := cnt_co k W
    omega
  · have mv : ∀ {i : Nat}, i < k → (Moves k H (co S) i ↔ Moves k G S i) := fun {i} hi => by
      rw [← moves_co (G := G) (S := S) hi]
      constructor
      · rintro ⟨W, x, z⟩
        exact ⟨W, x.congr gt, by unfold May at z ⊢; rw [← gt _ _ (may_lt hi)]; exact z⟩
      · rintro ⟨W, x, z⟩
        exact ⟨W, x.congr fun s i hs => (gt s i hs).symm, by unfold May at z ⊢; rw [gt _ _ (may_lt hi)]; exact z⟩
    exact ⟨fun ⟨i, hi, e, z⟩ => ⟨i, hi, e, (mv hi).mp z⟩, fun ⟨i, hi, e, z⟩ => ⟨i, hi, e, (mv hi).mpr z⟩⟩
end
end Th
namespace Th
/-! ### ships that lie fast for ever, more depth for fewer -/
section
variable {k a c : Nat} {G G' : Nat → Nat → Bool} {D D' : Nat → Int} {S : Nat → Bool}
/-- the same ships, behind them a that lie here, the others there -/
def ext (k a : Nat) (U : Nat → Bool) : Nat → Bool := fun i => if i < k then U i else decide (i < k + a)
theorem ext_lt {U : Nat → Bool} {i : Nat} (hi : i < k) : ext k a U i = U i := by unfold ext; rw [if_pos hi]
theorem ext_ge {U : Nat → Bool} {i : Nat} (hi : ¬ i < k) : ext k a U i = decide (i < k + a) := by unfold ext; rw [if_neg hi]
theorem cnt_ext (U : Nat → Bool) : cnt (k + (a + c)) (ext k a U) = cnt k U + a := by
  rw [cnt_add, cnt_add]
  have e0 : cnt k (ext k a U) = cnt k U := cnt_congr fun i hi => ext_lt hi
  have e1 : cnt a (fun i => ext k a U (k + i)) = cnt a (fun _ => true) := cnt_congr fun i hi => by
    rw [ext_ge (by omega)]
    exact decide_eq_true (by omega)
  have e2 : cnt c (fun i => ext k a U (k + (a + i))) = cnt c (fun _ => false) := cnt_congr fun i hi => by
    rw [ext_ge (by omega)]
    exact decide_eq_false (by omega)
  rw [e0, e1, e2, cnt_const, cnt_const]
  simp
theorem ext_flip {U : Nat → Bool} {i : Nat} (hi : i < k) : ext k a (flip U i) = flip (ext k a U) i := by
  funext j
  by_cases e : j = i
  · subst e
    rw [ext_lt hi, flip_self, flip_self, ext_lt hi]
  · rw [flip_ne _ e]
    by_cases hj : j < k
    · rw [ext_lt hj, ext_lt hj, flip_ne _ e]
    · rw [ext_ge hj, ext_ge hj]
variable (gs : ∀ s i, i < k → G' (s + a) i = G s i) (g0 : ∀ s i, s < k + (a + c) → ¬ i < k → G' s i = false)
include gs
theorem ext_reach {U : Nat → Bool} (r : Reach k G S U) : Reach (k + (a + c)) G' (ext k a S) (ext k a U) := by
  induction r with
  | refl => exact .refl _
  | @step U W _ st ih =>
    cases st with
    | @up i hi hs hG =>
      rw [ext_flip hi]
      exact .step ih (.up (by omega) (by rw [ext_lt hi]; exact hs) (by rw [cnt_ext, gs _ _ hi]; exact hG))
    | @dn i hi hs hG =>
      rw [ext_flip hi]
      have := cnt_pos hi hs
      exact .step ih (.dn (by omega) (by rw [ext_lt hi]; exact hs) (by rw [cnt_ext, show cnt k U + a - 1 = cnt k U - 1 + a by omega, gs _ _ hi]; exact hG))
include g0
theorem ext_back {W : Nat → Bool} (r : Reach (k + (a + c)) G' (ext k a S) W) : ∃ U, W = ext k a U ∧ Reach k G S U := by
  induction r with
  | refl => exact ⟨S, rfl, .refl _⟩
  | @step W W' _ st ih =>
    obtain ⟨U, rfl, r⟩ := ih
    cases st with
    | @up i hi hs hG =>
      by_cases h : i < k
      · rw [ext_lt h] at hs
        rw [cnt_ext, gs _ _ h] at hG
        exact ⟨flip U i, (ext_flip h).symm, .step r (.up h hs hG)⟩
      · have := may_lt (U := ext k a U) hi
        rw [hs, if_neg Bool.false_ne_true] at this
        rw [g0 _ _ this h] at hG
        cases hG
    | @dn i hi hs hG =>
      by_cases h : i < k
      · rw [ext_lt h] at hs
        have := cnt_pos h hs
        rw [cnt_ext, show cnt k U + a - 1 = cnt k U - 1 + a by omega, gs _ _ h] at hG
        exact ⟨flip U i, (ext_flip h).symm, .step r (.dn h hs hG)⟩
      · have := may_lt (U := ext k a U) hi
        rw [hs, if_pos rfl] at this
        rw [g0 _ _ this h] at hG
        cases hG
theorem ToldS.lost {m l : Int} {ms : List Int} (hD : ∀ i, i < k → D' i = D i) (t : ToldS (k + (a + c)) G' D' (ext k a S) m l ms) : ToldS k G D S (m - a) (l - a) ms := by
  obtain ⟨n, rfl, ⟨A, ra, ca⟩, ua⟩ := t.mx
  obtain ⟨o, rfl, ⟨A2, ra2, ca2⟩, ua2⟩ := t.mn
  obtain ⟨B, rfl, rb⟩ := ext_back gs g0 ra
  obtain ⟨B2, rfl, rb2⟩ := ext_back gs g0 ra2
  rw [cnt_ext] at ca ca2
  refine ⟨⟨n - a, by omega, ⟨B, rb, by omega⟩, fun W x => ?_⟩, ⟨o - a, by omega, ⟨B2, rb2, by omega⟩, fun W x => ?_⟩, t.up, fun d => (t.mv d).trans ?_⟩
  · have := ua _ (ext_reach gs x)
    rw [cnt_ext] at this
    omega
  · have := ua2 _ (ext_reach gs x)
    rw [cnt_ext] at this
    omega
  · have may : ∀ {U : Nat → Bool} {i : Nat}, i < k → (May (k + (a + c)) G' (ext k a U) i ↔ May k G U i) := fun {U i} hi => by
      unfold May
      rw [ext_lt hi, cnt_ext]
      cases e : U i with
      | false => rw [if_neg Bool.false_ne_true, if_neg Bool.false_ne_true, gs _ _ hi]
      | true =>
        have := cnt_pos hi e
        rw [if_pos rfl, if_pos rfl, show cnt k U + a - 1 = cnt k U - 1 + a by omega, gs _ _ hi]
    constructor
    · rintro ⟨i, hi, e, W, x, z⟩
      obtain ⟨U, rfl, r⟩ := ext_back gs g0 x
      by_cases h : i < k
      · exact ⟨i, h, by rw [← hD i h]; exact e, U, r, (may h).mp z⟩
      · have := g0 _ _ (may_lt (U := ext k a U) hi) h
        unfold May at z
        rw [this] at z
        cases z
    · rintro ⟨i, hi, e, U, r, z⟩
      exact ⟨i, by omega, by rw [hD i hi]; exact e, _, ext_reach gs r, (may hi).mpr z⟩
end
end Th

namespace Sh
/-! ### what is told of fleets, told otherwise -/
def Told (h t : Int) (ss : List Srt) (m l : Int) (ms : List Int) : Prop := MaxF h t ss m ∧ MinF h t ss l ∧ MoversF h t ss ms
section
variable {h t : Int} {ss : List Srt} {m l m' l' : Int} {ms ms' : List Int}
theorem Told.ships {D : Nat → Int} {S : Nat → Bool} (r : Rp ss (mny ss) D S) (k0 : 0 < mny ss) (up : (ss.map fun x => x.1).Pairwise (· < ·)) (T : Told h t ss m l ms) : Th.ToldS (mny ss) (Gd h t (mny ss) D) D S m l ms := by
  obtain ⟨a, b, c⟩ := T
  obtain ⟨sub, mv⟩ := movers_ships r k0 (up.imp fun h => Int.ne_of_lt h) c
  refine ⟨a.ships r k0, b.ships r k0, up.sublist sub, fun d => ⟨fun hd => ?_, fun ⟨i, hi, e, z⟩ => ?_⟩⟩
  · obtain ⟨x, hx, rfl⟩ := List.mem_map.mp (sub.subset hd)
    exact (mv x hx).mp hd
  · obtain ⟨j, x, hx, ex⟩ := r.sort hi
    rw [← e, ← ex]
    exact (mv x (List.mem_of_getElem? hx)).mpr ⟨i, hi, ex.symm, z⟩
theorem told_turn (k0 : 0 < mny ss) (up : (ss.map fun x => x.1).Pairwise (· < ·)) (T : Told h t ss m l ms) (T' : Told t h (turnF ss) m' l' ms') : m' = (mny ss : Int) - l ∧ l' = (mny ss : Int) - m ∧ ms' = ms := by
  obtain ⟨D, S, r⟩ := rp_ex ss
  have km := mny_turn ss
  have r' := r.turn
  rw [← km] at r'
  have up' : ((turnF ss).map fun x => x.1).Pairwise (· < ·) := by
    unfold turnF
    rw [List.map_map]
    exact up
  have B := T'.ships r' (by rw [km]; exact k0) up'
  rw [km] at B
  obtain ⟨e1, e2, e3⟩ := (T.ships r k0 up).uniq (B.turn fun s i hs => Gd_turn hs)
  exact ⟨by omega, by omega, e3⟩
theorem rp_spare {ss2 : List Srt} {d : Int} {k : Nat} {D : Nat → Int} {S : Nat → Bool} (p : ss2.Perm (ss ++ [(d, 0, 0)])) (r : Rp ss k D S) : Rp ss2 k D S := by
  have q : ∀ (P : Int → Bool) (f : Srt → Nat), f (d, 0, 0) = 0 → ((ss2.filter fun x => P x.1).map f).sum = ((ss.filter fun x => P x.1).map f).sum := fun P f f0 => by
    rw [((p.filter _).map f).sum_nat, List.filter_append, List.map_append, List.sum_append]
    by_cases c : P d = true
    · rw [List.filter_cons_of_pos (p := fun x : Srt => P x.1) c]
      simp [f0]
    · rw [List.filter_cons_of_neg (p := fun x : Srt => P x.1) c]
      simp
  exact ⟨fun P => (q P _ rfl).trans (r.here P), fun P => (q P _ rfl).trans (r.there P)⟩
theorem told_spare {ss2 : List Srt} {d : Int} (k0 : 0 < mny ss) (up : (ss.map fun x => x.1).Pairwise (· < ·)) (p : ss2.Perm (ss ++ [(d, 0, 0)])) (up2 : (ss2.map fun x => x.1).Pairwise (· < ·)) (T : Told h t ss m l ms) (T' : Told h t ss2 m' l' ms') : m' = m ∧ l' = l ∧ ms' = ms := by
  obtain ⟨D, S, r⟩ := rp_ex ss
  have r2 := rp_spare p r
  have km := r2.mny
  rw [← km] at r2
  have B := T'.ships r2 (by rw [km]; exact k0) up2
  rw [km] at B
  exact (T.ships r k0 up).uniq B
theorem told_deeper {h' t' : Int} (k0 : 0 < mny ss) (up : (ss.map fun x => x.1).Pairwise (· < ·)) (hh : h ≤ h') (tt : t ≤ t') (T : Told h t ss m l ms) (T' : Told h' t' ss m' l' ms') : m ≤ m' ∧ l' ≤ l ∧ ∀ d ∈ ms, d ∈ ms' := by
  obtain ⟨D, S, r⟩ := rp_ex ss
  refine (T.ships r k0 up).deeper (fun s i g => ?_) (T'.ships r k0 up)
  unfold Gd at g ⊢
  rw [decide_eq_true_eq] at g ⊢
  unfold mk at g ⊢
  split at g <;> split <;> omega
theorem told_lost {a c : Nat} (k0 : 0 < mny ss) (up : (ss.map fun x => x.1).Pairwise (· < ·)) (lt : ∀ x ∈ ss, x.1 < 1000000000000) (bd : h + (mny ss : Int) + c ≤ 1000000000000) (T : Told h t ss m l ms) (T' : Told (h - a) (t - c) (ss ++ [(1000000000000, a, c)]) m' l' ms') : m' = m + a ∧ l' = l + a ∧ ms' = ms := by
  obtain ⟨D, S, r⟩ := rp_ex ss
  have r2 : Rp (ss ++ [(1000000000000, a, c)]) (mny ss + (a + c)) (fun i => if i < mny ss then D i else 1000000000000) (Th.ext (mny ss) a S) :=
    rp_snoc r (fun i hi => by rw [if_pos hi]) (fun i hi => Th.ext_lt hi) (fun i hi => by rw [if_neg (by omega)]) (fun i hi => by
      rw [Th.ext_ge (by omega), decide_eq_decide]
      show _ ↔ i < a
      omega)
  have km := r2.mny
  have up2 : ((ss ++ [((1000000000000 : Int), a, c)]).map fun x => x.1).Pairwise (· < ·) := by
    rw [List.map_append]
    refine List.pairwise_append.mpr ⟨up, List.pairwise_singleton _ _, fun x hx y hy => ?_⟩
    obtain ⟨z, hz, rfl⟩ := List.mem_map.mp hx
    rw [List.mem_singleton.mp hy]
    exact lt z hz
  rw [← km] at r2
  have B := T'.ships r2 (by rw [km]; omega) up2
  rw [km] at B
  have L := B.lost (G := Gd h t (mny ss) D) (D := D) (k := mny ss) (fun s i hi => ?_) (fun s i hs hi => ?_) (fun i hi => by rw [if_pos hi])
  · obtain ⟨e1, e2, e3⟩ := (T.ships r k0 up).uniq L
    exact ⟨by omega, by omega, e3⟩
  · unfold Gd
    refine decide_eq_decide.mpr ?_
    dsimp only
    rw [if_pos hi]
    have e : mk (h - a) (t - c) (mny ss + (a + c)) ((s + a : Nat) : Int) = mk h t (mny ss) (s : Int) := by
      unfold mk
      split <;> split <;> omega
    rw [e]
  · unfold Gd
    refine decide_eq_false ?_
    dsimp only
    rw [if_neg hi]
    unfold mk
    split <;> omega
end
/-! ### who comes to whom, told otherwise -/
section
variable {h t : Int} {ss ss' : List Srt} {b b' : Bool}
theorem alike_turn (a : Alike ss ss') : Alike (turnF ss) (turnF ss') := by
  unfold Alike turnF at *
  rw [List.map_map, List.map_map]
  have e := congrArg (List.map fun p : Int × Nat => (p.1, p.2)) a
  rw [List.map_map, List.map_map] at e
  refine Eq.trans (List.map_congr_left fun x _ => ?_) (Eq.trans e (List.map_congr_left fun x _ => ?_))
  · show (x.1, x.2.2 + x.2.1) = (x.1, x.2.1 + x.2.2)
    rw [Nat.add_comm]
  · show (x.1, x.2.1 + x.2.2) = (x.1, x.2.2 + x.2.1)
    rw [Nat.add_comm]
theorem comes_turn1 (k0 : 0 < mny ss) (nd : (ss.map fun x => x.1).Nodup) (a : Alike ss ss') (q : ComesF h t ss ss' b) (q' : ComesF t h (turnF ss) (turnF ss') b') (e : b = true) : b' = true := by
  obtain ⟨D, S, U, r, r', R⟩ := comes_yes k0 a q e
  have km := mny_turn ss
  have nd' : ((turnF ss).map fun x => x.1).Nodup := by
    unfold turnF
    rw [List.map_map]
    exact nd
  refine comes_by (by rw [km]; exact k0) (alike_turn a) nd' q' (by rw [km]; exact r.turn) (by rw [km]; exact r'.turn) ?_
  rw [km]
  exact R.dual.congr fun s i hs => (Gd_turn hs).symm
theorem comes_turn (k0 : 0 < mny ss) (nd : (ss.map fun x => x.1).Nodup) (a : Alike ss ss') (q : ComesF h t ss ss' b) (q' : ComesF t h (turnF ss) (turnF ss') b') : b' = b := by
  refine Bool.eq_iff_iff.mpr ⟨fun e => ?_, comes_turn1 k0 nd a q q'⟩
  have nd' : ((turnF ss).map fun x => x.1).Nodup := by
    unfold turnF
    rw [List.map_map]
    exact nd
  exact comes_turn1 (by rw [mny_turn]; exact k0) nd' (alike_turn a) q' (by rw [turn_turn, turn_turn]; exact q) e
theorem comes_back1 (k0 : 0 < mny ss) (nd : (ss.map fun x => x.1).Nodup) (a : Alike ss ss') (q : ComesF h t ss ss' b) (q' : ComesF h t ss' ss b') (e : b = true) : b' = true := by
  obtain ⟨D, S, U, r, r', R⟩ := comes_yes k0 a q e
  have km := a.mny
  exact comes_by (by rw [km]; exact k0) a.symm (by rw [← a.fst]; exact nd) q' (by rw [km]; exact r') (by rw [km]; exact r) (by rw [km]; exact R.symm)
theorem comes_back (k0 : 0 < mny ss) (nd : (ss.map fun x => x.1).Nodup) (a : Alike ss ss') (q : ComesF h t ss ss' b) (q' : ComesF h t ss' ss b') : b' = b :=
  Bool.eq_iff_iff.mpr ⟨comes_back1 (by rw [a.mny]; exact k0) (by rw [← a.fst]; exact nd) a.symm q' q, comes_back1 k0 nd a q q'⟩
theorem comes_told {m l m' l' : Int} {ms ms' : List Int} (k0 : 0 < mny ss) (up : (ss.map fun x => x.1).Pairwise (· < ·)) (a : Alike ss ss') (q : ComesF h t ss ss' b) (e : b = true) (T : Told h t ss m l ms) (T' : Told h t ss' m' l' ms') : m' = m ∧ l' = l ∧ ms' = ms := by
  obtain ⟨D, S, U, r, r', R⟩ := comes_yes k0 a q e
  have km := a.mny
  rw [← km] at r'
  have B := T'.ships r' (by rw [km]; exact k0) (by rw [← a.fst]; exact up)
  rw [km] at B
  exact (T.ships r k0 up).uniq (B.along R)
end
end Sh

namespace Sh
open PySem PySem.Spec PyProof.Rows L2
/-! ### great fleets: the fleet that is drawn -/
structure GreatF (h t : Int) (ss : List Srt) : Prop where
  l0 : 0 < ss.length
  l1 : ss.length ≤ 7
  k0 : 0 < mny ss
  k1 : mny ss ≤ 140000000014
  up : (ss.map fun x => x.1).Pairwise (· < ·)
  h0 : 0 ≤ h ∧ h ≤ 140000000014
  t0 : 0 ≤ t ∧ t ≤ 140000000014
  d0 : ∀ x ∈ ss, 0 ≤ x.1 ∧ x.1 ≤ 140000000016
def spGreat : Sp := fun vs H Q _ => ∃ (b : Addr) (n : Nat), vs = [.ref b] ∧ BoxAt H b (n + 200) ∧ ∀ (H' : Hp) (p : Addr) (h t : Int) (ss : List Srt), But b H H' → BoxAt H' b n → FltT H' p h t ss → GreatF h t ss → Q (.ref p) H'
abbrev s__law_great_fleet : Stmt := topS 34
theorem sc__law_great_fleet : FnScope (["_law_box_here", "_law_size", "_law_numbers", "_law_turn", "_law_whole", "_law_depths", "_law_deeps", "_law_way", "_law_pair", "_law_deep"] : List Str) (["_law_box_here"] : List Str) (defScope s__law_great_fleet) := ⟨rfl, rfl, rfl, by decide +kernel, rfl, by decide +kernel, by decide +kernel⟩
theorem b__law_great_fleet (kV doc pm : Value) (an : Option Addr) (cdv ct : Value) (us : List Value) (hl : us.length = (["_law_box_here"] : List Str).length) : bindArgs (PySem.W.fnOf "_law_great_fleet" "_law_great_fleet" (defArgs s__law_great_fleet) (defBody s__law_great_fleet) (defScope s__law_great_fleet) .none kV doc pm an cdv ct) ⟨us, []⟩ = pure ((["_law_box_here"] : List Str).zip us) :=
  match us, hl with | [_], _ => rfl
section
variable {P : Program} {w : World} {K : PySem.W.Frag} {mg : Str → Option Value} {base : Heap}
set_option maxHeartbeats 8000000 in
theorem ok_great {k : Nat} (D : Df K mg "_law_great_fleet" s__law_great_fleet) (T : Bt mg) (O__law_take : Ok P w K mg base k "_law_take" s__law_take ["_law_box_here", "_law_span"] spTake) (O__law_of : Ok P w K mg base k "_law_of" s__law_of ["_law_box_here", "_law_some"] (spOf K)) :
    Ok P w K mg base (k + 1) "_law_great_fleet" s__law_great_fleet ["_law_box_here"] spGreat := by
  refine D.ok sc__law_great_fleet b__law_great_fleet (fun vs H Q E h => ?_) (fun f cdv A outer s H vs Q E hr h => ?_)
  · obtain ⟨b, n, rfl, _⟩ := h
    rfl
  · obtain ⟨b, n, rfl, hb, q⟩ := h
    refine ⟨_, (pss_cons (ps_set (i := 1) sc__law_great_fleet.nd rfl (.inr rfl) (pe_fn O__law_of (hr.mono (by omega)) (pa_cons (pv 0) (pa_cons (pe_lst (pa_cons pe_int (pa_cons pe_int (pa_cons (pe_op (op_powC 1000000) pe_int pe_int) (pa_cons (pe_op (op_powC 10000000000) pe_int pe_int) pa_nil))))) pa_nil))))
      (pss_cons (ps_set (i := 2) sc__law_great_fleet.nd rfl (.inl rfl) (pe_lst pa_nil))
      (pss_cons (ps_for PassesOwn.never rfl (pi_range1 (by rfl) T.range_ (pa_cons (pe_op op_add pe_int (pe_fn O__law_take (hr.mono (by omega)) (pa_cons (pv 0) (pa_cons pe_int pa_nil)))) pa_nil)) (pg_name (i := 3) sc__law_great_fleet.nd rfl (.inl rfl))
        (pss_one (ps_expr (pe_bm PySem.F.plainAttrs_list PySem.F.slot_list_append PySem.F.type_list_append mt_append (pv 2) (pa_cons (pe_lc (own := [("_law_way", 7)]) (g := (gName 7)) (tt := tYes) (by rfl) sc__law_great_fleet.nd (pi_range1 (by rfl) T.range_ (pa_cons pe_int pa_nil)) (blkOk_by (own := [("_law_way", 7)]) (N := (["_law_box_here", "_law_size", "_law_numbers", "_law_turn", "_law_whole", "_law_depths", "_law_deeps", "_law_way", "_law_pair", "_law_deep"] : List Str)) (sc := defScope s__law_great_fleet) (by decide +kernel)) (fun _ _ _ _ _ => (pg_name (i := 7) sc__law_great_fleet.nd rfl (.inl rfl))) (fun _ _ _ _ _ => pts_nil) (fun _ _ _ _ _ => (pe_op op_mul (pe_fn O__law_take (hr.mono (by omega)) (pa_cons (pv 0) (pa_cons (pe_op op_add (pv 1) pe_int) pa_nil))) (pe_fn O__law_take (hr.mono (by omega)) (pa_cons (pv 0) (pa_cons pe_int pa_nil)))))) pa_nil)))))
      (pss_cons (ps_asg (pe_op op_add (pe_ix ix_lt (pe_ix ix_lt (pv 2) pe_int (fun _ _ => rfl)) pe_int (fun _ _ => rfl)) pe_int) (pg_sub (pe_ix ix_lt (pv 2) pe_int (fun _ _ => rfl)) pe_int set_list))
      (pss_cons (ps_set (i := 4) sc__law_great_fleet.nd rfl (.inr rfl) (pe_callB (cr_sum rfl) (by rfl) T.sum_ (by decide +kernel) (pa_cons (pe_lc (own := [("_law_pair", 8)]) (g := (gName 8)) (tt := tYes) (by rfl) sc__law_great_fleet.nd (pi_seq (pv 2)) (blkOk_by (own := [("_law_pair", 8)]) (N := (["_law_box_here", "_law_size", "_law_numbers", "_law_turn", "_law_whole", "_law_depths", "_law_deeps", "_law_way", "_law_pair", "_law_deep"] : List Str)) (sc := defScope s__law_great_fleet) (by decide +kernel)) (fun _ _ _ _ _ => (pg_name (i := 8) sc__law_great_fleet.nd rfl (.inl rfl))) (fun _ _ _ _ _ => pts_nil) (fun _ _ _ _ _ => (pe_callB (cr_sumK K rfl) (by rfl) T.sum_ (by decide +kernel) (pa_cons (pv 8) pa_nil)))) pa_nil)))
      (pss_cons (ps_setLc (i := 5) (own := [("_law_turn", 3)]) (g := (gName 3)) (tt := tYes) (by rfl) sc__law_great_fleet.nd rfl rfl (sw_true rfl rfl rfl (by decide +kernel)) (pi_range1 (by rfl) T.range_ (pa_cons pe_int pa_nil)) (blkOk_by (own := [("_law_turn", 3)]) (N := (["_law_box_here", "_law_size", "_law_numbers", "_law_turn", "_law_whole", "_law_depths", "_law_deeps", "_law_way", "_law_pair", "_law_deep"] : List Str)) (sc := defScope s__law_great_fleet) (by decide +kernel)) (fun _ _ _ _ _ => (pg_name (i := 3) sc__law_great_fleet.nd rfl (.inl rfl))) (fun _ _ _ _ _ => pts_nil) (fun _ _ _ _ _ => (pe_op op_mul (pe_fn O__law_take (hr.mono (by omega)) (pa_cons (pv 0) (pa_cons pe_int pa_nil))) (pe_fn O__law_take (hr.mono (by omega)) (pa_cons (pv 0) (pa_cons (pe_op op_add (pv 4) pe_int) pa_nil))))))
      (pss_cons (ps_set (i := 6) sc__law_great_fleet.nd rfl (.inl rfl) (pe_callB (cr_sortedSetw w rfl) (by rfl) T.sorted_ (by decide +kernel) (pa_cons (pe_callTy (cr_setAw w rfl) (by rfl) T.set_ (by decide +kernel) (pa_cons (pe_lc (own := [("_law_pair", 8)]) (g := (gName 8)) (tt := tYes) (by rfl) sc__law_great_fleet.nd (pi_seq (pv 2)) (blkOk_by (own := [("_law_pair", 8)]) (N := (["_law_box_here", "_law_size", "_law_numbers", "_law_turn", "_law_whole", "_law_depths", "_law_deeps", "_law_way", "_law_pair", "_law_deep"] : List Str)) (sc := defScope s__law_great_fleet) (by decide +kernel)) (fun _ _ _ _ _ => (pg_name (i := 8) sc__law_great_fleet.nd rfl (.inl rfl))) (fun _ _ _ _ _ => pts_nil) (fun _ _ _ _ _ => (pe_fn O__law_take (hr.mono (by omega)) (pa_cons (pv 0) (pa_cons (pe_fn O__law_of (hr.mono (by omega)) (pa_cons (pv 0) (pa_cons (pe_lst (pa_cons pe_int (pa_cons (pe_op op_add (pv 4) pe_int) pa_nil))) pa_nil))) pa_nil))))) pa_nil)) pa_nil)))
      (pss_one (ps_ret (pe_tup (pa_cons (pe_ix ix_lt (pv 5) pe_int (fun _ _ => rfl)) (pa_cons (pe_ix ix_lt (pv 5) pe_int (fun _ _ => rfl)) (pa_cons (pe_callTy call_tuple_of (by rfl) T.tuple_ (by decide +kernel) (pa_cons (pe_lc (own := [("_law_deep", 9), ("_law_pair", 8)]) (g := (gSeq K 2 (gCons (gName 9) (gCons (gName 8) gNil)))) (tt := tYes) (by rfl) sc__law_great_fleet.nd (RZ.pi_zipA (by rfl) T.zip_ (pa_cons (pv 6) (pa_cons (pv 2) pa_nil))) (blkOk_by (own := [("_law_deep", 9), ("_law_pair", 8)]) (N := (["_law_box_here", "_law_size", "_law_numbers", "_law_turn", "_law_whole", "_law_depths", "_law_deeps", "_law_way", "_law_pair", "_law_deep"] : List Str)) (sc := defScope s__law_great_fleet) (by decide +kernel)) (fun _ _ _ _ _ => (pg_seq rfl (pgs_cons (pg_name (i := 9) sc__law_great_fleet.nd rfl (.inl rfl)) (pgs_cons (pg_name (i := 8) sc__law_great_fleet.nd rfl (.inl rfl)) pgs_nil)))) (fun _ _ _ _ _ => pts_nil) (fun _ _ _ _ _ => (pe_tup (pa_cons (pv 9) (pa_cons (pe_ix (ix_ltK K) (pv 8) pe_int (fun _ _ => rfl)) (pa_cons (pe_ix (ix_ltK K) (pv 8) pe_int (fun _ _ => rfl)) pa_nil)))))) pa_nil)) pa_nil))))))))))))), ?_⟩
    -- how many of a sort
    refine ⟨_, rfl, 10, 6, rfl, rfl, ⟨⟨by decide, by decide, by decide⟩, by decide⟩, 10, 10, rfl, rfl, ⟨⟨by decide, by decide, by decide⟩, by decide⟩, (by show 4 ≤ sizeLine; decide), fun l nl => ?_⟩
    obtain ⟨u1, x1, e1, n1⟩ := al (o := .lst [.int 10, .int 1000, .int 1000000, .int 10000000000]) (But.refl b H) hb nl
    refine ⟨b, l, n + 199, [.int 10, .int 1000, .int 1000000, .int 10000000000], rfl, SqA.l upd_same, n1, (by show 0 < 4; decide), (by show 4 < 1000000; decide), x1, fun v ys1 hv y1 => ?_⟩
    obtain ⟨size, s0, s1, rfl⟩ : ∃ size : Int, 0 < size ∧ size ≤ 10000000000 ∧ v = .int size := by
      have e5 : v = .int 10 ∨ v = .int 1000 ∨ v = .int 1000000 ∨ v = .int 10000000000 := by simpa using hv
      rcases e5 with e | e | e | e
      · exact ⟨10, by decide, by decide, e⟩
      · exact ⟨1000, by decide, by decide, e⟩
      · exact ⟨1000000, by decide, by decide, e⟩
      · exact ⟨10000000000, by decide, by decide, e⟩
    obtain ⟨u2, x2⟩ := tk u1 y1
    clear x1 e1
    try dsimp only
    generalize upd (upd H l (.lst [.int 10, .int 1000, .int 1000000, .int 10000000000])) b (.lst ys1) = H2 at u2 x2
    -- no numbers yet
    refine ⟨(by show 0 ≤ sizeLine; decide), fun L nL => ?_⟩
    obtain ⟨u3, x3, e3, n3⟩ := al (o := .lst []) u2 x2 nL
    have nL0 : H L = none := u2.free n3 nL
    generalize upd H2 L (.lst []) = H3 at u3 x3 e3
    refine ⟨_, rfl, b, n + 198, 7, rfl, by decide, by decide, x3, fun c ys4 c0 c1 y4 => ?_⟩
    refine ⟨1, c, rfl, rfl, ?_⟩
    obtain ⟨u4, x4⟩ := tk u3 y4
    have e4 : upd H3 b (.lst ys4) L = some (.lst []) := by rw [upd_ne n3]; exact e3
    generalize upd H3 b (.lst ys4) = H4 at u4 x4 e4
    obtain ⟨cn, ec⟩ : ∃ cn : Nat, 1 + c = ((cn : Nat) : Int) := ⟨(1 + c).toNat, by omega⟩
    have cn0 : 0 < cn := by omega
    have cn1 : cn ≤ 7 := by omega
    refine ⟨1 + c, rfl, by omega, by omega, ?_⟩
    rw [show (1 + c).toNat = cn by omega]
    refine for_range (lo := 0) (n := cn) (fun i σ H' => ∃ (y3 : Option V) (rs : List Addr) (ps : List (Nat × Nat)), σ = [some (.ref b), some (.int size), some (.ref L), y3, none, none, none, none, none, none] ∧ Nums b L H H' rs ps ∧ ps.length = i ∧ BoxAt H' b (n + 197 - 4 * i) ∧ ∀ p ∈ ps, p.1 ≤ 10000000000 ∧ p.2 ≤ 10000000000) ?_ ?_ ?_
    · exact ⟨none, [], [], rfl, ⟨u4, e4, rfl, fun i j r h => by simp at h, fun i r p h => by simp at h, fun r h => by simp at h⟩, rfl, x4.mono (by omega), fun p h => by simp at h⟩
    · rintro i σ Ha hi ⟨y3, rs, ps, rfl, N, hl, xa, hp⟩
      refine ⟨_, rfl, .inl ⟨rfl, _, SqL.of N.at_⟩, 2, rfl, by decide, by decide, fun C nC => ?_⟩
      have cb : C ≠ b := (xa.ne nC).symm
      refine lc_range (fun j Hc => ∃ ns : List Int, But b Ha Hc ∧ BoxAt Hc b (n + 197 - 4 * i - 2 * j) ∧ Hc C = some (.lst (ns.map V.int)) ∧ ns.length = j ∧ ∀ d ∈ ns, 0 ≤ d ∧ d ≤ 10000000000) ?_ ?_ ?_
      · exact ⟨[], (al (But.refl b Ha) xa nC).1, (al (But.refl b Ha) xa nC).2.1, upd_same, rfl, fun d hd => by simp at hd⟩
      · rintro j Hc hj ⟨ns, uc, xc, hC, hl2, hn⟩
        have j2 : j < 2 := hj
        refine ⟨rfl, tyes (iteT ?_)⟩
        refine ⟨_, rfl, _, rfl, _, 1, rfl, rfl, b, n + 197 - 4 * i - 2 * j - 1, _, rfl, by omega, by omega, xc.mono (by omega), fun v ys v0 v1 y => ?_⟩
        obtain ⟨ud, xd⟩ := tk uc y
        have hD : upd Hc b (.lst ys) C = some (.lst (ns.map V.int)) := by rw [upd_ne cb]; exact hC
        generalize upd Hc b (.lst ys) = Hd at ud xd hD
        refine ⟨_, rfl, b, n + 197 - 4 * i - 2 * j - 2, 2, rfl, by decide, by decide, xd.mono (by omega), fun v' ys' v0' v1' y' => ?_⟩
        obtain ⟨ue, xe⟩ := tk ud y'
        have hE : upd Hd b (.lst ys') C = some (.lst (ns.map V.int)) := by rw [upd_ne cb]; exact hD
        generalize upd Hd b (.lst ys') = He at ue xe hE
        refine ⟨v, v', rfl, rfl, .inr ⟨by omega, by omega⟩, ns.map V.int, hE, ?_, ns ++ [v * v'], ?_, ?_, ?_, ?_, ?_⟩
        · rw [List.length_map, hl2]
          exact Nat.lt_trans j2 (by decide)
        · exact fun a o na e => by rw [upd_ne (ne_of_none e nC)]; exact ue a o na e
        · exact (xe.at cb.symm).mono (by omega)
        · rw [upd_same, List.map_append]
          rfl
        · simp [hl2]
        · intro d hd
          rcases List.mem_append.mp hd with z | z
          · exact hn d z
          · have e : d = v * v' := by simpa using z
            have e01 : v' = 0 ∨ v' = 1 := by omega
            rcases e01 with z | z <;> (rw [e, z]; omega)
      · rintro Hb ⟨ns, uc, xc, hC, hl2, hn⟩
        obtain ⟨x, y, rfl⟩ := two_of hl2
        have hx := hn x (by simp)
        have hy := hn y (by simp)
        obtain ⟨xn, rfl⟩ := Int.eq_ofNat_of_zero_le hx.1
        obtain ⟨yn, rfl⟩ := Int.eq_ofNat_of_zero_le hy.1
        refine ⟨L, rs.map V.ref, .ref C, rfl, rfl, uc _ _ n3 N.at_, ?_, ?_⟩
        · rw [List.length_map, N.len, hl]
          exact Nat.lt_of_lt_of_le hi (Nat.le_trans cn1 (by decide))
        refine ⟨_, rs ++ [C], ps ++ [(xn, yn)], rfl, N.push n3 nL0 uc nC cb hC, by simp [hl], (xc.at n3.symm).mono (by omega), fun p hm => ?_⟩
        rcases List.mem_append.mp hm with z | z
        · exact hp p z
        · obtain rfl : p = (xn, yn) := by simpa using z
          exact ⟨by omega, by omega⟩
    · rintro σ H5 ⟨y3, rs, ps, rfl, N, hl, x5, hp⟩
      -- one more of the first
      cases rs with
      | nil =>
        have := N.len
        simp at this
        omega
      | cons r0 rs =>
        cases ps with
        | nil =>
          simp at hl
          omega
        | cons p0 ps =>
          obtain ⟨a0, c0'⟩ := p0
          have g0 : H5 r0 = some (.lst [.int (a0 : Int), .int (c0' : Int)]) := N.got 0 _ _ rfl rfl
          refine ⟨_, rfl, L, _, 0, .ref r0, rfl, rfl, SqA.l N.at_, at_nat (j := 0) rfl rfl, r0, _, 0, .int (a0 : Int), rfl, rfl, SqA.l g0, rfl, (a0 : Int), 1, rfl, rfl, ?_⟩
          refine ⟨_, rfl, L, _, 0, .ref r0, rfl, rfl, SqA.l N.at_, at_nat (j := 0) rfl rfl, r0, _, 0, 0, rfl, rfl, g0, rfl, ?_⟩
          have rb := (N.new r0 (by simp)).1
          obtain ⟨Rs, Ps, N6, l6, h6, b6⟩ : ∃ (Rs : List Addr) (Ps : List (Nat × Nat)), Nums b L H (upd H5 r0 (.lst [.int ((a0 : Int) + 1), .int (c0' : Int)])) Rs Ps ∧ Ps.length = cn ∧ (∃ p tl, Ps = p :: tl ∧ 0 < p.1) ∧ ∀ p ∈ Ps, p.1 ≤ 10000000001 ∧ p.2 ≤ 10000000001 := by
            refine ⟨r0 :: rs, (a0 + 1, c0') :: ps, N.first, hl, ⟨_, _, rfl, Nat.succ_pos _⟩, fun p hm => ?_⟩
            rcases List.mem_cons.mp hm with z | z
            · have := hp (a0, c0') (by simp)
              rw [z]
              exact ⟨by show a0 + 1 ≤ _; have := this.1; simp only at this; omega, by show c0' ≤ _; have := this.2; simp only at this; omega⟩
            · have := hp p (by simp [z])
              omega
          have x6 : BoxAt (upd H5 r0 (.lst [.int ((a0 : Int) + 1), .int (c0' : Int)])) b (n + 169) := (x5.mono (by omega)).at rb.symm
          clear N g0 hp hl x5
          try dsimp only
          rw [show ([V.int (a0 : Int), .int (c0' : Int)]).set 0 (.int ((a0 : Int) + 1)) = [.int ((a0 : Int) + 1), .int (c0' : Int)] from rfl]
          generalize upd H5 r0 (.lst [.int ((a0 : Int) + 1), .int (c0' : Int)]) = H6 at N6 x6
          -- all of them
          refine ⟨_, rfl, L, _, H6, rfl, SqA.l N6.at_, Kp.refl _ _, fun J hJ C nC => ?_⟩
          obtain ⟨G, g, W⟩ := hJ.walk
          refine lc_it W (fun i H' => Same H6 H' ∧ H' C = some (.lst (((Ps.take i).map sm2).map V.int))) ⟨same_new nC, upd_same⟩ (fun i H' _ z => g H' (.ofS z.1)) ?_ ?_
          · rintro i x Ha Hb _ ⟨sm, hC⟩ ⟨rfl, gx⟩
            obtain ⟨r, hi, rfl, hr1⟩ := N6.get gx
            refine ⟨rfl, tyes (iteT ⟨_, rfl, r, [(Ps[i].1 : Int), (Ps[i].2 : Int)], rfl, SqL.of (sm _ _ hr1), _, hC, ?_, same_over sm nC, ?_⟩)⟩
            · rw [List.length_map, List.length_map, List.length_take]
              exact Nat.lt_of_le_of_lt (Nat.min_le_right _ _) (Nat.lt_of_le_of_lt (show Ps.length ≤ 7 by omega) (by decide))
            · rw [upd_same, tmG _ hi, List.map_append]
              rfl
          rintro H7 ⟨s7, hC⟩
          rw [List.length_map, N6.len, List.take_length] at hC
          refine ⟨C, _, rfl, SqL.of hC, ?_⟩
          rw [sum_sm2]
          have wb : whole2 Ps ≤ 140000000014 := by
            have := whole2_le b6
            rw [l6] at this
            have : cn * (2 * 10000000001) ≤ 7 * (2 * 10000000001) := Nat.mul_le_mul_right _ cn1
            omega
          have N7 := N6.but n3 (Same.but s7)
          have x7 := x6.same s7
          clear hC W g G hJ J nC C N6 x6 s7
          -- the depths
          refine ⟨2, rfl, by decide, by decide, fun C2 nC2 => ?_⟩
          have cb : C2 ≠ b := (x7.ne nC2).symm
          refine lc_range (fun j Hc => ∃ ns : List Int, But b H7 Hc ∧ BoxAt Hc b (n + 169 - 2 * j) ∧ Hc C2 = some (.lst (ns.map V.int)) ∧ ns.length = j ∧ ∀ d ∈ ns, 0 ≤ d ∧ d ≤ 140000000014) ?_ ?_ ?_
          · exact ⟨[], (al (But.refl b H7) x7 nC2).1, (al (But.refl b H7) x7 nC2).2.1, upd_same, rfl, fun d hd => by simp at hd⟩
          · rintro j Hc hj ⟨ns, uc, xc, hC, hl2, hn⟩
            have j2 : j < 2 := hj
            refine ⟨rfl, tyes (iteT ?_)⟩
            refine ⟨_, rfl, b, n + 169 - 2 * j - 1, 2, rfl, by decide, by decide, xc.mono (by omega), fun v ys v0 v1 y => ?_⟩
            obtain ⟨ud, xd⟩ := tk uc y
            have hD : upd Hc b (.lst ys) C2 = some (.lst (ns.map V.int)) := by rw [upd_ne cb]; exact hC
            generalize upd Hc b (.lst ys) = Hd at ud xd hD
            refine ⟨_, rfl, _, rfl, _, 1, rfl, rfl, b, n + 169 - 2 * j - 2, _, rfl, by omega, by omega, xd.mono (by omega), fun v' ys' v0' v1' y' => ?_⟩
            obtain ⟨ue, xe⟩ := tk ud y'
            have hE : upd Hd b (.lst ys') C2 = some (.lst (ns.map V.int)) := by rw [upd_ne cb]; exact hD
            generalize upd Hd b (.lst ys') = He at ue xe hE
            refine ⟨v, v', rfl, rfl, .inl ⟨by omega, by omega⟩, ns.map V.int, hE, ?_, ns ++ [v * v'], ?_, ?_, ?_, ?_, ?_⟩
            · rw [List.length_map, hl2]
              exact Nat.lt_trans j2 (by decide)
            · exact fun a o na e => by rw [upd_ne (ne_of_none e nC2)]; exact ue a o na e
            · exact (xe.at cb.symm).mono (by omega)
            · rw [upd_same, List.map_append]
              rfl
            · simp [hl2]
            · intro d hd
              rcases List.mem_append.mp hd with z | z
              · exact hn d z
              · have e : d = v * v' := by simpa using z
                have e01 : v = 0 ∨ v = 1 := by omega
                rcases e01 with z | z <;> (rw [e, z]; omega)
          rintro H8 ⟨ds2, u8, x8, h8, l8, b8⟩
          obtain ⟨d0, d1, rfl⟩ := two_of l8
          have N8 := N7.but n3 u8
          replace x8 : BoxAt H8 b (n + 165) := x8.mono (by omega)
          clear N7 x7 u8 l8
          -- the draughts
          refine ⟨_, rfl, L, _, H8, rfl, SqA.l N8.at_, Kp.refl _ _, fun J hJ C3 nC3 => ?_⟩
          have cb3 : C3 ≠ b := (x8.ne nC3).symm
          obtain ⟨G, g, W⟩ := hJ.walk
          refine lc_it W (fun i H' => ∃ ns : List Int, But b H8 H' ∧ BoxAt H' b (n + 165 - 2 * i) ∧ H' C3 = some (.lst (ns.map V.int)) ∧ ns.length = i ∧ ∀ d ∈ ns, 0 ≤ d ∧ d ≤ 140000000016) ?_ (fun i H' _ z => g H' (.ofB z.choose_spec.1 n3)) ?_ ?_
          · exact ⟨[], (al (But.refl b H8) x8 nC3).1, (al (But.refl b H8) x8 nC3).2.1, upd_same, rfl, fun d hd => by simp at hd⟩
          · rintro i x Hb Ha hi ⟨ns, uc, xc, hC, hl2, hn⟩ ⟨rfl, gx⟩
            rw [List.length_map, N8.len, l6] at hi
            refine ⟨rfl, tyes (iteT ?_)⟩
            refine ⟨_, rfl, _, rfl, _, rfl, _, 2, rfl, rfl, (by show 2 ≤ sizeLine; decide), fun l nl => ?_⟩
            obtain ⟨ud, xd, ed, nd⟩ := al (o := .lst [.int 3, .int ((whole2 Ps : Int) + 2)]) uc xc nl
            have hD : upd Ha l (.lst [.int 3, .int ((whole2 Ps : Int) + 2)]) C3 = some (.lst (ns.map V.int)) := by rw [upd_ne (ne_of_none hC nl)]; exact hC
            refine ⟨b, l, n + 165 - 2 * i - 1, [.int 3, .int ((whole2 Ps : Int) + 2)], rfl, SqA.l upd_same, nd, (by show 0 < 2; decide), (by show 2 < 1000000; decide), xd.mono (by omega), fun v ys hv y => ?_⟩
            obtain ⟨span, s0', s1', rfl⟩ : ∃ span : Int, 0 < span ∧ span ≤ 140000000016 ∧ v = .int span := by
              have e5 : v = .int 3 ∨ v = .int ((whole2 Ps : Int) + 2) := by simpa using hv
              rcases e5 with e | e
              · exact ⟨3, by decide, by decide, e⟩
              · exact ⟨_, by omega, by omega, e⟩
            obtain ⟨ue, xe⟩ := tk ud y
            have hE : upd (upd Ha l (.lst [.int 3, .int ((whole2 Ps : Int) + 2)])) b (.lst ys) C3 = some (.lst (ns.map V.int)) := by rw [upd_ne cb3]; exact hD
            clear ed
            try dsimp only
            generalize upd (upd Ha l (.lst [.int 3, .int ((whole2 Ps : Int) + 2)])) b (.lst ys) = He at ue xe hE
            refine ⟨b, n + 165 - 2 * i - 2, span, rfl, s0', by omega, xe.mono (by omega), fun v' ys' v0' v1' y' => ?_⟩
            obtain ⟨uf, xf⟩ := tk ue y'
            have hF : upd He b (.lst ys') C3 = some (.lst (ns.map V.int)) := by rw [upd_ne cb3]; exact hE
            generalize upd He b (.lst ys') = Hf at uf xf hF
            refine ⟨ns.map V.int, hF, ?_, ns ++ [v'], ?_, ?_, ?_, ?_, ?_⟩
            · rw [List.length_map, hl2]
              exact Nat.lt_of_lt_of_le hi (Nat.le_trans cn1 (by decide))
            · exact fun a o na e => by rw [upd_ne (ne_of_none e nC3)]; exact uf a o na e
            · exact (xf.at cb3.symm).mono (by omega)
            · rw [upd_same, List.map_append]
              rfl
            · simp [hl2]
            · intro d hd
              rcases List.mem_append.mp hd with z | z
              · exact hn d z
              · have e : d = v' := by simpa using z
                omega
          rintro H9 ⟨ns, u9, x9, h9, l9, b9⟩
          rw [List.length_map, N8.len, l6] at l9 x9
          have N9 := N8.but n3 u9
          replace x9 : BoxAt H9 b (n + 100) := x9.mono (by omega)
          have h82 := u9 _ _ cb h8
          clear N8 x8 u9 W g G hJ J h8
          refine ⟨C3, ns, rfl, SqA.l h9, by omega, fun sa ks nsa nd hk => ?_⟩
          have kl : ks.length ≤ 7 := Nat.le_trans (nodup_le nd fun k hm => (hk k).mp hm) (by omega)
          obtain ⟨uA, xA, eA, nA⟩ := al (o := SetO w sa (fun j => decide (j ∈ ns)) ks.length) (But.refl b H9) x9 nsa
          have hA2 := uA _ _ cb h82
          refine ⟨sa, _, _, rfl, upd_same, by omega, fun ds p hpw hm hlen np => ?_⟩
          generalize upd H9 sa (SetO w sa (fun j => decide (j ∈ ns)) ks.length) = HA at uA xA eA np hA2
          have NA := N9.but n3 uA
          obtain ⟨uB, xB, eB, nB⟩ := al (o := .lst (ds.map V.int)) (But.refl b HA) xA np
          have NB := NA.but n3 uB
          have hB2 := uB _ _ cb hA2
          generalize upd HA p (.lst (ds.map V.int)) = HB at NB xB eB hB2
          have d0' : ∃ d tl, ds = d :: tl := by
            cases ds with
            | cons d tl => exact ⟨d, tl, rfl⟩
            | nil =>
              exfalso
              cases ns with
              | nil =>
                simp at l9
                omega
              | cons m ns =>
                have := (hm m).mpr (by simp)
                simp at this
          have dl : ds.length ≤ cn := by
            have := nodup_le nd fun k hm => (hk k).mp hm
            omega
          have dz : (ds.zip Ps).length = ds.length := by rw [List.length_zip]; omega
          have dm : ∀ d ∈ ds, 0 ≤ d ∧ d ≤ 140000000016 := fun d hd => b9 d (of_decide_eq_true ((hm d).mp hd))
          clear uA xA eA hA2 NA N9 uB x9 h9 h82 hm hk
          refine ⟨_, rfl, C2, _, 0, .int d0, rfl, rfl, SqA.l hB2, rfl, _, rfl, C2, _, 1, .int d1, rfl, rfl, SqA.l hB2, rfl, _, rfl, _, rfl, p, L, _, _, rfl, .inl ⟨SqL.of eB, SqL.of NB.at_, fun C4 nC4 => ?_⟩⟩
          refine lc_it (walk_zip (n := ds.length) (by rw [List.length_map, List.length_map, NB.len]; omega)) (fun i H' => ∃ ts : List Addr, Same HB H' ∧ H' C4 = some (.lst (ts.map V.ref)) ∧ SrtsN H' ts ((ds.zip Ps).take i)) ⟨[], same_new nC4, upd_same, rfl, fun i r x h => by simp at h⟩ (fun i H' _ z => ⟨z.choose_spec.1.seq (SqL.of eB), z.choose_spec.1.seq (SqL.of NB.at_)⟩) ?_ ?_
          · rintro i z Ha Hb hi ⟨ts, sm, hC, st⟩ ⟨t, u, v, rfl, nt, rfl, gu, gv⟩
            obtain ⟨r, hi2, rfl, hr1⟩ := NB.get gv
            obtain rfl : u = .int ds[i] := by
              have gu' : (ds.map V.int)[i]? = some u := gu
              rw [List.getElem?_map, List.getElem?_eq_getElem hi] at gu'
              simpa using gu'.symm
            have smT : Same HB (upd Ha t (.tup [.int ds[i], .ref r])) := sm.trans (same_new nt)
            have stT := st.same (same_new (o := .tup [.int ds[i], .ref r]) nt)
            have hCT : upd Ha t (.tup [.int ds[i], .ref r]) C4 = some (.lst (ts.map V.ref)) := by rw [upd_ne (ne_of_none hC nt)]; exact hC
            have etT : upd Ha t (.tup [.int ds[i], .ref r]) t = some (.tup [.int ds[i], .ref r]) := upd_same
            generalize upd Ha t (.tup [.int ds[i], .ref r]) = Ht at smT stT hCT etT
            refine ⟨t, _, rfl, SqA.t etT, rfl, _, _, rfl, _, _, rfl, rfl, rfl, tyes (iteT ?_)⟩
            refine ⟨_, rfl, _, rfl, r, _, 0, .int (Ps[i].1 : Int), rfl, rfl, SqA.l (smT _ _ hr1), rfl, _, rfl, r, _, 1, .int (Ps[i].2 : Int), rfl, rfl, SqA.l (smT _ _ hr1), rfl, (by show 3 ≤ sizeLine; decide), fun t2 nt2 => ?_⟩
            have stU := stT.push (x := (ds[i], Ps[i])) nt2
            have hiz : i < (ds.zip Ps).length := by omega
            have ez : (ds.zip Ps)[i] = (ds[i], Ps[i]) := List.getElem_zip ..
            have smU : Same HB (upd Ht t2 (.tup (SrtV (ds[i], Ps[i])))) := smT.trans (same_new nt2)
            have hCU : upd Ht t2 (.tup (SrtV (ds[i], Ps[i]))) C4 = some (.lst (ts.map V.ref)) := by rw [upd_ne (ne_of_none hCT nt2)]; exact hCT
            refine ⟨_, hCU, ?_, ts ++ [t2], same_over smU nC4, ?_, ?_⟩
            · rw [List.length_map, st.1, List.length_take]
              exact Nat.lt_of_le_of_lt (Nat.min_le_right _ _) (Nat.lt_of_le_of_lt (show (ds.zip Ps).length ≤ 7 by omega) (by decide))
            · rw [upd_same, List.map_append]
              rfl
            · rw [take_succ_get hiz, ez]
              exact stU.put hCU
          rintro HC ⟨ts, sC, hC, st⟩
          rw [← dz, List.take_length] at st
          refine ⟨C4, _, rfl, .inl ⟨SqL.of hC, fun q' nq => ?_⟩⟩
          refine ⟨(by show 3 ≤ sizeLine; decide), fun p' np' => ?_⟩
          obtain ⟨d, tl, rfl⟩ := d0'
          obtain ⟨p0, tl2, rfl, hp0⟩ := h6
          have sD : Same HC (upd HC q' (.tup (ts.map V.ref))) := same_new nq
          have eD : upd HC q' (.tup (ts.map V.ref)) q' = some (.tup (ts.map V.ref)) := upd_same
          generalize upd HC q' (.tup (ts.map V.ref)) = HD at sD eD np'
          have sE : Same HD (upd HD p' (.tup [.int d0, .int d1, .ref q'])) := same_new np'
          refine q _ p' d0 d1 ((d :: tl).zip (p0 :: tl2)) ?_ ?_ ⟨q', ts, upd_same, sE _ _ eD, (st.same sD).same sE⟩ ⟨by rw [dz]; simp, by omega, mny_zip0 hp0, Nat.le_trans (mny_zip _ _) wb, by rw [fst_zip (by omega)]; exact hpw, b8 d0 (by simp), b8 d1 (by simp), fun x hx => dm _ (snd_zip hx).1⟩
          · exact NB.bt.trans (Same.but ((sC.trans sD).trans sE))
          · exact ((xB.same ((sC.trans sD).trans sE)).mono (by omega))
end
end Sh

namespace Sh
open PySem PySem.Spec PyProof.Rows L2
def spRight30 : Sp := fun vs H Q _ => ∃ (b : Addr) (n : Nat), vs = [.ref b] ∧ BoxAt H b (n + 100000) ∧ ∀ H', But b H H' → BoxAt H' b n → Q (.bl true) H'
/-- the fleet met from the other basin -/
def spOtherF : Sp := fun vs H Q _ => ∃ (p : Addr) (h t : Int) (ss : List Srt), vs = [.ref p] ∧ FltT H p h t ss ∧ ss.length ≤ 1000 ∧ ∀ (H' : Hp) (r : Addr), Same H H' → FltT H' r t h (turnF ss) → Q (.ref r) H'
abbrev s__law_other_fleet : Stmt := topS 33
theorem sc__law_other_fleet : FnScope (["_law_group", "_law_deep", "_law_mine", "_law_its"] : List Str) (["_law_group"] : List Str) (defScope s__law_other_fleet) := ⟨rfl, rfl, rfl, by decide +kernel, rfl, by decide +kernel, by decide +kernel⟩
theorem b__law_other_fleet (kV doc pm : Value) (an : Option Addr) (cdv ct : Value) (us : List Value) (hl : us.length = (["_law_group"] : List Str).length) : bindArgs (PySem.W.fnOf "_law_other_fleet" "_law_other_fleet" (defArgs s__law_other_fleet) (defBody s__law_other_fleet) (defScope s__law_other_fleet) .none kV doc pm an cdv ct) ⟨us, []⟩ = pure ((["_law_group"] : List Str).zip us) :=
  match us, hl with | [_], _ => rfl
section
variable {P : Program} {w : World} {K : PySem.W.Frag} {mg : Str → Option Value} {base : Heap}
theorem ok_otherF {k : Nat} (D : Df K mg "_law_other_fleet" s__law_other_fleet) (T : Bt mg) : Ok P w K mg base (k + 1) "_law_other_fleet" s__law_other_fleet ["_law_group"] spOtherF := by
  refine D.ok sc__law_other_fleet b__law_other_fleet (fun vs H Q E h => ?_) (fun f cdv A outer s H vs Q E hr h => ?_)
  · obtain ⟨p, h, t, ss, rfl, _⟩ := h
    rfl
  · obtain ⟨p, h, t, ss, rfl, ⟨q, rs, hp, hq, hs⟩, l1, k⟩ := h
    refine ⟨_, (pss_one (ps_ret (pe_tup (pa_cons (pe_ix ix_lt (pv 0) pe_int (fun _ _ => rfl)) (pa_cons (pe_ix ix_lt (pv 0) pe_int (fun _ _ => rfl)) (pa_cons (pe_callTy call_tuple_of (by rfl) T.tuple_ (by decide +kernel) (pa_cons (pe_lc (own := [("_law_deep", 1), ("_law_mine", 2), ("_law_its", 3)]) (g := (gSeq K 3 (gCons (gName 1) (gCons (gName 2) (gCons (gName 3) gNil))))) (tt := tYes) (by rfl) sc__law_other_fleet.nd (pi_seq (pe_ix ix_lt (pv 0) pe_int (fun _ _ => rfl))) (blkOk_by (own := [("_law_deep", 1), ("_law_mine", 2), ("_law_its", 3)]) (N := (["_law_group", "_law_deep", "_law_mine", "_law_its"] : List Str)) (sc := defScope s__law_other_fleet) (by decide +kernel)) (fun _ _ _ _ _ => (pg_seq rfl (pgs_cons (pg_name (i := 1) sc__law_other_fleet.nd rfl (.inl rfl)) (pgs_cons (pg_name (i := 2) sc__law_other_fleet.nd rfl (.inl rfl)) (pgs_cons (pg_name (i := 3) sc__law_other_fleet.nd rfl (.inl rfl)) pgs_nil))))) (fun _ _ _ _ _ => pts_nil) (fun _ _ _ _ _ => (pe_tup (pa_cons (pv 1) (pa_cons (pv 3) (pa_cons (pv 2) pa_nil)))))) pa_nil)) pa_nil)))))), ?_⟩
    refine ⟨_, rfl, p, _, 1, .int t, rfl, rfl, SqA.t hp, rfl, _, rfl, p, _, 0, .int h, rfl, rfl, SqA.t hp, rfl, _, rfl, p, _, 2, .ref q, rfl, rfl, SqA.t hp, rfl, q, _, H, rfl, SqA.t hq, Kp.refl _ _, fun J hJ C nC => ?_⟩
    obtain ⟨G, g, W⟩ := hJ.walk
    refine lc_it W (fun i H' => Same H H' ∧ ∃ us : List Addr, H' C = some (.lst (us.map V.ref)) ∧ SrtsN H' us (turnF (ss.take i))) ⟨same_new nC, [], upd_same, ?_⟩ (fun i H' _ z => g H' (.ofS z.1)) ?_ ?_
    · exact ⟨rfl, fun i r x a _ => by simp at a⟩
    · rintro i x H1 H2 _ ⟨sm, us, hC, hu⟩ ⟨rfl, gx⟩
      obtain ⟨r, hi, rfl, hr1⟩ := srt_at (K := K) (hs.a.same sm) gx
      have lu : us.length = i := by
        rw [hu.1]
        unfold turnF
        rw [List.length_map, List.length_take]
        omega
      refine ⟨r, _, rfl, hr1, rfl, _, _, rfl, _, _, rfl, _, _, rfl, rfl, rfl, tyes (iteT ⟨_, rfl, _, rfl, _, rfl, (by show 3 ≤ sizeLine; decide), fun u nu => ⟨_, same_new nu _ _ hC, ?_, ?_, us ++ [u], ?_, ?_⟩⟩)⟩
      · rw [List.length_map, lu]
        exact Nat.lt_of_lt_of_le hi (Nat.le_trans l1 (by decide))
      · exact same_over (sm.trans (same_new nu)) nC
      · rw [upd_same, List.map_append]
        rfl
      · have e : turnF (ss.take (i + 1)) = turnF (ss.take i) ++ [(ss[i].1, ss[i].2.2, ss[i].2.1)] := tm _ hi
        rw [e]
        exact (hu.push (x := (ss[i].1, ss[i].2.2, ss[i].2.1)) nu).put (same_new nu _ _ hC)
    · rintro H1 ⟨sm, us, hC, hu⟩
      rw [List.length_map, hs.1, List.take_length] at hu
      refine ⟨C, _, rfl, .inl ⟨SqL.of hC, fun a na => ⟨(by show 3 ≤ sizeLine; decide), fun b nb => ?_⟩⟩⟩
      have s1 : Same H1 (upd H1 a (.tup (us.map V.ref))) := same_new na
      have s2 := s1.trans (same_new nb (o := .tup [.int t, .int h, .ref a]))
      exact k _ _ (sm.trans s2) ⟨a, us, upd_same, same_new nb _ _ upd_same, hu.same s2⟩
end
/-- what is told, in a new list -/
def spTold78 (K : PySem.W.Frag) : Sp := fun vs H Q _ => ∃ (v : V) (h t : Int) (ss : List Srt), vs = [v] ∧ FltA K H v h t ss ∧ ss.length ≤ 1000 ∧
  ∀ (H' : Hp) (r g : Addr) (m l : Int) (ms : List Int), Same H H' → H r = none → H g = none → H' r = some (.lst [.int m, .int l, .ref g]) → H' g = some (.lst (ms.map V.int)) → Told h t ss m l ms → Q (.ref r) H'
abbrev s__law_told : Stmt := topS 35
theorem sc__law_told : FnScope (["_law_group"] : List Str) (["_law_group"] : List Str) (defScope s__law_told) := ⟨rfl, rfl, rfl, by decide +kernel, rfl, by decide +kernel, by decide +kernel⟩
theorem b__law_told (kV doc pm : Value) (an : Option Addr) (cdv ct : Value) (us : List Value) (hl : us.length = (["_law_group"] : List Str).length) : bindArgs (PySem.W.fnOf "_law_told" "_law_told" (defArgs s__law_told) (defBody s__law_told) (defScope s__law_told) .none kV doc pm an cdv ct) ⟨us, []⟩ = pure ((["_law_group"] : List Str).zip us) :=
  match us, hl with | [_], _ => rfl
section
variable {P : Program} {w : World} {K : PySem.W.Frag} {mg : Str → Option Value} {base : Heap}
theorem ok_told78 {k : Nat} (D : Df K mg "_law_told" s__law_told) (T : Bt mg) (O_fleet_most : Ok P w K mg base k "fleet_most" s_fleet_most ["fleet"] (spFleetMost K)) (O_fleet_least : Ok P w K mg base k "fleet_least" s_fleet_least ["fleet"] (spFleetLeast K)) (O_fleet_movers : Ok P w K mg base k "fleet_movers" s_fleet_movers ["fleet"] (spFleetMovers K)) :
    Ok P w K mg base (k + 1) "_law_told" s__law_told ["_law_group"] (spTold78 K) := by
  refine D.ok sc__law_told b__law_told (fun vs H Q E h => ?_) (fun f cdv A outer s H vs Q E hr h => ?_)
  · obtain ⟨v, h, t, ss, rfl, _⟩ := h
    rfl
  · obtain ⟨v, h, t, ss, rfl, ft, l1, q⟩ := h
    refine ⟨_, (pss_one (ps_ret (pe_lst (pa_cons (pe_fn O_fleet_most (hr.mono (by omega)) (pa_cons (pv 0) pa_nil)) (pa_cons (pe_fn O_fleet_least (hr.mono (by omega)) (pa_cons (pv 0) pa_nil)) (pa_cons (pe_fn O_fleet_movers (hr.mono (by omega)) (pa_cons (pv 0) pa_nil)) pa_nil)))))), ?_⟩
    refine ⟨_, rfl, v, h, t, ss, rfl, ft, l1, fun H1 m s1 hm => ?_⟩
    refine ⟨_, rfl, v, h, t, ss, rfl, ft.same s1, l1, fun H2 l s2 hl => ?_⟩
    have s02 := s1.trans s2
    refine ⟨_, rfl, v, h, t, ss, rfl, ft.same s02, l1, fun H3 g ms s3 ng hg hms => ?_⟩
    refine ⟨(by show 3 ≤ sizeLine; decide), fun r nr => ?_⟩
    exact q _ r g m l ms (s02.trans (s3.trans (same_new nr))) ((s02.trans s3).free nr) (s02.free ng) upd_same (same_new nr _ _ hg) ⟨hm, hl, hms⟩
end
theorem Told.few {h t : Int} {ss : List Srt} {m l : Int} {ms : List Int} (T : Told h t ss m l ms) : ms.length ≤ ss.length := by
  obtain ⟨_, _, kd, s, _, ⟨_, rfl⟩ | ⟨_, _, rfl⟩⟩ := T
  · exact Nat.zero_le _
  · rw [List.length_map]
    exact List.length_filter_le _ _
theorem lv33 {a b : Int} {ms : List Int} (h : ms.length ≤ 100000) : Lv 3 (.list [.int a, .int b, .list (ms.map .int)]) := ⟨by show 3 ≤ 100000; decide, fun e he => by
  have e3 : e = .int a ∨ e = .int b ∨ e = .list (ms.map .int) := by simpa using he
  rcases e3 with rfl | rfl | rfl
  · trivial
  · trivial
  · exact lv_ints _ h⟩
theorem dp33 {K : PySem.W.Frag} {H : Hp} {r g : Addr} {a b : Int} {ms : List Int} (e : H r = some (.lst [.int a, .int b, .ref g])) (e' : H g = some (.lst (ms.map V.int))) : Dp K H (.ref r) (.list [.int a, .int b, .list (ms.map .int)]) :=
  .lst (SqL.of e) (.cons (.int _) (.cons (.int _) (.cons (.lst (SqL.of e') (DpAll.ints _)) .nil)))
/-! ### sorts by where they stand -/
def gS (H : Hp) (r : Addr) : Srt := match H r with
  | some (.tup [.int d, .int a, .int b]) => (d, a.toNat, b.toNat)
  | _ => (0, 0, 0)
theorem gS_of {H : Hp} {r : Addr} {x : Srt} (e : H r = some (.tup (SrtV x))) : gS H r = x := by
  unfold gS
  rw [e]
  show (x.1, ((x.2.1 : Nat) : Int).toNat, ((x.2.2 : Nat) : Int).toNat) = x
  rw [Int.toNat_natCast, Int.toNat_natCast]
theorem SrtsN.gs {H : Hp} {rs : List Addr} {ss : List Srt} (w : SrtsN H rs ss) : rs.map (gS H) = ss := by
  apply List.ext_getElem?
  intro i
  rw [List.getElem?_map]
  cases e : rs[i]? with
  | none =>
    have := List.getElem?_eq_none_iff.mp e
    rw [List.getElem?_eq_none (by rw [← w.1]; exact this)]
    rfl
  | some r =>
    have hi := (List.getElem?_eq_some_iff.mp e).1
    have e2 : ss[i]? = some (ss[i]'(by rw [← w.1]; exact hi)) := List.getElem?_eq_getElem _
    rw [e2]
    show some (gS H r) = _
    rw [gS_of (w.2 i r _ e e2)]
theorem SrtsN.at {H : Hp} {rs : List Addr} {ss : List Srt} (w : SrtsN H rs ss) {r : Addr} (hr : r ∈ rs) : H r = some (.tup (SrtV (gS H r))) ∧ gS H r ∈ ss := by
  obtain ⟨i, hi, rfl⟩ := List.getElem_of_mem hr
  have h2 : i < ss.length := by rw [← w.1]; exact hi
  have e := w.2 i _ _ (List.getElem?_eq_getElem hi) (List.getElem?_eq_getElem h2)
  rw [gS_of e]
  exact ⟨e, List.getElem_mem h2⟩
theorem SrtsN.perm {H : Hp} {rs bs : List Addr} {ss : List Srt} (w : SrtsN H rs ss) (p : bs.Perm rs) : SrtsN H bs (bs.map (gS H)) ∧ (bs.map (gS H)).Perm ss := by
  refine ⟨⟨by rw [List.length_map], fun i r x a b => ?_⟩, ?_⟩
  · rw [List.getElem?_map, a] at b
    obtain rfl := Option.some.inj b
    exact (w.at (p.mem_iff.mp (List.mem_of_getElem? a))).1
  · have := p.map (gS H)
    rw [w.gs] at this
    exact this
def fS (H : Hp) (r : Addr) : List Int := [(gS H r).1, ((gS H r).2.1 : Int), ((gS H r).2.2 : Int)]
theorem rise_of {B : Int} {H : Hp} {bs : List Addr} (bd : ∀ r ∈ bs, TS.Bd B (fS H r)) (so : bs.Pairwise (fun x y => TS.code B (fS H x) ≤ TS.code B (fS H y))) (nd : ((bs.map (gS H)).map fun x => x.1).Nodup) : ((bs.map (gS H)).map fun x => x.1).Pairwise (· < ·) := by
  have a : ((bs.map (gS H)).map fun x => x.1).Pairwise (· ≤ ·) := by
    rw [List.pairwise_map, List.pairwise_map]
    refine List.Pairwise.imp_of_mem (fun {x y} hx hy z => ?_) so
    have tl : ∀ {r : Addr}, r ∈ bs → TS.Bd B [((gS H r).2.1 : Int), ((gS H r).2.2 : Int)] := fun hr m hm => bd _ hr m (List.mem_cons_of_mem _ hm)
    refine Classical.byContradiction fun c => ?_
    have lt : (gS H y).1 < (gS H x).1 := by omega
    have := TS.code_lt (B := B) (r := [((gS H y).2.1 : Int), ((gS H y).2.2 : Int)]) (q := [((gS H x).2.1 : Int), ((gS H x).2.2 : Int)]) rfl (tl hy) (tl hx) lt
    unfold fS at z
    omega
  exact (List.pairwise_and_iff.mpr ⟨a, nd⟩).imp fun ⟨x, y⟩ => by omega
end Sh

namespace Sh
open PySem PySem.Spec PyProof.Rows L2
abbrev s__law_right : Stmt := topS 36
theorem sc__law_right : FnScope (["_law_box_here", "_law_group", "_law_whole", "_law_told_here", "_law_deeps", "_law_spare", "_law_here", "_law_there", "_law_lost", "_law_deeper", "_law_its", "_law_parted", "_law_deep", "_law_mine", "_law_part", "_law_ours", "_law_later", "_law_due"] : List Str) (["_law_box_here"] : List Str) (defScope s__law_right) := ⟨rfl, rfl, rfl, by decide +kernel, rfl, by decide +kernel, by decide +kernel⟩
theorem b__law_right (kV doc pm : Value) (an : Option Addr) (cdv ct : Value) (us : List Value) (hl : us.length = (["_law_box_here"] : List Str).length) : bindArgs (PySem.W.fnOf "_law_right" "_law_right" (defArgs s__law_right) (defBody s__law_right) (defScope s__law_right) .none kV doc pm an cdv ct) ⟨us, []⟩ = pure ((["_law_box_here"] : List Str).zip us) :=
  match us, hl with | [_], _ => rfl
theorem cut3 (h t : Int) (q : Addr) : cutV [V.int h, .int t, .ref q] none (some 2) = [V.int h, .int t] := rfl
theorem SrtsN.butB {H H' : Hp} {b : Addr} {n : Nat} {rs : List Addr} {ss : List Srt} (w : SrtsN H rs ss) (x : BoxAt H b n) (u : But b H H') : SrtsN H' rs ss := by
  obtain ⟨xs, hb, _⟩ := x
  exact ⟨w.1, fun i r y a c => u _ _ (ne_of (w.2 i r y a c) hb (by intro z; cases z)) (w.2 i r y a c)⟩
theorem alike_snoc {ss ss1 : List Srt} {i m : Nat} (hi : i < ss.length) (a : Alike (ss.take i) ss1) (h : m ≤ ss[i].2.1 + ss[i].2.2) : Alike (ss.take (i + 1)) (ss1 ++ [(ss[i].1, m, ss[i].2.1 + ss[i].2.2 - m)]) := by
  unfold Alike at *
  rw [take_succ_get hi, List.map_append, List.map_append, a]
  show _ ++ [(ss[i].1, ss[i].2.1 + ss[i].2.2)] = _ ++ [(ss[i].1, m + (ss[i].2.1 + ss[i].2.2 - m))]
  rw [show m + (ss[i].2.1 + ss[i].2.2 - m) = ss[i].2.1 + ss[i].2.2 by omega]
theorem spare_ex {ds : List Int} (up : ds.Pairwise (· < ·)) (ne : 0 < ds.length) : 0 < ((ds.filter fun d => !decide (d + 1 ∈ ds)).map fun d => d + 1).length := by
  rw [List.length_map]
  obtain ⟨A, z, rfl⟩ : ∃ A z, ds = A ++ [z] := ⟨_, _, (List.dropLast_concat_getLast (List.length_pos_iff.mp ne)).symm⟩
  refine List.length_pos_of_mem (a := z) (List.mem_filter.mpr ⟨by simp, ?_⟩)
  rw [Bool.not_eq_true', decide_eq_false_iff_not]
  intro y
  have h2 := (List.pairwise_append.mp up).2.2
  rcases List.mem_append.mp y with y | y
  · have := h2 _ y z (List.mem_singleton.mpr rfl)
    omega
  · have := List.mem_singleton.mp y
    omega
theorem inn {d : Int} {X : List Int} : inV (.int d) (X.map V.int) = decide (d ∈ X) := by
  unfold inV
  rw [List.any_map, Bool.eq_iff_iff, decide_eq_true_eq, List.any_eq_true]
  constructor
  · rintro ⟨x, hx, e⟩
    have e2 : (x == d) = true := e
    rw [← beq_iff_eq.mp e2]
    exact hx
  · intro h
    exact ⟨d, h, beq_self_eq_true d⟩
theorem innF (X : List Int) : (X.map V.int).all flatV = true := by rw [List.all_map]; exact List.all_eq_true.mpr fun _ _ => rfl
section
variable {P : Program} {w : World} {K : PySem.W.Frag} {mg : Str → Option Value} {base : Heap}
set_option maxHeartbeats 8000000 in
theorem ok_right {k : Nat} (D : Df K mg "_law_right" s__law_right) (T : Bt mg) (O__law_take : Ok P w K mg base k "_law_take" s__law_take ["_law_box_here", "_law_span"] spTake)
    (O__law_fleet : Ok P w K mg base k "_law_fleet" s__law_fleet ["_law_box_here", "_law_sorts", "_law_most", "_law_far"] spFleet) (O__law_great_fleet : Ok P w K mg base k "_law_great_fleet" s__law_great_fleet ["_law_box_here"] spGreat) (O__law_other_fleet : Ok P w K mg base k "_law_other_fleet" s__law_other_fleet ["_law_group"] spOtherF)
    (O__law_told : Ok P w K mg base k "_law_told" s__law_told ["_law_group"] (spTold78 K)) (O__law_same : Ok P w K mg base k "_law_same" s__law_same ["_law_found", "_law_due"] (spSame K 3))
    (O_fleet_comes : Ok P w K mg base k "fleet_comes" s_fleet_comes ["one", "other"] (spFleetComes K)) :
    Ok P w K mg base (k + 1) "_law_right" s__law_right ["_law_box_here"] spRight30 := by
  refine D.ok sc__law_right b__law_right (fun vs H Q E h => ?_) (fun f cdv A outer s H vs Q E hr h => ?_)
  · obtain ⟨b, n, rfl, _⟩ := h
    rfl
  · obtain ⟨b, n, rfl, hb, q⟩ := h
    refine ⟨_, (Evl.pss_cut (ps_set (i := 1) sc__law_right.nd rfl (.inl rfl) (pe_ifExp (pt_cmpR op_eq (pe_fn O__law_take (hr.mono (by omega)) (pa_cons (pv 0) (pa_cons pe_int pa_nil))) pe_int (nomark _)) (pe_fn O__law_great_fleet (hr.mono (by omega)) (pa_cons (pv 0) pa_nil)) (pe_fn O__law_fleet (hr.mono (by omega)) (pa_cons (pv 0) (pa_cons pe_int (pa_cons pe_int (pa_cons pe_int pa_nil)))))))
      (Evl.pss_cut (ps_par (i := 2) (j := 3) (by rfl) sc__law_right.nd rfl rfl (by decide) rfl rfl (pa_cons (pe_callB (cr_sum rfl) (by rfl) T.sum_ (by decide +kernel) (pa_cons (pe_lc (own := [("_law_deep", 12), ("_law_mine", 13), ("_law_its", 10)]) (g := (gSeq K 3 (gCons (gName 12) (gCons (gName 13) (gCons (gName 10) gNil))))) (tt := tYes) (by rfl) sc__law_right.nd (pi_seq (pe_ix ix_lt (pv 1) pe_int (fun _ _ => rfl))) (blkOk_by (own := [("_law_deep", 12), ("_law_mine", 13), ("_law_its", 10)]) (N := (["_law_box_here", "_law_group", "_law_whole", "_law_told_here", "_law_deeps", "_law_spare", "_law_here", "_law_there", "_law_lost", "_law_deeper", "_law_its", "_law_parted", "_law_deep", "_law_mine", "_law_part", "_law_ours", "_law_later", "_law_due"] : List Str)) (sc := defScope s__law_right) (by decide +kernel)) (fun _ _ _ _ _ => (pg_seq rfl (pgs_cons (pg_name (i := 12) sc__law_right.nd rfl (.inl rfl)) (pgs_cons (pg_name (i := 13) sc__law_right.nd rfl (.inl rfl)) (pgs_cons (pg_name (i := 10) sc__law_right.nd rfl (.inl rfl)) pgs_nil))))) (fun _ _ _ _ _ => pts_nil) (fun _ _ _ _ _ => (pe_op op_add (pv 13) (pv 10)))) pa_nil)) (pa_cons (pe_fn O__law_told (hr.mono (by omega)) (pa_cons (pv 1) pa_nil)) pa_nil)) (by rfl))
      (Evl.pss_cut (ps_if (pt_not (pt_val (pe_fn O__law_same (hr.mono (by omega)) (pa_cons (pe_fn O__law_told (hr.mono (by omega)) (pa_cons (pe_fn O__law_other_fleet (hr.mono (by omega)) (pa_cons (pv 1) pa_nil)) pa_nil)) (pa_cons (pe_lst (pa_cons (pe_op op_sub (pv 2) (pe_ix ix_lt (pv 3) pe_int (fun _ _ => rfl))) (pa_cons (pe_op op_sub (pv 2) (pe_ix ix_lt (pv 3) pe_int (fun _ _ => rfl))) (pa_cons (pe_ix ix_lt (pv 3) pe_int (fun _ _ => rfl)) pa_nil)))) pa_nil)))))
        (pss_one (ps_ret pe_bl))
        pss_nil)
      (Evl.pss_cut (ps_set (i := 4) sc__law_right.nd rfl (.inr rfl) (pe_lc (own := [("_law_deep", 12), ("_law_mine", 13), ("_law_its", 10)]) (g := (gSeq K 3 (gCons (gName 12) (gCons (gName 13) (gCons (gName 10) gNil))))) (tt := tYes) (by rfl) sc__law_right.nd (pi_seq (pe_ix ix_lt (pv 1) pe_int (fun _ _ => rfl))) (blkOk_by (own := [("_law_deep", 12), ("_law_mine", 13), ("_law_its", 10)]) (N := (["_law_box_here", "_law_group", "_law_whole", "_law_told_here", "_law_deeps", "_law_spare", "_law_here", "_law_there", "_law_lost", "_law_deeper", "_law_its", "_law_parted", "_law_deep", "_law_mine", "_law_part", "_law_ours", "_law_later", "_law_due"] : List Str)) (sc := defScope s__law_right) (by decide +kernel)) (fun _ _ _ _ _ => (pg_seq rfl (pgs_cons (pg_name (i := 12) sc__law_right.nd rfl (.inl rfl)) (pgs_cons (pg_name (i := 13) sc__law_right.nd rfl (.inl rfl)) (pgs_cons (pg_name (i := 10) sc__law_right.nd rfl (.inl rfl)) pgs_nil))))) (fun _ _ _ _ _ => pts_nil) (fun _ _ _ _ _ => (pv 12))))
      (Evl.pss_cut (ps_set (i := 5) sc__law_right.nd rfl (.inl rfl) (pe_ix ix_lt (pe_lc (own := [("_law_deep", 12)]) (g := (gName 12)) (by rfl) sc__law_right.nd (pi_seq (pv 4)) (blkOk_by (own := [("_law_deep", 12)]) (N := (["_law_box_here", "_law_group", "_law_whole", "_law_told_here", "_law_deeps", "_law_spare", "_law_here", "_law_there", "_law_lost", "_law_deeper", "_law_its", "_law_parted", "_law_deep", "_law_mine", "_law_part", "_law_ours", "_law_later", "_law_due"] : List Str)) (sc := defScope s__law_right) (by decide +kernel)) (fun _ _ _ _ _ => (pg_name (i := 12) sc__law_right.nd rfl (.inl rfl))) (fun _ _ _ _ _ => (pts_one (pt_cmpR (op_notInK K) (pe_op op_add (pv 12) pe_int) (pv 4) (by rfl)))) (fun _ _ _ _ _ => (pe_op op_add (pv 12) pe_int))) pe_int (fun _ _ => rfl)))
      (Evl.pss_cut (ps_if (pt_not (pt_val (pe_fn O__law_same (hr.mono (by omega)) (pa_cons (pe_fn O__law_told (hr.mono (by omega)) (pa_cons (pe_op op_catT (pe_slice sl_tup (pv 1) po_none (po_some pe_int)) (pe_tup (pa_cons (pe_callTy call_tuple_of (by rfl) T.tuple_ (by decide +kernel) (pa_cons (pe_callB (cr_sortTT (d := 3) (B := 1000000000001) (by decide)) (by rfl) T.sorted_ (by decide +kernel) (pa_cons (pe_op op_catT (pe_ix ix_lt (pv 1) pe_int (fun _ _ => rfl)) (pe_tup (pa_cons (pe_tup (pa_cons (pv 5) (pa_cons pe_int (pa_cons pe_int pa_nil)))) pa_nil))) pa_nil)) pa_nil)) pa_nil))) pa_nil)) (pa_cons (pv 3) pa_nil)))))
        (pss_one (ps_ret pe_bl))
        pss_nil)
      (Evl.pss_cut (ps_par (i := 6) (j := 7) (by rfl) sc__law_right.nd rfl rfl (by decide) rfl rfl (pa_cons (pe_fn O__law_take (hr.mono (by omega)) (pa_cons (pv 0) (pa_cons (pe_op op_add (pe_ix ix_lt (pv 1) pe_int (fun _ _ => rfl)) pe_int) pa_nil))) (pa_cons (pe_fn O__law_take (hr.mono (by omega)) (pa_cons (pv 0) (pa_cons (pe_op op_add (pe_ix ix_lt (pv 1) pe_int (fun _ _ => rfl)) pe_int) pa_nil))) pa_nil)) (by rfl))
      (pss_cons (ps_set (i := 8) sc__law_right.nd rfl (.inl rfl) (pe_tup (pa_cons (pe_op op_sub (pe_ix ix_lt (pv 1) pe_int (fun _ _ => rfl)) (pv 6)) (pa_cons (pe_op op_sub (pe_ix ix_lt (pv 1) pe_int (fun _ _ => rfl)) (pv 7)) (pa_cons (pe_op op_catT (pe_ix ix_lt (pv 1) pe_int (fun _ _ => rfl)) (pe_tup (pa_cons (pe_tup (pa_cons (pe_op (op_powC 1000000000000) pe_int pe_int) (pa_cons (pv 6) (pa_cons (pv 7) pa_nil)))) pa_nil))) pa_nil)))))
      (Evl.pss_cut (ps_if (pt_not (pt_val (pe_fn O__law_same (hr.mono (by omega)) (pa_cons (pe_fn O__law_told (hr.mono (by omega)) (pa_cons (pv 8) pa_nil)) (pa_cons (pe_lst (pa_cons (pe_op op_add (pe_ix ix_lt (pv 3) pe_int (fun _ _ => rfl)) (pv 6)) (pa_cons (pe_op op_add (pe_ix ix_lt (pv 3) pe_int (fun _ _ => rfl)) (pv 6)) (pa_cons (pe_ix ix_lt (pv 3) pe_int (fun _ _ => rfl)) pa_nil)))) pa_nil)))))
        (pss_one (ps_ret pe_bl))
        pss_nil)
      (pss_cons (ps_set (i := 9) sc__law_right.nd rfl (.inl rfl) (pe_tup (pa_cons (pe_op op_add (pe_ix ix_lt (pv 1) pe_int (fun _ _ => rfl)) (pe_fn O__law_take (hr.mono (by omega)) (pa_cons (pv 0) (pa_cons pe_int pa_nil)))) (pa_cons (pe_op op_add (pe_ix ix_lt (pv 1) pe_int (fun _ _ => rfl)) (pe_fn O__law_take (hr.mono (by omega)) (pa_cons (pv 0) (pa_cons pe_int pa_nil)))) (pa_cons (pe_ix ix_lt (pv 1) pe_int (fun _ _ => rfl)) pa_nil)))))
      (pss_cons (ps_set (i := 10) sc__law_right.nd rfl (.inr rfl) (pe_fn O__law_told (hr.mono (by omega)) (pa_cons (pv 9) pa_nil)))
      (Evl.pss_cut (ps_if (PW.pt (pw_or (pt_cmpR op_lt (pe_ix ix_lt (pv 10) pe_int (fun _ _ => rfl)) (pe_ix ix_lt (pv 3) pe_int (fun _ _ => rfl)) (nomark _)) (pw_or (pt_cmpR op_gt (pe_ix ix_lt (pv 10) pe_int (fun _ _ => rfl)) (pe_ix ix_lt (pv 3) pe_int (fun _ _ => rfl)) (nomark _)) (pw_or1 (pt_val (pe_callB (cr_any rfl) (by rfl) T.any_ (by decide +kernel) (pa_cons (pe_lc (own := [("_law_deep", 12)]) (g := (gName 12)) (tt := tYes) (by rfl) sc__law_right.nd (pi_seq (pe_ix ix_lt (pv 3) pe_int (fun _ _ => rfl))) (blkOk_by (own := [("_law_deep", 12)]) (N := (["_law_box_here", "_law_group", "_law_whole", "_law_told_here", "_law_deeps", "_law_spare", "_law_here", "_law_there", "_law_lost", "_law_deeper", "_law_its", "_law_parted", "_law_deep", "_law_mine", "_law_part", "_law_ours", "_law_later", "_law_due"] : List Str)) (sc := defScope s__law_right) (by decide +kernel)) (fun _ _ _ _ _ => (pg_name (i := 12) sc__law_right.nd rfl (.inl rfl))) (fun _ _ _ _ _ => pts_nil) (fun _ _ _ _ _ => (pe_cmpR (op_notInK K) (pv 12) (pe_ix (ix_ltK K) (pv 10) pe_int (fun _ _ => rfl)) (by rfl)))) pa_nil)))))))
        (pss_one (ps_ret pe_bl))
        pss_nil)
      (pss_cons (ps_set (i := 11) sc__law_right.nd rfl (.inl rfl) (pe_lst pa_nil))
      (Evl.pss_cut (ps_for PassesOwn.never rfl (pi_seq (pe_ix ix_lt (pv 1) pe_int (fun _ _ => rfl))) (pg_seq rfl (pgs_cons (pg_name (i := 12) sc__law_right.nd rfl (.inl rfl)) (pgs_cons (pg_name (i := 13) sc__law_right.nd rfl (.inl rfl)) (pgs_cons (pg_name (i := 14) sc__law_right.nd rfl (.inl rfl)) pgs_nil))))
        (pss_cons (ps_set (i := 15) sc__law_right.nd rfl (.inl rfl) (pe_fn O__law_take (hr.mono (by omega)) (pa_cons (pv 0) (pa_cons (pe_op op_add (pe_op op_add (pv 13) (pv 14)) pe_int) pa_nil))))
          (pss_one (ps_expr (pe_bm PySem.F.plainAttrs_list PySem.F.slot_list_append PySem.F.type_list_append mt_append (pv 11) (pa_cons (pe_tup (pa_cons (pv 12) (pa_cons (pv 15) (pa_cons (pe_op op_sub (pe_op op_add (pv 13) (pv 14)) (pv 15)) pa_nil)))) pa_nil))))))
      (pss_cons (ps_set (i := 16) sc__law_right.nd rfl (.inl rfl) (pe_op op_catT (pe_slice sl_tup (pv 1) po_none (po_some pe_int)) (pe_tup (pa_cons (pe_callTy call_tuple_of (by rfl) T.tuple_ (by decide +kernel) (pa_cons (pv 11) pa_nil)) pa_nil))))
      (pss_cons (ps_set (i := 17) sc__law_right.nd rfl (.inl rfl) (pe_fn O_fleet_comes (hr.mono (by omega)) (pa_cons (pv 1) (pa_cons (pv 16) pa_nil))))
      (pss_cons (ps_if (PW.pt (pw_or (pt_cmpR op_ne (pe_fn O_fleet_comes (hr.mono (by omega)) (pa_cons (pe_fn O__law_other_fleet (hr.mono (by omega)) (pa_cons (pv 1) pa_nil)) (pa_cons (pe_fn O__law_other_fleet (hr.mono (by omega)) (pa_cons (pv 16) pa_nil)) pa_nil))) (pv 17) (nomark _)) (pw_or1 (pt_cmpR op_ne (pe_fn O_fleet_comes (hr.mono (by omega)) (pa_cons (pv 16) (pa_cons (pv 1) pa_nil))) (pv 17) (nomark _)))))
        (pss_one (ps_ret pe_bl))
        pss_nil)
      (pss_one (ps_ret (pe_or (pe_not (pv 17)) (pe_one (pe_fn O__law_same (hr.mono (by omega)) (pa_cons (pe_fn O__law_told (hr.mono (by omega)) (pa_cons (pv 16) pa_nil)) (pa_cons (pv 3) pa_nil)))))))))))))))))))))))), ?_⟩
    refine ⟨fun σ' H' => ∃ (p : Addr) (h t : Int) (ss : List Srt), σ' = [some (.ref b), some (.ref p), none, none, none, none, none, none, none, none, none, none, none, none, none, none, none, none] ∧ But b H H' ∧ BoxAt H' b (n + 5000) ∧ FltT H' p h t ss ∧ GreatF h t ss, ?_, ?_⟩
    · refine ⟨_, rfl, b, n + 90000, 2, rfl, by decide, by decide, hb.mono (by omega), fun v ys v0 v1 y => ?_⟩
      obtain ⟨u1, x1⟩ := tk (But.refl b H) y
      generalize upd H b (.lst ys) = H1 at u1 x1
      refine ⟨rfl, _, rfl, ite2 (fun c => ?_) (fun c => ?_)⟩
      · refine ⟨_, rfl, b, n + 5000, rfl, x1.mono (by omega), fun H2 p h t ss u2 x2 ft gf => ?_⟩
        exact ⟨p, h, t, ss, rfl, u1.trans u2, x2, ft, gf⟩
      · refine ⟨_, rfl, b, n + 5000, 4, 5, 0, rfl, by decide, by decide, by decide, by decide, by decide, by decide, x1.mono (by omega), fun H2 p h t ss u2 x2 ft gf => ?_⟩
        refine ⟨p, h, t, ss, rfl, u1.trans u2, x2, ft, gf.l0, Nat.le_trans gf.l1 (by decide), gf.k0, ?_, gf.up, ?_, ?_, fun x hx => ?_⟩
        · have : ∀ l : List Srt, (∀ x ∈ l, x.2.1 ≤ 5 ∧ x.2.2 ≤ 5) → mny l ≤ 10 * l.length := fun l => by
            induction l with
            | nil => intro _; exact Nat.le_refl _
            | cons x l ih =>
              intro hx
              have a := ih fun y hy => hx y (.tail _ hy)
              have c := hx x (.head _)
              rw [mny_cons, List.length_cons]
              omega
          have a := this ss gf.cnt
          have c := gf.l1
          omega
        · have := gf.h0
          omega
        · have := gf.t0
          omega
        · have := gf.d0 x hx
          omega
    rintro σ' H1 ⟨p, h, t, ss, rfl, u1, x1, ft, gf⟩
    have l7 := gf.l1
    have k0 := gf.k0
    have up := gf.up
    have nd : (ss.map fun x => x.1).Nodup := up.imp fun h => Int.ne_of_lt h
    -- all of them, and what is told
    refine ⟨fun σ' H' => ∃ (r g : Addr) (m l : Int) (ms : List Int), σ' = [some (.ref b), some (.ref p), some (.int (mny ss : Int)), some (.ref r), none, none, none, none, none, none, none, none, none, none, none, none, none, none] ∧ Same H1 H' ∧ H1 r = none ∧ H1 g = none ∧ H' r = some (.lst [.int m, .int l, .ref g]) ∧ H' g = some (.lst (ms.map V.int)) ∧ Told h t ss m l ms, ?_, ?_⟩
    · obtain ⟨qq, rs, hp, hq, hs⟩ := ft
      refine ⟨_, rfl, p, _, 2, .ref qq, rfl, rfl, SqA.t hp, rfl, qq, _, H1, rfl, SqA.t hq, Kp.refl _ _, fun J hJ C nC => ?_⟩
      obtain ⟨G, g, W⟩ := hJ.walk
      refine lc_it W (fun i H' => Same H1 H' ∧ H' C = some (.lst (((ss.take i).map fun x => ((x.2.1 + x.2.2 : Nat) : Int)).map V.int))) ⟨same_new nC, upd_same⟩ (fun i H' _ z => g H' (.ofS z.1)) ?_ ?_
      · rintro i x Ha Hb _ ⟨sm, hC⟩ ⟨rfl, gx⟩
        obtain ⟨r, hi, rfl, hr1⟩ := srt_at (K := K) (hs.a.same sm) gx
        refine ⟨r, _, rfl, hr1, rfl, _, _, rfl, _, _, rfl, _, _, rfl, rfl, rfl, tyes (iteT ⟨_, rfl, _, rfl, _, _, rfl, rfl, _, hC, ?_, same_over sm nC, ?_⟩)⟩
        · rw [List.length_map, List.length_map]
          exact Nat.lt_of_lt_of_le (take_le hi) (Nat.le_trans l7 (by decide))
        · rw [upd_same, tm _ hi, List.map_append]
          rfl
      rintro H2 ⟨sm, hC⟩
      rw [List.length_map, hs.1, List.take_length] at hC
      refine ⟨C, _, rfl, SqL.of hC, ?_⟩
      rw [isum]
      refine ⟨_, rfl, .ref p, h, t, ss, rfl, FltT.a ⟨qq, rs, sm _ _ hp, sm _ _ hq, hs.same sm⟩, by omega, fun H3 r g m l ms s3 nr ng hr hg T0 => ?_⟩
      exact ⟨_, _, rfl, r, g, m, l, ms, rfl, sm.trans s3, sm.free nr, sm.free ng, hr, hg, T0⟩
    rintro σ' H2 ⟨r, g, m, l, ms, rfl, s2, nr, ng, hr, hg, T0⟩
    have rb : r ≠ b := fun z => by
      obtain ⟨xs, e, _⟩ := x1
      rw [z, e] at nr
      cases nr
    have gb : g ≠ b := fun z => by
      obtain ⟨xs, e, _⟩ := x1
      rw [z, e] at ng
      cases ng
    replace ft := ft.same s2
    replace u1 := u1.trans (Same.but s2)
    replace x1 := x1.same s2
    clear s2 nr ng
    have fF : ∀ {H' : Hp}, But b H2 H' → FltT H' p h t ss := fun u => ft.but x1 u
    have fr : ∀ {H' : Hp}, But b H2 H' → H' r = some (.lst [.int m, .int l, .ref g]) := fun u => u _ _ rb hr
    have fg : ∀ {H' : Hp}, But b H2 H' → H' g = some (.lst (ms.map V.int)) := fun u => u _ _ gb hg
    have few := T0.few
    have wk : (mny ss : Int) ≤ 140000000014 := by have := gf.k1; omega
    -- met from the other basin
    refine ⟨fun σ' H' => σ' = [some (.ref b), some (.ref p), some (.int (mny ss : Int)), some (.ref r), none, none, none, none, none, none, none, none, none, none, none, none, none, none] ∧ Same H2 H', ?_, ?_⟩
    · refine ⟨_, rfl, p, h, t, ss, rfl, ft, by omega, fun H3 o s3 fo => ?_⟩
      have lt : (turnF ss).length ≤ 1000 := by unfold turnF; rw [List.length_map]; omega
      refine ⟨.ref o, t, h, turnF ss, rfl, fo.a, lt, fun H4 r2 g2 m2 l2 ms2 s4 nr2 ng2 hr2 hg2 T2 => ?_⟩
      obtain ⟨e1, e2, e3⟩ := told_turn k0 up T0 T2
      rw [e1, e2] at hr2
      rw [e3] at hg2
      have s24 := s3.trans s4
      have b24 : But b H2 H4 := Same.but s24
      refine ⟨_, rfl, _, rfl, r, _, 1, .int l, rfl, rfl, SqA.l (fr b24), rfl, _, _, rfl, rfl, ?_⟩
      refine ⟨_, rfl, _, rfl, r, _, 0, .int m, rfl, rfl, SqA.l (fr b24), rfl, _, _, rfl, rfl, ?_⟩
      refine ⟨_, rfl, r, _, 2, .ref g, rfl, rfl, SqA.l (fr b24), rfl, (by show 3 ≤ sizeLine; decide), fun l3 nl3 => ?_⟩
      have s5 : Same H4 (upd H4 l3 (.lst [.int ((mny ss : Int) - l), .int ((mny ss : Int) - m), .ref g])) := same_new nl3
      have e5 : upd H4 l3 (.lst [.int ((mny ss : Int) - l), .int ((mny ss : Int) - m), .ref g]) l3 = _ := upd_same
      generalize upd H4 l3 (.lst [.int ((mny ss : Int) - l), .int ((mny ss : Int) - m), .ref g]) = H5 at s5 e5
      refine ⟨.ref r2, .ref l3, _, rfl, dp33 (s5 _ _ hr2) (s5 _ _ hg2), dp33 e5 (s5 _ _ (fg b24)), lv33 (by omega), fun H6 s6 => ⟨true, rfl, iteF ⟨rfl, s24.trans (s5.trans s6)⟩⟩⟩
    rintro σ' H3 ⟨rfl, s3⟩
    have v3 : But b H2 H3 := Same.but s3
    have x3 := x1.same s3
    -- the draughts
    refine ⟨fun σ' H' => ∃ D : Addr, σ' = [some (.ref b), some (.ref p), some (.int (mny ss : Int)), some (.ref r), some (.ref D), none, none, none, none, none, none, none, none, none, none, none, none, none] ∧ Same H3 H' ∧ H' D = some (.lst ((ss.map fun x => x.1).map V.int)) ∧ D ≠ b, ?_, ?_⟩
    · obtain ⟨qq, rs, hp, hq, hs⟩ := fF v3
      refine ⟨_, rfl, p, _, 2, .ref qq, rfl, rfl, SqA.t hp, rfl, qq, _, H3, rfl, SqA.t hq, Kp.refl _ _, fun J hJ C nC => ?_⟩
      obtain ⟨G, g, W⟩ := hJ.walk
      refine lc_it W (fun i H' => Same H3 H' ∧ H' C = some (.lst (((ss.take i).map fun x => x.1).map V.int))) ⟨same_new nC, upd_same⟩ (fun i H' _ z => g H' (.ofS z.1)) ?_ ?_
      · rintro i x Ha Hb _ ⟨sm, hC⟩ ⟨rfl, gx⟩
        obtain ⟨r, hi, rfl, hr1⟩ := srt_at (K := K) (hs.a.same sm) gx
        refine ⟨r, _, rfl, hr1, rfl, _, _, rfl, _, _, rfl, _, _, rfl, rfl, rfl, tyes (iteT ⟨_, rfl, _, hC, ?_, same_over sm nC, ?_⟩)⟩
        · rw [List.length_map, List.length_map]
          exact Nat.lt_of_lt_of_le (take_le hi) (Nat.le_trans l7 (by decide))
        · rw [upd_same, tm _ hi, List.map_append]
          rfl
      rintro H4 ⟨sm, hC⟩
      rw [List.length_map, hs.1, List.take_length] at hC
      exact ⟨C, rfl, sm, hC, (x3.ne nC).symm⟩
    rintro σ' H4 ⟨D, rfl, s4, hD, Db⟩
    have v4 : But b H2 H4 := v3.trans (Same.but s4)
    have x4 := x3.same s4
    -- a draught to spare
    refine ⟨fun σ' H' => ∃ sp : Int, σ' = [some (.ref b), some (.ref p), some (.int (mny ss : Int)), some (.ref r), some (.ref D), some (.int sp), none, none, none, none, none, none, none, none, none, none, none, none] ∧ Same H4 H' ∧ sp ∉ ss.map (fun x => x.1) ∧ 0 ≤ sp ∧ sp ≤ 140000000017, ?_, ?_⟩
    · refine ⟨_, rfl, D, _, H4, rfl, SqA.l hD, Kp.refl _ _, fun J hJ C nC => ?_⟩
      obtain ⟨G, g, W⟩ := hJ.walk
      have dm : ∀ d ∈ ss.map (fun x => x.1), 0 ≤ d ∧ d ≤ 140000000016 := fun d hd => by
        obtain ⟨x, hx, rfl⟩ := List.mem_map.mp hd
        exact gf.d0 x hx
      have d0 : 0 < (ss.map fun x => x.1).length := by rw [List.length_map]; exact gf.l0
      have d7 : (ss.map fun x => x.1).length ≤ 7 := by rw [List.length_map]; exact l7
      generalize ss.map (fun x => x.1) = ds at hD up dm d0 d7 W
      refine lc_it W (fun i H' => Same H4 H' ∧ H' C = some (.lst ((((ds.take i).filter fun d => !decide (d + 1 ∈ ds)).map fun d => d + 1).map V.int))) ⟨same_new nC, upd_same⟩ (fun i H' _ z => g H' (.ofS z.1)) ?_ ?_
      · rintro i x Ha Hb hi ⟨sm, hC⟩ ⟨rfl, gx⟩
        rw [List.length_map] at hi
        obtain rfl : .int ds[i] = x := by
          have g3 : (ds.map V.int)[i]? = some (.int ds[i]) := by simp [hi]
          exact Option.some.inj (g3.symm.trans gx)
        refine ⟨rfl, ?_⟩
        refine ⟨_, rfl, _, 1, rfl, rfl, _, rfl, D, _, rfl, .inl (SqL.of (sm _ _ hD)), rfl, innF _, _, rfl, ?_⟩
        rw [if_pos rfl, inn]
        refine ite2 (fun c => ?_) (fun c => ?_)
        · refine ⟨_, rfl, _, 1, rfl, rfl, _, hC, ?_, same_over sm nC, ?_⟩
          · rw [List.length_map, List.length_map]
            exact Nat.lt_of_le_of_lt (List.length_filter_le _ _) (Nat.lt_of_le_of_lt (show (ds.take i).length ≤ 7 by rw [List.length_take]; omega) (by decide))
          · rw [upd_same, take_succ_get hi, List.filter_append, List.map_append, List.map_append, List.filter_cons_of_pos (p := fun d => !decide (d + 1 ∈ ds)) c]
            rfl
        · refine ⟨sm, ?_⟩
          rw [hC, take_succ_get hi, List.filter_append, List.filter_cons_of_neg (p := fun d => !decide (d + 1 ∈ ds)) c, List.filter_nil, List.append_nil]
      rintro H5 ⟨sm, hC⟩
      rw [List.length_map, List.take_length] at hC
      have ne := spare_ex up d0
      cases el : (ds.filter fun d => !decide (d + 1 ∈ ds)).map fun d => d + 1 with
      | nil => rw [el] at ne; exact absurd ne (by decide)
      | cons z zs =>
        rw [el] at hC
        refine ⟨C, _, 0, .int z, rfl, rfl, SqA.l hC, at_nat (j := 0) rfl rfl, z, rfl, sm, ?_⟩
        have hz : z ∈ (ds.filter fun d => !decide (d + 1 ∈ ds)).map fun d => d + 1 := by rw [el]; exact .head _
        obtain ⟨d, hd, rfl⟩ := List.mem_map.mp hz
        obtain ⟨h1, h2⟩ := List.mem_filter.mp hd
        have := dm d h1
        refine ⟨fun y => ?_, by omega, by omega⟩
        rw [decide_eq_true y] at h2
        cases h2
    rintro σ' H5 ⟨sp, rfl, s5, nsp, sp0, sp1⟩
    have v5 : But b H2 H5 := v4.trans (Same.but s5)
    have x5 := x4.same s5
    clear s4 s5 v4 x4 v3 x3 s3 Db hD
    -- a sort of none
    refine ⟨fun σ' H' => σ' = [some (.ref b), some (.ref p), some (.int (mny ss : Int)), some (.ref r), some (.ref D), some (.int sp), none, none, none, none, none, none, none, none, none, none, none, none] ∧ Same H5 H', ?_, ?_⟩
    · obtain ⟨qq, rs, hp, hq, hs⟩ := fF v5
      refine ⟨_, rfl, 2, rfl, p, _, rfl, SqT.of hp, (by show ¬ (0 = 0 ∧ 2 = 3); decide), fun ga nga => ?_⟩
      rw [cut3]
      have sa : Same H5 (upd H5 ga (.tup [.int h, .int t])) := same_new nga
      have ea : upd H5 ga (.tup [.int h, .int t]) ga = _ := upd_same
      generalize upd H5 ga (.tup [.int h, .int t]) = Ha at sa ea
      refine ⟨_, rfl, p, _, 2, .ref qq, rfl, rfl, SqA.t (sa _ _ hp), rfl, _, rfl, (by show 3 ≤ sizeLine; decide), fun tu ntu => ?_⟩
      have sb : Same Ha (upd Ha tu (.tup [.int sp, .int 0, .int 0])) := same_new ntu
      have hsb : SrtsN (upd Ha tu (.tup [.int sp, .int 0, .int 0])) (rs ++ [tu]) (ss ++ [(sp, 0, 0)]) := (hs.same sa).push' ntu rfl
      generalize upd Ha tu (.tup [.int sp, .int 0, .int 0]) = Hb at sb hsb
      refine ⟨(by show 1 ≤ sizeLine; decide), fun tv ntv => ?_⟩
      have sc : Same Hb (upd Hb tv (.tup [.ref tu])) := same_new ntv
      have ec : upd Hb tv (.tup [.ref tu]) tv = _ := upd_same
      generalize upd Hb tv (.tup [.ref tu]) = Hc at sc ec
      have sac := sb.trans sc
      have hqc := sac _ _ (sa _ _ hq)
      have lrs := hs.1
      have l0 := gf.l0
      refine ⟨qq, tv, _, _, rfl, rfl, SqT.of hqc, SqT.of ec, (by intro z; rw [List.map_eq_nil_iff] at z; rw [z] at lrs; simp at lrs; omega), ?_, fun z => (by cases z), fun _ cc ncc => ?_⟩
      · rw [List.length_map, lrs]
        show ss.length + 1 ≤ sizeLine
        exact Nat.le_trans (show ss.length + 1 ≤ 8 by omega) (by decide)
      have sd : Same Hc (upd Hc cc (.tup (rs.map V.ref ++ [.ref tu]))) := same_new ncc
      have ed : upd Hc cc (.tup (rs.map V.ref ++ [.ref tu])) cc = some (.tup ((rs ++ [tu]).map V.ref)) := by rw [upd_same, List.map_append]; rfl
      generalize upd Hc cc (.tup (rs.map V.ref ++ [.ref tu])) = Hd at sd ed
      have hsd := hsb.same (sc.trans sd)
      have s5d := sa.trans (sac.trans sd)
      have bd : ∀ r' ∈ rs ++ [tu], TS.Bd 1000000000001 (fS Hd r') := fun r' hr' => by
        have hx := (hsd.at hr').2
        have key : ∀ x ∈ ss ++ [(sp, 0, 0)], TS.Bd 1000000000001 [x.1, (x.2.1 : Int), (x.2.2 : Int)] := fun x hx => by
          have b3 : 0 ≤ x.1 ∧ x.1 < 1000000000001 ∧ (x.2.1 : Int) < 1000000000001 ∧ (x.2.2 : Int) < 1000000000001 := by
            rcases List.mem_append.mp hx with z | z
            · have := gf.d0 x z
              have m1 : x.2.1 + x.2.2 ≤ mny ss := le_sum (List.mem_map.mpr ⟨x, z, rfl⟩)
              omega
            · rw [List.mem_singleton.mp z]
              refine ⟨sp0, ?_, ?_, ?_⟩
              · show sp < _
                omega
              · show ((0 : Nat) : Int) < 1000000000001
                decide
              · show ((0 : Nat) : Int) < 1000000000001
                decide
          intro e he
          have e3 : e = x.1 ∨ e = (x.2.1 : Int) ∨ e = (x.2.2 : Int) := by simpa using he
          rcases e3 with rfl | rfl | rfl
          · omega
          · omega
          · omega
        exact key _ hx
      refine ⟨cc, rs ++ [tu], fS Hd, rfl, SqT.of ed, ?_, fun r' hr' => ⟨(hsd.at hr').1, rfl, bd r' hr'⟩, fun so bs nso pm pw => ?_⟩
      · rw [List.length_append, lrs]
        show ss.length + 1 ≤ 1000
        omega
      obtain ⟨hsp, pm2⟩ := hsd.perm pm
      have nd2 : (((bs.map (gS Hd))).map fun x => x.1).Nodup := by
        refine (pm2.map fun x : Srt => x.1).nodup_iff.mpr ?_
        rw [List.map_append]
        refine List.nodup_append.mpr ⟨nd, by simp, fun x hx y hy => ?_⟩
        have e : y = sp := List.mem_singleton.mp hy
        exact fun z => nsp (by rw [← e, ← z]; exact hx)
      have up2 := rise_of (fun r' hr' => bd r' (pm.mem_iff.mp hr')) pw nd2
      have l2 : (bs.map (gS Hd)).length = ss.length + 1 := by rw [pm2.length_eq, List.length_append]; rfl
      generalize bs.map (gS Hd) = ss2 at hsp pm2 nd2 up2 l2
      have se : Same Hd (upd Hd so (.lst (bs.map V.ref))) := same_new nso
      have ee : upd Hd so (.lst (bs.map V.ref)) so = _ := upd_same
      generalize upd Hd so (.lst (bs.map V.ref)) = He at se ee
      refine ⟨so, _, rfl, .inl ⟨SqL.of ee, fun tw ntw => ?_⟩⟩
      have sf : Same He (upd He tw (.tup (bs.map V.ref))) := same_new ntw
      have ef : upd He tw (.tup (bs.map V.ref)) tw = _ := upd_same
      generalize upd He tw (.tup (bs.map V.ref)) = Hf at sf ef
      refine ⟨(by show 1 ≤ sizeLine; decide), fun tx ntx => ?_⟩
      have sg : Same Hf (upd Hf tx (.tup [.ref tw])) := same_new ntx
      have eg : upd Hf tx (.tup [.ref tw]) tx = _ := upd_same
      generalize upd Hf tx (.tup [.ref tw]) = Hg at sg eg
      have sdg := se.trans (sf.trans sg)
      refine ⟨ga, tx, _, _, rfl, rfl, SqT.of ((sac.trans (sd.trans sdg)) _ _ ea), SqT.of eg, (by simp), (by show 3 ≤ sizeLine; decide), fun z => (by cases z), fun _ py npy => ?_⟩
      have sh : Same Hg (upd Hg py (.tup [.int h, .int t, .ref tw])) := same_new npy
      have eh : upd Hg py (.tup [.int h, .int t, .ref tw]) py = _ := upd_same
      rw [show ([.int h, .int t] ++ [.ref tw] : List V) = [.int h, .int t, .ref tw] from rfl]
      generalize upd Hg py (.tup [.int h, .int t, .ref tw]) = Hh at sh eh
      have fy : FltT Hh py h t ss2 := ⟨tw, bs, eh, (sg.trans sh) _ _ ef, hsp.same (sdg.trans sh)⟩
      have s5h := s5d.trans (sdg.trans sh)
      refine ⟨.ref py, h, t, ss2, rfl, fy.a, by omega, fun Hi r2 g2 m2 l2 ms2 si nr2 ng2 hr2 hg2 T2 => ?_⟩
      obtain ⟨e1, e2, e3⟩ := told_spare k0 up pm2 up2 T0 T2
      rw [e1, e2] at hr2
      rw [e3] at hg2
      have s5i := s5h.trans si
      have v5i := v5.trans (Same.but s5i)
      exact ⟨_, rfl, .ref r2, .ref r, _, rfl, dp33 hr2 hg2, dp33 (fr v5i) (fg v5i), lv33 (by omega), fun Hj sj => ⟨true, rfl, iteF ⟨rfl, s5i.trans sj⟩⟩⟩
    rintro σ' H6 ⟨rfl, s6⟩
    have v6 : But b H2 H6 := v5.trans (Same.but s6)
    have x6 := x5.same s6
    clear v5 x5 s6 nsp sp0 sp1
    have h00 := gf.h0
    have t00 := gf.t0
    -- so many that lie fast
    refine ⟨fun σ' H' => ∃ a c : Nat, σ' = [some (.ref b), some (.ref p), some (.int (mny ss : Int)), some (.ref r), some (.ref D), some (.int sp), some (.int (a : Int)), some (.int (c : Int)), none, none, none, none, none, none, none, none, none, none] ∧ But b H2 H' ∧ BoxAt H' b (n + 4000) ∧ (a : Int) ≤ h ∧ (c : Int) ≤ t, ?_, ?_⟩
    · obtain ⟨qq, rs, hp, hq, hs⟩ := fF v6
      refine ⟨_, rfl, _, rfl, p, _, 0, .int h, rfl, rfl, SqA.t hp, rfl, _, 1, rfl, rfl, b, n + 4900, _, rfl, by omega, by omega, x6.mono (by omega), fun v ys v0 v1 y => ?_⟩
      obtain ⟨ua, xa⟩ := tk v6 y
      generalize upd H6 b (.lst ys) = Ha at ua xa
      obtain ⟨qq, rs, hp, hq, hs⟩ := fF ua
      refine ⟨_, rfl, _, rfl, p, _, 1, .int t, rfl, rfl, SqA.t hp, rfl, _, 1, rfl, rfl, b, n + 4800, _, rfl, by omega, by omega, xa.mono (by omega), fun v' ys' v0' v1' y' => ?_⟩
      obtain ⟨ub, xb⟩ := tk ua y'
      generalize upd Ha b (.lst ys') = Hb at ub xb
      obtain ⟨a, rfl⟩ := Int.eq_ofNat_of_zero_le v0
      obtain ⟨c, rfl⟩ := Int.eq_ofNat_of_zero_le v0'
      exact ⟨_, _, rfl, a, c, rfl, ub, xb.mono (by omega), by omega, by omega⟩
    rintro σ' H7 ⟨a, c, rfl, v7, x7, ah, ct⟩
    clear v6 x6
    obtain ⟨qq, rs, hp, hq, hs⟩ := fF v7
    refine ⟨_, rfl, p, _, 0, .int h, rfl, rfl, SqA.t hp, rfl, _, rfl, _, _, rfl, rfl, ?_⟩
    refine ⟨_, rfl, p, _, 1, .int t, rfl, rfl, SqA.t hp, rfl, _, rfl, _, _, rfl, rfl, ?_⟩
    refine ⟨_, rfl, p, _, 2, .ref qq, rfl, rfl, SqA.t hp, rfl, 10, 12, rfl, rfl, ⟨⟨by decide, by decide, by decide⟩, by decide⟩, _, rfl, _, rfl, (by show 3 ≤ sizeLine; decide), fun tu ntu => ?_⟩
    have sb : Same H7 (upd H7 tu (.tup [.int 1000000000000, .int (a : Int), .int (c : Int)])) := same_new ntu
    have hsb : SrtsN (upd H7 tu (.tup [.int 1000000000000, .int (a : Int), .int (c : Int)])) (rs ++ [tu]) (ss ++ [(1000000000000, a, c)]) := hs.push' ntu rfl
    generalize upd H7 tu (.tup [.int 1000000000000, .int (a : Int), .int (c : Int)]) = Hb at sb hsb
    refine ⟨(by show 1 ≤ sizeLine; decide), fun tv ntv => ?_⟩
    have sc : Same Hb (upd Hb tv (.tup [.ref tu])) := same_new ntv
    have ec : upd Hb tv (.tup [.ref tu]) tv = _ := upd_same
    generalize upd Hb tv (.tup [.ref tu]) = Hc at sc ec
    have sac := sb.trans sc
    have lrs := hs.1
    have l0 := gf.l0
    refine ⟨qq, tv, _, _, rfl, rfl, SqT.of (sac _ _ hq), SqT.of ec, (by intro z; rw [List.map_eq_nil_iff] at z; rw [z] at lrs; simp at lrs; omega), ?_, fun z => (by cases z), fun _ cc ncc => ?_⟩
    · rw [List.length_map, lrs]
      show ss.length + 1 ≤ sizeLine
      exact Nat.le_trans (show ss.length + 1 ≤ 8 by omega) (by decide)
    have sd : Same Hc (upd Hc cc (.tup (rs.map V.ref ++ [.ref tu]))) := same_new ncc
    have ed : upd Hc cc (.tup (rs.map V.ref ++ [.ref tu])) cc = some (.tup ((rs ++ [tu]).map V.ref)) := by rw [upd_same, List.map_append]; rfl
    generalize upd Hc cc (.tup (rs.map V.ref ++ [.ref tu])) = Hd at sd ed
    refine ⟨(by show 3 ≤ sizeLine; decide), fun lo nlo => ?_⟩
    have se : Same Hd (upd Hd lo (.tup [.int (h - (a : Int)), .int (t - (c : Int)), .ref cc])) := same_new nlo
    have ee : upd Hd lo (.tup [.int (h - (a : Int)), .int (t - (c : Int)), .ref cc]) lo = _ := upd_same
    generalize upd Hd lo (.tup [.int (h - (a : Int)), .int (t - (c : Int)), .ref cc]) = He at se ee
    have fl : FltT He lo (h - (a : Int)) (t - (c : Int)) (ss ++ [(1000000000000, a, c)]) := ⟨cc, rs ++ [tu], ee, se _ _ ed, hsb.same (sc.trans (sd.trans se))⟩
    have s7e := sac.trans (sd.trans se)
    refine ⟨fun σ' H' => σ' = [some (.ref b), some (.ref p), some (.int (mny ss : Int)), some (.ref r), some (.ref D), some (.int sp), some (.int (a : Int)), some (.int (c : Int)), some (.ref lo), none, none, none, none, none, none, none, none, none] ∧ Same H7 H', ?_, ?_⟩
    · refine ⟨_, rfl, .ref lo, _, _, _, rfl, fl.a, by rw [List.length_append]; show ss.length + 1 ≤ 1000; omega, fun Hf r2 g2 m2 l2 ms2 sf nr2 ng2 hr2 hg2 T2 => ?_⟩
      obtain ⟨e1, e2, e3⟩ := told_lost k0 up (fun x hx => by have := gf.d0 x hx; omega) (by omega) T0 T2
      rw [e1, e2] at hr2
      rw [e3] at hg2
      have s7f := s7e.trans sf
      have vf := v7.trans (Same.but s7f)
      refine ⟨_, rfl, r, _, 0, .int m, rfl, rfl, SqA.l (fr vf), rfl, _, rfl, _, _, rfl, rfl, ?_⟩
      refine ⟨_, rfl, r, _, 1, .int l, rfl, rfl, SqA.l (fr vf), rfl, _, rfl, _, _, rfl, rfl, ?_⟩
      refine ⟨_, rfl, r, _, 2, .ref g, rfl, rfl, SqA.l (fr vf), rfl, (by show 3 ≤ sizeLine; decide), fun l3 nl3 => ?_⟩
      have sg : Same Hf (upd Hf l3 (.lst [.int (m + (a : Int)), .int (l + (a : Int)), .ref g])) := same_new nl3
      have eg : upd Hf l3 (.lst [.int (m + (a : Int)), .int (l + (a : Int)), .ref g]) l3 = _ := upd_same
      generalize upd Hf l3 (.lst [.int (m + (a : Int)), .int (l + (a : Int)), .ref g]) = Hg at sg eg
      exact ⟨.ref r2, .ref l3, _, rfl, dp33 (sg _ _ hr2) (sg _ _ hg2), dp33 eg (sg _ _ (fg vf)), lv33 (by omega), fun Hh sh => ⟨true, rfl, iteF ⟨rfl, s7f.trans (sg.trans sh)⟩⟩⟩
    rintro σ' H8 ⟨rfl, s8⟩
    have v8 : But b H2 H8 := v7.trans (Same.but s8)
    have x8 := x7.same s8
    clear v7 x7 s8
    -- deeper
    obtain ⟨qq, rs, hp, hq, hs⟩ := fF v8
    refine ⟨_, rfl, p, _, 0, .int h, rfl, rfl, SqA.t hp, rfl, _, rfl, b, n + 3900, 9, rfl, by decide, by decide, x8.mono (by omega), fun v ys v0 v1 y => ⟨_, _, rfl, rfl, ?_⟩⟩
    obtain ⟨ua, xa⟩ := tk v8 y
    generalize upd H8 b (.lst ys) = Ha at ua xa
    obtain ⟨qq, rs, hp, hq, hs⟩ := fF ua
    refine ⟨_, rfl, p, _, 1, .int t, rfl, rfl, SqA.t hp, rfl, _, rfl, b, n + 3800, 9, rfl, by decide, by decide, xa.mono (by omega), fun v' ys' v0' v1' y' => ⟨_, _, rfl, rfl, ?_⟩⟩
    obtain ⟨ub, xb⟩ := tk ua y'
    generalize upd Ha b (.lst ys') = Hb at ub xb
    obtain ⟨qq, rs, hp, hq, hs⟩ := fF ub
    refine ⟨_, rfl, p, _, 2, .ref qq, rfl, rfl, SqA.t hp, rfl, (by show 3 ≤ sizeLine; decide), fun de nde => ?_⟩
    have sc : Same Hb (upd Hb de (.tup [.int (h + v), .int (t + v'), .ref qq])) := same_new nde
    have ec : upd Hb de (.tup [.int (h + v), .int (t + v'), .ref qq]) de = _ := upd_same
    generalize upd Hb de (.tup [.int (h + v), .int (t + v'), .ref qq]) = Hc at sc ec
    have fd : FltT Hc de (h + v) (t + v') ss := ⟨qq, rs, ec, sc _ _ hq, hs.same sc⟩
    refine ⟨_, rfl, .ref de, h + v, t + v', ss, rfl, fd.a, by omega, fun Hd it g2 m2 l2 ms2 sd nr2 ng2 hr2 hg2 T2 => ?_⟩
    obtain ⟨a1, a2, a3⟩ := told_deeper k0 up (by omega) (by omega) T0 T2
    have few2 := T2.few
    have scd := sc.trans sd
    have vd := ub.trans (Same.but scd)
    refine ⟨fun σ' H' => σ' = [some (.ref b), some (.ref p), some (.int (mny ss : Int)), some (.ref r), some (.ref D), some (.int sp), some (.int (a : Int)), some (.int (c : Int)), some (.ref lo), some (.ref de), some (.ref it), none, none, none, none, none, none, none] ∧ But b H2 H' ∧ BoxAt H' b (n + 3000), ?_, ?_⟩
    · refine ⟨_, rfl, it, _, 0, .int m2, rfl, rfl, SqA.l hr2, rfl, _, rfl, r, _, 0, .int m, rfl, rfl, SqA.l (fr vd), rfl, _, _, rfl, rfl, _, rfl, ?_⟩
      rw [decide_eq_false (by omega)]
      refine iteF ?_
      refine ⟨_, rfl, it, _, 1, .int l2, rfl, rfl, SqA.l hr2, rfl, _, rfl, r, _, 1, .int l, rfl, rfl, SqA.l (fr vd), rfl, _, _, rfl, rfl, _, rfl, ?_⟩
      rw [decide_eq_false (by omega)]
      refine iteF ?_
      refine ⟨_, rfl, r, _, 2, .ref g, rfl, rfl, SqA.l (fr vd), rfl, g, _, Hd, rfl, SqA.l (fg vd), Kp.refl _ _, fun J hJ C nC => ?_⟩
      obtain ⟨G, gg, Wk⟩ := hJ.walk
      refine lc_it Wk (fun i H' => Same Hd H' ∧ H' C = some (.lst ((List.replicate i false).map V.bl))) ⟨same_new nC, upd_same⟩ (fun i H' _ z => gg H' (.ofS z.1)) ?_ ?_
      · rintro i x He Hf hi ⟨sm, hC⟩ ⟨rfl, gx⟩
        rw [List.length_map] at hi
        obtain rfl : .int ms[i] = x := by
          have g3 : (ms.map V.int)[i]? = some (.int ms[i]) := by simp [hi]
          exact Option.some.inj (g3.symm.trans gx)
        have inn2 := a3 ms[i] (List.getElem_mem hi)
        refine ⟨rfl, tyes (iteT ⟨_, rfl, _, rfl, it, _, 2, .ref g2, rfl, rfl, SqA.l (sm _ _ hr2), rfl, g2, _, rfl, .inl (SqL.of (sm _ _ hg2)), rfl, innF _, _, hC, ?_, same_over sm nC, ?_⟩)⟩
        · rw [List.length_map, List.length_replicate]
          exact Nat.lt_of_lt_of_le hi (Nat.le_trans (show ms.length ≤ 7 by omega) (by decide))
        · rw [upd_same, if_pos rfl, inn, decide_eq_true inn2, List.replicate_succ', List.map_append]
          rfl
      rintro He ⟨sm, hC⟩
      refine ⟨C, _, rfl, SqL.of hC, ?_⟩
      rw [show (List.replicate _ false).any id = false by simp]
      refine ⟨false, rfl, iteF ?_⟩
      exact ⟨rfl, vd.trans (Same.but sm), ((xb.same scd).same sm).mono (by omega)⟩
    rintro σ' H9 ⟨rfl, v9, x9⟩
    clear v8 x8
    -- shared out anew
    refine ⟨Nat.zero_le _, fun L nL => ?_⟩
    obtain ⟨uA, xA, eA, nA⟩ := al (o := .lst []) v9 x9 nL
    have nL2 : H2 L = none := v9.free nA nL
    generalize upd H9 L (.lst []) = HA at uA xA eA
    refine ⟨fun σ' H' => ∃ (y12 y13 y14 y15 : Option V) (ts : List Addr) (ss1 : List Srt), σ' = [some (.ref b), some (.ref p), some (.int (mny ss : Int)), some (.ref r), some (.ref D), some (.int sp), some (.int (a : Int)), some (.int (c : Int)), some (.ref lo), some (.ref de), some (.ref it), some (.ref L), y12, y13, y14, y15, none, none] ∧ But b H2 H' ∧ BoxAt H' b (n + 2000) ∧ H' L = some (.lst (ts.map V.ref)) ∧ SrtsN H' ts ss1 ∧ Alike ss ss1, ?_, ?_⟩
    · obtain ⟨qq, rs, hp, hq, hs⟩ := fF uA
      refine ⟨_, rfl, p, _, 2, .ref qq, rfl, rfl, SqA.t hp, rfl, qq, _, HA, rfl, SqA.t hq, Kp.refl _ _, fun J hJ => ?_⟩
      obtain ⟨G, gg, Wk⟩ := hJ.walk
      have qb : qq ≠ b := by
        obtain ⟨xs, hbb, _⟩ := xA
        exact ne_of hq hbb (by intro w; cases w)
      refine for_it Wk (fun i σ H' => ∃ (y12 y13 y14 y15 : Option V) (ts : List Addr) (ss1 : List Srt), σ = [some (.ref b), some (.ref p), some (.int (mny ss : Int)), some (.ref r), some (.ref D), some (.int sp), some (.int (a : Int)), some (.int (c : Int)), some (.ref lo), some (.ref de), some (.ref it), some (.ref L), y12, y13, y14, y15, none, none] ∧ But b H2 H' ∧ But b HA (upd H' L (.lst [])) ∧ BoxAt H' b (n + 3000 - i) ∧ H' L = some (.lst (ts.map V.ref)) ∧ SrtsN H' ts ss1 ∧ Alike (ss.take i) ss1)
        ⟨none, none, none, none, [], [], rfl, uA, ?_, xA, eA, ⟨rfl, fun i r x h => by simp at h⟩, rfl⟩ (fun i σ H' _ ⟨_, _, _, _, _, _, _, _, z, _⟩ => gg H' fun o e => ?_) ?_ ?_
      · intro x o nx e
        by_cases z : x = L
        · rw [z, upd_same]
          rw [z, eA] at e
          exact e
        · rw [upd_ne z]
          exact e
      · have qL : qq ≠ L := ne_of hq eA (by intro w; cases w)
        have := z _ _ qb e
        rw [upd_ne qL] at this
        exact this
      · rintro i x σ Ha Hb hi ⟨y12, y13, y14, y15, ts, ss1, rfl, ua, va, xa, hL, st, ak⟩ ⟨rfl, gx⟩
        rw [List.length_map, hs.1] at hi
        have hsB : SrtsN Hb rs ss := ⟨hs.1, fun j r' y e1 e2 => by
          have e := hs.2 j r' y e1 e2
          have n1 : r' ≠ b := by
            obtain ⟨xs, hbb, _⟩ := xA
            exact ne_of e hbb (by intro w; cases w)
          have n2 : r' ≠ L := ne_of e eA (by intro w; cases w)
          have := va _ _ n1 e
          rw [upd_ne n2] at this
          exact this⟩
        obtain ⟨r', hi', rfl, hr1⟩ := srt_at (K := K) hsB.a gx
        have tx : ss[i].2.1 + ss[i].2.2 ≤ mny ss := le_sum (List.mem_map.mpr ⟨ss[i], List.getElem_mem hi, rfl⟩)
        refine ⟨r', _, rfl, hr1, rfl, _, _, rfl, _, _, rfl, _, _, rfl, rfl, ?_⟩
        refine ⟨_, rfl, _, rfl, _, rfl, _, _, rfl, rfl, _, 1, rfl, rfl, b, n + 3000 - i - 1, _, rfl, by omega, by omega, xa.mono (by omega), fun v ys v0 v1 y => ?_⟩
        obtain ⟨uc, xc⟩ := tk ua y
        have hLc : upd Hb b (.lst ys) L = some (.lst (ts.map V.ref)) := by rw [upd_ne nA]; exact hL
        have stc := st.butB xa (But.ups (o := .lst ys))
        have vc : But b HA (upd (upd Hb b (.lst ys)) L (.lst [])) := fun x o nx e => by
          have := va x o nx e
          by_cases z : x = L
          · rw [z, upd_same] at this ⊢
            exact this
          · rw [upd_ne z] at this ⊢
            rw [upd_ne nx]
            exact this
        generalize upd Hb b (.lst ys) = Hc at uc xc hLc stc vc
        obtain ⟨m3, rfl⟩ := Int.eq_ofNat_of_zero_le v0
        have mle : m3 ≤ ss[i].2.1 + ss[i].2.2 := by omega
        refine ⟨_, rfl, .inl ⟨rfl, _, SqL.of hLc⟩, _, rfl, _, rfl, _, rfl, _, rfl, _, _, rfl, rfl, _, rfl, _, _, rfl, rfl, (by show 3 ≤ sizeLine; decide), fun t2 nt2 => ?_⟩
        dsimp only
        rw [show ((ss[i].2.1 : Nat) : Int) + ((ss[i].2.2 : Nat) : Int) - (m3 : Int) = ((ss[i].2.1 + ss[i].2.2 - m3 : Nat) : Int) by omega]
        have stU := stc.push (x := (ss[i].1, m3, ss[i].2.1 + ss[i].2.2 - m3)) nt2
        have t2L : L ≠ t2 := ne_of_none hLc nt2
        have hLU : upd Hc t2 (.tup (SrtV (ss[i].1, m3, ss[i].2.1 + ss[i].2.2 - m3))) L = some (.lst (ts.map V.ref)) := by rw [upd_ne t2L]; exact hLc
        obtain ⟨ud, xd, ed, nd'⟩ := al (o := .tup (SrtV (ss[i].1, m3, ss[i].2.1 + ss[i].2.2 - m3))) uc xc nt2
        refine ⟨L, _, _, rfl, rfl, hLU, ?_, ?_⟩
        · have ll := st.1
          have la := congrArg List.length ak
          rw [List.length_map, List.length_map, List.length_take] at la
          rw [List.length_map, ll]
          exact small1000 (by omega)
        refine ⟨_, _, _, _, ts ++ [t2], ss1 ++ [(ss[i].1, m3, ss[i].2.1 + ss[i].2.2 - m3)], rfl, ud.put nL2, ?_, (xd.at nA.symm).mono (by omega), ?_, stU.put hLU, alike_snoc hi ak mle⟩
        · intro x o nx e
          have := vc x o nx e
          by_cases z : x = L
          · rw [z, upd_same] at this ⊢
            exact this
          · rw [upd_ne z] at this
            rw [upd_ne z, upd_ne z, upd_ne (ne_of_none this nt2)]
            exact this
        · rw [upd_same, List.map_append]
          rfl
      · rintro σ Hz ⟨y12, y13, y14, y15, ts, ss1, rfl, ua, va, xa, hL, st, ak⟩
        rw [List.length_map, hs.1, List.take_length] at ak
        rw [List.length_map, hs.1] at xa
        exact ⟨y12, y13, y14, y15, ts, ss1, rfl, ua, xa.mono (by omega), hL, st, ak⟩
    rintro σ' HB ⟨y12, y13, y14, y15, ts, ss1, rfl, vB, xB, hL, st, ak⟩
    have l1 : ss1.length = ss.length := by
      have := congrArg List.length ak
      rw [List.length_map, List.length_map] at this
      exact this.symm
    clear nL nL2 uA xA eA v9 x9
    obtain ⟨qq, rs, hp, hq, hs⟩ := fF vB
    refine ⟨_, rfl, 2, rfl, p, _, rfl, SqT.of hp, (by show ¬ (0 = 0 ∧ 2 = 3); decide), fun ga nga => ?_⟩
    rw [cut3]
    have sa : Same HB (upd HB ga (.tup [.int h, .int t])) := same_new nga
    have ea : upd HB ga (.tup [.int h, .int t]) ga = _ := upd_same
    generalize upd HB ga (.tup [.int h, .int t]) = Ha at sa ea
    refine ⟨_, rfl, L, _, rfl, .inl ⟨SqL.of (sa _ _ hL), fun tw ntw => ?_⟩⟩
    have sf : Same Ha (upd Ha tw (.tup (ts.map V.ref))) := same_new ntw
    have ef : upd Ha tw (.tup (ts.map V.ref)) tw = _ := upd_same
    generalize upd Ha tw (.tup (ts.map V.ref)) = Hf at sf ef
    refine ⟨(by show 1 ≤ sizeLine; decide), fun tx ntx => ?_⟩
    have sg : Same Hf (upd Hf tx (.tup [.ref tw])) := same_new ntx
    have eg : upd Hf tx (.tup [.ref tw]) tx = _ := upd_same
    generalize upd Hf tx (.tup [.ref tw]) = Hg at sg eg
    refine ⟨ga, tx, _, _, rfl, rfl, SqT.of ((sf.trans sg) _ _ ea), SqT.of eg, (by simp), (by show 3 ≤ sizeLine; decide), fun z => (by cases z), fun _ py npy => ?_⟩
    have sh : Same Hg (upd Hg py (.tup [.int h, .int t, .ref tw])) := same_new npy
    have eh : upd Hg py (.tup [.int h, .int t, .ref tw]) py = _ := upd_same
    rw [show ([.int h, .int t] ++ [.ref tw] : List V) = [.int h, .int t, .ref tw] from rfl]
    generalize upd Hg py (.tup [.int h, .int t, .ref tw]) = Hh at sh eh
    have sfh := sf.trans (sg.trans sh)
    have fy : FltT Hh py h t ss1 := ⟨tw, ts, eh, (sg.trans sh) _ _ ef, st.same (sa.trans sfh)⟩
    have sBh := sa.trans sfh
    have fp : FltT Hh p h t ss := fF (vB.trans (Same.but sBh))
    clear sa ea sf ef sg eg sh eh hp hq hs hL st
    -- who comes to whom
    refine ⟨_, rfl, _, rfl, .ref p, .ref py, h, t, ss, ss1, rfl, fp.a, fy.a, by omega, by omega, fun Hi due si q1 => ?_⟩
    refine ⟨_, rfl, p, h, t, ss, rfl, fp.same si, by omega, fun Hj o1 sj fo1 => ?_⟩
    have shj := si.trans sj
    refine ⟨_, rfl, py, h, t, ss1, rfl, fy.same shj, by omega, fun Hk o2 sk fo2 => ?_⟩
    have lt1 : (turnF ss).length ≤ 1000 := by unfold turnF; rw [List.length_map]; omega
    have lt2 : (turnF ss1).length ≤ 1000 := by unfold turnF; rw [List.length_map]; omega
    refine ⟨.ref o1, .ref o2, t, h, turnF ss, turnF ss1, rfl, (fo1.same sk).a, fo2.a, lt1, lt2, fun Hl b2 sl q2 => ?_⟩
    obtain rfl : b2 = due := comes_turn k0 nd ak q1 q2
    have shl := shj.trans (sk.trans sl)
    refine ⟨_, rfl, rfl, _, rfl, iteNS rfl ?_⟩
    refine ⟨_, rfl, _, rfl, .ref py, .ref p, h, t, ss1, ss, rfl, (fy.same shl).a, (fp.same shl).a, by omega, by omega, fun Hm b3 sm q3 => ?_⟩
    obtain rfl : b3 = b2 := comes_back k0 nd ak q1 q3
    have shm := shl.trans sm
    refine ⟨_, rfl, rfl, _, rfl, iteNS rfl ?_⟩
    have fin : ∀ {H' : Hp}, Same Hh H' → But b H H' ∧ BoxAt H' b n := fun e => ⟨u1.trans (vB.trans (Same.but (sBh.trans e))), (xB.same (sBh.trans e)).mono (by omega)⟩
    cases b3 with
    | false =>
      refine ⟨_, rfl, _, rfl, true, rfl, iteT ?_⟩
      exact q _ (fin shm).1 (fin shm).2
    | true =>
      refine ⟨_, rfl, _, rfl, false, rfl, iteF ?_⟩
      refine ⟨_, rfl, .ref py, h, t, ss1, rfl, (fy.same shm).a, by omega, fun Hn r2 g2 m2 l2 ms2 sn nr2 ng2 hr2 hg2 T2 => ?_⟩
      obtain ⟨e1, e2, e3⟩ := comes_told k0 up ak q1 rfl T0 T2
      rw [e1, e2] at hr2
      rw [e3] at hg2
      have vn : But b H2 Hn := vB.trans (Same.but (sBh.trans (shm.trans sn)))
      exact ⟨_, rfl, .ref r2, .ref r, _, rfl, dp33 hr2 hg2, dp33 (fr vn) (fg vn), lv33 (by omega), fun Ho so => q _ (fin (shm.trans (sn.trans so))).1 (fin (shm.trans (sn.trans so))).2⟩
end
end Sh

namespace Sh
open PySem PySem.Spec PyProof.Rows L2
/-! ### the law itself, turns over one box -/
def spLaw (K : PySem.W.Frag) : Sp := fun vs H Q _ => ∃ (a : Addr) (ns : List Int), vs = [.ref a] ∧ SqL K H a (ns.map V.int) ∧ ns.length ≤ 63 ∧ ∀ H', Q (.bl true) H'
abbrev s_law : Stmt := topS 37
theorem sc_law : FnScope (["_law_script", "_law_k", "_law_box_here", "_law_turn"] : List Str) (["_law_script"] : List Str) (defScope s_law) := ⟨rfl, rfl, rfl, by decide +kernel, rfl, by decide +kernel, by decide +kernel⟩
theorem b_law (kV doc pm : Value) (an : Option Addr) (cdv ct : Value) (us : List Value) (hl : us.length = (["_law_script"] : List Str).length) : bindArgs (PySem.W.fnOf "law" "law" (defArgs s_law) (defBody s_law) (defScope s_law) .none kV doc pm an cdv ct) ⟨us, []⟩ = pure ((["_law_script"] : List Str).zip us) :=
  match us, hl with | [_], _ => rfl
section
variable {P : Program} {w : World} {K : PySem.W.Frag} {mg : Str → Option Value} {base : Heap}
theorem ok_law {k : Nat} (D : Df K mg "law" s_law) (T : Bt mg) (O__law_box : Ok P w K mg base k "_law_box" s__law_box ["_law_script", "_law_k"] (spBox K)) (O__law_right : Ok P w K mg base k "_law_right" s__law_right ["_law_box_here"] spRight30) :
    Ok P w K mg base (k + 1) "law" s_law ["_law_script"] (spLaw K) := by
  refine D.ok sc_law b_law (fun vs H Q E h => ?_) (fun f cdv A outer s H vs Q E hr h => ?_)
  · obtain ⟨a, ns, rfl, _⟩ := h
    rfl
  · obtain ⟨a, ns, rfl, hS, hl, q⟩ := h
    refine ⟨_, (pss_cons (ps_for PassesOwn.never rfl (pi_range1 (by rfl) T.range_ (pa_cons pe_int pa_nil)) (pg_name (i := 1) sc_law.nd rfl (.inl rfl))
        (pss_cons (ps_set (i := 2) sc_law.nd rfl (.inr rfl) (pe_fn O__law_box (hr.mono (by omega)) (pa_cons (pv 0) (pa_cons (pv 1) pa_nil))))
          (pss_one (ps_if (pt_not (pt_val (pe_callB (cr_all rfl) (by rfl) T.all_ (by decide +kernel) (pa_cons (pe_lc (own := [("_law_turn", 3)]) (g := (gName 3)) (tt := tYes) (by rfl) sc_law.nd (pi_range1 (by rfl) T.range_ (pa_cons pe_int pa_nil)) (blkOk_by (own := [("_law_turn", 3)]) (N := (["_law_script", "_law_k", "_law_box_here", "_law_turn"] : List Str)) (sc := defScope s_law) (by decide +kernel)) (fun _ _ _ _ _ => (pg_name (i := 3) sc_law.nd rfl (.inl rfl))) (fun _ _ _ _ _ => pts_nil) (fun _ _ _ _ _ => (pe_fn O__law_right (hr.mono (by omega)) (pa_cons (pv 2) pa_nil)))) pa_nil))))
            (pss_one (ps_ret pe_bl))
            pss_nil))))
      (pss_one (ps_ret pe_bl))), ?_⟩
    refine ⟨2, rfl, by decide, by decide, ?_⟩
    refine for_range (lo := 0) (n := 2) (fun i σ H' => ∃ y1 y2 y3 : Option V, σ = [some (.ref a), y1, y2, y3] ∧ Same H H') ⟨none, none, none, rfl, Same.refl _⟩ ?_ ?_
    · rintro i σ H1 hi ⟨y1, y2, y3, rfl, sm⟩
      refine ⟨_, rfl, _, rfl, a, ns, i, ?_, by omega, sm.seq hS, fun b xs nb bx => ?_⟩
      · show [V.ref a, V.int (0 + (i : Int))] = _
        rw [Int.zero_add]
      have x2 : BoxAt (upd H1 b (.lst xs)) b 549755813888 := .put bx
      have s2 : Same H1 (upd H1 b (.lst xs)) := same_new nb
      generalize upd H1 b (.lst xs) = H2 at x2 s2
      refine ⟨_, rfl, by decide, by decide, fun C nC => ?_⟩
      have bC : C ≠ b := (x2.ne nC).symm
      refine lc_range (fun j H' => But b H2 H' ∧ BoxAt H' b (549755813888 - 100000 * j) ∧ H' C = some (.lst ((List.replicate j true).map V.bl))) ⟨?_, x2.at bC.symm, upd_same⟩ ?_ ?_
      · exact Same.but (same_new nC)
      · rintro j H3 hj ⟨u3, x3, hC⟩
        have hj' : j < 10 := Nat.lt_of_lt_of_le hj (by decide)
        refine ⟨rfl, tyes (iteT ?_)⟩
        refine ⟨_, rfl, b, 549755813888 - 100000 * (j + 1), rfl, x3.mono (by omega), fun H4 u4 x4 => ?_⟩
        refine ⟨_, u4 _ _ bC hC, ?_, ?_, x4.at bC.symm, ?_⟩
        · rw [List.length_map, List.length_replicate]
          exact small1000 (by omega)
        · exact (u3.trans u4).put nC
        · rw [upd_same, List.replicate_succ', List.map_append]
          rfl
      · rintro H3 ⟨u3, x3, hC⟩
        refine ⟨C, _, rfl, SqL.of hC, ?_⟩
        rw [show (List.replicate _ true).all id = true by simp]
        refine ⟨true, rfl, iteF ?_⟩
        have nb0 : H b = none := sm.free nb
        exact ⟨_, _, _, rfl, u3.same (sm.trans s2) nb0⟩
    · rintro σ H1 ⟨y1, y2, y3, rfl, sm⟩
      exact q _
theorem law_end {k : Nat} {fa : Addr} {sp : Sp} (D : Df K mg "law" s_law) (hfa : mg "law" = some (.ref fa)) (O : ∀ base, Ok P w K mg base k "law" s_law ["_law_script"] sp) :
    ∃ fd : FuncData, (∀ (s : Shared) (v : Value), BindsTo s fd ⟨[v], []⟩ [("_law_script", v)]) ∧ ∀ base : Heap, K.In base → base.Ns mainGlobals mg → FnOk P w K mg base CX0 k fa fd ["_law_script"] sp := by
  obtain ⟨f, fd, F, g⟩ := D.ex
  obtain rfl : fa = f := by
    have e := hfa.symm.trans g
    cases e
    rfl
  refine ⟨fd, fun s v => ?_, fun base _ _ => ?_⟩
  · obtain ⟨oc, od, kV, doc, pm, an, cdv, ct, osl, rfl, lk, hcd⟩ := F.ex
    exact .of_eq (b_law kV doc pm an cdv ct [v] rfl)
  · obtain ⟨f', fd', F', g', _, G⟩ := (O base).ex
    obtain rfl : fa = f' := by
      have e := g.symm.trans g'
      cases e
      rfl
    obtain ⟨_, _, _, _, _, _, _, _, _, _, lk, _⟩ := F.ex
    obtain ⟨_, _, _, _, _, _, _, _, _, _, lk', _⟩ := F'.ex
    have e := lk.symm.trans lk'
    cases e
    exact G
theorem df_mk {x : Str} {st : Stmt} {h : Heap} {f : Addr} {oc : Value} {od an : Option Addr} {sl : Array (Option Value)} {kV dc pm cd ct : Value} (X : K.In h) (G : h.Ns mainGlobals mg)
    (a : PySem.W.nsIn K mainGlobals x = some (some (.ref f))) (l : K.lookup f = some ⟨oc, od, .func (PySem.W.fnOf x x (defArgs st) (defBody st) (defScope st) .none kV dc pm an cd ct), sl⟩)
    (c : PySem.W.codeIn K cd x = true) (k : PySem.W.keepIn K (.ref f) = true) : Df K mg x st := ⟨f, _, fun_mk l c k, PySem.W.mg_of X G a⟩
theorem with_df {R : Prop} {x : Str} {st : Stmt} {h : Heap} {f : Addr} {oc : Value} {od an : Option Addr} {sl : Array (Option Value)} {kV dc pm cd ct : Value} (X : K.In h) (G : h.Ns mainGlobals mg)
    (a : PySem.W.nsIn K mainGlobals x = some (some (.ref f))) (l : K.lookup f = some ⟨oc, od, .func (PySem.W.fnOf x x (defArgs st) (defBody st) (defScope st) .none kV dc pm an cd ct), sl⟩)
    (c : PySem.W.codeIn K cd x = true) (k : PySem.W.keepIn K (.ref f) = true) (r : Df K mg x st → R) : R := r (df_mk X G a l c k)
end
end Sh

open PySem PySem.W PyProof.Rows
set_option maxHeartbeats 0 in
theorem PySem.Challenge.cw_shoalmates_k78_whole_fleets_told_otherwi_holds : PySem.Challenge.rw_shoalmates_k78_whole_fleets_told_otherwi.Holds := by
  w_on; o_law; k_head; (case hw => w_witness2)
  k_fill
  refine L2.walk_of (l := PySem.Challenge.rw_shoalmates_k78_whole_fleets_told_otherwi) (n := 63) (k := 10) (x := "_law_script") (CX := fun _ => L2.CX0) (sp := fun w => Sh.spLaw _) rfl (by decide) rfl ⟨rfl, by decide, by decide⟩ (fun w h Y => PySem.W.kIn_of Y) ?F (fun _ _ a ns hl _ hS => ⟨a, ns, rfl, hS, hl, fun _ => rfl⟩) (fun _ _ _ _ _ h => h)
  case F =>
    intro w mg fa h KX G hmg
    have T : Sh.Bt mg := by
      constructor <;> (refine PySem.W.mg_none_of KX G ?_; k_is)
    refine' Sh.with_cn KX G ?a ?b ?c fun C => ?_
    (case a => k_is); (case b => k_is); (case c => k_is)
    refine' Sh.with_ck (w := w) KX G ?a ?l ?k ?d1 ?d2 ?d3 fun Ck => ?_
    (case a => k_is); (case l => k_is); (case d1 => k_is); (case d2 => k_is); (case d3 => k_is); (case k => exact ⟨⟨_, _, rfl, rfl⟩, ⟨_, _, rfl, rfl⟩, ⟨_, _, rfl, rfl⟩, trivial⟩)
    refine' Sh.with_df (x := "mark_of") (st := Sh.s_mark_of) KX G ?a ?l ?c ?k fun D_mark_of => ?_
    (case a => k_is); (case l => k_is); (case c => k_is); (case k => k_is)
    refine' Sh.with_df (x := "top_of") (st := Sh.s_top_of) KX G ?a ?l ?c ?k fun D_top_of => ?_
    (case a => k_is); (case l => k_is); (case c => k_is); (case k => k_is)
    refine' Sh.with_df (x := "turned_fleet") (st := Sh.s_turned_fleet) KX G ?a ?l ?c ?k fun D_turned_fleet => ?_
    (case a => k_is); (case l => k_is); (case c => k_is); (case k => k_is)
    refine' Sh.with_df (x := "ships_many") (st := Sh.s_ships_many) KX G ?a ?l ?c ?k fun D_ships_many => ?_
    (case a => k_is); (case l => k_is); (case c => k_is); (case k => k_is)
    refine' Sh.with_df (x := "mark_in") (st := Sh.s_mark_in) KX G ?a ?l ?c ?k fun D_mark_in => ?_
    (case a => k_is); (case l => k_is); (case c => k_is); (case k => k_is)
    refine' Sh.with_df (x := "goers_many") (st := Sh.s_goers_many) KX G ?a ?l ?c ?k fun D_goers_many => ?_
    (case a => k_is); (case l => k_is); (case c => k_is); (case k => k_is)
    refine' Sh.with_df (x := "top_in") (st := Sh.s_top_in) KX G ?a ?l ?c ?k fun D_top_in => ?_
    (case a => k_is); (case l => k_is); (case c => k_is); (case k => k_is)
    refine' Sh.with_df (x := "filled_at") (st := Sh.s_filled_at) KX G ?a ?l ?c ?k fun D_filled_at => ?_
    (case a => k_is); (case l => k_is); (case c => k_is); (case k => k_is)
    refine' Sh.with_df (x := "low_stop") (st := Sh.s_low_stop) KX G ?a ?l ?c ?k fun D_low_stop => ?_
    (case a => k_is); (case l => k_is); (case c => k_is); (case k => k_is)
    refine' Sh.with_df (x := "lot_of") (st := Sh.s_lot_of) KX G ?a ?l ?c ?k fun D_lot_of => ?_
    (case a => k_is); (case l => k_is); (case c => k_is); (case k => k_is)
    refine' Sh.with_df (x := "turned_lot") (st := Sh.s_turned_lot) KX G ?a ?l ?c ?k fun D_turned_lot => ?_
    (case a => k_is); (case l => k_is); (case c => k_is); (case k => k_is)
    refine' Sh.with_df (x := "fixed_ones") (st := Sh.s_fixed_ones) KX G ?a ?l ?c ?k fun D_fixed_ones => ?_
    (case a => k_is); (case l => k_is); (case c => k_is); (case k => k_is)
    refine' Sh.with_df (x := "least_in") (st := Sh.s_least_in) KX G ?a ?l ?c ?k fun D_least_in => ?_
    (case a => k_is); (case l => k_is); (case c => k_is); (case k => k_is)
    refine' Sh.with_df (x := "most_in") (st := Sh.s_most_in) KX G ?a ?l ?c ?k fun D_most_in => ?_
    (case a => k_is); (case l => k_is); (case c => k_is); (case k => k_is)
    refine' Sh.with_df (x := "moving_mark") (st := Sh.s_moving_mark) KX G ?a ?l ?c ?k fun D_moving_mark => ?_
    (case a => k_is); (case l => k_is); (case c => k_is); (case k => k_is)
    refine' Sh.with_df (x := "fleet_most") (st := Sh.s_fleet_most) KX G ?a ?l ?c ?k fun D_fleet_most => ?_
    (case a => k_is); (case l => k_is); (case c => k_is); (case k => k_is)
    refine' Sh.with_df (x := "fleet_least") (st := Sh.s_fleet_least) KX G ?a ?l ?c ?k fun D_fleet_least => ?_
    (case a => k_is); (case l => k_is); (case c => k_is); (case k => k_is)
    refine' Sh.with_df (x := "fleet_movers") (st := Sh.s_fleet_movers) KX G ?a ?l ?c ?k fun D_fleet_movers => ?_
    (case a => k_is); (case l => k_is); (case c => k_is); (case k => k_is)
    refine' Sh.with_df (x := "fleet_comes") (st := Sh.s_fleet_comes) KX G ?a ?l ?c ?k fun D_fleet_comes => ?_
    (case a => k_is); (case l => k_is); (case c => k_is); (case k => k_is)
    refine' Sh.with_df (x := "_law_cell_at") (st := Sh.s__law_cell_at) KX G ?a ?l ?c ?k fun D__law_cell_at => ?_
    (case a => k_is); (case l => k_is); (case c => k_is); (case k => k_is)
    refine' Sh.with_df (x := "_law_box") (st := Sh.s__law_box) KX G ?a ?l ?c ?k fun D__law_box => ?_
    (case a => k_is); (case l => k_is); (case c => k_is); (case k => k_is)
    refine' Sh.with_df (x := "_law_take") (st := Sh.s__law_take) KX G ?a ?l ?c ?k fun D__law_take => ?_
    (case a => k_is); (case l => k_is); (case c => k_is); (case k => k_is)
    refine' Sh.with_df (x := "_law_of") (st := Sh.s__law_of) KX G ?a ?l ?c ?k fun D__law_of => ?_
    (case a => k_is); (case l => k_is); (case c => k_is); (case k => k_is)
    refine' Sh.with_df (x := "_law_same") (st := Sh.s__law_same) KX G ?a ?l ?c ?k fun D__law_same => ?_
    (case a => k_is); (case l => k_is); (case c => k_is); (case k => k_is)
    refine' Sh.with_df (x := "_law_fleet") (st := Sh.s__law_fleet) KX G ?a ?l ?c ?k fun D__law_fleet => ?_
    (case a => k_is); (case l => k_is); (case c => k_is); (case k => k_is)
    refine' Sh.with_df (x := "_law_other_fleet") (st := Sh.s__law_other_fleet) KX G ?a ?l ?c ?k fun D__law_other_fleet => ?_
    (case a => k_is); (case l => k_is); (case c => k_is); (case k => k_is)
    refine' Sh.with_df (x := "_law_great_fleet") (st := Sh.s__law_great_fleet) KX G ?a ?l ?c ?k fun D__law_great_fleet => ?_
    (case a => k_is); (case l => k_is); (case c => k_is); (case k => k_is)
    refine' Sh.with_df (x := "_law_told") (st := Sh.s__law_told) KX G ?a ?l ?c ?k fun D__law_told => ?_
    (case a => k_is); (case l => k_is); (case c => k_is); (case k => k_is)
    refine' Sh.with_df (x := "_law_right") (st := Sh.s__law_right) KX G ?a ?l ?c ?k fun D__law_right => ?_
    (case a => k_is); (case l => k_is); (case c => k_is); (case k => k_is)
    refine' Sh.with_df (x := "law") (st := Sh.s_law) KX G ?a ?l ?c ?k fun D_law => ?_
    (case a => k_is); (case l => k_is); (case c => k_is); (case k => k_is)
    exact Sh.law_end D_law hmg fun base =>
      let O__law_take := Sh.ok_take (base := base) (k := 0) D__law_take T
      let O__law_cell_at := Sh.ok_cell_at (base := base) (k := 0) D__law_cell_at T
      let O__law_box := Sh.ok_box (k := 1) D__law_box T O__law_cell_at
      let O__law_of := Sh.ok_of (k := 1) D__law_of T O__law_take
      let O_mark_of := Sh.ok_mark_of (base := base) (k := 0) D_mark_of T
      let O_top_of := Sh.ok_top_of (base := base) (k := 0) D_top_of T
      let O_ships_many := Sh.ok_ships (base := base) (k := 0) D_ships_many T
      let O_mark_in := Sh.ok_mark_in (k := 1) D_mark_in T O_mark_of O_ships_many
      let O_top_in := Sh.ok_top_in (k := 1) D_top_in T O_top_of O_ships_many
      let O_goers_many := Sh.ok_goers_many (k := 2) D_goers_many T O_mark_in
      let O_filled_at := Sh.ok_filled (k := 2) D_filled_at T O_mark_in
      let O_low_stop := Sh.ok_low_stop (k := 3) D_low_stop T O_filled_at
      let O_turned_fleet := Sh.ok_turned_fleet (base := base) (k := 0) D_turned_fleet T
      let O_lot_of := Sh.ok_lot_of (k := 4) D_lot_of T C (O_ships_many.mono (by decide)) (O_top_in.mono (by decide)) O_low_stop (O_turned_fleet.mono (by decide))
      let O_turned_lot := Sh.ok_turned_lot (k := 1) D_turned_lot T Ck O_ships_many
      let O_fixed_ones := Sh.ok_fixed (k := 2) D_fixed_ones T O_mark_in
      let O_least_in := Sh.ok_least_in (k := 3) D_least_in T C O_goers_many O_fixed_ones
      let O_most_in := Sh.ok_most_in (k := 4) D_most_in T (O_ships_many.mono (by decide)) (O_turned_fleet.mono (by decide)) (O_turned_lot.mono (by decide)) O_least_in
      let O_moving_mark := Sh.ok_moving (k := 2) D_moving_mark T C (O_ships_many.mono (by decide)) O_mark_in
      let O_fleet_most := Sh.ok_fleet_most (k := 5) D_fleet_most T O_most_in O_lot_of
      let O_fleet_least := Sh.ok_fleet_least (k := 5) D_fleet_least T (O_least_in.mono (by decide)) O_lot_of
      let O_fleet_movers := Sh.ok_fleet_movers (k := 5) D_fleet_movers T (O_moving_mark.mono (by decide)) O_lot_of
      let O_fleet_comes := Sh.ok_fleet_comes (k := 5) D_fleet_comes T O_lot_of (O_fixed_ones.mono (by decide))
      let Ofl := Sh.ok_fleet (k := 5) D__law_fleet T (O__law_take.mono (by decide)) (O__law_of.mono (by decide))
      let Ogr := Sh.ok_great (k := 6) D__law_great_fleet T (O__law_take.mono (by decide)) (O__law_of.mono (by decide))
      let Oot := Sh.ok_otherF (base := base) (k := 0) D__law_other_fleet T
      let Oto := Sh.ok_told78 (k := 7) D__law_told T (O_fleet_most.mono (by decide)) (O_fleet_least.mono (by decide)) (O_fleet_movers.mono (by decide))
      let O__law_right := Sh.ok_right (k := 8) D__law_right T (O__law_take.mono (by decide)) (Ofl.mono (by decide)) (Ogr.mono (by decide)) (Oot.mono (by decide)) (Oto.mono (by decide)) ((Sh.ok_same D__law_same T 3).mono (by decide)) (O_fleet_comes.mono (by decide))
      Sh.ok_law (k := 9) D_law T (O__law_box.mono (by decide)) O__law_right
