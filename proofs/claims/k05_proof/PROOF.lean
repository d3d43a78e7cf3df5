import PyProof.Rows.All
import Wide.All
import OpenK.AllK
import Wide.FinOn
import KE.GoesEnum
import HandS.ForMost
import HandS.Walk
import HandS.Zip
import HandS.IsInst
import HandS.NoneIn
import HandS.SortInts
import HandS.Evl
import HandS.Conv
import HandS.Style
import HandS.Star
import HandS.More
import HandS.Strs
import HandS.SetFor
import PySem.Challenge.RW_shoalmates_k05_steps_and_marks
set_option Elab.async false
set_option linter.all false
set_option maxRecDepth 100000
set_option maxHeartbeats 1000000
/-! Own layer over the hand layer: sequences (a list or a tuple), enumerate of a tuple, defs by one fact each, what is told kept under a growing heap. -/
namespace Sh
open PySem PySem.Spec PyProof.Rows L2

/-! ### heaps -/
theorem same_new {H : Hp} {p : Addr} {o : HO} (h : H p = none) : Same H (upd H p o) := fun b x e => by
  rw [upd_ne (ne_of_none e h)]
  exact e
theorem Same.tup {K : PySem.W.Frag} {H H' : Hp} {a : Addr} {xs : List V} (e : Same H H') (h : SqT K H a xs) : SqT K H' a xs := by
  rcases h with (h | ⟨o, h⟩) | h
  · exact .inl (.inl (e _ _ h))
  · exact .inl (.inr ⟨o, e _ _ h⟩)
  · exact .inr h
/-- a list or a tuple of xs is to be read at a -/
def SqA (K : PySem.W.Frag) (H : Hp) (a : Addr) (xs : List V) : Prop := SqL K H a xs ∨ SqT K H a xs
theorem Same.sqA {K : PySem.W.Frag} {H H' : Hp} {a : Addr} {xs : List V} (e : Same H H') (h : SqA K H a xs) : SqA K H' a xs := h.elim (fun q => .inl (e.seq q)) fun q => .inr (Same.tup e q)
theorem SqA.l {K : PySem.W.Frag} {H : Hp} {a : Addr} {xs : List V} (h : H a = some (.lst xs)) : SqA K H a xs := .inl (SqL.of h)
theorem SqA.t {K : PySem.W.Frag} {H : Hp} {a : Addr} {xs : List V} (h : H a = some (.tup xs)) : SqA K H a xs := .inr (SqT.of h)
/-- nothing but b has changed of what was tracked -/
def But (b : Addr) (H H' : Hp) : Prop := ∀ a o, a ≠ b → H a = some o → H' a = some o
theorem But.refl (b : Addr) (H : Hp) : But b H H := fun _ _ _ e => e
theorem But.trans {b : Addr} {H H1 H2 : Hp} (x : But b H H1) (y : But b H1 H2) : But b H H2 := fun a o n e => y a o n (x a o n e)
theorem Same.but {b : Addr} {H H' : Hp} (e : Same H H') : But b H H' := fun a o _ h => e a o h
theorem But.ups {b : Addr} {H : Hp} {o : HO} : But b H (upd H b o) := fun a x n e => by rw [upd_ne n]; exact e
theorem But.same {b : Addr} {G H H' : Hp} (x : But b H H') (g : Same G H) (n : G b = none) : Same G H' := fun a o e => x a o (ne_of_none e n) (g a o e)

section
variable {K : PySem.W.Frag} {H H' : Hp}
mutual
theorem Dp.same (e : Same H H') : ∀ {v : V} {d : PyData}, Dp K H v d → Dp K H' v d
  | _, _, .non => .non
  | _, _, .bl b => .bl b
  | _, _, .int i => .int i
  | _, _, .str x => .str x
  | _, _, .lst h a => .lst (e.seq h) (DpAll.same e a)
  | _, _, .tup h a => .tup (Same.tup e h) (DpAll.same e a)
theorem DpAll.same (e : Same H H') : ∀ {vs : List V} {ds : List PyData}, DpAll K H vs ds → DpAll K H' vs ds
  | _, _, .nil => .nil
  | _, _, .cons h a => .cons (Dp.same e h) (DpAll.same e a)
end
theorem DpAll.ints : ∀ ns : List Int, DpAll K H (ns.map V.int) (ns.map PyData.int)
  | [] => .nil
  | n :: ns => .cons (.int n) (DpAll.ints ns)
theorem DpAll.len : ∀ {vs : List V} {ds : List PyData}, DpAll K H vs ds → vs.length = ds.length
  | _, _, .nil => rfl
  | _, _, .cons _ a => congrArg Nat.succ (DpAll.len a)
theorem DpAll.get : ∀ {vs : List V} {ds : List PyData} {i : Nat} {v : V}, DpAll K H vs ds → vs[i]? = some v → ∃ d, ds[i]? = some d ∧ Dp K H v d
  | _, _, _, _, .nil, h => by simp at h
  | _, _, 0, _, .cons x _, h => by
    cases Option.some.inj h
    exact ⟨_, rfl, x⟩
  | _, _, i + 1, _, .cons _ a, h => DpAll.get (i := i) a h
end

/-! ### rules for a list or a tuple -/
section
variable {X : Cx}
def rIxA (K : PySem.W.Frag) : R2 := fun x y H Q => ∃ p xs i v, x = .ref p ∧ y = .int i ∧ SqA K H p xs ∧ atI xs i = some v ∧ Q v H
theorem ix_lt : IxR X (rIxA X.K) := fun value slice pins s σ H x y v u Q I rx ry h hs => by
  obtain ⟨p, xs, i, z, e1, e2, hq | hq, he, q⟩ := h
  · exact ix_list value slice pins s σ H x y v u Q I rx ry ⟨p, xs, i, z, e1, e2, hq, he, q⟩ hs
  · exact ix_tup value slice pins s σ H x y v u Q I rx ry ⟨p, xs, i, z, e1, e2, hq, he, q⟩ hs
/-- a written power, its worth written -/
theorem op_powC (v : Int) : OpR X (binaryOp .Pow) (rI (fun i j => CPow i j ∧ i ^ j.toNat = v) fun _ _ => .int v) := fun pins s σ H x y u w Q I rx ry h => by
  obtain ⟨i, j, e1, e2, ⟨hc, hv⟩, q⟩ := h
  exact op_pow pins s σ H x y u w Q I rx ry ⟨i, j, e1, e2, hc, show Q (.int (i ^ j.toNat)) H by rw [hv]; exact q⟩
/-- a < b < c < d -/
def tChain3 (r r' r'' : R2) (ta tb tc td : TE) : TE := fun σ H Q => ta σ H fun x H1 => tb σ H1 fun y H2 => r x y H2 fun z H3 => ∃ k, z = .bl k ∧
  (if k = true then tc σ H3 fun y' H4 => r' y y' H4 fun z' H5 => ∃ k', z' = .bl k' ∧ (if k' = true then td σ H5 fun y'' H6 => r'' y' y'' H6 Q else Q (.bl false) H5) else Q (.bl false) H3)
theorem pe_chain3 {a b c d : Expr} {ta tb tc td : TE} {pos : Pos} {op op' op'' : CmpOp} {r r' r'' : R2} (ho : OpR X (compareOp op) r) (ho' : OpR X (compareOp op') r') (ho'' : OpR X (compareOp op'') r'') (ha : PE X a ta) (hb : PE X b tb) (hc : PE X c tc) (hd : PE X d td)
    (hm : lastMarks [op, op', op''] [b, c, d] = false := by with_unfolding_all rfl) : PE X (.Compare a [op, op', op''] [b, c, d] pos) (tChain3 r r' r'' ta tb tc td) := by
  refine ⟨fun pins s σ H Q I h => ?_⟩
  refine Compare_chain (thn (ha.run pins s σ H _ I h) fun v s1 ⟨x, H1, I1, r1, q1⟩ => chain_link (thn (hb.run pins s1 σ H1 _ I1 q1) fun u s2 ⟨y, H2, I2, r2, q2⟩ =>
    thn (ho pins s2 σ H2 x y v u _ I2 r1 r2 q2) fun e s3 ⟨z, H3, I3, r3, k, ez, q3⟩ => ?_)) hm
  subst ez
  cases r3
  refine wpAny_truthy_bool ?_
  cases k with
  | false => exact ite_ff ⟨.bl false, H3, I3, rfl, q3⟩
  | true =>
    refine ite_tt (chain_link (thn (hc.run pins s3 σ H3 _ I3 q3) fun u' s4 ⟨y', H4, I4, r4, q4⟩ => thn (ho' pins s4 σ H4 y y' u u' _ I4 r2 r4 q4) fun e s5 ⟨z', H5, I5, r5, k', ez', q5⟩ => ?_))
    subst ez'
    cases r5
    refine wpAny_truthy_bool ?_
    cases k' with
    | false => exact ite_ff ⟨.bl false, H5, I5, rfl, q5⟩
    | true => exact ite_tt (chain_last (thn (hd.run pins s5 σ H5 _ I5 q5) fun w' s6 ⟨y'', H6, I6, r6, q6⟩ => ho'' pins s6 σ H6 y' y'' u' w' Q I6 r4 r6 q6))
theorem pt_chain3 {a b c d : Expr} {ta tb tc td : TE} {pos : Pos} {op op' op'' : CmpOp} {r r' r'' : R2} (ho : OpR X (compareOp op) r) (ho' : OpR X (compareOp op') r') (ho'' : OpR X (compareOp op'') r'') (ha : PE X a ta) (hb : PE X b tb) (hc : PE X c tc) (hd : PE X d td)
    (hm : lastMarks [op, op', op''] [b, c, d] = false := by with_unfolding_all rfl) : PT X (.Compare a [op, op', op''] [b, c, d] pos) (tTest (tChain3 r r' r'' ta tb tc td)) := by
  refine ⟨fun pins s σ H Q I h => ?_⟩
  refine isTrue_chain (thn (ha.run pins s σ H _ I h) fun v s1 ⟨x, H1, I1, r1, q1⟩ => test_link (thn (hb.run pins s1 σ H1 _ I1 q1) fun u s2 ⟨y, H2, I2, r2, q2⟩ =>
    thn (ho pins s2 σ H2 x y v u _ I2 r1 r2 q2) fun e s3 ⟨z, H3, I3, r3, k, ez, q3⟩ => ?_)) hm
  subst ez
  cases r3
  refine wpAny_truthy_bool ?_
  cases k with
  | false =>
    obtain ⟨k', e', q'⟩ := q3
    cases e'
    exact ite_ff ⟨H3, I3, q'⟩
  | true =>
    refine ite_tt (test_link (thn (hc.run pins s3 σ H3 _ I3 q3) fun u' s4 ⟨y', H4, I4, r4, q4⟩ => thn (ho' pins s4 σ H4 y y' u u' _ I4 r2 r4 q4) fun e s5 ⟨z', H5, I5, r5, k', ez', q5⟩ => ?_))
    subst ez'
    cases r5
    refine wpAny_truthy_bool ?_
    cases k' with
    | false =>
      obtain ⟨k', e', q'⟩ := q5
      cases e'
      exact ite_ff ⟨H5, I5, q'⟩
    | true =>
      refine ite_tt (test_last (thn (hd.run pins s5 σ H5 _ I5 q5) fun w' s6 ⟨y'', H6, I6, r6, q6⟩ => thn (ho'' pins s6 σ H6 y' y'' u' w' _ I6 r4 r6 q6) fun e s7 ⟨z2, H7, I7, r7, k2, e2, q7⟩ => ?_))
      subst e2
      cases r7
      exact wpAny_truthy_bool ⟨H7, I7, q7⟩
/-- the same, the written part by its own name (within a comprehension) -/
theorem ix_ltK (K : PySem.W.Frag) (hK : X.K = K := by rfl) : IxR X (rIxA K) := hK ▸ ix_lt
theorem call_lenK (K : PySem.W.Frag) (hK : X.K = K := by rfl) : CallR X (.builtin "len") (fun xs H Q => ∃ p ys, xs = [.ref p] ∧ (SqL K H p ys ∨ SqT K H p ys) ∧ Q (.int ys.length) H) := hK ▸ call_len_seq
theorem op_inK (K : PySem.W.Frag) (hK : X.K = K := by rfl) : OpR X (compareOp .In) (rIn K false) := hK ▸ op_in_seq
theorem op_notInK (K : PySem.W.Frag) (hK : X.K = K := by rfl) : OpR X (compareOp .NotIn) (rIn K true) := hK ▸ op_notIn_seq
def gSeq (K : PySem.W.Frag) (n : Nat) (t : TGs) : TG := fun v σ H Q => ∃ a xs, v = .ref a ∧ SqA K H a xs ∧ xs.length = n ∧ t xs σ H Q
theorem pg_seq {es : List Expr} {k : Nat} {t : TGs} {n : Nat} {pos : Pos} (hc : X.calm = true) (h : PGs X es t)
    (hn : (assignEach es X.env).length = n := by rfl) (hst : (assignEach es X.env).findIdx? (·.1) = none := by rfl) : PG X (.Tuple es k pos) (gSeq X.K n t) := by
  refine ⟨fun pins s σ H v u Q I r hw => ?_⟩
  obtain ⟨a, xs, e1, hq | hq, hl, hw⟩ := hw
  · exact (pg_unl hc h hn hst).run pins s σ H v u Q I r ⟨a, xs, e1, hq, hl, hw⟩
  · exact (pg_tup hc h hn hst).run pins s σ H v u Q I r ⟨a, xs, e1, hq, hl, hw⟩
/-- what stands at a stands -/
def Kp (a : Addr) (H H' : Hp) : Prop := ∀ o, H a = some o → H' a = some o
theorem Kp.ofS {a : Addr} {H H' : Hp} (e : Same H H') : Kp a H H' := fun o h => e a o h
theorem Kp.ofB {a b : Addr} {H H' : Hp} (e : But b H H') (n : a ≠ b) : Kp a H H' := fun o h => e a o n h
theorem Kp.refl (a : Addr) (H : Hp) : Kp a H H := fun _ h => h
theorem Kp.sl {K : PySem.W.Frag} {a : Addr} {xs : List V} {H H' : Hp} (k : Kp a H H') (h : SqL K H a xs) : SqL K H' a xs := by
  rcases h with (h | ⟨o, h⟩) | h
  · exact .inl (.inl (k _ h))
  · exact .inl (.inr ⟨o, k _ h⟩)
  · exact .inr h
theorem Kp.st {K : PySem.W.Frag} {a : Addr} {xs : List V} {H H' : Hp} (k : Kp a H H') (h : SqT K H a xs) : SqT K H' a xs := by
  rcases h with (h | ⟨o, h⟩) | h
  · exact .inl (.inl (k _ h))
  · exact .inl (.inr ⟨o, k _ h⟩)
  · exact .inr h
theorem Kp.sa {K : PySem.W.Frag} {a : Addr} {xs : List V} {H H' : Hp} (k : Kp a H H') (h : SqA K H a xs) : SqA K H' a xs := h.elim (fun q => .inl (k.sl q)) fun q => .inr (k.st q)
/-- the walk over what stood at a in H0 -/
def ItA (K : PySem.W.Frag) (H0 : Hp) (a : Addr) (xs : List V) (J : It) : Prop := (J = Itl K a ∧ SqL K H0 a xs) ∨ (J = Itt K a ∧ SqT K H0 a xs)
def iSeq (K : PySem.W.Frag) (tl : TE) : TI := fun σ H R => tl σ H fun x H1 => ∃ (a : Addr) (xs : List V) (H0 : Hp), x = .ref a ∧ SqA K H0 a xs ∧ Kp a H0 H1 ∧ ∀ J, ItA K H0 a xs J → R J H1
theorem pi_seq {tg l : Expr} {tl : TE} (hl : PE X l tl) : PI X tg l (iSeq X.K tl) := by
  refine ⟨fun pins s σ H R I h => ?_⟩
  refine thn (hl.run pins s σ H _ I h) fun v s1 ⟨x, H1, I1, r1, q1⟩ => ?_
  obtain ⟨a, xs, H0, e, hq | hq, hk, q⟩ := q1
  · replace q := q _ (.inl ⟨rfl, hq⟩)
    replace hq := hk.sl hq
    subst e
    cases r1
    obtain ⟨its, rv, p, hz⟩ := I1.list hq
    refine wpAny_pyIter_list p.isList ?_
    refine ⟨s1.heap.objs.size, [s1.heap.objs.size], _, _, H1, rfl, I1.kept (t' := s1.toks) fun b o e => Heap.get?_push_of_some _ e, turn_list a _, ⟨_, Heap.get?_push_size _ rfl, rfl, rfl⟩, fun b hb => ?_, q⟩
    have e : b = s1.heap.objs.size := by simpa using hb
    subst e
    exact I1.fpOk (Nat.le_refl _) (I1.hok.fresh (Nat.le_refl _))
  · replace q := q _ (.inr ⟨rfl, hq⟩)
    replace hq := hk.st hq
    subst e
    cases r1
    obtain ⟨its, rv, p, hz⟩ := I1.tuple hq
    refine wpAny_pyIter_tuple (show s1.heap.IsTuple a its.toArray from p) ?_
    refine ⟨s1.heap.objs.size, [s1.heap.objs.size], _, _, H1, rfl, I1.kept (t' := s1.toks) fun b o e => Heap.get?_push_of_some _ e, turn_tuple a _, ⟨_, Heap.get?_push_size _ rfl, rfl, rfl⟩, fun b hb => ?_, q⟩
    have e : b = s1.heap.objs.size := by simpa using hb
    subst e
    exact I1.fpOk (Nat.le_refl _) (I1.hok.fresh (Nat.le_refl _))
end

theorem ItA.walk {K : PySem.W.Frag} {H0 : Hp} {a : Addr} {xs : List V} {J : It} (h : ItA K H0 a xs J) : ∃ G : Hp → Prop, (∀ H', Kp a H0 H' → G H') ∧ Walk J xs.length G (YAt xs) := by
  rcases h with ⟨rfl, q⟩ | ⟨rfl, q⟩
  · exact ⟨_, fun _ k => k.sl q, walk_list⟩
  · exact ⟨_, fun _ k => k.st q, walk_tup⟩

/-! ### enumerate of a tuple -/
set_option maxHeartbeats 1000000 in
theorem meets_enum1 {v : Value} {o : Obj} {H : Heap → Prop} (B : Begins v o H) :
    Meets (Builtin.«enumerate.__new__» ⟨[.type "enumerate", v], []⟩) (fun _ R s => H s.heap ∧
      R (.ok (.ret (.ref (s.heap.push o).objs.size))) { s with heap := (s.heap.push o).push { cls := .type "enumerate", data := .fields #[.none, .bool false, .ref s.heap.objs.size, rawInt 0, .none, .none] } }) :=
  .of_wp fun prog w A R s h => by
    obtain ⟨hp, g, d, tk, os⟩ := s; obtain ⟨h1, h⟩ := h
    have hsub := sub_enumerate
    have q1 : ∀ {A' : Around} {E : Value → Shared → Prop} {Q : Value → Shared → Prop}, Q (.ref hp.objs.size) ⟨hp.push o, g, d, tk, os⟩ → wpAny (model prog w) A' (pyIter v) Q E ⟨hp, g, d, tk, os⟩ :=
      fun q => B.iter prog w _ _ ⟨hp, g, d, tk, os⟩ _ h1 q
    wp_walk using q1
    refine wpAny_stack_any fun st => wpAny_pure ?_
    split
    · rename_i c _ _ _ _ _
      cases (c == Value.type "enumerate")
      · wp_walk using q1
        exact ⟨_, rfl, h⟩
      · wp_walk using q1
        exact ⟨_, rfl, h⟩
    · wp_walk using q1
      exact ⟨_, rfl, h⟩
section
variable {prog : Program} {w : World} {A : Around} {E : Value → Shared → Prop} {s : Shared}
theorem enum1_begins {v : Value} {o : Obj} {H : Heap → Prop} {Q : Value → Shared → Prop} (B : Begins v o H) (h1 : H s.heap)
    (h : ∀ h', IsEnum h' (s.heap.objs.size + 1) s.heap.objs.size 0 .none → h'.get? s.heap.objs.size = some o → h'.objs.size = s.heap.objs.size + 2 →
      (∀ b o, s.heap.get? b = some o → h'.get? b = some o) → Q (.ref (s.heap.objs.size + 1)) { s with heap := h' }) :
    wpAny (model prog w) A (call (.type "enumerate") [v]) Q E s := by
  refine callType_new F.called_enumerate (by decide) (F.typeCall_enumerate_1 _) (F.newCall_enumerate_1 _) (fun obj => F.args_object_init_2 obj _) F.entry_enumerate_new
    (meets_enum1 B) ⟨h1, ?_⟩
  have hz : (s.heap.push o).objs.size = s.heap.objs.size + 1 := Heap.size_push ..
  show _ ∧ _
  rw [hz]
  have he : IsEnum ((s.heap.push o).push { cls := .type "enumerate", data := .fields #[.none, .bool false, .ref s.heap.objs.size, rawInt 0, .none, .none] }) (s.heap.objs.size + 1) s.heap.objs.size 0 .none := by
    have := Heap.get?_push_size (s.heap.push o) (o := { cls := .type "enumerate", data := .fields #[.none, .bool false, .ref s.heap.objs.size, rawInt 0, .none, .none] }) rfl
    rw [hz] at this; exact this
  refine ⟨⟨_, he, rfl⟩, h _ he (Heap.get?_push_of_some _ (Heap.get?_push_size _ B.free)) (by rw [Heap.size_push, hz]) fun b o x => Heap.get?_push_of_some _ (Heap.get?_push_of_some _ x)⟩
end
/-- the tuple at a as it stands at each turn, each item in a new pair -/
def IteT (K : PySem.W.Frag) (a : Addr) : It :=
  ⟨fun i H => ∃ (xs : List V) (x : V), SqT K H a xs ∧ xs[i]? = some x, fun i H v H' => ∃ T x, v = .ref T ∧ H T = none ∧ H' = upd H T (.tup [.int (i : Nat), x]) ∧ ∀ xs, SqT K H a xs → xs[i]? = some x, fun i H => ∃ xs : List V, SqT K H a xs ∧ xs.length ≤ i⟩
end Sh

namespace Sh
open PySem PySem.Spec PyProof.Rows L2
section
variable {prog : Program} {w : World} {A : Around} {E : Value → Shared → Prop} {s : Shared}
theorem enum_endT {e it t : Addr} {n : Nat} {i : Int} {old : Value} {items : Array Value} {Q : Option Value → Shared → Prop} (hh : A.handled = none)
    (he : IsEnum s.heap e it i old) (hit : s.heap.IsTupleIter it t n) (ht : s.heap.IsTuple t items) (hx : items[n]? = none)
    (hQ : ∀ h', Heap.ExtBut it s.heap h' → Q none { s with heap := h' }) : wpAny (model prog w) A (pyNext (.ref e)) Q E s := by
  have hT : s.TypeIs (.ref e) "enumerate" := ⟨_, he, rfl⟩
  unfold pyNext
  refine wpAny_bind (wpAny_attempt (wpAny_callSpecial?_slot (name := Str.ofString "__next__") hT F.slot_enumerate_next
    (wpAny_call_entry F.slot_enumerate_next hT F.entry_enumerate_next ?_ (F.args_enumerate_next_1 _))))
  show wpAny _ _ (field (.ref e) 2 >>= _) _ _ _
  refine wpAny_bind (wpAny_field he rfl (x := .ref it) rfl ?_)
  refine wpAny_bind (wpAny_nextOf_tuple_end (show _ = none from hh) hit ht hx fun h' x he' hx' => ?_)
  obtain ⟨o, ho, hc⟩ := hx'
  refine wpAny_bind (wpAny_isInstance (T := "StopIteration") (b := true) ⟨o, ho, hc⟩ isSubtype_stop ?_)
  exact wpAny_pure (hQ _ he')
end
theorem turn_enumT {P : Program} {w : World} {K : PySem.W.Frag} {elts : List Expr} {kk : Nat} {tpos : Pos} (a e it : Addr) :
    Turn P w K (.Tuple elts kk tpos) (IteT K a) [e, it] e (fun i h => (∃ old, IsEnum h e it ((i : Nat) : Int) old) ∧ h.IsTupleIter it a i ∧ e ≠ it ∧ a ≠ it ∧ e ≠ a) where
  mem := by simp
  obj := fun i h st b hb => by
    obtain ⟨⟨old, he⟩, ⟨o, ho, hc, hd⟩, _⟩ := st
    have e' : b = e ∨ b = it := by simpa using hb
    rcases e' with z | z
    · rw [z]; exact ⟨_, he, fun v q => nomatch q⟩
    · rw [z]; exact ⟨o, ho, fun v q => by rw [hd] at q; cases q⟩
  keep := fun i h h' st k => let ⟨⟨old, he⟩, hi, hne⟩ := st; ⟨⟨old, k e (by simp) _ he⟩, hi.at fun o q => k it (by simp) o q, hne⟩
  item := by
    intro X hP hw hK hc i pins s σ H E I hf st hg
    subst hP hw hK
    obtain ⟨⟨old, he⟩, hit, hne, hai, hea⟩ := st
    obtain ⟨xs, x, hq, hx⟩ := hg
    obtain ⟨its, rv, p, hz⟩ := I.tuple hq
    obtain ⟨u, hu, ru⟩ := rv.get hx
    have hel : e < s.heap.objs.size := Heap.lt_size he
    have hil : it < s.heap.objs.size := by obtain ⟨_, q, _⟩ := hit; exact Heap.lt_size q
    have D := Draws.tuple (prog := X.prog) (w := X.w) (A := X.A.in1) (show X.A.in1.handled = none from I.ok.hd hc) it a hai its.toArray
    have hlt : i < its.toArray.size := by
      have q := (List.getElem?_eq_some_iff.mp hu).1
      simpa using q
    refine wpAny_pyNext_enum_itemC D he ⟨hit, p⟩ hlt hne (by simp [hne, hea]) fun u' h' tk hP ho hst' hT hsz hk => ?_
    have eu : u' = u := by
      have q : its.toArray[i]? = some u' := hP
      have q2 : its.toArray[i]? = some u := by simpa using hu
      exact Option.some.inj (q.symm.trans q2)
    subst eu
    obtain ⟨hit', _⟩ := hst'
    refine ⟨_, rfl, wpAny_letOwnedTupleGo_enum (s := { s with heap := h', toks := tk + 1 }) ho fun h'' he' sb => ?_⟩
    have hT2 : h''.get? s.heap.objs.size = some { cls := .type "tuple", data := .seq #[.int i tk, u'] } := (sb.2 _ (Nat.ne_of_gt hel)).trans hT
    have new : ObjOk X.prog X.w (upd H s.heap.objs.size (.tup [.int (i : Nat), x])) h'' s.heap.objs.size (.tup [.int (i : Nat), x]) :=
      ⟨by show 2 ≤ sizeLine; decide, [.int i tk, u'], .cons ⟨_, rfl⟩ (.cons ru .nil), ⟨_, hT2, rfl, _, rfl⟩⟩
    have I1 : Inv X pins σ (upd H s.heap.objs.size (.tup [.int (i : Nat), x])) { s with heap := h'', toks := tk + 1 } :=
      I.turnedNew (ch := [e, it]) (fun b ob hb q => (sb.2 b (fun z => hb (by simp [z]))).trans (hk b ob (fun z => hb (by simp [z])) (fun z => hb (by simp [z])) q)) hf (Nat.le_refl _) new
    refine ⟨.ref s.heap.objs.size, _, I1, rfl, ⟨_, x, rfl, I.hok.fresh (Nat.le_refl _), rfl, fun ys hy => by rw [I.tuple_inj hy hq]; exact hx⟩, ⟨⟨u', ?_⟩, hit'.at fun o q => (sb.2 it (Ne.symm hne)).trans q, hne, hai, hea⟩, fun b hb => ?_⟩
    · have e1 : ((i + 1 : Nat) : Int) = (i : Int) + 1 := by omega
      rw [e1]; exact he'
    · have hb' : b < s.heap.objs.size := by
        have e' : b = e ∨ b = it := by simpa using hb
        rcases e' with z | z
        · rw [z]; exact hel
        · rw [z]; exact hil
      rw [upd_ne (Nat.ne_of_lt hb')]
      exact (hf b hb).1
  done := by
    intro X hP hw hK hc i pins s σ H E I hf st hg
    subst hP hw hK
    obtain ⟨⟨old, he⟩, hit, hne, hai, hea⟩ := st
    obtain ⟨xs, hq, hx⟩ := hg
    obtain ⟨its, rv, p, hz⟩ := I.tuple hq
    obtain ⟨f0, f1, f2, f3, f4, f5⟩ := hf it (by simp)
    have hl := rv.length
    exact enum_endT (I.ok.hd hc) he hit p (by simp; omega) fun h' eb => ⟨rfl, I.turned (t' := s.toks) (fun b o hb q => eb b o hb q) f0 f1 f3 f4 f5⟩
  self := fun A i s Q E st h => let ⟨⟨_, he⟩, _⟩ := st; wpAny_pyIter_enum he h
def ItE (K : PySem.W.Frag) (H0 : Hp) (a : Addr) (xs : List V) (J : It) : Prop := (J = Ite K a ∧ SqL K H0 a xs) ∨ (J = IteT K a ∧ SqT K H0 a xs)
def iEnumA (K : PySem.W.Frag) (ta : TA) : TI := fun σ H R => ta σ H fun vs H1 => ∃ (a : Addr) (xs : List V) (H0 : Hp), vs = [.ref a] ∧ SqA K H0 a xs ∧ Kp a H0 H1 ∧ ∀ J, ItE K H0 a xs J → R J H1
theorem pi_enumA {X : Cx} {e : Expr} {ta : TA} {p pos tpos : Pos} {elts : List Expr} {kk : Nat} (hg : Gl X "enumerate") (hm : X.mg "enumerate" = none) (ha : PA X [e] ta) (hs : starEach [e] X.env = [(false, eval e X.env)] := by rfl) :
    PI X (.Tuple elts kk tpos) (.Call (.Name "enumerate" p) [e] [] pos) (iEnumA X.K ta) := by
  refine ⟨fun pins s σ H R I h => ?_⟩
  refine Call_ (ld_blt I hg hm boot_enumerate (PyProof.Rows.callWith_type1 (thn (ha.run pos pins s σ H _ I h) fun us s1 ⟨vs, H1, I1, r1, q1⟩ => ?_) hs rfl))
  obtain ⟨a, xs, H0, ex, hs0, hk, q1⟩ := q1
  subst ex
  cases r1 with
  | cons r rr =>
    cases rr
    cases r
    have fr : ∀ b ∈ [s1.heap.objs.size + 1, s1.heap.objs.size], FpOk X pins H1 b := fun b hb => by
      have e' : b = s1.heap.objs.size + 1 ∨ b = s1.heap.objs.size := by simpa using hb
      have hle : s1.heap.objs.size ≤ b := by
        rcases e' with z | z
        · rw [z]; exact Nat.le_add_right _ _
        · rw [z]; exact Nat.le_refl _
      exact I1.fpOk hle (I1.hok.fresh hle)
    rcases hs0 with hq | hq
    · have q := q1 _ (.inl ⟨rfl, hq⟩)
      replace hq := hk.sl hq
      obtain ⟨its, rv, p', hz⟩ := I1.list hq
      refine call_enumerate_list p'.isList fun h' he hit hsz hk => wpAny_pyIter_enum he ?_
      have I2 : Inv X pins σ H1 { s1 with heap := h' } := I1.kept (t' := s1.toks) hk
      exact ⟨s1.heap.objs.size + 1, [s1.heap.objs.size + 1, s1.heap.objs.size], _, _, H1, rfl, I2, turn_enum a (s1.heap.objs.size + 1) s1.heap.objs.size, ⟨⟨.none, he⟩, hit, Nat.succ_ne_self _⟩, fr, q⟩
    · have q := q1 _ (.inr ⟨rfl, hq⟩)
      replace hq := hk.st hq
      obtain ⟨its, rv, p', hz⟩ := I1.tuple hq
      have al : a < s1.heap.objs.size := by obtain ⟨_, q, _⟩ := id p'; exact Heap.lt_size q
      refine enum1_begins (begins_tuple a its.toArray) p' fun h' he hit hsz hk => wpAny_pyIter_enum he ?_
      have I2 : Inv X pins σ H1 { s1 with heap := h' } := I1.kept (t' := s1.toks) hk
      exact ⟨s1.heap.objs.size + 1, [s1.heap.objs.size + 1, s1.heap.objs.size], _, _, H1, rfl, I2, turn_enumT a (s1.heap.objs.size + 1) s1.heap.objs.size, ⟨⟨.none, he⟩, ⟨_, hit, rfl, rfl⟩, Nat.succ_ne_self _, Nat.ne_of_lt al, Nat.ne_of_gt (Nat.lt_succ_of_lt al)⟩, fr, q⟩
theorem walk_enumT {K : PySem.W.Frag} {a : Addr} {xs : List V} : Walk (IteT K a) xs.length (fun H => SqT K H a xs) (YPair (fun i => some (.int (i : Nat))) (fun i => xs[i]?)) := by
  refine ⟨fun i _ hi q => ⟨xs, xs[i], q, by simp [hi]⟩, fun _ q => ⟨xs, q, Nat.le_refl _⟩, fun i H v H' _ q y => ?_⟩
  obtain ⟨T, x, h1, h2, h3, h4⟩ := y
  exact ⟨T, .int (i : Nat), x, h1, h2, h3, rfl, h4 xs q⟩
theorem ItE.walk {K : PySem.W.Frag} {H0 : Hp} {a : Addr} {xs : List V} {J : It} (h : ItE K H0 a xs J) : ∃ G : Hp → Prop, (∀ H', Kp a H0 H' → G H') ∧ Walk J xs.length G (YPair (fun i => some (.int (i : Nat))) (fun i => xs[i]?)) := by
  rcases h with ⟨rfl, q⟩ | ⟨rfl, q⟩
  · exact ⟨_, fun _ k => k.sl q, walk_enum⟩
  · exact ⟨_, fun _ k => k.st q, walk_enumT⟩
theorem walk_zipT {K : PySem.W.Frag} {a b : Addr} {xs ys : List V} {n : Nat} (hn : n = min xs.length ys.length) : Walk (RZ.ItzT K a b) n (fun H => SqT K H a xs ∧ SqT K H b ys) (YPair (fun i => xs[i]?) (fun i => ys[i]?)) := by
  subst hn
  refine ⟨fun i _ hi q => ?_, fun _ q => ⟨xs, ys, q.1, q.2, by omega⟩, fun i H v H' _ q y => ?_⟩
  · have h1 : i < xs.length := by omega
    have h2 : i < ys.length := by omega
    exact ⟨xs, ys, xs[i], ys[i], q.1, q.2, by simp [h1], by simp [h2]⟩
  · obtain ⟨T, x, z, h1, h2, h3, h4, h5⟩ := y
    exact ⟨T, x, z, h1, h2, h3, h4 xs q.1, h5 ys q.2⟩
end Sh

namespace Sh
open PySem PySem.Spec PyProof.Rows L2
/-- a def of the top: where it stands, and the global name -/
structure Df (K : PySem.W.Frag) (mg : Str → Option Value) (x : Str) (st : Stmt) : Prop where
  ex : ∃ (f : Addr) (fd : FuncData), Fun K x x st f fd ∧ mg x = some (.ref f)
/-- it keeps its promise -/
structure Ok (P : Program) (w : World) (K : PySem.W.Frag) (mg : Str → Option Value) (base : Heap) (k : Nat) (x : Str) (st : Stmt) (ps : List Str) (sp : Sp) : Prop where
  ex : ∃ (f : Addr) (fd : FuncData), Fun K x x st f fd ∧ mg x = some (.ref f) ∧ Binds K fd ps [] ∧ FnOk P w K mg base CX0 k f fd ps sp
section
variable {P : Program} {w : World} {K : PySem.W.Frag} {mg : Str → Option Value} {base : Heap}
theorem Df.ok {x : Str} {st : Stmt} {N ps : List Str} {k : Nat} {sp : Sp} (D : Df K mg x st) (S : FnScope N ps (defScope st))
    (hb : ∀ (kV doc pm : Value) (an : Option Addr) (cdv ct : Value) (us : List Value), us.length = ps.length → bindArgs (PySem.W.fnOf x x (defArgs st) (defBody st) (defScope st) .none kV doc pm an cdv ct) ⟨us, []⟩ = pure (ps.zip us))
    (len : ∀ vs H Q E, sp vs H Q E → vs.length = ps.length)
    (hbody : ∀ (f : Addr) (cdv : Value) (A : Around) (outer : List Env) (s : Shared) (H : Hp) (vs : List V) (Q : VK) (E : XK), Room k (A.deeper (envOfC x (defScope st) s.heap.objs.size f cdv)) → sp vs H Q E →
      ∃ t, PSs (cxOf CX0 P w K mg base N x (defScope st) f cdv A outer s H E).nox (defBody st) t ∧ t { nx := fun _ H' => Q .non H', rt := Q } (start N vs) H) : Ok P w K mg base (k + 1) x st ps sp := by
  obtain ⟨f, fd, F, g⟩ := D.ex
  exact ⟨f, fd, F, g, F.binds hb, F.ok S len (fun cdv A outer s H vs Q E hr h => hbody f cdv A outer s H vs Q E hr h)⟩
theorem Ok.mono {x : Str} {st : Stmt} {ps : List Str} {j k : Nat} {sp : Sp} (O : Ok P w K mg base j x st ps sp) (h : j ≤ k) : Ok P w K mg base k x st ps sp := by
  obtain ⟨f, fd, F, g, b, G⟩ := O.ex
  exact ⟨f, fd, F, g, b, G.mono h⟩
theorem Ok.imp {x : Str} {st : Stmt} {ps : List Str} {k : Nat} {sp sp' : Sp} (O : Ok P w K mg base k x st ps sp) (h : ∀ vs H Q E, sp' vs H Q E → sp vs H Q E) : Ok P w K mg base k x st ps sp' := by
  obtain ⟨f, fd, F, g, b, G⟩ := O.ex
  exact ⟨f, fd, F, g, b, G.imp h⟩
end
/-- the values at the places js -/
def pk {α : Type} (js : List Nat) (l : List α) : List α := js.filterMap fun j => l[j]?
theorem vals_get : ∀ {vs : List V} {us : List Value} (j : Nat), Vals vs us → (vs[j]? = none ∧ us[j]? = none) ∨ ∃ v u, vs[j]? = some v ∧ us[j]? = some u ∧ RelV v u
  | _, _, _, .nil => .inl ⟨by simp, by simp⟩
  | _, _, 0, .cons r _ => .inr ⟨_, _, rfl, rfl, r⟩
  | _, _, j + 1, .cons _ t => by simpa using vals_get j t
theorem vals_app : ∀ {vs zs : List V} {us ws : List Value}, Vals vs us → Vals zs ws → Vals (vs ++ zs) (us ++ ws)
  | _, _, _, _, .nil, h => h
  | _, _, _, _, .cons r t, h => .cons r (vals_app t h)
theorem vals_pk {vs : List V} {us : List Value} (h : Vals vs us) : ∀ js : List Nat, Vals (pk js vs) (pk js us)
  | [] => .nil
  | j :: js => by
    unfold pk
    rcases vals_get j h with ⟨a, b⟩ | ⟨v, u, a, b, r⟩
    · rw [List.filterMap_cons_none a, List.filterMap_cons_none b]
      exact vals_pk h js
    · rw [List.filterMap_cons_some a, List.filterMap_cons_some b]
      exact .cons r (vals_pk h js)
section
variable {X : Cx} {k : Nat} {x : Str} {st : Stmt} {ps : List Str} {sp : Sp} {e : Expr} {es : List Expr} {t tk : TA} {p pos : Pos} {kws : List Keyword} {ks : List Str}
/-- f(e, ..) -/
theorem pe_fn (O : Ok X.prog X.w X.K X.mg X.base k x st ps sp) (hr : Room k X.A) (ha : PA X (e :: es) t) (hg : Gl X x := by rfl)
    (hdb : (x == ("__debug__" : Str)) = false := by decide) (he : starEach (e :: es) X.env = (false, eval e X.env) :: starEach es X.env := by rfl) (hpl : (backTo pos (starEach es X.env)).any (·.1) = false := by rfl) :
    PE X (.Call (.Name x p) (e :: es) [] pos) (tCall sp [] E0 t) := by
  obtain ⟨f, fd, F, g, b, G⟩ := O.ex
  exact pe_call G hr hg g F.kp b .nil pass0 ha hdb he hpl
/-- f(e, .., k = v, ..): the parameters are the places js of all that is handed in -/
def tCallJ (js : List Nat) (n : Nat) (sp : Sp) (t tk : TA) : TE := fun σ H Q => t σ H fun vs H1 => tk σ H1 fun zs H2 => (vs.length + zs.length = n ∧ zs.length = n - vs.length) ∧ sp (pk js (vs ++ zs)) H2 Q E0
theorem run_fnJ {pins : List (Addr × Obj)} {σ : L2.St} {H : Hp} {s : Shared} {Q : VK} {us ws : List Value} {vs zs : List V} {js : List Nat} {f : Addr} {fd : FuncData} (F : Fun X.K x x st f fd) (G : FnOk X.prog X.w X.K X.mg X.base CX0 k f fd ps sp) (hr : Room k X.A)
    (hb : ∀ (kV doc pm : Value) (an : Option Addr) (cdv ct : Value), bindArgs (PySem.W.fnOf x x (defArgs st) (defBody st) (defScope st) .none kV doc pm an cdv ct) ⟨us, ks.zip ws⟩ = pure (ps.zip (pk js (us ++ ws))))
    (I : Inv X pins σ H s) (r : Vals vs us) (rz : Vals zs ws) (h : sp (pk js (vs ++ zs)) H Q E0) : wpAny (model X.prog X.w) X.A (call (.ref f) us (ks.zip ws)) (EP X pins σ Q) X.xe s := by
  obtain ⟨oc, od, kV, doc, pm, an, cdv, ct, osl, rfl, lk, hcd⟩ := F.ex
  refine wpAny_call (codeAny_mono (G.run X.A X.stack s H ⟨us, ks.zip ws⟩ (pk js (us ++ ws)) (pk js (vs ++ zs)) Q E0 hr I.env0 (.of_eq (hb kV doc pm an cdv ct)) (vals_pk (vals_app r rz) js) h) fun r s' hq => ?_)
  cases r with
  | error e => exact pass0 pins σ H s e s' I hq
  | ok fl =>
    cases fl with
    | ret u => exact I.after hq
    | next => exact False.elim hq
    | brk => exact False.elim hq
    | cont => exact False.elim hq
/-- f(k = v, ..) -/
theorem pe_fnK0 (js : List Nat) (O : Ok X.prog X.w X.K X.mg X.base k x st ps sp) (hr : Room k X.A)
    (hb : ∀ (kV doc pm : Value) (an : Option Addr) (cdv ct : Value) (ws : List Value), ws.length = ks.length → bindArgs (PySem.W.fnOf x x (defArgs st) (defBody st) (defScope st) .none kV doc pm an cdv ct) ⟨[], ks.zip ws⟩ = pure (ps.zip (pk js ws)))
    (hkw : PK X kws tk) (hg : Gl X x := by rfl) (hall : (backToKw pos (keywordEach kws X.env)).all (·.1.isSome) = true := by rfl) (hks : (backToKw pos (keywordEach kws X.env)).filterMap (·.1) = ks := by rfl) (hdb : (x == ("__debug__" : Str)) = false := by decide)
    (hpl : ((backTo pos (starEach [] X.env)).any (·.1) || (backToKw pos (keywordEach kws X.env)).any (·.1.isNone)) = false := by rfl) :
    PE X (.Call (.Name x p) [] kws pos) (tCallJ js ks.length sp tNil tk) := by
  obtain ⟨f, fd, F, g, b, G⟩ := O.ex
  refine ⟨fun pins s σ H Q I h => ?_⟩
  refine wpAny_Call_Name_kw (ld_glob I hg g ?_ hdb)
  refine PySem.W.callWith_KW0 (h₀ := X.base) I.ok.mod.kin F.kp hall ?_ hpl
  refine thn (hkw.run pos pins s σ H _ I h) fun ws s2 ⟨zs, H2, I2, rz, l2, q2⟩ => ⟨I2.kIn, ?_⟩
  rw [hks]
  exact run_fnJ (us := []) (vs := []) (js := js) F G hr (fun kV doc pm an cdv ct => hb kV doc pm an cdv ct ws (rz.length.symm.trans l2.2)) I2 .nil rz q2
/-- f(e, .., k = v, ..), n positional ones -/
theorem pe_fnK (js : List Nat) (n : Nat) (O : Ok X.prog X.w X.K X.mg X.base k x st ps sp) (hr : Room k X.A)
    (hb : ∀ (kV doc pm : Value) (an : Option Addr) (cdv ct : Value) (us ws : List Value), us.length = n → ws.length = ks.length → bindArgs (PySem.W.fnOf x x (defArgs st) (defBody st) (defScope st) .none kV doc pm an cdv ct) ⟨us, ks.zip ws⟩ = pure (ps.zip (pk js (us ++ ws))))
    (ha : PA X (e :: es) t) (hkw : PK X kws tk) (hg : Gl X x := by rfl) (hall : (backToKw pos (keywordEach kws X.env)).all (·.1.isSome) = true := by rfl) (hks : (backToKw pos (keywordEach kws X.env)).filterMap (·.1) = ks := by rfl)
    (hdb : (x == ("__debug__" : Str)) = false := by decide) (he : starEach (e :: es) X.env = (false, eval e X.env) :: starEach es X.env := by rfl)
    (hpl : ((backTo pos (starEach (e :: es) X.env)).any (·.1) || (backToKw pos (keywordEach kws X.env)).any (·.1.isNone)) = false := by rfl) :
    PE X (.Call (.Name x p) (e :: es) kws pos) (fun σ H Q => t σ H fun vs H1 => tk σ H1 fun zs H2 => (vs.length = n ∧ zs.length = ks.length) ∧ sp (pk js (vs ++ zs)) H2 Q E0) := by
  obtain ⟨f, fd, F, g, b, G⟩ := O.ex
  refine ⟨fun pins s σ H Q I h => ?_⟩
  refine wpAny_Call_Name_kw (ld_glob I hg g ?_ hdb)
  refine PySem.W.callWith_KW (h₀ := X.base) I.ok.mod.kin F.kp hall (thn (ha.run pos pins s σ H _ I h) fun us s1 ⟨vs, H1, I1, r, q⟩ => ?_) hpl he
  refine thn (hkw.run pos pins s1 σ H1 _ I1 q) fun ws s2 ⟨zs, H2, I2, rz, ⟨l1, l2⟩, q2⟩ => ⟨I2.kIn, ?_⟩
  rw [hks]
  exact run_fnJ (js := js) F G hr (fun kV doc pm an cdv ct => hb kV doc pm an cdv ct us ws (r.length.symm.trans l1) (rz.length.symm.trans l2)) I2 r rz q2
end
theorem tyes {σ : L2.St} {H : Hp} {Q : Bool → Hp → Prop} (h : Q true H) : tYes σ H Q := h
/-! ### xs[a:b:c] -/
def pickV (xs : List V) (lo hi st : Option Int) : List V := pk (sliceRange (sliceBounds lo hi st xs.length).1 (sliceBounds lo hi st xs.length).2.1 (sliceBounds lo hi st xs.length).2.2) xs
theorem pick_vals {xs : List V} {us : List Value} (r : Vals xs us) (lo hi st : Option Int) : Vals (pickV xs lo hi st) (slicePick us.toArray lo hi st).toList := by
  have e := vals_pk r (sliceRange (sliceBounds lo hi st xs.length).1 (sliceBounds lo hi st xs.length).2.1 (sliceBounds lo hi st xs.length).2.2)
  have e2 : (slicePick us.toArray lo hi st).toList = pk (sliceRange (sliceBounds lo hi st xs.length).1 (sliceBounds lo hi st xs.length).2.1 (sliceBounds lo hi st xs.length).2.2) us := by
    unfold slicePick pk
    rw [List.size_toArray, ← r.length]
    simp
  rw [e2]
  exact e
section
variable {X : Cx}
def tStep (K : PySem.W.Frag) (te : TE) (tl th ts : TO) : TE := fun σ H Q => te σ H fun x H1 => tl σ H1 fun l H2 => th σ H2 fun u H3 => ts σ H3 fun o H4 => ∃ a xs, x = .ref a ∧ SqL K H4 a xs ∧ o ≠ some 0 ∧ (pickV xs l u o).length ≤ sizeLine ∧ ∀ p, H4 p = none → Q (.ref p) (upd H4 p (.lst (pickV xs l u o)))
theorem pe_step {e st : Expr} {lo hi : Option Expr} {te : TE} {tl th ts : TO} {p3 pos : Pos} (he : PE X e te) (hlo : PO X lo tl) (hhi : PO X hi th) (hst : PO X (some st) ts) : PE X (.Subscript e (.Slice lo hi (some st) p3) pos) (tStep X.K te tl th ts) := by
  refine ⟨fun pins s σ H Q I h => ?_⟩
  refine Subscript_ (thn (he.run pins s σ H _ I h) fun v s1 ⟨x, H1, I1, r1, q1⟩ => ?_)
  refine wpAny_Slice (thn (hlo.run pins s1 σ H1 _ I1 q1) fun vl s2 ⟨l, H2, I2, pl, q2⟩ => ?_)
  refine thn (hhi.run pins s2 σ H2 _ I2 q2) fun vu s3 ⟨u, H3, I3, pu, q3⟩ => ?_
  refine thn (hst.run pins s3 σ H3 _ I3 q3) fun vs s4 ⟨o, H4, I4, ps, q4⟩ => ?_
  obtain ⟨a, xs, ex, hx, h0, hz2, q⟩ := q4
  subst ex
  cases r1
  have I5 : Inv X pins σ H4 { s4 with heap := s4.heap.push { cls := .type "slice", data := .fields #[vl, vu, vs] } } := I4.kept (t' := s4.toks) fun b ob q => Heap.get?_push_of_some _ q
  obtain ⟨its, r, ht, hz⟩ := I5.list hx
  have hlen := r.length
  show wpAny (model X.prog X.w) X.A (subscriptTail e (.Slice lo hi (some st) p3) (.ref a) (.ref s4.heap.objs.size)) (EP X pins σ Q) X.xe { s4 with heap := s4.heap.push { cls := .type "slice", data := .fields #[vl, vu, vs] } }
  refine tail_any (ops := [.ref a, .ref s4.heap.objs.size]) ht.isList.typeIs (PySem.slot_list_getitem.lookup) ?_ (by with_unfolding_all rfl)
  refine wpAny_getItem_list_slice ht.isList (Heap.IsSliceOf.new _ vl vu vs) pl pu ps h0 ?_ (by rw [List.size_toArray]; omega)
  refine ⟨.ref _, _, I5.laid (t' := s4.toks) (o := .lst (pickV xs l u o)) (fun b ob q => Heap.get?_push_of_some _ q) (Nat.le_refl _) ?_, rfl, q _ (I5.hok.fresh (Nat.le_refl _))⟩
  exact ⟨hz2, (slicePick its.toArray l u o).toList, 0, pick_vals r l u o, Heap.get?_push_size _ rfl⟩
end
/-! ### set(t) of a tuple of ints, as a thing that stands -/
def rSetT (K : PySem.W.Frag) (w : World) : List V → Hp → VK → Prop := fun xs H Q => ∃ (q : Addr) (ns : List Int), xs = [.ref q] ∧ SqT K H q (ns.map V.int) ∧ ns.length ≤ 1000 ∧ ∀ (a : Addr) (c : Nat), H a = none → c ≤ ns.length → Q (.ref a) (upd H a (SetO w a (fun j => decide (j ∈ ns)) c))
theorem cr_setT {X : Cx} (hc : X.calm = true) : CallR X (.type "set") (rSetT X.K X.w) := by
  intro pins s σ H xs us Q I r h
  obtain ⟨q, ns, rfl, hq, hl, k⟩ := h
  rw [Vals.ref1 r]
  obtain ⟨its, rv, pt, hz⟩ := I.tuple hq
  have hi : IntsAre its.toArray.toList ns := ints_of_vals rv
  refine call_set_tupI ns (I.ok.hd hc) (show s.heap.IsTuple q its.toArray from pt) hi (by unfold scanBound; omega) fun h' tk c R1 hcn kk => ?_
  exact ⟨.ref _, upd H s.heap.objs.size (SetO X.w s.heap.objs.size _ c), I.laid (t' := tk) kk (Nat.le_refl _) (setO_new R1), rfl, k _ _ (I.hok.fresh (Nat.le_refl _)) hcn⟩
/-- names of Python's own that the top leaves alone -/
structure Bt (mg : Str → Option Value) : Prop where
  len_ : mg "len" = none
  range_ : mg "range" = none
  abs_ : mg "abs" = none
  int_ : mg "int" = none
  min_ : mg "min" = none
  max_ : mg "max" = none
  list_ : mg "list" = none
  tuple_ : mg "tuple" = none
  all_ : mg "all" = none
  any_ : mg "any" = none
  sorted_ : mg "sorted" = none
  sum_ : mg "sum" = none
  zip_ : mg "zip" = none
  enumerate_ : mg "enumerate" = none
  isinstance_ : mg "isinstance" = none
  reversed_ : mg "reversed" = none
  str_ : mg "str" = none
  bool_ : mg "bool" = none
  set_ : mg "set" = none
end Sh

namespace Sh
open PySem PySem.Spec PyProof.Rows L2
/-! ### the text by places -/
def topS (i : Nat) : Stmt := PySem.Challenge.pw_shoalmates_k05_steps_and_marks.main.body.getD i (.Pass ⟨0, 0, 0, 0⟩)
end Sh

namespace Sh
open PySem PySem.Spec PyProof.Rows L2
/-! ### what is drawn from -/
def BoxOk (xs : List V) (n : Nat) : Prop := ∃ b0 b1 b2 : Int, xs = [.int b0, .int b1, .int b2] ∧ 0 ≤ b0 ∧ 0 ≤ b1 ∧ b1 < 4611686018427387904 ∧ 0 ≤ b2 ∧ b2 + (n : Int) ≤ 1099511627776
def BoxAt (H : Hp) (b : Addr) (n : Nat) : Prop := ∃ xs, H b = some (.lst xs) ∧ BoxOk xs n
theorem BoxOk.mono {xs : List V} {n m : Nat} (h : BoxOk xs n) (l : m ≤ n) : BoxOk xs m := by
  obtain ⟨b0, b1, b2, e, h0, h1, h2, h3, h4⟩ := h
  exact ⟨b0, b1, b2, e, h0, h1, h2, h3, by omega⟩
theorem BoxAt.mono {H : Hp} {b : Addr} {n m : Nat} (h : BoxAt H b n) (l : m ≤ n) : BoxAt H b m := let ⟨xs, e, k⟩ := h; ⟨xs, e, k.mono l⟩
theorem BoxAt.same {H H' : Hp} {b : Addr} {n : Nat} (h : BoxAt H b n) (s : Same H H') : BoxAt H' b n := let ⟨xs, e, k⟩ := h; ⟨xs, s _ _ e, k⟩
theorem BoxAt.some {H : Hp} {b : Addr} {n : Nat} (h : BoxAt H b n) : H b ≠ none := fun z => by
  obtain ⟨xs, e, _⟩ := h
  rw [e] at z
  cases z
/-- a new place is not the box -/
theorem BoxAt.ne {H : Hp} {b p : Addr} {n : Nat} (h : BoxAt H b n) (z : H p = none) : b ≠ p := let ⟨_, e, _⟩ := h; ne_of_none e z
def spTake : Sp := fun vs H Q _ => ∃ (b : Addr) (n : Nat) (span : Int), vs = [.ref b, .int span] ∧ 0 < span ∧ span < 1073741824 ∧ BoxAt H b (n + 1) ∧ ∀ (v : Int) (xs : List V), 0 ≤ v → v < span → BoxOk xs n → Q (.int v) (upd H b (.lst xs))
abbrev s__law_take : Stmt := topS 11
theorem sc__law_take : FnScope (["_law_box_here", "_law_span", "_law_found", "_law_once", "_law_twice"] : List Str) (["_law_box_here", "_law_span"] : List Str) (defScope s__law_take) := ⟨rfl, rfl, rfl, by decide +kernel, rfl, by decide +kernel, by decide +kernel⟩
theorem b__law_take (kV doc pm : Value) (an : Option Addr) (cdv ct : Value) (us : List Value) (hl : us.length = (["_law_box_here", "_law_span"] : List Str).length) : bindArgs (PySem.W.fnOf "_law_take" "_law_take" (defArgs s__law_take) (defBody s__law_take) (defScope s__law_take) .none kV doc pm an cdv ct) ⟨us, []⟩ = pure ((["_law_box_here", "_law_span"] : List Str).zip us) :=
  match us, hl with | [_, _], _ => rfl
section
variable {P : Program} {w : World} {K : PySem.W.Frag} {mg : Str → Option Value} {base : Heap}
theorem ok_take {k : Nat} (D : Df K mg "_law_take" s__law_take) (T : Bt mg) : Ok P w K mg base (k + 1) "_law_take" s__law_take ["_law_box_here", "_law_span"] spTake := by
  refine D.ok sc__law_take b__law_take (fun vs H Q E h => ?_) (fun f cdv A outer s H vs Q E hr h => ?_)
  · obtain ⟨b, n, span, rfl, _⟩ := h
    rfl
  · obtain ⟨b, n, span, rfl, s0, s1, ⟨xs, hb, b0, b1, b2, rfl, h0, h1, h1', h2, h3⟩, q⟩ := h
    refine ⟨_, (pss_cons (ps_if (pt_cmpR op_gt (pe_ix ix_lt (pv 0) pe_int (fun _ _ => rfl)) pe_int (nomark _))
        (pss_cons (ps_set (i := 2) sc__law_take.nd rfl (.inl rfl) (pe_op op_mod (pe_ix ix_lt (pv 0) pe_int (fun _ _ => rfl)) (pv 1)))
          (pss_cons (ps_asg (pe_op op_fdiv (pe_ix ix_lt (pv 0) pe_int (fun _ _ => rfl)) (pv 1)) (pg_sub (pv 0) pe_int set_list))
          (pss_one (ps_ret (pv 2)))))
        pss_nil)
      (pss_cons (ps_asg (pe_op op_add (pe_ix ix_lt (pv 0) pe_int (fun _ _ => rfl)) pe_int) (pg_sub (pv 0) pe_int set_list))
      (pss_cons (ps_set (i := 3) sc__law_take.nd rfl (.inl rfl) (pe_op op_mod (pe_op op_mul (pe_op op_add (pe_ix ix_lt (pv 0) pe_int (fun _ _ => rfl)) (pe_op op_mul pe_int (pe_ix ix_lt (pv 0) pe_int (fun _ _ => rfl)))) (pe_op op_add pe_int (pe_ix ix_lt (pv 0) pe_int (fun _ _ => rfl)))) pe_int))
      (pss_cons (ps_set (i := 4) sc__law_take.nd rfl (.inl rfl) (pe_op op_mod (pe_op op_mul (pe_op op_add (pe_op op_add (pv 3) (pe_ix ix_lt (pv 0) pe_int (fun _ _ => rfl))) (pe_op op_fdiv (pe_ix ix_lt (pv 0) pe_int (fun _ _ => rfl)) pe_int)) (pe_op op_add (pe_op op_mod (pv 3) pe_int) pe_int)) pe_int))
      (pss_one (ps_ret (pe_op op_mod (pe_op op_fdiv (pe_op op_mod (pe_op op_add (pe_op op_mul (pv 4) pe_int) (pv 3)) pe_int) pe_int) (pv 1)))))))), ?_⟩
    have hq : SqA K H b [.int b0, .int b1, .int b2] := SqA.l hb
    refine ⟨_, rfl, b, _, 0, .int b0, rfl, rfl, hq, rfl, b0, 0, rfl, rfl, _, rfl, ite2 (fun c => ?_) (fun c => ?_)⟩
    · have c0 : 0 < b0 := of_decide_eq_true c
      refine ⟨_, rfl, b, _, 0, .int b0, rfl, rfl, hq, rfl, _, rfl, b0, span, rfl, rfl, s0, ?_⟩
      refine ⟨_, rfl, b, _, 0, .int b0, rfl, rfl, hq, rfl, _, rfl, b0, span, rfl, rfl, ⟨s0, s1⟩, ?_⟩
      refine ⟨_, rfl, b, _, 0, 0, rfl, rfl, hb, rfl, ?_⟩
      refine ⟨_, rfl, ?_⟩
      exact q _ _ (Int.emod_nonneg _ (by omega)) (Int.emod_lt_of_pos _ s0) ⟨b0 / span, b1, b2, rfl, Int.ediv_nonneg h0 (by omega), h1, h1', h2, by omega⟩
    · refine ⟨_, rfl, b, _, 2, .int b2, rfl, rfl, hq, rfl, b2, 1, rfl, rfl, ?_⟩
      refine ⟨_, rfl, b, _, 2, 2, rfl, rfl, hb, rfl, ?_⟩
      have hq2 : SqA K (upd H b (.lst [.int b0, .int b1, .int (b2 + 1)])) b [.int b0, .int b1, .int (b2 + 1)] := SqA.l upd_same
      have m1 : 0 ≤ (b1 + 48271 * (b2 + 1)) * (39373 + (b2 + 1)) % 2147483647 := Int.emod_nonneg _ (by decide)
      have m2 : (b1 + 48271 * (b2 + 1)) * (39373 + (b2 + 1)) % 2147483647 < 2147483647 := Int.emod_lt_of_pos _ (by decide)
      refine ⟨_, rfl, b, _, 1, .int b1, rfl, rfl, hq2, rfl, _, rfl, b, _, 2, .int (b2 + 1), rfl, rfl, hq2, rfl, 48271, b2 + 1, rfl, rfl, .inl ⟨by decide, by decide⟩, b1, _, rfl, rfl, ?_⟩
      refine ⟨_, rfl, b, _, 2, .int (b2 + 1), rfl, rfl, hq2, rfl, 39373, b2 + 1, rfl, rfl, _, _, rfl, rfl, .inr ⟨by omega, by omega⟩, _, 2147483647, rfl, rfl, (show (0 : Int) < 2147483647 by decide), ?_⟩
      dsimp only
      generalize (b1 + 48271 * (b2 + 1)) * (39373 + (b2 + 1)) % 2147483647 = once at m1 m2
      have o1 : 0 ≤ once % 40009 := Int.emod_nonneg _ (by decide)
      have o2 : once % 40009 < 40009 := Int.emod_lt_of_pos _ (by decide)
      refine ⟨_, rfl, _, rfl, b, _, 2, .int (b2 + 1), rfl, rfl, hq2, rfl, once, b2 + 1, rfl, rfl, _, rfl, b, _, 1, .int b1, rfl, rfl, hq2, rfl, b1, 1000003, rfl, rfl, ⟨by decide, by decide⟩, _, _, rfl, rfl, ?_⟩
      refine ⟨_, rfl, once, 40009, rfl, rfl, (show (0 : Int) < 40009 by decide), _, 7, rfl, rfl, _, _, rfl, rfl, .inr ⟨by omega, by omega⟩, _, 2147483629, rfl, rfl, (show (0 : Int) < 2147483629 by decide), ?_⟩
      dsimp only
      have t1 : 0 ≤ (once + (b2 + 1) + b1 / 1000003) * (once % 40009 + 7) % 2147483629 := Int.emod_nonneg _ (by decide)
      have t2 : (once + (b2 + 1) + b1 / 1000003) * (once % 40009 + 7) % 2147483629 < 2147483629 := Int.emod_lt_of_pos _ (by decide)
      generalize (once + (b2 + 1) + b1 / 1000003) * (once % 40009 + 7) % 2147483629 = twice at t1 t2
      refine ⟨_, rfl, twice, 48271, rfl, rfl, .inl ⟨by omega, by omega⟩, _, rfl, _, once, rfl, rfl, _, 2147483587, rfl, rfl, (show (0 : Int) < 2147483587 by decide), _, 64, rfl, rfl, ⟨by decide, by decide⟩, _, rfl, _, span, rfl, rfl, s0, ?_⟩
      exact q _ _ (Int.emod_nonneg _ (by omega)) (Int.emod_lt_of_pos _ s0) ⟨b0, b1, b2 + 1, rfl, h0, h1, h1', by omega, by omega⟩
end
end Sh

namespace Sh
open PySem PySem.Spec PyProof.Rows L2
theorem SqA.at {K : PySem.W.Frag} {H : Hp} {b l : Addr} {o : HO} {xs : List V} (n : l ≠ b) (h : SqA K H l xs) : SqA K (upd H b o) l xs := by
  rcases h with ((h | ⟨z, h⟩) | h) | ((h | ⟨z, h⟩) | h)
  · exact .inl (.inl (.inl (by rw [upd_ne n]; exact h)))
  · exact .inl (.inl (.inr ⟨z, by rw [upd_ne n]; exact h⟩))
  · exact .inl (.inr h)
  · exact .inr (.inl (.inl (by rw [upd_ne n]; exact h)))
  · exact .inr (.inl (.inr ⟨z, by rw [upd_ne n]; exact h⟩))
  · exact .inr (.inr h)
theorem at_nat {xs : List V} {i : Int} {j : Nat} {v : V} (e : i = (j : Int)) (h : xs[j]? = some v) : atI xs i = some v := L2.at_of e h
theorem b01 (c : Bool) : (0 : Int) ≤ if c = true then 1 else 0 := by cases c <;> decide
theorem b01' (c : Bool) : (-(2 ^ 64) : Int) < (if c = true then 1 else 0) ∧ (if c = true then 1 else 0) < (2 ^ 64 : Int) := by cases c <;> decide
/-- a cell of the script: some int -/
def spCellAt (K : PySem.W.Frag) : Sp := fun vs H Q _ => ∃ (l : Addr) (ns : List Int) (j : Nat), vs = [.ref l, .int (j : Int)] ∧ SqL K H l (ns.map V.int) ∧ ∀ z : Int, Q (.int z) H
abbrev s__law_cell_at : Stmt := topS 9
theorem sc__law_cell_at : FnScope (["_law_script", "_law_k"] : List Str) (["_law_script", "_law_k"] : List Str) (defScope s__law_cell_at) := ⟨rfl, rfl, rfl, by decide +kernel, rfl, by decide +kernel, by decide +kernel⟩
theorem b__law_cell_at (kV doc pm : Value) (an : Option Addr) (cdv ct : Value) (us : List Value) (hl : us.length = (["_law_script", "_law_k"] : List Str).length) : bindArgs (PySem.W.fnOf "_law_cell_at" "_law_cell_at" (defArgs s__law_cell_at) (defBody s__law_cell_at) (defScope s__law_cell_at) .none kV doc pm an cdv ct) ⟨us, []⟩ = pure ((["_law_script", "_law_k"] : List Str).zip us) :=
  match us, hl with | [_, _], _ => rfl
def spBox (K : PySem.W.Frag) : Sp := fun vs H Q _ => ∃ (l : Addr) (ns : List Int) (j : Nat), vs = [.ref l, .int (j : Int)] ∧ j ≤ 100 ∧ SqL K H l (ns.map V.int) ∧ ∀ (p : Addr) (xs : List V), H p = none → BoxOk xs 549755813888 → Q (.ref p) (upd H p (.lst xs))
abbrev s__law_box : Stmt := topS 10
theorem sc__law_box : FnScope (["_law_script", "_law_k", "_law_core"] : List Str) (["_law_script", "_law_k"] : List Str) (defScope s__law_box) := ⟨rfl, rfl, rfl, by decide +kernel, rfl, by decide +kernel, by decide +kernel⟩
theorem b__law_box (kV doc pm : Value) (an : Option Addr) (cdv ct : Value) (us : List Value) (hl : us.length = (["_law_script", "_law_k"] : List Str).length) : bindArgs (PySem.W.fnOf "_law_box" "_law_box" (defArgs s__law_box) (defBody s__law_box) (defScope s__law_box) .none kV doc pm an cdv ct) ⟨us, []⟩ = pure ((["_law_script", "_law_k"] : List Str).zip us) :=
  match us, hl with | [_, _], _ => rfl
section
variable {P : Program} {w : World} {K : PySem.W.Frag} {mg : Str → Option Value} {base : Heap}
theorem ok_cell_at {k : Nat} (D : Df K mg "_law_cell_at" s__law_cell_at) (T : Bt mg) : Ok P w K mg base (k + 1) "_law_cell_at" s__law_cell_at ["_law_script", "_law_k"] (spCellAt K) := by
  refine D.ok sc__law_cell_at b__law_cell_at (fun vs H Q E h => ?_) (fun f cdv A outer s H vs Q E hr h => ?_)
  · obtain ⟨l, ns, j, rfl, _⟩ := h
    rfl
  · obtain ⟨l, ns, j, rfl, hs, q⟩ := h
    refine ⟨_, (pss_cons (ps_if (pt_cmpR op_lt (pv 1) (pe_callB call_len_seq (by rfl) T.len_ PySem.boot_len (pa_cons (pv 0) pa_nil)) (nomark _))
        (pss_one (ps_ret (pe_ix ix_lt (pv 0) (pv 1) (fun _ _ => rfl))))
        pss_nil)
      (pss_one (ps_ret pe_int))), ?_⟩
    refine ⟨_, rfl, _, rfl, l, _, rfl, .inl hs, _, _, rfl, rfl, _, rfl, ite2 (fun c => ?_) (fun c => ?_)⟩
    · have c0 : (j : Int) < ((ns.map V.int).length : Int) := of_decide_eq_true c
      rw [List.length_map] at c0
      have c1 : j < ns.length := by omega
      refine ⟨_, rfl, _, rfl, l, _, _, .int ns[j], rfl, rfl, .inl hs, at_nat rfl (by simp [c1]), q _⟩
    · exact q 0
theorem ok_box {k : Nat} (D : Df K mg "_law_box" s__law_box) (T : Bt mg) (O__law_cell_at : Ok P w K mg base k "_law_cell_at" s__law_cell_at ["_law_script", "_law_k"] (spCellAt K)) : Ok P w K mg base (k + 1) "_law_box" s__law_box ["_law_script", "_law_k"] (spBox K) := by
  refine D.ok sc__law_box b__law_box (fun vs H Q E h => ?_) (fun f cdv A outer s H vs Q E hr h => ?_)
  · obtain ⟨l, ns, j, rfl, _⟩ := h
    rfl
  · obtain ⟨l, ns, j, rfl, hj, hs, q⟩ := h
    refine ⟨_, (pss_cons (ps_set (i := 2) sc__law_box.nd rfl (.inl rfl) (pe_fn O__law_cell_at (hr.mono (by omega)) (pa_cons (pv 0) (pa_cons (pv 1) pa_nil))))
      (pss_one (ps_ret (pe_lst (pa_cons (pe_op op_mul (pe_callB call_abs (by rfl) T.abs_ (by decide +kernel) (pa_cons (pv 2) pa_nil)) (pe_callTy call_int1 (by rfl) T.int_ (by decide +kernel) (pa_cons (pe_cmpR op_ge (pe_callB call_abs (by rfl) T.abs_ (by decide +kernel) (pa_cons (pv 2) pa_nil)) (pe_op (op_powC 1000000000000000000) pe_int pe_int) (nomark _)) pa_nil))) (pa_cons (pe_op op_add (pe_op op_add (pe_op op_mod (pv 2) pe_int) (pe_op op_mul pe_int (pv 1))) pe_int) (pa_cons pe_int pa_nil))))))), ?_⟩
    refine ⟨_, rfl, _, rfl, l, ns, j, rfl, hs, fun z => ?_⟩
    have z1 : 0 ≤ z % 2305843009213693951 := Int.emod_nonneg _ (by decide)
    have z2 : z % 2305843009213693951 < 2305843009213693951 := Int.emod_lt_of_pos _ (by decide)
    have za : 0 ≤ (if z < 0 then -z else z) := by split <;> omega
    refine ⟨_, rfl, z, rfl, _, rfl, z, rfl, 10, 18, rfl, rfl, ⟨⟨by decide, by decide, by decide⟩, by decide⟩, _, _, rfl, rfl, .inr ⟨_, rfl, ?_⟩⟩
    refine ⟨_, _, rfl, rfl, .inr (b01' _), ?_⟩
    refine ⟨_, rfl, z, _, rfl, rfl, (show (0 : Int) < 2305843009213693951 by decide), _, rfl, 39373, (j : Int), rfl, rfl, .inl ⟨by decide, by decide⟩, _, _, rfl, rfl, _, 17, rfl, rfl, ?_⟩
    refine ⟨(by show 3 ≤ sizeLine; decide), fun p np => ?_⟩
    refine q p _ np ⟨_, _, 0, rfl, ?_, by omega, by omega, by omega, by omega⟩
    exact Int.mul_nonneg za (b01 _)
end
/-! ### one of some -/
def spOf (K : PySem.W.Frag) : Sp := fun vs H Q _ => ∃ (b l : Addr) (n : Nat) (xs : List V), vs = [.ref b, .ref l] ∧ SqA K H l xs ∧ l ≠ b ∧ 0 < xs.length ∧ xs.length < 1000000 ∧ BoxAt H b (n + 1) ∧ ∀ (v : V) (ys : List V), v ∈ xs → BoxOk ys n → Q v (upd H b (.lst ys))
abbrev s__law_of : Stmt := topS 12
theorem sc__law_of : FnScope (["_law_box_here", "_law_some"] : List Str) (["_law_box_here", "_law_some"] : List Str) (defScope s__law_of) := ⟨rfl, rfl, rfl, by decide +kernel, rfl, by decide +kernel, by decide +kernel⟩
theorem b__law_of (kV doc pm : Value) (an : Option Addr) (cdv ct : Value) (us : List Value) (hl : us.length = (["_law_box_here", "_law_some"] : List Str).length) : bindArgs (PySem.W.fnOf "_law_of" "_law_of" (defArgs s__law_of) (defBody s__law_of) (defScope s__law_of) .none kV doc pm an cdv ct) ⟨us, []⟩ = pure ((["_law_box_here", "_law_some"] : List Str).zip us) :=
  match us, hl with | [_, _], _ => rfl
section
variable {P : Program} {w : World} {K : PySem.W.Frag} {mg : Str → Option Value} {base : Heap}
theorem ok_of {k : Nat} (D : Df K mg "_law_of" s__law_of) (T : Bt mg) (O__law_take : Ok P w K mg base k "_law_take" s__law_take ["_law_box_here", "_law_span"] spTake) : Ok P w K mg base (k + 1) "_law_of" s__law_of ["_law_box_here", "_law_some"] (spOf K) := by
  refine D.ok sc__law_of b__law_of (fun vs H Q E h => ?_) (fun f cdv A outer s H vs Q E hr h => ?_)
  · obtain ⟨b, l, n, xs, rfl, _⟩ := h
    rfl
  · obtain ⟨b, l, n, xs, rfl, hl, hne, l0, l1, hb, q⟩ := h
    refine ⟨_, (pss_one (ps_ret (pe_ix ix_lt (pv 1) (pe_fn O__law_take (hr.mono (by omega)) (pa_cons (pv 0) (pa_cons (pe_callB call_len_seq (by rfl) T.len_ PySem.boot_len (pa_cons (pv 1) pa_nil)) pa_nil))) (fun _ _ => rfl)))), ?_⟩
    refine ⟨_, rfl, _, rfl, _, rfl, l, xs, rfl, hl, b, n, _, rfl, by omega, by omega, hb, fun v ys v0 v1 hy => ?_⟩
    have hi : v.toNat < xs.length := by omega
    refine ⟨l, xs, v, xs[v.toNat], rfl, rfl, SqA.at hne hl, at_nat (j := v.toNat) (by omega) (by simp [hi]), ?_⟩
    exact q _ _ (List.getElem_mem hi) hy
end
end Sh

namespace Sh
open PySem PySem.Spec PyProof.Rows L2
/-! ### what is told is what is due -/
def tyS : PyData → String
  | .none => "NoneType" | .bool _ => "bool" | .int _ => "int" | .str _ => "str" | .list _ => "list" | .tuple _ => "tuple" | .dict _ => "dict"
/-- at most so deep, no longer than a hundred thousand -/
def Lv : Nat → PyData → Prop
  | 0, _ => False
  | _ + 1, .none => True
  | _ + 1, .bool _ => True
  | _ + 1, .int _ => True
  | _ + 1, .str _ => True
  | n + 1, .list ds => ds.length ≤ 100000 ∧ ∀ e ∈ ds, Lv n e
  | n + 1, .tuple ds => ds.length ≤ 100000 ∧ ∀ e ∈ ds, Lv n e
  | _ + 1, .dict _ => False
theorem lv_ints {n : Nat} (ns : List Int) (h : ns.length ≤ 100000) : Lv (n + 2) (.list (ns.map .int)) := ⟨by rw [List.length_map]; exact h, fun e he => by
  obtain ⟨i, _, rfl⟩ := List.mem_map.mp he
  exact trivial⟩
theorem lv_intsT {n : Nat} (ns : List Int) (h : ns.length ≤ 100000) : Lv (n + 2) (.tuple (ns.map .int)) := ⟨by rw [List.length_map]; exact h, fun e he => by
  obtain ⟨i, _, rfl⟩ := List.mem_map.mp he
  exact trivial⟩
section
variable {K : PySem.W.Frag} {H : Hp}
theorem ty_list {a : Addr} {xs : List V} (h : SqL K H a xs) : TyX K H (.ref a) (.type "list") := by
  rcases h with (h | ⟨o, h⟩) | ⟨o, its, n, h, c, _⟩
  · exact .base (.lst h)
  · exact .base (.frz h)
  · exact .kList h c
theorem ty_tup {a : Addr} {xs : List V} (h : SqT K H a xs) : TyX K H (.ref a) (.type "tuple") := by
  rcases h with (h | ⟨o, h⟩) | ⟨o, its, n, h, c, _⟩
  · exact .base (.tup h)
  · exact .fTuple h
  · exact .kTuple h c
theorem ty_of {v : V} {d : PyData} (h : Dp K H v d) : TyX K H v (.type (tyS d)) := by
  cases h with
  | non => exact .base .non
  | bl b => exact .base (.bl b)
  | int i => exact .base (.int i)
  | str x => exact .base (.str x)
  | lst h _ => exact ty_list h
  | tup h _ => exact ty_tup h
theorem kit2 {t a b : String} {r1 r2 r : Bool} (h1 : kitB t a = some r1) (h2 : kitB t b = some r2) (hr : (r1 || r2) = r) : PySem.W.kitAny K (.type t) [.type a, .type b] = some r := by
  refine kitAny_cons (b := r1) (kit_ty h1) (fun e => ?_) (fun e => ?_)
  · refine kitAny_cons (b := r2) (kit_ty h2) (fun e2 => ?_) (fun e2 => ?_)
    · rw [← hr, e, e2]
      exact kitAny_nil
    · rw [← hr, e, e2]
      all_goals rfl
  · rw [← hr, e]
    all_goals rfl
end
def spSame (K : PySem.W.Frag) (n : Nat) : Sp := fun vs H Q _ => ∃ (x y : V) (d : PyData), vs = [x, y] ∧ Dp K H x d ∧ Dp K H y d ∧ Lv n d ∧ ∀ H', Same H H' → Q (.bl true) H'
abbrev s__law_same : Stmt := topS 13
theorem sc__law_same : FnScope (["_law_found", "_law_due", "_law_a", "_law_b"] : List Str) (["_law_found", "_law_due"] : List Str) (defScope s__law_same) := ⟨rfl, rfl, rfl, by decide +kernel, rfl, by decide +kernel, by decide +kernel⟩
theorem b__law_same (kV doc pm : Value) (an : Option Addr) (cdv ct : Value) (us : List Value) (hl : us.length = (["_law_found", "_law_due"] : List Str).length) : bindArgs (PySem.W.fnOf "_law_same" "_law_same" (defArgs s__law_same) (defBody s__law_same) (defScope s__law_same) .none kV doc pm an cdv ct) ⟨us, []⟩ = pure ((["_law_found", "_law_due"] : List Str).zip us) :=
  match us, hl with | [_, _], _ => rfl
section
variable {P : Program} {w : World} {K : PySem.W.Frag} {mg : Str → Option Value} {base : Heap}
theorem same0 (D : Df K mg "_law_same" s__law_same) : Ok P w K mg base 0 "_law_same" s__law_same ["_law_found", "_law_due"] (spSame K 0) := by
  obtain ⟨f, fd, F, g⟩ := D.ex
  refine ⟨f, fd, F, g, F.binds b__law_same, ⟨fun vs H Q E h => ?_, fun A outer s H args us vs Q E hr he hb hv h => ?_⟩⟩
  · obtain ⟨x, y, d, _, _, _, lv, _⟩ := h
    cases d <;> exact lv.elim
  · obtain ⟨x, y, d, _, _, _, lv, _⟩ := h
    cases d <;> exact lv.elim
set_option maxHeartbeats 4000000 in
theorem same1 {m : Nat} (D : Df K mg "_law_same" s__law_same) (T : Bt mg) (O__law_same : Ok P w K mg base m "_law_same" s__law_same ["_law_found", "_law_due"] (spSame K m)) : Ok P w K mg base (m + 1) "_law_same" s__law_same ["_law_found", "_law_due"] (spSame K (m + 1)) := by
  refine D.ok sc__law_same b__law_same (fun vs H Q E h => ?_) (fun f cdv A outer s H vs Q E hr h => ?_)
  · obtain ⟨x, y, d, rfl, _⟩ := h
    rfl
  · obtain ⟨x, y, d, rfl, hx, hy, lv, q⟩ := h
    refine ⟨_, (pss_cons (ps_if (pt_val (pe_callB call_isiT (by rfl) T.isinstance_ (by decide +kernel) (pa_cons (pv 1) (pa_cons (pe_tup (pa_cons (pe_bltn (v := .ty "list") (by rfl) T.list_ (by decide +kernel) rfl) (pa_cons (pe_bltn (v := .ty "tuple") (by rfl) T.tuple_ (by decide +kernel) rfl) pa_nil))) pa_nil))))
        (pss_cons (ps_if (PW.pt (pw_or (pt_cmpR op_ne (pe_callB call_isi (by rfl) T.isinstance_ (by decide +kernel) (pa_cons (pv 0) (pa_cons (pe_bltn (v := .ty "list") (by rfl) T.list_ (by decide +kernel) rfl) pa_nil))) (pe_callB call_isi (by rfl) T.isinstance_ (by decide +kernel) (pa_cons (pv 1) (pa_cons (pe_bltn (v := .ty "list") (by rfl) T.list_ (by decide +kernel) rfl) pa_nil))) (nomark _)) (pw_or1 (pt_cmpR op_ne (pe_callB call_isi (by rfl) T.isinstance_ (by decide +kernel) (pa_cons (pv 0) (pa_cons (pe_bltn (v := .ty "tuple") (by rfl) T.tuple_ (by decide +kernel) rfl) pa_nil))) (pe_callB call_isi (by rfl) T.isinstance_ (by decide +kernel) (pa_cons (pv 1) (pa_cons (pe_bltn (v := .ty "tuple") (by rfl) T.tuple_ (by decide +kernel) rfl) pa_nil))) (nomark _)))))
            (pss_one (ps_ret pe_bl))
            pss_nil)
          (pss_one (ps_ret (pe_and (pe_cmpR op_eq (pe_callB call_len_seq (by rfl) T.len_ PySem.boot_len (pa_cons (pv 0) pa_nil)) (pe_callB call_len_seq (by rfl) T.len_ PySem.boot_len (pa_cons (pv 1) pa_nil)) (nomark _)) (pe_one (pe_callB (cr_all rfl) (by rfl) T.all_ (by decide +kernel) (pa_cons (pe_lc (own := [("_law_a", 2), ("_law_b", 3)]) (g := (gSeq K 2 (gCons (gName 2) (gCons (gName 3) gNil)))) (tt := tYes) (by rfl) sc__law_same.nd (RZ.pi_zipA (by rfl) T.zip_ (pa_cons (pv 0) (pa_cons (pv 1) pa_nil))) (blkOk_by (own := [("_law_a", 2), ("_law_b", 3)]) (N := (["_law_found", "_law_due", "_law_a", "_law_b"] : List Str)) (sc := defScope s__law_same) (by decide +kernel)) (fun _ _ _ _ _ => (pg_seq rfl (pgs_cons (pg_name (i := 2) sc__law_same.nd rfl (.inl rfl)) (pgs_cons (pg_name (i := 3) sc__law_same.nd rfl (.inl rfl)) pgs_nil)))) (fun _ _ _ _ _ => pts_nil) (fun _ _ _ _ _ => (pe_fn O__law_same (hr.mono (by omega)) (pa_cons (pv 2) (pa_cons (pv 3) pa_nil))))) pa_nil)))))))
        pss_nil)
      (pss_cons (ps_if (PW.pt (pw_or (pt_cmpR op_isN (pv 1) pe_non (nomark _)) (pw_or1 (pt_val (pe_callB call_isiT (by rfl) T.isinstance_ (by decide +kernel) (pa_cons (pv 1) (pa_cons (pe_tup (pa_cons (pe_bltn (v := .ty "bool") (by rfl) T.bool_ (by decide +kernel) rfl) (pa_cons (pe_bltn (v := .ty "str") (by rfl) T.str_ (by decide +kernel) rfl) pa_nil))) pa_nil)))))))
        (pss_one (ps_ret (pe_and (pe_cmpR op_eq (pv 0) (pv 1) (nomark _)) (pe_and (pe_cmpR op_eq (pe_callB call_isi (by rfl) T.isinstance_ (by decide +kernel) (pa_cons (pv 0) (pa_cons (pe_bltn (v := .ty "bool") (by rfl) T.bool_ (by decide +kernel) rfl) pa_nil))) (pe_callB call_isi (by rfl) T.isinstance_ (by decide +kernel) (pa_cons (pv 1) (pa_cons (pe_bltn (v := .ty "bool") (by rfl) T.bool_ (by decide +kernel) rfl) pa_nil))) (nomark _)) (pe_one (pe_cmpR op_eq (pe_cmpR op_isN (pv 0) pe_non (nomark _)) (pe_cmpR op_isN (pv 1) pe_non (nomark _)) (nomark _)))))))
        pss_nil)
      (pss_one (ps_ret (pe_and (pe_callB call_isi (by rfl) T.isinstance_ (by decide +kernel) (pa_cons (pv 0) (pa_cons (pe_bltn (v := .ty "int") (by rfl) T.int_ (by decide +kernel) rfl) pa_nil))) (pe_and (pe_not (pe_callB call_isi (by rfl) T.isinstance_ (by decide +kernel) (pa_cons (pv 0) (pa_cons (pe_bltn (v := .ty "bool") (by rfl) T.bool_ (by decide +kernel) rfl) pa_nil)))) (pe_one (pe_cmpR op_eq (pv 0) (pv 1) (nomark _))))))))), ?_⟩
    refine ⟨_, rfl, (by show 2 ≤ sizeLine; decide), fun tp ntp => ?_⟩
    have s1 : Same H (upd H tp (.tup [.ty "list", .ty "tuple"])) := same_new ntp
    generalize eH1 : upd H tp (.tup [.ty "list", .ty "tuple"]) = H1 at s1
    have htp : H1 tp = some (.tup [.ty "list", .ty "tuple"]) := by rw [← eH1, upd_same]
    clear eH1 ntp
    cases d with
    | dict kvs => exact lv.elim
    | list ds =>
      obtain ⟨a, xs, hsx, hax⟩ : ∃ a xs, SqL K H1 a xs ∧ DpAll K H1 xs ds ∧ x = .ref a := by cases hx with | lst h a => exact ⟨_, _, s1.seq h, DpAll.same s1 a, rfl⟩
      obtain ⟨b, ys, hsy, hay⟩ : ∃ a xs, SqL K H1 a xs ∧ DpAll K H1 xs ds ∧ y = .ref a := by cases hy with | lst h a => exact ⟨_, _, s1.seq h, DpAll.same s1 a, rfl⟩
      obtain ⟨hax, rfl⟩ := hax
      obtain ⟨hay, rfl⟩ := hay
      have lx : xs.length = ds.length := DpAll.len hax
      have ly : ys.length = ds.length := DpAll.len hay
      refine ⟨.ref b, tp, [.ty "list", .ty "tuple"], .type "list", [.type "list", .type "tuple"], true, rfl, htp, .cons (.ty _) (.cons (.ty _) .nil), ty_list hsy, kit2 (r1 := true) (r2 := false) (by decide +kernel) (by decide +kernel) rfl, _, rfl, iteT ?_⟩
      refine ⟨_, rfl, .ref a, .ty "list", .type "list", .type "list", true, rfl, .ty _, ty_list hsx, kit_ty (by decide +kernel), _, rfl, .ref b, .ty "list", .type "list", .type "list", true, rfl, .ty _, ty_list hsy, kit_ty (by decide +kernel), rfl, _, rfl, iteNS rfl ?_⟩
      refine ⟨_, rfl, .ref a, .ty "tuple", .type "list", .type "tuple", false, rfl, .ty _, ty_list hsx, kit_ty (by decide +kernel), _, rfl, .ref b, .ty "tuple", .type "list", .type "tuple", false, rfl, .ty _, ty_list hsy, kit_ty (by decide +kernel), rfl, _, rfl, iteNS rfl ?_⟩
      refine ⟨_, rfl, a, xs, rfl, .inl hsx, _, rfl, b, ys, rfl, .inl hsy, rfl, _, rfl, ?_⟩
      rw [if_pos (decide_eq_true (by rw [lx, ly]))]
      refine ⟨_, rfl, _, rfl, a, b, xs, ys, rfl, .inl ⟨hsx, hsy, fun C nC => ?_⟩⟩
      refine lc_it (walk_zip (n := ds.length) (by rw [lx, ly]; exact (Nat.min_self _).symm)) (fun i H' => Same H1 H' ∧ H' C = some (.lst ((List.replicate i true).map V.bl))) ⟨same_new nC, upd_same⟩ (fun i H' _ p => ⟨p.1.seq hsx, p.1.seq hsy⟩) ?_ ?_
      · rintro i z H2 H3 hi ⟨sm, hC⟩ ⟨t, u, v, rfl, nt, rfl, gu, gv⟩
        have sm2 : Same H1 (upd H2 t (.tup [u, v])) := sm.trans (same_new nt)
        obtain ⟨e, ge, he⟩ := DpAll.get (DpAll.same sm2 hax) gu
        obtain ⟨e', ge', he'⟩ := DpAll.get (DpAll.same sm2 hay) gv
        obtain rfl : e = e' := Option.some.inj (ge.symm.trans ge')
        refine ⟨t, [u, v], rfl, SqA.t upd_same, rfl, u, [v], rfl, v, [], rfl, rfl, rfl, tyes (iteT ?_)⟩
        refine ⟨_, rfl, _, rfl, u, v, e, rfl, he, he', lv.2 e (List.mem_of_getElem? ge), fun H4 s4 => ?_⟩
        refine ⟨_, s4 _ _ (by rw [upd_ne (ne_of_none hC nt)]; exact hC), ?_, fun p o ho => ?_, ?_⟩
        · have h1 := lv.1
          rw [List.length_map, List.length_replicate]
          exact Nat.lt_of_lt_of_le hi (Nat.le_trans h1 (by decide))
        · have np : p ≠ C := ne_of_none ho nC
          rw [upd_ne np]
          exact s4 _ _ (sm2 _ _ ho)
        · rw [upd_same, List.replicate_succ', List.map_append]
          rfl
      · rintro H2 ⟨sm, hC⟩
        refine ⟨C, _, rfl, SqL.of hC, ?_⟩
        have e : (List.replicate ds.length true).all id = true := by simp
        rw [e]
        exact q _ (s1.trans sm)
    | tuple ds =>
      obtain ⟨a, xs, hsx, hax⟩ : ∃ a xs, SqT K H1 a xs ∧ DpAll K H1 xs ds ∧ x = .ref a := by cases hx with | tup h a => exact ⟨_, _, Same.tup s1 h, DpAll.same s1 a, rfl⟩
      obtain ⟨b, ys, hsy, hay⟩ : ∃ a xs, SqT K H1 a xs ∧ DpAll K H1 xs ds ∧ y = .ref a := by cases hy with | tup h a => exact ⟨_, _, Same.tup s1 h, DpAll.same s1 a, rfl⟩
      obtain ⟨hax, rfl⟩ := hax
      obtain ⟨hay, rfl⟩ := hay
      have lx : xs.length = ds.length := DpAll.len hax
      have ly : ys.length = ds.length := DpAll.len hay
      refine ⟨.ref b, tp, [.ty "list", .ty "tuple"], .type "tuple", [.type "list", .type "tuple"], true, rfl, htp, .cons (.ty _) (.cons (.ty _) .nil), ty_tup hsy, kit2 (r1 := false) (r2 := true) (by decide +kernel) (by decide +kernel) rfl, _, rfl, iteT ?_⟩
      refine ⟨_, rfl, .ref a, .ty "list", .type "tuple", .type "list", false, rfl, .ty _, ty_tup hsx, kit_ty (by decide +kernel), _, rfl, .ref b, .ty "list", .type "tuple", .type "list", false, rfl, .ty _, ty_tup hsy, kit_ty (by decide +kernel), rfl, _, rfl, iteNS rfl ?_⟩
      refine ⟨_, rfl, .ref a, .ty "tuple", .type "tuple", .type "tuple", true, rfl, .ty _, ty_tup hsx, kit_ty (by decide +kernel), _, rfl, .ref b, .ty "tuple", .type "tuple", .type "tuple", true, rfl, .ty _, ty_tup hsy, kit_ty (by decide +kernel), rfl, _, rfl, iteNS rfl ?_⟩
      refine ⟨_, rfl, a, xs, rfl, .inr hsx, _, rfl, b, ys, rfl, .inr hsy, rfl, _, rfl, ?_⟩
      rw [if_pos (decide_eq_true (by rw [lx, ly]))]
      refine ⟨_, rfl, _, rfl, a, b, xs, ys, rfl, .inr ⟨hsx, hsy, fun C nC => ?_⟩⟩
      refine lc_it (walk_zipT (n := ds.length) (by rw [lx, ly]; exact (Nat.min_self _).symm)) (fun i H' => Same H1 H' ∧ H' C = some (.lst ((List.replicate i true).map V.bl))) ⟨same_new nC, upd_same⟩ (fun i H' _ p => ⟨Same.tup p.1 hsx, Same.tup p.1 hsy⟩) ?_ ?_
      · rintro i z H2 H3 hi ⟨sm, hC⟩ ⟨t, u, v, rfl, nt, rfl, gu, gv⟩
        have sm2 : Same H1 (upd H2 t (.tup [u, v])) := sm.trans (same_new nt)
        obtain ⟨e, ge, he⟩ := DpAll.get (DpAll.same sm2 hax) gu
        obtain ⟨e', ge', he'⟩ := DpAll.get (DpAll.same sm2 hay) gv
        obtain rfl : e = e' := Option.some.inj (ge.symm.trans ge')
        refine ⟨t, [u, v], rfl, SqA.t upd_same, rfl, u, [v], rfl, v, [], rfl, rfl, rfl, tyes (iteT ?_)⟩
        refine ⟨_, rfl, _, rfl, u, v, e, rfl, he, he', lv.2 e (List.mem_of_getElem? ge), fun H4 s4 => ?_⟩
        refine ⟨_, s4 _ _ (by rw [upd_ne (ne_of_none hC nt)]; exact hC), ?_, fun p o ho => ?_, ?_⟩
        · have h1 := lv.1
          rw [List.length_map, List.length_replicate]
          exact Nat.lt_of_lt_of_le hi (Nat.le_trans h1 (by decide))
        · have np : p ≠ C := ne_of_none ho nC
          rw [upd_ne np]
          exact s4 _ _ (sm2 _ _ ho)
        · rw [upd_same, List.replicate_succ', List.map_append]
          rfl
      · rintro H2 ⟨sm, hC⟩
        refine ⟨C, _, rfl, SqL.of hC, ?_⟩
        have e : (List.replicate ds.length true).all id = true := by simp
        rw [e]
        exact q _ (s1.trans sm)
    | int i =>
      cases hx; cases hy
      refine ⟨.int i, tp, [.ty "list", .ty "tuple"], .type "int", [.type "list", .type "tuple"], false, rfl, htp, .cons (.ty _) (.cons (.ty _) .nil), .base (.int i), kit2 (r1 := false) (r2 := false) (by decide +kernel) (by decide +kernel) rfl, _, rfl, iteF ?_⟩
      refine ⟨_, rfl, rfl, _, rfl, iteF ?_⟩
      refine ⟨_, rfl, (by show 2 ≤ sizeLine; decide), fun tq ntq => ?_⟩
      refine ⟨.int i, tq, [.ty "bool", .ty "str"], .type "int", [.type "bool", .type "str"], false, rfl, upd_same, .cons (.ty _) (.cons (.ty _) .nil), .base (.int i), kit2 (r1 := false) (r2 := false) (by decide +kernel) (by decide +kernel) rfl, _, rfl, iteF ?_⟩
      refine ⟨_, rfl, .int i, .ty "int", .type "int", .type "int", true, rfl, .ty _, .base (.int i), kit_ty (by decide +kernel), _, rfl, iteT ?_⟩
      refine ⟨_, rfl, .int i, .ty "bool", .type "int", .type "bool", false, rfl, .ty _, .base (.int i), kit_ty (by decide +kernel), _, rfl, _, rfl, iteT ?_⟩
      refine ⟨_, rfl, _, rfl, rfl, ?_⟩
      rw [decide_eq_true rfl]
      exact q _ (s1.trans (same_new ntq))
    | none =>
      cases hx; cases hy
      refine ⟨.non, tp, [.ty "list", .ty "tuple"], .type "NoneType", [.type "list", .type "tuple"], false, rfl, htp, .cons (.ty _) (.cons (.ty _) .nil), .base .non, kit2 (r1 := false) (r2 := false) (by decide +kernel) (by decide +kernel) rfl, _, rfl, iteF ?_⟩
      refine ⟨_, rfl, rfl, _, rfl, iteT (iteT ?_)⟩
      refine ⟨_, rfl, _, rfl, rfl, _, rfl, iteT ?_⟩
      refine ⟨_, rfl, .non, .ty "bool", .type "NoneType", .type "bool", false, rfl, .ty _, .base .non, kit_ty (by decide +kernel), _, rfl, .non, .ty "bool", .type "NoneType", .type "bool", false, rfl, .ty _, .base .non, kit_ty (by decide +kernel), rfl, _, rfl, iteT ?_⟩
      refine ⟨_, rfl, rfl, _, rfl, rfl, rfl, ?_⟩
      exact q _ s1
    | bool c =>
      cases hx; cases hy
      refine ⟨.bl c, tp, [.ty "list", .ty "tuple"], .type "bool", [.type "list", .type "tuple"], false, rfl, htp, .cons (.ty _) (.cons (.ty _) .nil), .base (.bl c), kit2 (r1 := false) (r2 := false) (by decide +kernel) (by decide +kernel) rfl, _, rfl, iteF ?_⟩
      refine ⟨_, rfl, rfl, _, rfl, iteF ?_⟩
      refine ⟨_, rfl, (by show 2 ≤ sizeLine; decide), fun tq ntq => ?_⟩
      refine ⟨.bl c, tq, [.ty "bool", .ty "str"], .type "bool", [.type "bool", .type "str"], true, rfl, upd_same, .cons (.ty _) (.cons (.ty _) .nil), .base (.bl c), kit2 (r1 := true) (r2 := false) (by decide +kernel) (by decide +kernel) rfl, _, rfl, iteT ?_⟩
      refine ⟨_, rfl, _, rfl, rfl, _, rfl, ?_⟩
      rw [if_pos (decide_eq_true rfl)]
      refine ⟨_, rfl, .bl c, .ty "bool", .type "bool", .type "bool", true, rfl, .ty _, .base (.bl c), kit_ty (by decide +kernel), _, rfl, .bl c, .ty "bool", .type "bool", .type "bool", true, rfl, .ty _, .base (.bl c), kit_ty (by decide +kernel), rfl, _, rfl, iteT ?_⟩
      refine ⟨_, rfl, rfl, _, rfl, rfl, rfl, ?_⟩
      exact q _ (s1.trans (same_new ntq))
    | str c =>
      cases hx; cases hy
      refine ⟨.str c, tp, [.ty "list", .ty "tuple"], .type "str", [.type "list", .type "tuple"], false, rfl, htp, .cons (.ty _) (.cons (.ty _) .nil), .base (.str c), kit2 (r1 := false) (r2 := false) (by decide +kernel) (by decide +kernel) rfl, _, rfl, iteF ?_⟩
      refine ⟨_, rfl, rfl, _, rfl, iteF ?_⟩
      refine ⟨_, rfl, (by show 2 ≤ sizeLine; decide), fun tq ntq => ?_⟩
      refine ⟨.str c, tq, [.ty "bool", .ty "str"], .type "str", [.type "bool", .type "str"], true, rfl, upd_same, .cons (.ty _) (.cons (.ty _) .nil), .base (.str c), kit2 (r1 := false) (r2 := true) (by decide +kernel) (by decide +kernel) rfl, _, rfl, iteT ?_⟩
      refine ⟨_, rfl, _, rfl, rfl, _, rfl, ?_⟩
      rw [if_pos (decide_eq_true rfl)]
      refine ⟨_, rfl, .str c, .ty "bool", .type "str", .type "bool", false, rfl, .ty _, .base (.str c), kit_ty (by decide +kernel), _, rfl, .str c, .ty "bool", .type "str", .type "bool", false, rfl, .ty _, .base (.str c), kit_ty (by decide +kernel), rfl, _, rfl, iteT ?_⟩
      refine ⟨_, rfl, rfl, _, rfl, rfl, rfl, ?_⟩
      exact q _ (s1.trans (same_new ntq))
theorem ok_same (D : Df K mg "_law_same" s__law_same) (T : Bt mg) : ∀ m : Nat, Ok P w K mg base m "_law_same" s__law_same ["_law_found", "_law_due"] (spSame K m)
  | 0 => same0 D
  | m + 1 => same1 D T (ok_same D T m)
end
end Sh

namespace Sh
open PySem PySem.Spec PyProof.Rows L2
/-! ### a drawn sea -/
theorem But.put {b p : Addr} {H H' : Hp} {o : HO} (h : But b H H') (n : H p = none) : But b H (upd H' p o) := fun a x na e => by
  rw [upd_ne (ne_of_none e n)]
  exact h a x na e
theorem But.box {b : Addr} {H H' : Hp} {o : HO} (h : But b H H') : But b H (upd H' b o) := fun a x na e => by
  rw [upd_ne na]
  exact h a x na e
theorem BoxAt.put {H : Hp} {b : Addr} {n : Nat} {xs : List V} (h : BoxOk xs n) : BoxAt (upd H b (.lst xs)) b n := ⟨xs, upd_same, h⟩
theorem BoxAt.at {H : Hp} {b p : Addr} {n : Nat} {o : HO} (h : BoxAt H b n) (ne : b ≠ p) : BoxAt (upd H p o) b n := let ⟨xs, e, k⟩ := h; ⟨xs, by rw [upd_ne ne]; exact e, k⟩
structure SeaOk (most : Nat) (h t : Int) (ds : List Int) : Prop where
  h0 : 0 ≤ h
  h1 : h ≤ 1000000000000
  t0 : 0 ≤ t
  t1 : t ≤ 1000000000000
  l0 : 0 < ds.length
  l1 : ds.length ≤ most
  d0 : ∀ d ∈ ds, 0 ≤ d ∧ d ≤ 1000000000000
def spSea : Sp := fun vs H Q _ => ∃ (b : Addr) (n most : Nat), vs = [.ref b, .int (most : Int)] ∧ 0 < most ∧ most ≤ 60 ∧ BoxAt H b (n + 200) ∧
  ∀ (H' : Hp) (p q : Addr) (h t : Int) (ds : List Int), But b H H' → BoxAt H' b n → H p = none → H q = none → H' p = some (.tup [.int h, .int t, .ref q]) → H' q = some (.tup (ds.map V.int)) → SeaOk most h t ds → Q (.ref p) H'
abbrev s__law_sea : Stmt := topS 14
theorem sc__law_sea : FnScope (["_law_box_here", "_law_most", "_law_count", "_law_far", "_law_wide", "_law_depths", "_law_draughts", "_law_side", "_law_whom"] : List Str) (["_law_box_here", "_law_most"] : List Str) (defScope s__law_sea) := ⟨rfl, rfl, rfl, by decide +kernel, rfl, by decide +kernel, by decide +kernel⟩
theorem b__law_sea (kV doc pm : Value) (an : Option Addr) (cdv ct : Value) (us : List Value) (hl : us.length = (["_law_box_here", "_law_most"] : List Str).length) : bindArgs (PySem.W.fnOf "_law_sea" "_law_sea" (defArgs s__law_sea) (defBody s__law_sea) (defScope s__law_sea) .none kV doc pm an cdv ct) ⟨us, []⟩ = pure ((["_law_box_here", "_law_most"] : List Str).zip us) :=
  match us, hl with | [_, _], _ => rfl
section
variable {P : Program} {w : World} {K : PySem.W.Frag} {mg : Str → Option Value} {base : Heap}
/-- a new object, a draw: what stands, stands -/
theorem al {b p : Addr} {H Hc : Hp} {n : Nat} {o : HO} (u : But b H Hc) (x : BoxAt Hc b n) (np : Hc p = none) : But b H (upd Hc p o) ∧ BoxAt (upd Hc p o) b n ∧ upd Hc p o p = some o ∧ p ≠ b :=
  ⟨fun a z na e => by rw [upd_ne (ne_of_none (u a z na e) np)]; exact u a z na e, x.at (x.ne np), upd_same, (x.ne np).symm⟩
theorem tk {b : Addr} {H Hc : Hp} {n : Nat} {ys : List V} (u : But b H Hc) (y : BoxOk ys n) : But b H (upd Hc b (.lst ys)) ∧ BoxAt (upd Hc b (.lst ys)) b n := ⟨u.box, .put y⟩
theorem But.free {b p : Addr} {H H' : Hp} (u : But b H H') (n : p ≠ b) (h : H' p = none) : H p = none := by
  cases e : H p with
  | none => rfl
  | some o =>
    rw [u p o n e] at h
    cases h
theorem two_of {ns : List Int} (h : ns.length = 2) : ∃ a b, ns = [a, b] := by
  match ns, h with
  | [a, b], _ => exact ⟨a, b, rfl⟩
theorem ints_mem {v : V} {ns : List Int} (h : v ∈ ns.map V.int) : ∃ i ∈ ns, v = .int i := by
  obtain ⟨i, hi, e⟩ := List.mem_map.mp h
  exact ⟨i, hi, e.symm⟩
theorem ne_box {H : Hp} {b p : Addr} {n : Nat} (h : BoxAt H b n) (z : H p = none) : p ≠ b := (h.ne z).symm
set_option maxHeartbeats 4000000 in
theorem ok_sea {k : Nat} (D : Df K mg "_law_sea" s__law_sea) (T : Bt mg) (O__law_take : Ok P w K mg base k "_law_take" s__law_take ["_law_box_here", "_law_span"] spTake) (O__law_of : Ok P w K mg base k "_law_of" s__law_of ["_law_box_here", "_law_some"] (spOf K)) :
    Ok P w K mg base (k + 1) "_law_sea" s__law_sea ["_law_box_here", "_law_most"] spSea := by
  refine D.ok sc__law_sea b__law_sea (fun vs H Q E h => ?_) (fun f cdv A outer s H vs Q E hr h => ?_)
  · obtain ⟨b, n, most, rfl, _⟩ := h
    rfl
  · obtain ⟨b, n, most, rfl, m0, m1, hb, q⟩ := h
    refine ⟨_, (pss_cons (ps_asg (pe_tup (pa_cons (pe_op op_add pe_int (pe_fn O__law_take (hr.mono (by omega)) (pa_cons (pv 0) (pa_cons (pv 1) pa_nil)))) (pa_cons (pe_fn O__law_of (hr.mono (by omega)) (pa_cons (pv 0) (pa_cons (pe_lst (pa_cons pe_int (pa_cons pe_int (pa_cons pe_int (pa_cons (pe_op op_sub (pe_op op_sub (pe_op (op_powC 1000000000000) pe_int pe_int) pe_int) (pe_fn O__law_take (hr.mono (by omega)) (pa_cons (pv 0) (pa_cons (pe_op (op_powC 1000000) pe_int pe_int) pa_nil)))) pa_nil))))) pa_nil))) pa_nil))) (pg_seq rfl (pgs_cons (pg_name (i := 2) sc__law_sea.nd rfl (.inr rfl)) (pgs_cons (pg_name (i := 3) sc__law_sea.nd rfl (.inr rfl)) pgs_nil))))
      (pss_cons (ps_set (i := 4) sc__law_sea.nd rfl (.inr rfl) (pe_fn O__law_of (hr.mono (by omega)) (pa_cons (pv 0) (pa_cons (pe_lst (pa_cons pe_int (pa_cons (pe_op op_add (pv 2) pe_int) (pa_cons (pe_op op_add (pe_op op_mul pe_int (pv 2)) pe_int) pa_nil)))) pa_nil))))
      (pss_cons (ps_setLc (i := 5) (own := [("_law_side", 7)]) (g := (gName 7)) (tt := tYes) (by rfl) sc__law_sea.nd rfl rfl (sw_true rfl rfl rfl (by decide +kernel)) (pi_range1 (by rfl) T.range_ (pa_cons pe_int pa_nil)) (blkOk_by (own := [("_law_side", 7)]) (N := (["_law_box_here", "_law_most", "_law_count", "_law_far", "_law_wide", "_law_depths", "_law_draughts", "_law_side", "_law_whom"] : List Str)) (sc := defScope s__law_sea) (by decide +kernel)) (fun _ _ _ _ _ => (pg_name (i := 7) sc__law_sea.nd rfl (.inl rfl))) (fun _ _ _ _ _ => pts_nil) (fun _ _ _ _ _ => (pe_op op_add (pv 3) (pe_op op_mul (pe_fn O__law_take (hr.mono (by omega)) (pa_cons (pv 0) (pa_cons (pe_op op_add (pv 2) pe_int) pa_nil))) (pe_fn O__law_take (hr.mono (by omega)) (pa_cons (pv 0) (pa_cons pe_int pa_nil)))))))
      (pss_cons (ps_set (i := 6) sc__law_sea.nd rfl (.inr rfl) (pe_lc (own := [("_law_whom", 8)]) (g := (gName 8)) (tt := tYes) (by rfl) sc__law_sea.nd (pi_range1 (by rfl) T.range_ (pa_cons (pv 2) pa_nil)) (blkOk_by (own := [("_law_whom", 8)]) (N := (["_law_box_here", "_law_most", "_law_count", "_law_far", "_law_wide", "_law_depths", "_law_draughts", "_law_side", "_law_whom"] : List Str)) (sc := defScope s__law_sea) (by decide +kernel)) (fun _ _ _ _ _ => (pg_name (i := 8) sc__law_sea.nd rfl (.inl rfl))) (fun _ _ _ _ _ => pts_nil) (fun _ _ _ _ _ => (pe_op op_add (pv 3) (pe_fn O__law_take (hr.mono (by omega)) (pa_cons (pv 0) (pa_cons (pv 4) pa_nil)))))))
      (pss_cons (ps_if (pt_cmpR op_eq (pe_fn O__law_take (hr.mono (by omega)) (pa_cons (pv 0) (pa_cons pe_int pa_nil))) pe_int (nomark _))
        (pss_one (ps_set (i := 6) sc__law_sea.nd rfl (.inr rfl) (pe_lc (own := [("_law_whom", 8)]) (g := (gName 8)) (tt := tYes) (by rfl) sc__law_sea.nd (pi_range1 (by rfl) T.range_ (pa_cons (pv 2) pa_nil)) (blkOk_by (own := [("_law_whom", 8)]) (N := (["_law_box_here", "_law_most", "_law_count", "_law_far", "_law_wide", "_law_depths", "_law_draughts", "_law_side", "_law_whom"] : List Str)) (sc := defScope s__law_sea) (by decide +kernel)) (fun _ _ _ _ _ => (pg_name (i := 8) sc__law_sea.nd rfl (.inl rfl))) (fun _ _ _ _ _ => pts_nil) (fun _ _ _ _ _ => (pe_ifExp (pt_cmpR op_eq (pe_fn O__law_take (hr.mono (by omega)) (pa_cons (pv 0) (pa_cons pe_int pa_nil))) pe_int (nomark _)) (pe_ix (ix_ltK K) (pv 6) (pv 8) (fun _ _ => rfl)) (pe_ix (ix_ltK K) (pv 6) pe_int (fun _ _ => rfl)))))))
        pss_nil)
      (pss_one (ps_ret (pe_tup (pa_cons (pe_ix ix_lt (pv 5) pe_int (fun _ _ => rfl)) (pa_cons (pe_ix ix_lt (pv 5) pe_int (fun _ _ => rfl)) (pa_cons (pe_callTy call_tuple_of (by rfl) T.tuple_ (by decide +kernel) (pa_cons (pv 6) pa_nil)) pa_nil))))))))))), ?_⟩
    -- 1 + take(box, most)
    refine ⟨_, rfl, _, rfl, b, n + 199, _, rfl, by omega, by omega, hb, fun c ys1 c0 c1 y1 => ?_⟩
    refine ⟨1, c, rfl, rfl, ?_⟩
    have u1 : But b H (upd H b (.lst ys1)) := But.ups
    have x1 : BoxAt (upd H b (.lst ys1)) b (n + 199) := .put y1
    generalize upd H b (.lst ys1) = H1 at u1 x1
    -- of(box, [0, 0, 0, 10 ** 12 - 200 - take(box, 10 ** 6)])
    refine ⟨_, rfl, 10, 12, rfl, rfl, ⟨⟨by decide, by decide, by decide⟩, by decide⟩, _, 200, rfl, rfl, _, rfl, 10, 6, rfl, rfl, ⟨⟨by decide, by decide, by decide⟩, by decide⟩, ?_⟩
    refine ⟨b, n + 198, 1000000, rfl, by decide, by decide, x1, fun r ys2 r0 r1 y2 => ?_⟩
    have u2 : But b H (upd H1 b (.lst ys2)) := u1.box
    have x2 : BoxAt (upd H1 b (.lst ys2)) b (n + 198) := .put y2
    generalize upd H1 b (.lst ys2) = H2 at u2 x2
    refine ⟨_, _, rfl, rfl, (by show 4 ≤ sizeLine; decide), fun l nl => ?_⟩
    have u3 : But b H (upd H2 l (.lst [.int 0, .int 0, .int 0, .int (1000000000000 - 200 - r)])) := fun a o na e => by
      rw [upd_ne (ne_of_none (u2 a o na e) nl)]
      exact u2 a o na e
    refine ⟨b, l, n + 197, _, rfl, SqA.l upd_same, ne_box x2 nl, (by show 0 < 4; decide), (by show 4 < 1000000; decide), x2.at (x2.ne nl), fun v ys3 hv y3 => ?_⟩
    obtain ⟨far, f0, f1, rfl⟩ : ∃ far : Int, 0 ≤ far ∧ far ≤ 1000000000000 - 200 ∧ v = .int far := by
      have e4 : v = .int 0 ∨ v = .int (1000000000000 - 200 - r) := by
        have e5 : v = .int 0 ∨ v = .int 0 ∨ v = .int 0 ∨ v = .int (1000000000000 - 200 - r) := by simpa using hv
        rcases e5 with e | e | e | e
        · exact .inl e
        · exact .inl e
        · exact .inl e
        · exact .inr e
      rcases e4 with e | e
      · exact ⟨0, by decide, by decide, e⟩
      · exact ⟨_, by omega, by omega, e⟩
    replace u3 : But b H (upd (upd H2 l (.lst [.int 0, .int 0, .int 0, .int (1000000000000 - 200 - r)])) b (.lst ys3)) := u3.box
    have x3 : BoxAt (upd (upd H2 l (.lst [.int 0, .int 0, .int 0, .int (1000000000000 - 200 - r)])) b (.lst ys3)) b (n + 197) := .put y3
    try dsimp only
    generalize upd (upd H2 l (.lst [.int 0, .int 0, .int 0, .int (1000000000000 - 200 - r)])) b (.lst ys3) = H3 at u3 x3
    refine ⟨(by show 2 ≤ sizeLine; decide), fun tp ntp => ?_⟩
    refine ⟨tp, _, rfl, SqA.t upd_same, rfl, _, _, rfl, _, _, rfl, rfl, ?_⟩
    obtain ⟨u4, x4, _, _⟩ := al (o := .tup [.int (1 + c), .int far]) u3 x3 ntp
    try dsimp only
    generalize upd H3 tp (.tup [.int (1 + c), .int far]) = H4 at u4 x4
    obtain ⟨cn, ec⟩ : ∃ cn : Nat, 1 + c = ((cn : Nat) : Int) := ⟨(1 + c).toNat, by omega⟩
    have cn0 : 0 < cn := by omega
    have cn1 : cn ≤ most := by omega
    rw [ec]
    -- wide
    refine ⟨_, rfl, _, rfl, _, 2, rfl, rfl, _, rfl, 2, _, rfl, rfl, .inl ⟨by decide, by decide⟩, _, 2, rfl, rfl, (by show 3 ≤ sizeLine; decide), fun l2 nl2 => ?_⟩
    obtain ⟨u5, x5, e5, n5⟩ := al (o := .lst [.int 2, .int ((cn : Int) + 2), .int (2 * (cn : Int) + 2)]) u4 x4 nl2
    refine ⟨b, l2, n + 196, _, rfl, SqA.l upd_same, n5, (by show 0 < 3; decide), (by show 3 < 1000000; decide), x5.mono (by omega), fun v ys6 hv y6 => ?_⟩
    obtain ⟨wide, w0, w1, rfl⟩ : ∃ wide : Int, 2 ≤ wide ∧ wide ≤ 122 ∧ v = .int wide := by
      have e5 : v = .int 2 ∨ v = .int ((cn : Int) + 2) ∨ v = .int (2 * (cn : Int) + 2) := by simpa using hv
      rcases e5 with e | e | e
      · exact ⟨2, by decide, by decide, e⟩
      · exact ⟨_, by omega, by omega, e⟩
      · exact ⟨_, by omega, by omega, e⟩
    obtain ⟨u6, x6⟩ := tk u5 y6
    try dsimp only
    generalize upd (upd H4 l2 (.lst [.int 2, .int ((cn : Int) + 2), .int (2 * (cn : Int) + 2)])) b (.lst ys6) = H6 at u6 x6
    -- depths
    refine ⟨2, rfl, by decide, by decide, fun C nC => ?_⟩
    refine lc_range (fun i Hc => ∃ ns : List Int, But b H6 Hc ∧ BoxAt Hc b (n + 196 - 2 * i) ∧ Hc C = some (.lst (ns.map V.int)) ∧ ns.length = i ∧ ∀ d ∈ ns, 0 ≤ d ∧ d ≤ 1000000000000) ?_ ?_ ?_
    · exact ⟨[], (al (But.refl b H6) x6 nC).1, (al (But.refl b H6) x6 nC).2.1, upd_same, rfl, fun d hd => by simp at hd⟩
    · rintro i Hc hi ⟨ns, uc, xc, hC, hl, hn⟩
      have nCb : C ≠ b := (x6.ne nC).symm
      have i2 : i < 2 := hi
      refine ⟨rfl, tyes (iteT ?_)⟩
      refine ⟨_, rfl, _, rfl, _, rfl, _, 2, rfl, rfl, ?_⟩
      refine ⟨b, n + 196 - 2 * i - 1, _, rfl, by omega, by omega, xc.mono (by omega), fun v ys v0 v1 y => ?_⟩
      obtain ⟨ud, xd⟩ := tk uc y
      have hD : upd Hc b (.lst ys) C = some (.lst (ns.map V.int)) := by rw [upd_ne nCb]; exact hC
      generalize upd Hc b (.lst ys) = Hd at ud xd hD
      refine ⟨_, rfl, ?_⟩
      refine ⟨b, n + 196 - 2 * i - 2, 2, rfl, by decide, by decide, xd.mono (by omega), fun v' ys' v0' v1' y' => ?_⟩
      obtain ⟨ue, xe⟩ := tk ud y'
      have hE : upd Hd b (.lst ys') C = some (.lst (ns.map V.int)) := by rw [upd_ne nCb]; exact hD
      generalize upd Hd b (.lst ys') = He at ue xe hE
      refine ⟨v, v', rfl, rfl, .inl ⟨by omega, by omega⟩, far, v * v', rfl, rfl, ns.map V.int, hE, ?_, ns ++ [far + v * v'], ?_, ?_, ?_, ?_, ?_⟩
      · rw [List.length_map, hl]
        exact Nat.lt_trans i2 (by decide)
      · exact fun a o na e => by rw [upd_ne (ne_of_none e nC)]; exact ue a o na e
      · exact (xe.at (x6.ne nC)).mono (by omega)
      · rw [upd_same, List.map_append]
        rfl
      · simp [hl]
      · intro d hd
        rcases List.mem_append.mp hd with z | z
        · exact hn d z
        · have e : d = far + v * v' := by simpa using z
          have e01 : v' = 0 ∨ v' = 1 := by omega
          rcases e01 with z | z <;> (rw [e, z]; omega)
    · rintro H7 ⟨ds2, u7', x7, h7, l7, b7⟩
      have u7 : But b H H7 := u6.trans u7'
      clear u7'
      replace x7 : BoxAt H7 b (n + 192) := x7.mono (by omega)
      have nCb : C ≠ b := (x6.ne nC).symm
      -- draughts
      refine ⟨_, rfl, _, rfl, by omega, by omega, fun C2 nC2 => ?_⟩
      rw [show ((cn : Int)).toNat = cn by omega]
      refine lc_range (fun i Hc => ∃ ns : List Int, But b H7 Hc ∧ BoxAt Hc b (n + 192 - i) ∧ Hc C2 = some (.lst (ns.map V.int)) ∧ ns.length = i ∧ ∀ d ∈ ns, 0 ≤ d ∧ d ≤ 1000000000000) ?_ ?_ ?_
      · exact ⟨[], (al (But.refl b H7) x7 nC2).1, (al (But.refl b H7) x7 nC2).2.1, upd_same, rfl, fun d hd => by simp at hd⟩
      · rintro i Hc hi ⟨ns, uc, xc, hC, hl, hn⟩
        have nCb2 : C2 ≠ b := (x7.ne nC2).symm
        refine ⟨rfl, tyes (iteT ?_)⟩
        refine ⟨_, rfl, _, rfl, _, rfl, ?_⟩
        refine ⟨b, n + 192 - i - 1, wide, rfl, by omega, by omega, xc.mono (by omega), fun v ys v0 v1 y => ?_⟩
        obtain ⟨ud, xd⟩ := tk uc y
        have hD : upd Hc b (.lst ys) C2 = some (.lst (ns.map V.int)) := by rw [upd_ne nCb2]; exact hC
        generalize upd Hc b (.lst ys) = Hd at ud xd hD
        refine ⟨far, v, rfl, rfl, ns.map V.int, hD, ?_, ns ++ [far + v], ?_, ?_, ?_, ?_, ?_⟩
        · rw [List.length_map, hl]
          exact Nat.lt_of_lt_of_le hi (Nat.le_trans (show cn ≤ 60 by omega) (by decide))
        · exact fun a o na e => by rw [upd_ne (ne_of_none e nC2)]; exact ud a o na e
        · exact (xd.at (x7.ne nC2)).mono (by omega)
        · rw [upd_same, List.map_append]
          rfl
        · simp [hl]
        · intro d hd
          rcases List.mem_append.mp hd with z | z
          · exact hn d z
          · have e : d = far + v := by simpa using z
            omega
      · rintro H8 ⟨ds, u8', x8, h8, l8, b8⟩
        have h7' : H8 C = some (.lst (ds2.map V.int)) := u8' _ _ nCb h7
        have u8 : But b H H8 := u7.trans u8'
        have nC2b : C2 ≠ b := (x7.ne nC2).symm
        have nCC : C ≠ C2 := ne_of_none h7 nC2
        replace x8 : BoxAt H8 b (n + 132) := x8.mono (by omega)
        clear u8'
        -- take(box, 4) == 0
        refine ⟨_, rfl, b, n + 131, 4, rfl, by decide, by decide, x8.mono (by omega), fun v ys v0 v1 y => ?_⟩
        obtain ⟨u9, x9⟩ := tk u8 y
        have h9 : upd H8 b (.lst ys) C = some (.lst (ds2.map V.int)) := by rw [upd_ne nCb]; exact h7'
        have g9 : upd H8 b (.lst ys) C2 = some (.lst (ds.map V.int)) := by rw [upd_ne nC2b]; exact h8
        generalize upd H8 b (.lst ys) = H9 at u9 x9 h9 g9
        obtain ⟨d0, d1, rfl⟩ := two_of l7
        refine ⟨rfl, _, rfl, ite2 (fun c => ?_) (fun c => ?_)⟩
        · refine ⟨_, rfl, _, rfl, by omega, by omega, fun C3 nC3 => ?_⟩
          rw [show ((cn : Int)).toNat = cn by omega]
          have nC3b : C3 ≠ b := (x9.ne nC3).symm
          refine lc_range (fun i Hc => ∃ ns : List Int, But b H9 Hc ∧ BoxAt Hc b (n + 131 - i) ∧ Hc C3 = some (.lst (ns.map V.int)) ∧ ns.length = i ∧ ∀ d ∈ ns, 0 ≤ d ∧ d ≤ 1000000000000) ?_ ?_ ?_
          · exact ⟨[], (al (But.refl b H9) x9 nC3).1, (al (But.refl b H9) x9 nC3).2.1, upd_same, rfl, fun d hd => by simp at hd⟩
          · rintro i Hc hi ⟨ns, uc, xc, hC, hl, hn⟩
            refine ⟨rfl, tyes (iteT ?_)⟩
            refine ⟨_, rfl, b, n + 131 - i - 1, 2, rfl, by decide, by decide, xc.mono (by omega), fun v ys v0 v1 y => ?_⟩
            obtain ⟨ud, xd⟩ := tk uc y
            have hD : upd Hc b (.lst ys) C3 = some (.lst (ns.map V.int)) := by rw [upd_ne nC3b]; exact hC
            generalize upd Hc b (.lst ys) = Hd at ud xd hD
            have gd : Hd C2 = some (.lst (ds.map V.int)) := ud _ _ nC2b g9
            have fin : ∀ z ∈ ds, ∃ acc : List V, Hd C3 = some (.lst acc) ∧ acc.length < sizeLine ∧ ∃ ns : List Int, But b H9 (upd Hd C3 (.lst (acc ++ [.int z]))) ∧ BoxAt (upd Hd C3 (.lst (acc ++ [.int z]))) b (n + 131 - (i + 1)) ∧
                upd Hd C3 (.lst (acc ++ [.int z])) C3 = some (.lst (ns.map V.int)) ∧ ns.length = i + 1 ∧ ∀ d ∈ ns, 0 ≤ d ∧ d ≤ 1000000000000 := fun z hz => by
              refine ⟨ns.map V.int, hD, ?_, ns ++ [z], ?_, ?_, ?_, ?_, ?_⟩
              · rw [List.length_map, hl]
                exact Nat.lt_of_lt_of_le hi (Nat.le_trans (show cn ≤ 60 by omega) (by decide))
              · exact fun a o na e => by rw [upd_ne (ne_of_none e nC3)]; exact ud a o na e
              · exact (xd.at (x9.ne nC3)).mono (by omega)
              · rw [upd_same, List.map_append]
                rfl
              · simp [hl]
              · intro d hd
                rcases List.mem_append.mp hd with z2 | z2
                · exact hn d z2
                · have e : d = z := by simpa using z2
                  rw [e]
                  exact b8 z hz
            refine ⟨rfl, _, rfl, ite2 (fun c => ?_) (fun c => ?_)⟩
            · have hi' : i < ds.length := by omega
              exact ⟨_, rfl, _, rfl, C2, _, _, .int ds[i], rfl, rfl, SqA.l gd, at_nat (j := i) (by omega) (by simp [hi']), fin _ (List.getElem_mem hi')⟩
            · have hi' : 0 < ds.length := by omega
              exact ⟨_, rfl, C2, _, _, .int ds[0], rfl, rfl, SqA.l gd, at_nat (j := 0) rfl (by simp [hi']), fin _ (List.getElem_mem hi')⟩
          · rintro H10 ⟨ds', u10', x10, h10, l10, b10⟩
            have u10 : But b H H10 := u9.trans u10'
            refine ⟨_, rfl, C, _, 0, .int d0, rfl, rfl, SqA.l (u10' _ _ nCb h9), rfl, _, rfl, C, _, 1, .int d1, rfl, rfl, SqA.l (u10' _ _ nCb h9), rfl, _, rfl, C3, _, rfl, .inl ⟨SqL.of h10, fun q' nq => ?_⟩⟩
            refine ⟨(by show 3 ≤ sizeLine; decide), fun p np => ?_⟩
            obtain ⟨uq, xq, eq, nqb⟩ := al (o := .tup (ds'.map V.int)) u10 x10 nq
            obtain ⟨up, xp, ep, npb⟩ := al (o := .tup [.int d0, .int d1, .ref q']) uq xq np
            refine q _ p q' d0 d1 ds' up (xp.mono (by omega)) (uq.free npb np) (u10.free nqb nq) ep ?_ ⟨(b7 d0 (by simp)).1, (b7 d0 (by simp)).2, (b7 d1 (by simp)).1, (b7 d1 (by simp)).2, by omega, by omega, b10⟩
            rw [upd_ne (ne_of_none eq np)]
            exact eq
        · refine ⟨_, rfl, C, _, 0, .int d0, rfl, rfl, SqA.l h9, rfl, _, rfl, C, _, 1, .int d1, rfl, rfl, SqA.l h9, rfl, _, rfl, C2, _, rfl, .inl ⟨SqL.of g9, fun q' nq => ?_⟩⟩
          refine ⟨(by show 3 ≤ sizeLine; decide), fun p np => ?_⟩
          obtain ⟨uq, xq, eq, nqb⟩ := al (o := .tup (ds.map V.int)) u9 x9 nq
          obtain ⟨up, xp, ep, npb⟩ := al (o := .tup [.int d0, .int d1, .ref q']) uq xq np
          refine q _ p q' d0 d1 ds up (xp.mono (by omega)) (uq.free npb np) (u9.free nqb nq) ep ?_ ⟨(b7 d0 (by simp)).1, (b7 d0 (by simp)).2, (b7 d1 (by simp)).1, (b7 d1 (by simp)).2, by omega, by omega, b8⟩
          rw [upd_ne (ne_of_none eq np)]
          exact eq
end
end Sh

namespace Sh
open PySem PySem.Spec PyProof.Rows L2
/-! ### what many laws ask -/
/-- a sea (list or tuple) is handed in -/
def SeaA (K : PySem.W.Frag) (H : Hp) (v : V) (h t : Int) (ds : List Int) : Prop := ∃ p q, v = .ref p ∧ SqA K H p [.int h, .int t, .ref q] ∧ SqA K H q (ds.map V.int)
theorem SeaA.same {K : PySem.W.Frag} {H H' : Hp} {v : V} {h t : Int} {ds : List Int} (s : SeaA K H v h t ds) (e : Same H H') : SeaA K H' v h t ds := let ⟨p, q, a, b, c⟩ := s; ⟨p, q, a, Same.sqA e b, Same.sqA e c⟩
theorem lay_ints : ∀ ns : List Int, PyData.canLayAll0 (ns.map .int) = true ∧ PyData.depthAll (ns.map .int) = 0
  | [] => ⟨rfl, rfl⟩
  | n :: ns => by
    obtain ⟨a, b⟩ := lay_ints ns
    constructor
    · show (PyData.canLay0 (.int n) && PyData.canLayAll0 (ns.map .int)) = true
      rw [a]
      rfl
    · show max (PyData.depth (.int n)) (PyData.depthAll (ns.map .int)) = 0
      rw [b]
      rfl
theorem shaped_ints (ns : List Int) : SeqAt.shaped (.list (ns.map .int)) = true := by
  obtain ⟨a, b⟩ := lay_ints ns
  unfold SeqAt.shaped
  rw [show PyData.canLay0 (.list (ns.map .int)) = PyData.canLayAll0 (ns.map .int) from rfl, show PyData.depth (.list (ns.map .int)) = PyData.depthAll (ns.map .int) + 1 from rfl, a, b]
  rfl
theorem flat_ints (ns : List Int) : (ns.map V.int).all flatV = true := by
  rw [List.all_map]
  exact List.all_eq_true.mpr fun _ _ => rfl
theorem same_over {H H1 : Hp} {p : Addr} {o : HO} (s : Same H H1) (n : H p = none) : Same H (upd H1 p o) := fun a x e => by
  rw [upd_ne (ne_of_none e n)]
  exact s _ _ e
end Sh

namespace Sh
open PySem PySem.Spec PyProof.Rows L2
/-! ### the program: steps -/
def mk (h t : Int) (k : Nat) (s : Int) : Int := if t + ((k : Int) - 1 - s) < h + s then t + ((k : Int) - 1 - s) else h + s
def gs (m : Int) (ds : List Int) (n : Nat) : List Nat := (List.range n).filter fun i => decide (ds.getD i 0 ≤ m)
def topI (h t : Int) (k : Nat) : Int := if (if (t + ((k : Int) - 1) - h) / 2 < (k : Int) - 1 then (t + ((k : Int) - 1) - h) / 2 else (k : Int) - 1) > 0 then (if (t + ((k : Int) - 1) - h) / 2 < (k : Int) - 1 then (t + ((k : Int) - 1) - h) / 2 else (k : Int) - 1) else 0
def lowI (h d : Int) : Int := if d - h > 0 then d - h else 0
def highI (t : Int) (k : Nat) (d : Int) : Int := if t + ((k : Int) - 1) - d < (k : Int) - 1 then t + ((k : Int) - 1) - d else (k : Int) - 1
def spMark (K : PySem.W.Frag) : Sp := fun vs H Q _ => ∃ (v : V) (h t s : Int) (ds : List Int), vs = [v, .int s] ∧ SeaA K H v h t ds ∧ Q (.int (mk h t ds.length s)) H
def spGoers (K : PySem.W.Frag) : Sp := fun vs H Q _ => ∃ (v : V) (h t s : Int) (ds : List Int), vs = [v, .int s] ∧ SeaA K H v h t ds ∧ ds.length ≤ 1000 ∧
  ∀ (H' : Hp) (p : Addr), Same H H' → H p = none → H' p = some (.lst (((gs (mk h t ds.length s) ds ds.length).map fun (i : Nat) => (i : Int)).map V.int)) → Q (.ref p) H'
def spTop (K : PySem.W.Frag) : Sp := fun vs H Q _ => ∃ (v : V) (h t : Int) (ds : List Int), vs = [v] ∧ SeaA K H v h t ds ∧ Q (.int (topI h t ds.length)) H
def spWindow (K : PySem.W.Frag) : Sp := fun vs H Q _ => ∃ (v : V) (h t d : Int) (j : Nat) (ds : List Int), vs = [v, .int (j : Int)] ∧ SeaA K H v h t ds ∧ ds[j]? = some d ∧
  (lowI h d > highI t ds.length d → Q .non H) ∧ (¬ lowI h d > highI t ds.length d → ∀ p, H p = none → Q (.ref p) (upd H p (.tup [.int (lowI h d), .int (highI t ds.length d)])))
theorem gs_succ {m : Int} {ds : List Int} {n : Nat} : gs m ds (n + 1) = gs m ds n ++ (if ds.getD n 0 ≤ m then [n] else []) := by
  unfold gs
  rw [List.range_succ, List.filter_append]
  congr 1
  by_cases h : ds.getD n 0 ≤ m
  · rw [if_pos h, List.filter_cons_of_pos (by simpa using h)]
    rfl
  · rw [if_neg h, List.filter_cons_of_neg (by simpa using h)]
    rfl
theorem gs_len {m : Int} {ds : List Int} {n : Nat} : (gs m ds n).length ≤ n := by
  unfold gs
  exact Nat.le_trans (List.length_filter_le _ _) (by simp)
theorem mk_alt (h t : Int) (k : Nat) (s : Int) : (if t + (k : Int) - 1 - s < h + s then t + (k : Int) - 1 - s else h + s) = mk h t k s := by
  unfold mk
  rw [show t + (k : Int) - 1 - s = t + ((k : Int) - 1 - s) by omega]
end Sh

namespace Sh
open PySem PySem.Spec PyProof.Rows L2
/-! ### the program: water -/
def spMarkOf : Sp := fun vs H Q _ => ∃ (h t s : Int) (n : Nat), vs = [.int h, .int t, .int (n : Int), .int s] ∧ Q (.int (mk h t n s)) H
def spTopOf : Sp := fun vs H Q _ => ∃ (h t : Int) (n : Nat), vs = [.int h, .int t, .int (n : Int)] ∧ Q (.int (topI h t n)) H
abbrev s_mark_of : Stmt := topS 1
theorem sc_mark_of : FnScope (["here", "there", "many", "step"] : List Str) (["here", "there", "many", "step"] : List Str) (defScope s_mark_of) := ⟨rfl, rfl, rfl, by decide +kernel, rfl, by decide +kernel, by decide +kernel⟩
theorem b_mark_of (kV doc pm : Value) (an : Option Addr) (cdv ct : Value) (us : List Value) (hl : us.length = (["here", "there", "many", "step"] : List Str).length) : bindArgs (PySem.W.fnOf "mark_of" "mark_of" (defArgs s_mark_of) (defBody s_mark_of) (defScope s_mark_of) .none kV doc pm an cdv ct) ⟨us, []⟩ = pure ((["here", "there", "many", "step"] : List Str).zip us) :=
  match us, hl with | [_, _, _, _], _ => rfl
abbrev s_top_of : Stmt := topS 2
theorem sc_top_of : FnScope (["here", "there", "many", "last", "meeting"] : List Str) (["here", "there", "many"] : List Str) (defScope s_top_of) := ⟨rfl, rfl, rfl, by decide +kernel, rfl, by decide +kernel, by decide +kernel⟩
theorem b_top_of (kV doc pm : Value) (an : Option Addr) (cdv ct : Value) (us : List Value) (hl : us.length = (["here", "there", "many"] : List Str).length) : bindArgs (PySem.W.fnOf "top_of" "top_of" (defArgs s_top_of) (defBody s_top_of) (defScope s_top_of) .none kV doc pm an cdv ct) ⟨us, []⟩ = pure ((["here", "there", "many"] : List Str).zip us) :=
  match us, hl with | [_, _, _], _ => rfl
section
variable {P : Program} {w : World} {K : PySem.W.Frag} {mg : Str → Option Value} {base : Heap}
theorem ok_mark_of {k : Nat} (D : Df K mg "mark_of" s_mark_of) (T : Bt mg) : Ok P w K mg base (k + 1) "mark_of" s_mark_of ["here", "there", "many", "step"] spMarkOf := by
  refine D.ok sc_mark_of b_mark_of (fun vs H Q E h => ?_) (fun f cdv A outer s H vs Q E hr h => ?_)
  · obtain ⟨h, t, s, n, rfl, _⟩ := h
    rfl
  · obtain ⟨h, t, s, n, rfl, k⟩ := h
    refine ⟨_, (pss_one (ps_ret (pe_callB (call_min2 rfl) (by rfl) T.min_ (by decide +kernel) (pa_cons (pe_op op_add (pv 0) (pv 3)) (pa_cons (pe_op op_sub (pe_op op_sub (pe_op op_add (pv 1) (pv 2)) pe_int) (pv 3)) pa_nil))))), ?_⟩
    refine ⟨_, rfl, _, rfl, h, s, rfl, rfl, _, rfl, _, rfl, t, _, rfl, rfl, _, 1, rfl, rfl, _, rfl, _, s, rfl, rfl, _, _, rfl, ?_⟩
    rw [← mk_alt] at k
    exact k
theorem ok_top_of {k : Nat} (D : Df K mg "top_of" s_top_of) (T : Bt mg) : Ok P w K mg base (k + 1) "top_of" s_top_of ["here", "there", "many"] spTopOf := by
  refine D.ok sc_top_of b_top_of (fun vs H Q E h => ?_) (fun f cdv A outer s H vs Q E hr h => ?_)
  · obtain ⟨h, t, n, rfl, _⟩ := h
    rfl
  · obtain ⟨h, t, n, rfl, k⟩ := h
    refine ⟨_, (pss_cons (ps_set (i := 3) sc_top_of.nd rfl (.inl rfl) (pe_op op_sub (pv 2) pe_int))
      (pss_cons (ps_set (i := 4) sc_top_of.nd rfl (.inl rfl) (pe_op op_fdiv (pe_op op_sub (pe_op op_add (pv 1) (pv 3)) (pv 0)) pe_int))
      (pss_one (ps_ret (pe_callB (call_max2 rfl) (by rfl) T.max_ (by decide +kernel) (pa_cons pe_int (pa_cons (pe_callB (call_min2 rfl) (by rfl) T.min_ (by decide +kernel) (pa_cons (pv 3) (pa_cons (pv 4) pa_nil))) pa_nil))))))), ?_⟩
    refine ⟨_, rfl, _, 1, rfl, rfl, ?_⟩
    refine ⟨_, rfl, _, rfl, t, _, rfl, rfl, _, rfl, _, h, rfl, rfl, _, 2, rfl, rfl, ⟨by decide, by decide⟩, ?_⟩
    refine ⟨_, rfl, _, rfl, _, _, rfl, 0, _, rfl, ?_⟩
    exact k
end
end Sh

namespace Sh
open PySem PySem.Spec PyProof.Rows L2
/-! ### the program: steps -/
abbrev s_mark_at : Stmt := topS 4
theorem sc_mark_at : FnScope (["sea", "step", "here", "there", "draughts"] : List Str) (["sea", "step"] : List Str) (defScope s_mark_at) := ⟨rfl, rfl, rfl, by decide +kernel, rfl, by decide +kernel, by decide +kernel⟩
theorem b_mark_at (kV doc pm : Value) (an : Option Addr) (cdv ct : Value) (us : List Value) (hl : us.length = (["sea", "step"] : List Str).length) : bindArgs (PySem.W.fnOf "mark_at" "mark_at" (defArgs s_mark_at) (defBody s_mark_at) (defScope s_mark_at) .none kV doc pm an cdv ct) ⟨us, []⟩ = pure ((["sea", "step"] : List Str).zip us) :=
  match us, hl with | [_, _], _ => rfl
abbrev s_goers_at : Stmt := topS 5
theorem sc_goers_at : FnScope (["sea", "step", "draughts", "mark", "ship", "draught"] : List Str) (["sea", "step"] : List Str) (defScope s_goers_at) := ⟨rfl, rfl, rfl, by decide +kernel, rfl, by decide +kernel, by decide +kernel⟩
theorem b_goers_at (kV doc pm : Value) (an : Option Addr) (cdv ct : Value) (us : List Value) (hl : us.length = (["sea", "step"] : List Str).length) : bindArgs (PySem.W.fnOf "goers_at" "goers_at" (defArgs s_goers_at) (defBody s_goers_at) (defScope s_goers_at) .none kV doc pm an cdv ct) ⟨us, []⟩ = pure ((["sea", "step"] : List Str).zip us) :=
  match us, hl with | [_, _], _ => rfl
abbrev s_top_step : Stmt := topS 6
theorem sc_top_step : FnScope (["sea", "here", "there", "draughts"] : List Str) (["sea"] : List Str) (defScope s_top_step) := ⟨rfl, rfl, rfl, by decide +kernel, rfl, by decide +kernel, by decide +kernel⟩
theorem b_top_step (kV doc pm : Value) (an : Option Addr) (cdv ct : Value) (us : List Value) (hl : us.length = (["sea"] : List Str).length) : bindArgs (PySem.W.fnOf "top_step" "top_step" (defArgs s_top_step) (defBody s_top_step) (defScope s_top_step) .none kV doc pm an cdv ct) ⟨us, []⟩ = pure ((["sea"] : List Str).zip us) :=
  match us, hl with | [_], _ => rfl
abbrev s_window_of : Stmt := topS 7
theorem sc_window_of : FnScope (["sea", "ship", "here", "there", "draughts", "last", "draught", "least", "greatest"] : List Str) (["sea", "ship"] : List Str) (defScope s_window_of) := ⟨rfl, rfl, rfl, by decide +kernel, rfl, by decide +kernel, by decide +kernel⟩
theorem b_window_of (kV doc pm : Value) (an : Option Addr) (cdv ct : Value) (us : List Value) (hl : us.length = (["sea", "ship"] : List Str).length) : bindArgs (PySem.W.fnOf "window_of" "window_of" (defArgs s_window_of) (defBody s_window_of) (defScope s_window_of) .none kV doc pm an cdv ct) ⟨us, []⟩ = pure ((["sea", "ship"] : List Str).zip us) :=
  match us, hl with | [_, _], _ => rfl
section
variable {P : Program} {w : World} {K : PySem.W.Frag} {mg : Str → Option Value} {base : Heap}
theorem ok_mark {k : Nat} (D : Df K mg "mark_at" s_mark_at) (T : Bt mg) (O_mark_of : Ok P w K mg base k "mark_of" s_mark_of ["here", "there", "many", "step"] spMarkOf) : Ok P w K mg base (k + 1) "mark_at" s_mark_at ["sea", "step"] (spMark K) := by
  refine D.ok sc_mark_at b_mark_at (fun vs H Q E h => ?_) (fun f cdv A outer s H vs Q E hr h => ?_)
  · obtain ⟨v, h, t, s, ds, rfl, _⟩ := h
    rfl
  · obtain ⟨v, h, t, s, ds, rfl, ⟨p, q, rfl, hp, hq⟩, k⟩ := h
    refine ⟨_, (pss_cons (ps_asg (pv 0) (pg_seq rfl (pgs_cons (pg_name (i := 2) sc_mark_at.nd rfl (.inl rfl)) (pgs_cons (pg_name (i := 3) sc_mark_at.nd rfl (.inl rfl)) (pgs_cons (pg_name (i := 4) sc_mark_at.nd rfl (.inl rfl)) pgs_nil)))))
      (pss_one (ps_ret (pe_fn O_mark_of (hr.mono (by omega)) (pa_cons (pv 2) (pa_cons (pv 3) (pa_cons (pe_callB call_len_seq (by rfl) T.len_ PySem.boot_len (pa_cons (pv 4) pa_nil)) (pa_cons (pv 1) pa_nil)))))))), ?_⟩
    refine ⟨_, rfl, p, _, rfl, hp, rfl, _, _, rfl, _, _, rfl, _, _, rfl, rfl, ?_⟩
    refine ⟨_, rfl, _, rfl, _, rfl, q, _, rfl, hq, _, rfl, h, t, s, ds.length, ?_, k⟩
    rw [List.length_map]
    rfl
theorem ok_goers {k : Nat} (D : Df K mg "goers_at" s_goers_at) (T : Bt mg) (O_mark_at : Ok P w K mg base k "mark_at" s_mark_at ["sea", "step"] (spMark K)) : Ok P w K mg base (k + 1) "goers_at" s_goers_at ["sea", "step"] (spGoers K) := by
  refine D.ok sc_goers_at b_goers_at (fun vs H Q E h => ?_) (fun f cdv A outer s H vs Q E hr h => ?_)
  · obtain ⟨v, h, t, s, ds, rfl, _⟩ := h
    rfl
  · obtain ⟨v, h, t, s, ds, rfl, hv, hl, k⟩ := h
    obtain ⟨p, q, rfl, hp, hq⟩ := id hv
    refine ⟨_, (pss_cons (ps_set (i := 2) sc_goers_at.nd rfl (.inl rfl) (pe_ix ix_lt (pv 0) pe_int (fun _ _ => rfl)))
      (pss_cons (ps_set (i := 3) sc_goers_at.nd rfl (.inr rfl) (pe_fn O_mark_at (hr.mono (by omega)) (pa_cons (pv 0) (pa_cons (pv 1) pa_nil))))
      (pss_one (ps_ret (pe_lc (own := [("ship", 4), ("draught", 5)]) (g := (gSeq K 2 (gCons (gName 4) (gCons (gName 5) gNil)))) (by rfl) sc_goers_at.nd (pi_enumA (by rfl) T.enumerate_ (pa_cons (pv 2) pa_nil)) (blkOk_by (own := [("ship", 4), ("draught", 5)]) (N := (["sea", "step", "draughts", "mark", "ship", "draught"] : List Str)) (sc := defScope s_goers_at) (by decide +kernel)) (fun _ _ _ _ _ => (pg_seq rfl (pgs_cons (pg_name (i := 4) sc_goers_at.nd rfl (.inl rfl)) (pgs_cons (pg_name (i := 5) sc_goers_at.nd rfl (.inl rfl)) pgs_nil)))) (fun _ _ _ _ _ => (pts_one (pt_cmpR op_le (pv 5) (pv 3) (nomark _)))) (fun _ _ _ _ _ => (pv 4))))))), ?_⟩
    refine ⟨_, rfl, p, _, 2, .ref q, rfl, rfl, hp, rfl, ?_⟩
    refine ⟨_, rfl, _, rfl, .ref p, h, t, s, ds, rfl, hv, ?_⟩
    generalize mk h t ds.length s = m at k
    refine ⟨_, rfl, q, _, H, rfl, hq, Kp.refl _ _, fun J hJ C nC => ?_⟩
    obtain ⟨G, g, W⟩ := hJ.walk
    refine lc_it W (fun i H' => Same H H' ∧ H' C = some (.lst (((gs m ds i).map fun (i : Nat) => (i : Int)).map V.int))) ⟨same_new nC, upd_same⟩ (fun i H' _ z => g H' (.ofS z.1)) ?_ ?_
    · rintro i x H1 H2 hi ⟨sm, hC⟩ ⟨u, x1, x2, rfl, nu, rfl, g1, g2⟩
      rw [List.length_map] at hi
      obtain rfl : .int (i : Nat) = x1 := Option.some.inj g1
      obtain rfl : .int ds[i] = x2 := by
        have g3 : (ds.map V.int)[i]? = some (.int ds[i]) := by simp [hi]
        exact Option.some.inj (g3.symm.trans g2)
      have ed : ds.getD i 0 = ds[i] := by simp [hi]
      have nuC : C ≠ u := ne_of_none hC nu
      have hC' : upd H1 u (.tup [.int (i : Nat), .int ds[i]]) C = some (.lst (((gs m ds i).map fun (i : Nat) => (i : Int)).map V.int)) := by rw [upd_ne nuC]; exact hC
      refine ⟨u, _, rfl, SqA.t upd_same, rfl, _, _, rfl, _, _, rfl, rfl, rfl, ?_⟩
      refine ⟨_, rfl, _, rfl, ds[i], m, rfl, rfl, _, rfl, ite2 (fun c => ?_) (fun c => ?_)⟩
      · have c0 : ds[i] ≤ m := of_decide_eq_true c
        refine ⟨_, rfl, _, hC', ?_, fun a o e => ?_, ?_⟩
        · rw [List.length_map, List.length_map]
          exact Nat.lt_of_le_of_lt gs_len (small1000 (by omega))
        · rw [upd_ne (ne_of_none e nC)]
          exact same_new nu _ _ (sm _ _ e)
        · rw [upd_same, gs_succ, ed, if_pos c0, List.map_append, List.map_append]
          rfl
      · have c0 : ¬ ds[i] ≤ m := fun z => c (decide_eq_true z)
        refine ⟨fun a o e => same_new nu _ _ (sm _ _ e), ?_⟩
        rw [hC', gs_succ, ed, if_neg c0, List.append_nil]
    · rintro H1 ⟨sm, hC⟩
      rw [List.length_map] at hC
      exact k H1 C sm nC hC
theorem ok_top {k : Nat} (D : Df K mg "top_step" s_top_step) (T : Bt mg) (O_top_of : Ok P w K mg base k "top_of" s_top_of ["here", "there", "many"] spTopOf) : Ok P w K mg base (k + 1) "top_step" s_top_step ["sea"] (spTop K) := by
  refine D.ok sc_top_step b_top_step (fun vs H Q E h => ?_) (fun f cdv A outer s H vs Q E hr h => ?_)
  · obtain ⟨v, h, t, ds, rfl, _⟩ := h
    rfl
  · obtain ⟨v, h, t, ds, rfl, ⟨p, q, rfl, hp, hq⟩, k⟩ := h
    refine ⟨_, (pss_cons (ps_asg (pv 0) (pg_seq rfl (pgs_cons (pg_name (i := 1) sc_top_step.nd rfl (.inl rfl)) (pgs_cons (pg_name (i := 2) sc_top_step.nd rfl (.inl rfl)) (pgs_cons (pg_name (i := 3) sc_top_step.nd rfl (.inl rfl)) pgs_nil)))))
      (pss_one (ps_ret (pe_fn O_top_of (hr.mono (by omega)) (pa_cons (pv 1) (pa_cons (pv 2) (pa_cons (pe_callB call_len_seq (by rfl) T.len_ PySem.boot_len (pa_cons (pv 3) pa_nil)) pa_nil))))))), ?_⟩
    refine ⟨_, rfl, p, _, rfl, hp, rfl, _, _, rfl, _, _, rfl, _, _, rfl, rfl, ?_⟩
    refine ⟨_, rfl, _, rfl, _, rfl, q, _, rfl, hq, h, t, ds.length, ?_, k⟩
    rw [List.length_map]
    rfl
theorem ok_window {k : Nat} (D : Df K mg "window_of" s_window_of) (T : Bt mg) : Ok P w K mg base (k + 1) "window_of" s_window_of ["sea", "ship"] (spWindow K) := by
  refine D.ok sc_window_of b_window_of (fun vs H Q E h => ?_) (fun f cdv A outer s H vs Q E hr h => ?_)
  · obtain ⟨v, h, t, d, j, ds, rfl, _⟩ := h
    rfl
  · obtain ⟨v, h, t, d, j, ds, rfl, ⟨p, q, rfl, hp, hq⟩, hj, k1, k2⟩ := h
    refine ⟨_, (pss_cons (ps_asg (pv 0) (pg_seq rfl (pgs_cons (pg_name (i := 2) sc_window_of.nd rfl (.inl rfl)) (pgs_cons (pg_name (i := 3) sc_window_of.nd rfl (.inl rfl)) (pgs_cons (pg_name (i := 4) sc_window_of.nd rfl (.inl rfl)) pgs_nil)))))
      (pss_cons (ps_set (i := 5) sc_window_of.nd rfl (.inl rfl) (pe_op op_sub (pe_callB call_len_seq (by rfl) T.len_ PySem.boot_len (pa_cons (pv 4) pa_nil)) pe_int))
      (pss_cons (ps_set (i := 6) sc_window_of.nd rfl (.inl rfl) (pe_ix ix_lt (pv 4) (pv 1) (fun _ _ => rfl)))
      (pss_cons (ps_set (i := 7) sc_window_of.nd rfl (.inl rfl) (pe_callB (call_max2 rfl) (by rfl) T.max_ (by decide +kernel) (pa_cons pe_int (pa_cons (pe_op op_sub (pv 6) (pv 2)) pa_nil))))
      (pss_cons (ps_set (i := 8) sc_window_of.nd rfl (.inl rfl) (pe_callB (call_min2 rfl) (by rfl) T.min_ (by decide +kernel) (pa_cons (pv 5) (pa_cons (pe_op op_sub (pe_op op_add (pv 3) (pv 5)) (pv 6)) pa_nil))))
      (pss_cons (ps_if (pt_cmpR op_gt (pv 7) (pv 8) (nomark _))
        (pss_one (ps_ret pe_non))
        pss_nil)
      (pss_one (ps_ret (pe_tup (pa_cons (pv 7) (pa_cons (pv 8) pa_nil))))))))))), ?_⟩
    refine ⟨_, rfl, p, _, rfl, hp, rfl, _, _, rfl, _, _, rfl, _, _, rfl, rfl, ?_⟩
    refine ⟨_, rfl, q, _, rfl, hq, _, 1, rfl, rfl, ?_⟩
    refine ⟨_, rfl, _, rfl, q, _, _, .int d, rfl, rfl, hq, at_nat (j := j) rfl (by simp [hj]), ?_⟩
    refine ⟨_, rfl, _, rfl, d, h, rfl, rfl, 0, _, rfl, ?_⟩
    refine ⟨_, rfl, _, rfl, _, rfl, t, _, rfl, rfl, _, rfl, _, d, rfl, rfl, _, _, rfl, ?_⟩
    refine ⟨_, rfl, _, rfl, _, _, rfl, rfl, _, rfl, ite2 (fun c => ?_) (fun c => ?_)⟩
    · have c0 := of_decide_eq_true c
      rw [List.length_map] at c0
      exact k1 c0
    · have c0 := fun z => c (decide_eq_true z)
      rw [List.length_map] at c0 ⊢
      refine ⟨_, rfl, _, rfl, (by show 2 ≤ sizeLine; decide), fun p' np => ?_⟩
      exact k2 c0 p' np
end
end Sh

namespace Sh
open PySem PySem.Spec PyProof.Rows L2
/-! ### steps: the mathematics -/
def ml (h t : Int) (k n : Nat) : List Int := (List.range n).map fun (i : Nat) => mk h t k (i : Int)
theorem ml_succ (h t : Int) (k n : Nat) : ml h t k (n + 1) = ml h t k n ++ [mk h t k (n : Int)] := by
  unfold ml
  rw [List.range_succ, List.map_append]
  rfl
theorem ml_len (h t : Int) (k n : Nat) : (ml h t k n).length = n := by
  unfold ml
  simp
theorem ml_get {h t : Int} {k n i : Nat} (hi : i < n) : (ml h t k n)[i]? = some (mk h t k (i : Int)) := by
  unfold ml
  simp [hi]
theorem top_lo (h t : Int) (k : Nat) : 0 ≤ topI h t k := by
  unfold topI
  split <;> omega
theorem top_hi (h t : Int) {k : Nat} (hk : 0 < k) : topI h t k < (k : Int) := by
  unfold topI
  repeat' split
  all_goals omega
theorem top_max (h t : Int) {k i : Nat} (hi : i < k) : mk h t k (i : Int) ≤ mk h t k (topI h t k) := by
  unfold mk topI
  repeat' split
  all_goals omega
theorem top_least (h t : Int) {k i : Nat} (hi : (i : Int) < topI h t k) : mk h t k (i : Int) < mk h t k (topI h t k) := by
  unfold mk topI at *
  repeat' split
  all_goals (repeat' split at hi)
  all_goals omega
theorem win_iff (h t d : Int) {k i : Nat} (hi : i < k) : d ≤ mk h t k (i : Int) ↔ lowI h d ≤ (i : Int) ∧ (i : Int) ≤ highI t k d := by
  unfold mk lowI highI
  constructor
  · intro z
    split at z <;> (constructor <;> split <;> omega)
  · intro z
    split <;> (obtain ⟨z1, z2⟩ := z; split at z1 <;> split at z2 <;> omega)
/-- the steps at which it may go -/
def fl (h t d : Int) (k n : Nat) : List Nat := (List.range n).filter fun (i : Nat) => decide (d ≤ mk h t k (i : Int))
theorem fl_succ {h t d : Int} {k n : Nat} : fl h t d k (n + 1) = fl h t d k n ++ (if d ≤ mk h t k (n : Int) then [n] else []) := by
  unfold fl
  rw [List.range_succ, List.filter_append]
  congr 1
  by_cases z : d ≤ mk h t k (n : Int)
  · rw [if_pos z, List.filter_cons_of_pos (by simpa using z)]
    rfl
  · rw [if_neg z, List.filter_cons_of_neg (by simpa using z)]
    rfl
theorem fl_len {h t d : Int} {k n : Nat} : (fl h t d k n).length ≤ n := by
  unfold fl
  exact Nat.le_trans (List.length_filter_le _ _) (by simp)
theorem fl_mem {h t d : Int} {k i : Nat} : i ∈ fl h t d k k ↔ i < k ∧ lowI h d ≤ (i : Int) ∧ (i : Int) ≤ highI t k d := by
  unfold fl
  rw [List.mem_filter, List.mem_range, decide_eq_true_eq]
  constructor
  · rintro ⟨a, b⟩
    exact ⟨a, (win_iff h t d a).mp b⟩
  · rintro ⟨a, b⟩
    exact ⟨a, (win_iff h t d a).mpr b⟩
theorem fl_sorted (h t d : Int) (k : Nat) : (fl h t d k k).Pairwise (· < ·) := by
  unfold fl
  exact List.Pairwise.filter _ List.pairwise_lt_range
theorem high_lt (t d : Int) {k : Nat} (hk : 0 < k) : highI t k d < (k : Int) := by
  unfold highI
  split <;> omega
theorem low_nn (h d : Int) : 0 ≤ lowI h d := by
  unfold lowI
  split <;> omega
theorem fl_nil {h t d : Int} {k : Nat} (z : lowI h d > highI t k d) : fl h t d k k = [] := by
  cases e : fl h t d k k with
  | nil => rfl
  | cons x r =>
    have m : x ∈ fl h t d k k := by rw [e]; exact List.mem_cons_self
    obtain ⟨_, a, b⟩ := fl_mem.mp m
    omega
/-- a rising list has its least first, its greatest last -/
theorem fl_ends {h t d : Int} {k : Nat} (hk : 0 < k) (z : ¬ lowI h d > highI t k d) : ∃ (l : List Nat) (r : List Nat) (a b : Nat), fl h t d k k = a :: r ∧ fl h t d k k = l ++ [b] ∧ (a : Int) = lowI h d ∧ (b : Int) = highI t k d := by
  have hh := high_lt t d hk
  have hl := low_nn h d
  have ml' : (lowI h d).toNat ∈ fl h t d k k := fl_mem.mpr ⟨by omega, by omega, by omega⟩
  have mh : (highI t k d).toNat ∈ fl h t d k k := fl_mem.mpr ⟨by omega, by omega, by omega⟩
  have ne : fl h t d k k ≠ [] := List.ne_nil_of_mem ml'
  have st := fl_sorted h t d k
  obtain ⟨a, r, e1⟩ : ∃ a r, fl h t d k k = a :: r := by
    cases e : fl h t d k k with
    | nil => exact absurd e ne
    | cons x r => exact ⟨x, r, rfl⟩
  have e2 : fl h t d k k = (fl h t d k k).dropLast ++ [(fl h t d k k).getLast ne] := (List.dropLast_concat_getLast ne).symm
  refine ⟨_, r, a, _, e1, e2, ?_, ?_⟩
  · have ma : a ∈ fl h t d k k := by rw [e1]; exact List.mem_cons_self
    obtain ⟨_, g1, g2⟩ := fl_mem.mp ma
    have le : a ≤ (lowI h d).toNat := by
      rw [e1] at ml' st
      rcases List.mem_cons.mp ml' with q | q
      · omega
      · have := (List.pairwise_cons.mp st).1 _ q
        omega
    omega
  · have mb := List.getLast_mem ne
    obtain ⟨_, g1, g2⟩ := fl_mem.mp mb
    have le : (highI t k d).toNat ≤ (fl h t d k k).getLast ne := by
      have st2 := st
      rw [e2] at mh st2
      rcases List.mem_append.mp mh with q | q
      · have := (List.pairwise_append.mp st2).2.2 _ q _ List.mem_cons_self
        omega
      · have : (highI t k d).toNat = (fl h t d k k).getLast ne := by simpa using q
        omega
    omega
end Sh

namespace Sh
open PySem PySem.Spec PyProof.Rows L2
def spRight : Sp := fun vs H Q _ => ∃ b : Addr, vs = [.ref b] ∧ BoxAt H b 100000 ∧ ∀ H', But b H H' → Q (.bl true) H'
end Sh

namespace Sh
open PySem PySem.Spec PyProof.Rows L2
/-- where the sea and the box stand -/
structure Sit (b p q : Addr) (h t : Int) (ds : List Int) (n : Nat) (H H' : Hp) : Prop where
  box : BoxAt H' b n
  but : But b H H'
  hp : H' p = some (.tup [.int h, .int t, .ref q])
  hq : H' q = some (.tup (ds.map V.int))
  pb : p ≠ b
  qb : q ≠ b
theorem Sit.same {b p q : Addr} {h t : Int} {ds : List Int} {n : Nat} {H H' H2 : Hp} (s : Sit b p q h t ds n H H') (e : Same H' H2) : Sit b p q h t ds n H H2 :=
  ⟨s.box.same e, s.but.trans (Same.but e), e _ _ s.hp, e _ _ s.hq, s.pb, s.qb⟩
theorem Sit.sea {K : PySem.W.Frag} {b p q : Addr} {h t : Int} {ds : List Int} {n : Nat} {H H' : Hp} (s : Sit b p q h t ds n H H') : SeaA K H' (.ref p) h t ds := ⟨p, q, rfl, SqA.t s.hp, SqA.t s.hq⟩
abbrev s__law_right : Stmt := topS 15
theorem sc__law_right : FnScope (["_law_box_here", "_law_turn", "_law_pool", "_law_count", "_law_marks", "_law_at", "_law_told", "_law_due", "_law_heard", "_law_whom", "_law_steps"] : List Str) (["_law_box_here"] : List Str) (defScope s__law_right) := ⟨rfl, rfl, rfl, by decide +kernel, rfl, by decide +kernel, by decide +kernel⟩
theorem b__law_right (kV doc pm : Value) (an : Option Addr) (cdv ct : Value) (us : List Value) (hl : us.length = (["_law_box_here"] : List Str).length) : bindArgs (PySem.W.fnOf "_law_right" "_law_right" (defArgs s__law_right) (defBody s__law_right) (defScope s__law_right) .none kV doc pm an cdv ct) ⟨us, []⟩ = pure ((["_law_box_here"] : List Str).zip us) :=
  match us, hl with | [_], _ => rfl
section
variable {P : Program} {w : World} {K : PySem.W.Frag} {mg : Str → Option Value} {base : Heap}
set_option maxHeartbeats 8000000 in
theorem ok_right {k : Nat} (hk : 3 ≤ k) (D : Df K mg "_law_right" s__law_right) (T : Bt mg) (O__law_take : Ok P w K mg base k "_law_take" s__law_take ["_law_box_here", "_law_span"] spTake)
    (O__law_sea : Ok P w K mg base k "_law_sea" s__law_sea ["_law_box_here", "_law_most"] spSea) (O__law_same : Ok P w K mg base 3 "_law_same" s__law_same ["_law_found", "_law_due"] (spSame K 3))
    (O_mark_at : Ok P w K mg base k "mark_at" s_mark_at ["sea", "step"] (spMark K)) (O_goers_at : Ok P w K mg base k "goers_at" s_goers_at ["sea", "step"] (spGoers K))
    (O_top_step : Ok P w K mg base k "top_step" s_top_step ["sea"] (spTop K)) (O_window_of : Ok P w K mg base k "window_of" s_window_of ["sea", "ship"] (spWindow K)) :
    Ok P w K mg base (k + 1) "_law_right" s__law_right ["_law_box_here"] spRight := by
  refine D.ok sc__law_right b__law_right (fun vs H Q E h => ?_) (fun f cdv A outer s H vs Q E hr h => ?_)
  · obtain ⟨b, rfl, _⟩ := h
    rfl
  · obtain ⟨b, rfl, hb, q⟩ := h
    refine ⟨_, (pss_cons (ps_for PassesOwn.never rfl (pi_range1 (by rfl) T.range_ (pa_cons pe_int pa_nil)) (pg_name (i := 1) sc__law_right.nd rfl (.inl rfl))
        (pss_cons (ps_set (i := 2) sc__law_right.nd rfl (.inr rfl) (pe_fn O__law_sea (hr.mono (by omega)) (pa_cons (pv 0) (pa_cons pe_int pa_nil))))
          (pss_cons (ps_set (i := 3) sc__law_right.nd rfl (.inl rfl) (pe_callB call_len_seq (by rfl) T.len_ PySem.boot_len (pa_cons (pe_ix ix_lt (pv 2) pe_int (fun _ _ => rfl)) pa_nil)))
          (Evl.pss_cut (ps_if (pt_cmpR op_eq (pe_fn O__law_take (hr.mono (by omega)) (pa_cons (pv 0) (pa_cons pe_int pa_nil))) pe_int (nomark _))
            (pss_one (ps_set (i := 2) sc__law_right.nd rfl (.inr rfl) (pe_tup (pa_cons (pe_op op_add (pe_ix ix_lt (pv 2) pe_int (fun _ _ => rfl)) (pe_op op_mul (pv 3) (pe_fn O__law_take (hr.mono (by omega)) (pa_cons (pv 0) (pa_cons pe_int pa_nil))))) (pa_cons (pe_op op_add (pe_ix ix_lt (pv 2) pe_int (fun _ _ => rfl)) (pe_fn O__law_take (hr.mono (by omega)) (pa_cons (pv 0) (pa_cons (pe_op op_mul pe_int (pv 3)) pa_nil)))) (pa_cons (pe_ix ix_lt (pv 2) pe_int (fun _ _ => rfl)) pa_nil))))))
            pss_nil)
          (pss_cons (ps_set (i := 4) sc__law_right.nd rfl (.inr rfl) (pe_lst pa_nil))
          (pss_cons (ps_for PassesOwn.never rfl (pi_range1 (by rfl) T.range_ (pa_cons (pv 3) pa_nil)) (pg_name (i := 5) sc__law_right.nd rfl (.inr rfl))
            (pss_one (ps_expr (pe_bm PySem.F.plainAttrs_list PySem.F.slot_list_append PySem.F.type_list_append mt_append (pv 4) (pa_cons (pe_callB (call_min2 rfl) (by rfl) T.min_ (by decide +kernel) (pa_cons (pe_op op_add (pe_ix ix_lt (pv 2) pe_int (fun _ _ => rfl)) (pv 5)) (pa_cons (pe_op op_sub (pe_op op_sub (pe_op op_add (pe_ix ix_lt (pv 2) pe_int (fun _ _ => rfl)) (pv 3)) pe_int) (pv 5)) pa_nil))) pa_nil)))))
          (pss_cons (ps_setLc (i := 6) (own := [("_law_at", 5)]) (g := (gName 5)) (tt := tYes) (by rfl) sc__law_right.nd rfl rfl (sw_true rfl rfl rfl (by decide +kernel)) (pi_range1 (by rfl) T.range_ (pa_cons (pv 3) pa_nil)) (blkOk_by (own := [("_law_at", 5)]) (N := (["_law_box_here", "_law_turn", "_law_pool", "_law_count", "_law_marks", "_law_at", "_law_told", "_law_due", "_law_heard", "_law_whom", "_law_steps"] : List Str)) (sc := defScope s__law_right) (by decide +kernel)) (fun _ _ _ _ _ => (pg_name (i := 5) sc__law_right.nd rfl (.inl rfl))) (fun _ _ _ _ _ => pts_nil) (fun _ _ _ _ _ => (pe_fn O_mark_at (hr.mono (by omega)) (pa_cons (pv 2) (pa_cons (pv 5) pa_nil)))))
          (pss_cons (ps_if (PW.pt (pw_or (pt_not (pt_val (pe_fn O__law_same (hr.mono (by omega)) (pa_cons (pv 6) (pa_cons (pv 4) pa_nil))))) (pw_or1 (pt_not (pt_val (pe_fn O__law_same (hr.mono (by omega)) (pa_cons (pe_fnK0 (ks := ["sea"]) [0] O_top_step (hr.mono (by omega)) (fun _ _ _ _ _ _ ws hk => match ws, hk with | [_], _ => rfl) (pk_cons (pv 2) pk_nil)) (pa_cons (pe_bm PySem.F.plainAttrs_list PySem.F.slot_list_index PySem.F.type_list_index mt_index (pv 4) (pa_cons (pe_callB (cr_max rfl) (by rfl) T.max_ (by decide +kernel) (pa_cons (pv 4) pa_nil)) pa_nil)) pa_nil))))))))
            (pss_one (ps_ret pe_bl))
            pss_nil)
          (pss_cons (ps_for PassesOwn.never rfl (pi_range1 (by rfl) T.range_ (pa_cons (pv 3) pa_nil)) (pg_name (i := 5) sc__law_right.nd rfl (.inr rfl))
            (pss_cons (ps_setLc (i := 7) (own := [("_law_whom", 9)]) (g := (gName 9)) (by rfl) sc__law_right.nd rfl rfl (sw_true rfl rfl rfl (by decide +kernel)) (pi_range1 (by rfl) T.range_ (pa_cons (pv 3) pa_nil)) (blkOk_by (own := [("_law_whom", 9)]) (N := (["_law_box_here", "_law_turn", "_law_pool", "_law_count", "_law_marks", "_law_at", "_law_told", "_law_due", "_law_heard", "_law_whom", "_law_steps"] : List Str)) (sc := defScope s__law_right) (by decide +kernel)) (fun _ _ _ _ _ => (pg_name (i := 9) sc__law_right.nd rfl (.inl rfl))) (fun _ _ _ _ _ => (pts_one (pt_cmpR op_le (pe_ix (ix_ltK K) (pe_ix (ix_ltK K) (pv 2) pe_int (fun _ _ => rfl)) (pv 9) (fun _ _ => rfl)) (pe_ix (ix_ltK K) (pv 4) (pv 5) (fun _ _ => rfl)) (nomark _)))) (fun _ _ _ _ _ => (pv 9)))
              (pss_cons (ps_set (i := 8) sc__law_right.nd rfl (.inl rfl) (pe_fn O_goers_at (hr.mono (by omega)) (pa_cons (pv 2) (pa_cons (pv 5) pa_nil))))
              (pss_cons (ps_if (pt_not (pt_val (pe_fn O__law_same (hr.mono (by omega)) (pa_cons (pe_lst (pa_cons (pv 8) (pa_cons (pe_fnK0 (ks := ["step", "sea"]) [1, 0] O_mark_at (hr.mono (by omega)) (fun _ _ _ _ _ _ ws hk => match ws, hk with | [_, _], _ => rfl) (pk_cons (pv 5) (pk_cons (pe_callTy call_list_of (by rfl) T.list_ (by decide +kernel) (pa_cons (pv 2) pa_nil)) pk_nil))) pa_nil))) (pa_cons (pe_lst (pa_cons (pv 7) (pa_cons (pe_ix ix_lt (pv 4) (pv 5) (fun _ _ => rfl)) pa_nil))) pa_nil)))))
                (pss_one (ps_ret pe_bl))
                pss_nil)
              (pss_cons (ps_expr (pe_bm PySem.F.plainAttrs_list PySem.F.slot_list_append PySem.F.type_list_append mt_append (pv 8) (pa_cons (pv 3) pa_nil)))
              (pss_one (ps_if (pt_not (pt_val (pe_fn O__law_same (hr.mono (by omega)) (pa_cons (pe_fnK0 (ks := ["step", "sea"]) [1, 0] O_goers_at (hr.mono (by omega)) (fun _ _ _ _ _ _ ws hk => match ws, hk with | [_, _], _ => rfl) (pk_cons (pv 5) (pk_cons (pv 2) pk_nil))) (pa_cons (pv 7) pa_nil)))))
                (pss_one (ps_ret pe_bl))
                pss_nil)))))))
          (pss_one (ps_for PassesOwn.never rfl (pi_range1 (by rfl) T.range_ (pa_cons (pv 3) pa_nil)) (pg_name (i := 9) sc__law_right.nd rfl (.inr rfl))
            (pss_cons (ps_setLc (i := 10) (own := [("_law_at", 5)]) (g := (gName 5)) (by rfl) sc__law_right.nd rfl rfl (sw_true rfl rfl rfl (by decide +kernel)) (pi_range1 (by rfl) T.range_ (pa_cons (pv 3) pa_nil)) (blkOk_by (own := [("_law_at", 5)]) (N := (["_law_box_here", "_law_turn", "_law_pool", "_law_count", "_law_marks", "_law_at", "_law_told", "_law_due", "_law_heard", "_law_whom", "_law_steps"] : List Str)) (sc := defScope s__law_right) (by decide +kernel)) (fun _ _ _ _ _ => (pg_name (i := 5) sc__law_right.nd rfl (.inl rfl))) (fun _ _ _ _ _ => (pts_one (pt_cmpR op_le (pe_ix (ix_ltK K) (pe_ix (ix_ltK K) (pv 2) pe_int (fun _ _ => rfl)) (pv 9) (fun _ _ => rfl)) (pe_ix (ix_ltK K) (pv 4) (pv 5) (fun _ _ => rfl)) (nomark _)))) (fun _ _ _ _ _ => (pv 5)))
              (pss_cons (ps_set (i := 7) sc__law_right.nd rfl (.inl rfl) (pe_ifExp (pt_cmpR (op_eqD hr.units) (pv 10) (pe_lst pa_nil) (nomark _)) pe_non (pe_tup (pa_cons (pe_ix ix_lt (pv 10) pe_int (fun _ _ => rfl)) (pa_cons (pe_ix ix_lt (pv 10) (pe_un un_neg pe_int) (fun _ _ => rfl)) pa_nil)))))
              (pss_one (ps_if (pt_not (pt_val (pe_fn O__law_same (hr.mono (by omega)) (pa_cons (pe_lst (pa_cons (pe_fn O_window_of (hr.mono (by omega)) (pa_cons (pv 2) (pa_cons (pv 9) pa_nil))) (pa_cons (pe_fnK0 (ks := ["ship", "sea"]) [1, 0] O_window_of (hr.mono (by omega)) (fun _ _ _ _ _ _ ws hk => match ws, hk with | [_, _], _ => rfl) (pk_cons (pv 9) (pk_cons (pv 2) pk_nil))) pa_nil))) (pa_cons (pe_lst (pa_cons (pv 7) (pa_cons (pv 7) pa_nil))) pa_nil)))))
                (pss_one (ps_ret pe_bl))
                pss_nil)))))))))))))))
      (pss_one (ps_ret pe_bl))), ?_⟩
    refine ⟨4, rfl, by decide, by decide, for_range (lo := 0) (n := 4) (fun i σ H' => ∃ y1 y2 y3 y4 y5 y6 y7 y8 y9 y10 : Option V, σ = [some (.ref b), y1, y2, y3, y4, y5, y6, y7, y8, y9, y10] ∧ BoxAt H' b (100000 - 1000 * i) ∧ But b H H')
      ⟨none, none, none, none, none, none, none, none, none, none, rfl, hb, But.refl b H⟩ ?_ ?_⟩
    · rintro i σ Hc hi ⟨y1, y2, y3, y4, y5, y6, y7, y8, y9, y10, rfl, xc, uc⟩
      have hi4 : i < 4 := hi
      -- pool, count
      refine ⟨_, rfl, b, 100000 - 1000 * i - 200, 24, rfl, by decide, by decide, xc.mono (by omega), fun H1 p q' h t ds u1 x1 np nq hp hq so => ?_⟩
      refine ⟨_, rfl, p, _, 2, .ref q', rfl, rfl, SqA.t hp, rfl, q', _, rfl, .inr (SqT.of hq), ?_⟩
      rw [List.length_map]
      have pb : p ≠ b := (xc.ne np).symm
      have qb : q' ≠ b := (xc.ne nq).symm
      have k0 := so.l0
      have k1 := so.l1
      -- if take(box, 3) == 0
      refine ⟨fun σ' H' => ∃ (p' : Addr) (h' t' : Int) (z4 z5 z6 z7 z8 z9 z10 : Option V), σ' = [some (.ref b), some (.int (0 + (i : Int))), some (.ref p'), some (.int (ds.length : Int)), z4, z5, z6, z7, z8, z9, z10] ∧ Sit b p' q' h' t' ds (100000 - 1000 * i - 300) H H', ?_, ?_⟩
      · refine ⟨_, rfl, b, 100000 - 1000 * i - 201, 3, rfl, by decide, by decide, x1.mono (by omega), fun v ys v0 v1 y => ?_⟩
        obtain ⟨u2, x2⟩ := tk (uc.trans u1) y
        have hp2 : upd H1 b (.lst ys) p = some (.tup [.int h, .int t, .ref q']) := by rw [upd_ne pb]; exact hp
        have hq2 : upd H1 b (.lst ys) q' = some (.tup (ds.map V.int)) := by rw [upd_ne qb]; exact hq
        generalize upd H1 b (.lst ys) = H2 at u2 x2 hp2 hq2
        refine ⟨rfl, _, rfl, ite2 (fun c => ?_) (fun c => ?_)⟩
        · refine ⟨_, rfl, p, _, 0, .int h, rfl, rfl, SqA.t hp2, rfl, _, rfl, _, rfl, b, 100000 - 1000 * i - 202, 2, rfl, by decide, by decide, x2.mono (by omega), fun v' ys' v0' v1' y' => ?_⟩
          obtain ⟨u3, x3⟩ := tk u2 y'
          have hp3 : upd H2 b (.lst ys') p = some (.tup [.int h, .int t, .ref q']) := by rw [upd_ne pb]; exact hp2
          have hq3 : upd H2 b (.lst ys') q' = some (.tup (ds.map V.int)) := by rw [upd_ne qb]; exact hq2
          generalize upd H2 b (.lst ys') = H3 at u3 x3 hp3 hq3
          refine ⟨_, v', rfl, rfl, .inr ⟨by omega, by omega⟩, h, _, rfl, rfl, ?_⟩
          refine ⟨_, rfl, p, _, 1, .int t, rfl, rfl, SqA.t hp3, rfl, _, rfl, _, rfl, 2, _, rfl, rfl, .inl ⟨by decide, by decide⟩, b, 100000 - 1000 * i - 203, 2 * (ds.length : Int), rfl, by omega, by omega, x3.mono (by omega), fun v2 ys2 v02 v12 y2' => ?_⟩
          obtain ⟨u4, x4⟩ := tk u3 y2'
          have hp4 : upd H3 b (.lst ys2) p = some (.tup [.int h, .int t, .ref q']) := by rw [upd_ne pb]; exact hp3
          have hq4 : upd H3 b (.lst ys2) q' = some (.tup (ds.map V.int)) := by rw [upd_ne qb]; exact hq3
          generalize upd H3 b (.lst ys2) = H4 at u4 x4 hp4 hq4
          refine ⟨t, v2, rfl, rfl, _, rfl, p, _, 2, .ref q', rfl, rfl, SqA.t hp4, rfl, (by show 3 ≤ sizeLine; decide), fun p' np' => ?_⟩
          obtain ⟨u5, x5, e5, n5⟩ := al (o := .tup [.int (h + (ds.length : Int) * v'), .int (t + v2), .ref q']) u4 x4 np'
          refine ⟨p', h + (ds.length : Int) * v', t + v2, _, _, _, _, _, _, _, rfl, x5.mono (by omega), u5, e5, ?_, n5, qb⟩
          rw [upd_ne (ne_of_none hq4 np')]
          exact hq4
        · exact ⟨p, h, t, _, _, _, _, _, _, _, rfl, x2.mono (by omega), u2, hp2, hq2, pb, qb⟩
      clear hp hq u1 x1 np nq pb
      rintro σ' H' ⟨p', h', t', z4, z5, z6, z7, z8, z9, z10, rfl, si⟩
      -- marks
      refine ⟨Nat.zero_le _, fun m nm => ?_⟩
      have si1 : Sit b p' q' h' t' ds (100000 - 1000 * i - 300) H (upd H' m (.lst [])) := si.same (same_new nm)
      have mp : m ≠ p' := (ne_of_none si.hp nm).symm
      have mq : m ≠ q' := (ne_of_none si.hq nm).symm
      have mb : m ≠ b := (si.box.ne nm).symm
      have lk : (ds.length : Int).toNat = ds.length := by omega
      refine ⟨_, rfl, _, rfl, by omega, by omega, ?_⟩
      rw [lk]
      refine for_range (lo := 0) (n := ds.length) (fun j σ H2 => ∃ z5 : Option V, σ = [some (.ref b), some (.int (0 + (i : Int))), some (.ref p'), some (.int (ds.length : Int)), some (.ref m), z5, z6, z7, z8, z9, z10] ∧ Sit b p' q' h' t' ds (100000 - 1000 * i - 300) H H2 ∧ H2 m = some (.lst ((ml h' t' ds.length j).map V.int)))
        ⟨z5, rfl, si1, upd_same⟩ ?_ ?_
      · rintro j σ H2 hj ⟨z5', rfl, si2, hm⟩
        refine ⟨_, rfl, .inl ⟨rfl, _, SqL.of hm⟩, ?_⟩
        refine ⟨_, rfl, p', _, 0, .int h', rfl, rfl, SqA.t si2.hp, rfl, _, rfl, h', _, rfl, rfl, _, rfl, p', _, 1, .int t', rfl, rfl, SqA.t si2.hp, rfl, _, rfl, t', _, rfl, rfl, _, 1, rfl, rfl, _, rfl, _, _, rfl, rfl, _, _, rfl, ?_⟩
        refine ⟨m, _, _, rfl, rfl, hm, ?_, _, rfl, ⟨si2.box.at mb.symm, fun a o na e => ?_, ?_, ?_, si2.pb, si2.qb⟩, ?_⟩
        · rw [List.length_map, ml_len]
          exact small1000 (by omega)
        · have na' : a ≠ m := ne_of_none e (si.but.free mb nm)
          rw [upd_ne na']
          exact si2.but a o na e
        · rw [upd_ne mp.symm]
          exact si2.hp
        · rw [upd_ne mq.symm]
          exact si2.hq
        · rw [upd_same, ml_succ, List.map_append]
          have e := (mk_alt h' t' ds.length (0 + (j : Int))).trans (congrArg (mk h' t' ds.length) (Int.zero_add (j : Int)))
          exact congrArg (fun z => some (HO.lst ((ml h' t' ds.length j).map V.int ++ [V.int z]))) e
      · rintro σ H2 ⟨z5', rfl, si2, hm⟩
        -- told
        refine ⟨_, rfl, _, rfl, by omega, by omega, fun C nC => ?_⟩
        rw [lk]
        refine lc_range (fun j H3 => Same H2 H3 ∧ H3 C = some (.lst ((ml h' t' ds.length j).map V.int))) ⟨same_new nC, upd_same⟩ ?_ ?_
        · rintro j H3 hj ⟨sm, hC⟩
          refine ⟨rfl, tyes (iteT ?_)⟩
          refine ⟨_, rfl, _, rfl, _, h', t', _, ds, rfl, (si2.same sm).sea, _, hC, ?_, same_over sm nC, ?_⟩
          · rw [List.length_map, ml_len]
            exact small1000 (by omega)
          · rw [upd_same, ml_succ, List.map_append]
            exact congrArg (fun z => some (HO.lst ((ml h' t' ds.length j).map V.int ++ [V.int z]))) (congrArg (mk h' t' ds.length) (Int.zero_add (j : Int)))
        rintro H3 ⟨sm3, hC⟩
        have si3 := si2.same sm3
        have hm3 := sm3 _ _ hm
        clear si si1 si2 hm nm
        have dml : ∀ {H4 : Hp} {a : Addr}, H4 a = some (.lst ((ml h' t' ds.length ds.length).map V.int)) → Dp K H4 (.ref a) (.list ((ml h' t' ds.length ds.length).map .int)) := fun e => .lst (SqL.of e) (DpAll.ints _)
        -- same(told, marks), same(top_step(sea=pool), marks.index(max(marks)))
        refine ⟨_, rfl, _, rfl, .ref C, .ref m, _, rfl, dml hC, dml hm3, lv_ints _ (by rw [ml_len]; omega), fun H4 s4 => ⟨true, rfl, iteF ?_⟩⟩
        have hm4 := s4 _ _ hm3
        have si4 := si3.same s4
        have lm0 : 0 < (ml h' t' ds.length ds.length).length := by rw [ml_len]; exact k0
        refine ⟨_, rfl, ⟨rfl, rfl⟩, .ref p', h', t', ds, rfl, si4.sea, ?_⟩
        refine ⟨_, rfl, .inl ⟨rfl, _, SqL.of hm4⟩, _, rfl, m, _, rfl, SqL.of hm4, lm0, fun mx mm mle => ?_⟩
        have tl := top_lo h' t' ds.length
        have th := top_hi h' t' k0
        have tg : (ml h' t' ds.length ds.length)[(topI h' t' ds.length).toNat]? = some (mk h' t' ds.length (topI h' t' ds.length)) := by
          rw [ml_get (by omega), show (((topI h' t' ds.length).toNat : Nat) : Int) = topI h' t' ds.length by omega]
        have em : mk h' t' ds.length (topI h' t' ds.length) = mx := by
          have a1 := mle _ (List.mem_of_getElem? tg)
          obtain ⟨i0, hi0, e0⟩ := List.mem_map.mp (show mx ∈ (List.range ds.length).map fun (i : Nat) => mk h' t' ds.length (i : Int) from mm)
          have a2 := top_max h' t' (List.mem_range.mp hi0)
          omega
        refine ⟨m, _, .int mx, (topI h' t' ds.length).toNat, .int mx, rfl, rfl, SqL.of hm4, rfl, flat_ints _, ?_, ?_, ?_, ?_⟩
        · rw [List.getElem?_map, tg, em]
          rfl
        · exact beq_self_eq_true mx
        · intro j z' hj hz'
          rw [List.getElem?_map, ml_get (show j < ds.length by omega)] at hz'
          obtain rfl : V.int (mk h' t' ds.length (j : Int)) = z' := Option.some.inj hz'
          have := top_least h' t' (show (j : Int) < topI h' t' ds.length by omega)
          exact beq_eq_false_iff_ne.mpr (by omega)
        rw [show (((topI h' t' ds.length).toNat : Nat) : Int) = topI h' t' ds.length by omega]
        refine ⟨_, _, .int (topI h' t' ds.length), rfl, .int _, .int _, trivial, fun H5 s5 => ⟨true, rfl, iteF ?_⟩⟩
        have hm5 := s5 _ _ hm4
        have si5 := si4.same s5
        clear hC hm3 hm4 si3 si4 s4 s5 sm3 dml
        -- goers
        refine ⟨_, rfl, _, rfl, by omega, by omega, ?_⟩
        rw [lk]
        have gl : ∀ (mm : Int) (n : Nat), n ≤ ds.length → (((gs mm ds n).map fun (i : Nat) => (i : Int))).length ≤ 100000 := fun mm n hn => by
          rw [List.length_map]
          have := gs_len (m := mm) (ds := ds) (n := n)
          omega
        refine for_range (lo := 0) (n := ds.length) (fun j σ H6 => ∃ z5 z7 z8 : Option V, σ = [some (.ref b), some (.int (0 + (i : Int))), some (.ref p'), some (.int (ds.length : Int)), some (.ref m), z5, some (.ref C), z7, z8, z9, z10] ∧ Same H5 H6) ⟨_, _, _, rfl, Same.refl _⟩ ?_ ?_
        · rintro j σ H6 hj ⟨z5'', z7', z8', rfl, s6⟩
          have hj' : j < ds.length := hj
          have si6 := si5.same s6
          have hm6 := s6 _ _ hm5
          have gm : ((ml h' t' ds.length ds.length).map V.int)[j]? = some (.int (mk h' t' ds.length (j : Int))) := by rw [List.getElem?_map, ml_get hj']; rfl
          -- due
          refine ⟨_, rfl, _, rfl, by omega, by omega, fun C2 nC2 => ?_⟩
          rw [lk]
          refine lc_range (fun l H7 => Same H6 H7 ∧ H7 C2 = some (.lst (((gs (mk h' t' ds.length (j : Int)) ds l).map fun (i : Nat) => (i : Int)).map V.int))) ⟨same_new nC2, upd_same⟩ ?_ ?_
          · rintro l H7 hl ⟨s7, hC2⟩
            have hl' : l < ds.length := hl
            have si7 := si6.same s7
            have ed : ds.getD l 0 = ds[l] := by simp [hl']
            refine ⟨rfl, ?_⟩
            refine ⟨_, rfl, p', _, 2, .ref q', rfl, rfl, SqA.t si7.hp, rfl, _, rfl, q', _, _, .int ds[l], rfl, rfl, SqA.t si7.hq, at_nat (j := l) (by omega) (by simp [hl']), _, rfl, _, rfl, m, _, _, _, rfl, rfl, SqA.l (s7 _ _ hm6), at_nat (j := j) (by omega) gm, ds[l], _, rfl, rfl, _, rfl, ite2 (fun c => ?_) (fun c => ?_)⟩
            · have c0 : ds[l] ≤ mk h' t' ds.length (j : Int) := of_decide_eq_true c
              refine ⟨_, rfl, _, hC2, ?_, same_over s7 nC2, ?_⟩
              · rw [List.length_map]
                exact Nat.lt_of_le_of_lt (gl _ _ (by omega)) (by decide)
              · rw [upd_same, gs_succ, ed, if_pos c0, List.map_append, List.map_append]
                exact congrArg (fun z => some (HO.lst (((gs (mk h' t' ds.length (j : Int)) ds l).map fun (i : Nat) => (i : Int)).map V.int ++ [V.int z]))) (Int.zero_add (l : Int))
            · have c0 : ¬ ds[l] ≤ mk h' t' ds.length (j : Int) := fun z => c (decide_eq_true z)
              refine ⟨s7, ?_⟩
              rw [hC2, gs_succ, ed, if_neg c0, List.append_nil]
          rintro H7 ⟨s7, hC2⟩
          have si7 := si6.same s7
          have hm7 := s7 _ _ hm6
          -- heard
          refine ⟨_, rfl, _, rfl, .ref p', h', t', _, ds, rfl, si7.sea, by omega, fun H8 g s8 ng hg => ?_⟩
          rw [Int.zero_add] at hg
          have si8 := si7.same s8
          have hm8 := s8 _ _ hm7
          have hC8 := s8 _ _ hC2
          have gC2 : C2 ≠ g := ne_of_none hC2 ng
          -- same([heard, mark_at(step=at, sea=list(pool))], [due, marks[at]])
          refine ⟨_, rfl, _, rfl, _, rfl, p', _, rfl, .inr (SqT.of si8.hp), fun l nl => ?_⟩
          have s9 : Same H8 (upd H8 l (.lst [.int h', .int t', .ref q'])) := same_new nl
          refine ⟨⟨rfl, rfl⟩, .ref l, h', t', _, ds, rfl, ⟨l, q', rfl, SqA.l upd_same, Same.sqA s9 (SqA.t si8.hq)⟩, ?_⟩
          generalize upd H8 l (.lst [.int h', .int t', .ref q']) = H9 at s9
          refine ⟨(by show 2 ≤ sizeLine; decide), fun L1 nL1 => ?_⟩
          rw [Int.zero_add (j : Int)]
          have s10 : Same H9 (upd H9 L1 (.lst [.ref g, .int (mk h' t' ds.length (j : Int))])) := same_new nL1
          have e10 : upd H9 L1 (.lst [.ref g, .int (mk h' t' ds.length (j : Int))]) L1 = _ := upd_same
          generalize upd H9 L1 (.lst [.ref g, .int (mk h' t' ds.length (j : Int))]) = H10 at s10 e10
          have s810 := s9.trans s10
          refine ⟨_, rfl, _, rfl, _, rfl, m, _, _, _, rfl, rfl, SqA.l (s810 _ _ hm8), at_nat (j := j) rfl gm, (by show 2 ≤ sizeLine; decide), fun L2 nL2 => ?_⟩
          have s11 : Same H10 (upd H10 L2 (.lst [.ref C2, .int (mk h' t' ds.length (j : Int))])) := same_new nL2
          have e11 : upd H10 L2 (.lst [.ref C2, .int (mk h' t' ds.length (j : Int))]) L2 = _ := upd_same
          generalize upd H10 L2 (.lst [.ref C2, .int (mk h' t' ds.length (j : Int))]) = H11 at s11 e11
          have s811 := s810.trans s11
          refine ⟨.ref L1, .ref L2, .list [.list (((gs (mk h' t' ds.length (j : Int)) ds ds.length).map fun (i : Nat) => (i : Int)).map .int), .int (mk h' t' ds.length (j : Int))], rfl,
            .lst (SqL.of (s11 _ _ e10)) (.cons (.lst (SqL.of (s811 _ _ hg)) (DpAll.ints _)) (.cons (.int _) .nil)), .lst (SqL.of e11) (.cons (.lst (SqL.of (s811 _ _ hC8)) (DpAll.ints _)) (.cons (.int _) .nil)), ?_, fun H12 s12 => ⟨true, rfl, iteF ?_⟩⟩
          · refine ⟨by show 2 ≤ 100000; decide, fun e he => ?_⟩
            rcases List.mem_cons.mp he with z | z
            · rw [z]
              exact lv_ints _ (gl _ _ (Nat.le_refl _))
            · rw [List.mem_singleton.mp z]
              exact trivial
          have s812 := s811.trans s12
          have hg12 := s812 _ _ hg
          -- heard.append(count)
          refine ⟨_, rfl, .inl ⟨rfl, _, SqL.of hg12⟩, _, rfl, g, _, _, rfl, rfl, hg12, ?_, ?_⟩
          · rw [List.length_map]
            exact Nat.lt_of_le_of_lt (gl _ _ (Nat.le_refl _)) (by decide)
          have s13 : Same H7 (upd H12 g (.lst ((((gs (mk h' t' ds.length (j : Int)) ds ds.length).map fun (i : Nat) => (i : Int)).map V.int) ++ [.int (ds.length : Int)]))) := same_over (s8.trans s812) ng
          generalize upd H12 g (.lst ((((gs (mk h' t' ds.length (j : Int)) ds ds.length).map fun (i : Nat) => (i : Int)).map V.int) ++ [.int (ds.length : Int)])) = H13 at s13
          -- same(goers_at(step=at, sea=pool), due)
          refine ⟨_, rfl, _, rfl, ⟨rfl, rfl⟩, .ref p', h', t', _, ds, rfl, (si7.same s13).sea, by omega, fun H14 g2 s14 ng2 hg2 => ?_⟩
          refine ⟨_, rfl, .ref g2, .ref C2, .list (((gs (mk h' t' ds.length (j : Int)) ds ds.length).map fun (i : Nat) => (i : Int)).map .int), rfl, .lst (SqL.of hg2) (DpAll.ints _), .lst (SqL.of (s14 _ _ (s13 _ _ hC2))) (DpAll.ints _), lv_ints _ (gl _ _ (Nat.le_refl _)), fun H15 s15 => ⟨true, rfl, iteF ?_⟩⟩
          exact ⟨_, _, _, rfl, s6.trans (s7.trans (s13.trans (s14.trans s15)))⟩
        rintro σ H6 ⟨z5'', z7', z8', rfl, s6⟩
        have si6 := si5.same s6
        have hm6 := s6 _ _ hm5
        clear si5 hm5 s6
        -- windows
        refine ⟨_, rfl, _, rfl, by omega, by omega, ?_⟩
        rw [lk]
        refine for_range (lo := 0) (n := ds.length) (fun j σ H7 => ∃ z7 z9 z10 : Option V, σ = [some (.ref b), some (.int (0 + (i : Int))), some (.ref p'), some (.int (ds.length : Int)), some (.ref m), z5'', some (.ref C), z7, z8', z9, z10] ∧ Same H6 H7) ⟨_, _, _, rfl, Same.refl _⟩ ?_ ?_
        · rintro j σ H7 hj ⟨z7'', z9', z10', rfl, s7⟩
          have hj' : j < ds.length := hj
          have si7 := si6.same s7
          have hm7 := s7 _ _ hm6
          have fll : ∀ n, n ≤ ds.length → (((fl h' t' ds[j] ds.length n).map fun (i : Nat) => (i : Int))).length ≤ 100000 := fun n hn => by
            rw [List.length_map]
            have := fl_len (h := h') (t := t') (d := ds[j]) (k := ds.length) (n := n)
            omega
          -- steps
          refine ⟨_, rfl, _, rfl, by omega, by omega, fun C2 nC2 => ?_⟩
          rw [lk]
          refine lc_range (fun l H8 => Same H7 H8 ∧ H8 C2 = some (.lst (((fl h' t' ds[j] ds.length l).map fun (i : Nat) => (i : Int)).map V.int))) ⟨same_new nC2, upd_same⟩ ?_ ?_
          · rintro l H8 hl ⟨s8, hC2⟩
            have hl' : l < ds.length := hl
            have si8 := si7.same s8
            have gm : ((ml h' t' ds.length ds.length).map V.int)[l]? = some (.int (mk h' t' ds.length (l : Int))) := by rw [List.getElem?_map, ml_get hl']; rfl
            refine ⟨rfl, ?_⟩
            refine ⟨_, rfl, p', _, 2, .ref q', rfl, rfl, SqA.t si8.hp, rfl, _, rfl, q', _, _, .int ds[j], rfl, rfl, SqA.t si8.hq, at_nat (j := j) (by omega) (by simp [hj']), _, rfl, _, rfl, m, _, _, _, rfl, rfl, SqA.l (s8 _ _ hm7), at_nat (j := l) (by omega) gm, ds[j], _, rfl, rfl, _, rfl, ite2 (fun c => ?_) (fun c => ?_)⟩
            · have c0 : ds[j] ≤ mk h' t' ds.length (l : Int) := of_decide_eq_true c
              refine ⟨_, rfl, _, hC2, ?_, same_over s8 nC2, ?_⟩
              · rw [List.length_map]
                exact Nat.lt_of_le_of_lt (fll _ (by omega)) (by decide)
              · rw [upd_same, fl_succ, if_pos c0, List.map_append, List.map_append]
                exact congrArg (fun z => some (HO.lst (((fl h' t' ds[j] ds.length l).map fun (i : Nat) => (i : Int)).map V.int ++ [V.int z]))) (Int.zero_add (l : Int))
            · have c0 : ¬ ds[j] ≤ mk h' t' ds.length (l : Int) := fun z => c (decide_eq_true z)
              refine ⟨s8, ?_⟩
              rw [hC2, fl_succ, if_neg c0, List.append_nil]
          rintro H8 ⟨s8, hC2⟩
          have si8 := si7.same s8
          -- due
          refine ⟨_, rfl, Nat.zero_le _, fun E0' nE0 => ?_⟩
          have s9 : Same H8 (upd H8 E0' (.lst [])) := same_new nE0
          have e9 : upd H8 E0' (.lst []) E0' = some (.lst []) := upd_same
          generalize upd H8 E0' (.lst []) = H9 at s9 e9
          have hC9 := s9 _ _ hC2
          have si9 := si8.same s9
          have gd : ds[j]? = some ds[j] := by simp [hj']
          refine ⟨.list (((fl h' t' ds[j] ds.length ds.length).map fun (i : Nat) => (i : Int)).map .int), .list [], .lst (SqL.of hC9) (DpAll.ints _), .lst (SqL.of e9) .nil, shaped_ints _, rfl, _, rfl, ?_⟩
          by_cases lh : lowI h' ds[j] > highI t' ds.length ds[j]
          · rw [fl_nil lh]
            refine iteT ?_
            -- same([None, None], [None, None])
            rw [Int.zero_add (j : Int)]
            refine ⟨_, rfl, _, rfl, .ref p', h', t', ds[j], j, ds, rfl, si9.sea, gd, fun _ => ?_, fun z => absurd lh z⟩
            refine ⟨_, rfl, _, rfl, ⟨rfl, rfl⟩, .ref p', h', t', ds[j], j, ds, rfl, si9.sea, gd, fun _ => ?_, fun z => absurd lh z⟩
            refine ⟨(by show 2 ≤ sizeLine; decide), fun L1 nL1 => ?_⟩
            have s10 : Same H9 (upd H9 L1 (.lst [.non, .non])) := same_new nL1
            have e10 : upd H9 L1 (.lst [.non, .non]) L1 = _ := upd_same
            generalize upd H9 L1 (.lst [.non, .non]) = H10 at s10 e10
            refine ⟨_, rfl, _, rfl, (by show 2 ≤ sizeLine; decide), fun L2 nL2 => ?_⟩
            refine ⟨.ref L1, .ref L2, .list [.none, .none], rfl, .lst (SqL.of (same_new nL2 _ _ e10)) (.cons .non (.cons .non .nil)), .lst (SqL.of upd_same) (.cons .non (.cons .non .nil)), ?_, fun H11 s11 => ⟨true, rfl, iteF ?_⟩⟩
            · refine ⟨by show 2 ≤ 100000; decide, fun e he => ?_⟩
              have he' : e = PyData.none := by simpa using he
              rw [he']
              exact trivial
            exact ⟨_, _, _, rfl, s7.trans (s8.trans (s9.trans (s10.trans ((same_new nL2).trans s11))))⟩
          · obtain ⟨l, r, a, b', e1, e2, ea, eb⟩ := fl_ends k0 lh
            have ff : PyData.eqv (.list (((fl h' t' ds[j] ds.length ds.length).map fun (i : Nat) => (i : Int)).map .int)) (.list []) = false := by rw [e1]; rfl
            rw [ff]
            refine iteF ?_
            have g0 : atI (((fl h' t' ds[j] ds.length ds.length).map fun (i : Nat) => (i : Int)).map V.int) 0 = some (.int (lowI h' ds[j])) := by
              rw [e1, ← ea]
              exact at_nat (j := 0) rfl rfl
            have g1 : atI (((fl h' t' ds[j] ds.length ds.length).map fun (i : Nat) => (i : Int)).map V.int) (-1) = some (.int (highI t' ds.length ds[j])) := by
              rw [e2, ← eb, List.map_append, List.map_append]
              exact atI_last _ _
            refine ⟨_, rfl, C2, _, 0, _, rfl, rfl, SqA.l hC9, g0, _, rfl, 1, rfl, C2, _, -1, _, rfl, rfl, SqA.l hC9, g1, (by show 2 ≤ sizeLine; decide), fun tp ntp => ?_⟩
            have s10 : Same H9 (upd H9 tp (.tup [.int (lowI h' ds[j]), .int (highI t' ds.length ds[j])])) := same_new ntp
            have e10 : upd H9 tp (.tup [.int (lowI h' ds[j]), .int (highI t' ds.length ds[j])]) tp = _ := upd_same
            generalize upd H9 tp (.tup [.int (lowI h' ds[j]), .int (highI t' ds.length ds[j])]) = H10 at s10 e10
            have si10 := si9.same s10
            rw [Int.zero_add (j : Int)]
            refine ⟨_, rfl, _, rfl, .ref p', h', t', ds[j], j, ds, rfl, si10.sea, gd, fun z => absurd z lh, fun _ w1 nw1 => ?_⟩
            have s11 : Same H10 (upd H10 w1 (.tup [.int (lowI h' ds[j]), .int (highI t' ds.length ds[j])])) := same_new nw1
            have e11 : upd H10 w1 (.tup [.int (lowI h' ds[j]), .int (highI t' ds.length ds[j])]) w1 = _ := upd_same
            generalize upd H10 w1 (.tup [.int (lowI h' ds[j]), .int (highI t' ds.length ds[j])]) = H11 at s11 e11
            have si11 := si10.same s11
            refine ⟨_, rfl, _, rfl, ⟨rfl, rfl⟩, .ref p', h', t', ds[j], j, ds, rfl, si11.sea, gd, fun z => absurd z lh, fun _ w2 nw2 => ?_⟩
            have s12 : Same H11 (upd H11 w2 (.tup [.int (lowI h' ds[j]), .int (highI t' ds.length ds[j])])) := same_new nw2
            have e12 : upd H11 w2 (.tup [.int (lowI h' ds[j]), .int (highI t' ds.length ds[j])]) w2 = _ := upd_same
            generalize upd H11 w2 (.tup [.int (lowI h' ds[j]), .int (highI t' ds.length ds[j])]) = H12 at s12 e12
            refine ⟨(by show 2 ≤ sizeLine; decide), fun L1 nL1 => ?_⟩
            have s13 : Same H12 (upd H12 L1 (.lst [.ref w1, .ref w2])) := same_new nL1
            have e13 : upd H12 L1 (.lst [.ref w1, .ref w2]) L1 = _ := upd_same
            generalize upd H12 L1 (.lst [.ref w1, .ref w2]) = H13 at s13 e13
            refine ⟨_, rfl, _, rfl, (by show 2 ≤ sizeLine; decide), fun L2 nL2 => ?_⟩
            have s14 : Same H13 (upd H13 L2 (.lst [.ref tp, .ref tp])) := same_new nL2
            have e14 : upd H13 L2 (.lst [.ref tp, .ref tp]) L2 = _ := upd_same
            generalize upd H13 L2 (.lst [.ref tp, .ref tp]) = H14 at s14 e14
            have dw : ∀ {a : Addr}, H14 a = some (.tup [.int (lowI h' ds[j]), .int (highI t' ds.length ds[j])]) → Dp K H14 (.ref a) (.tuple [.int (lowI h' ds[j]), .int (highI t' ds.length ds[j])]) := fun e => .tup (SqT.of e) (.cons (.int _) (.cons (.int _) .nil))
            have d1 := dw (s14 _ _ (s13 _ _ (s12 _ _ e11)))
            have d2 := dw (s14 _ _ (s13 _ _ e12))
            have d3 := dw (s14 _ _ (s13 _ _ (s12 _ _ (s11 _ _ e10))))
            refine ⟨.ref L1, .ref L2, .list [.tuple [.int (lowI h' ds[j]), .int (highI t' ds.length ds[j])], .tuple [.int (lowI h' ds[j]), .int (highI t' ds.length ds[j])]], rfl, .lst (SqL.of (s14 _ _ e13)) (.cons d1 (.cons d2 .nil)), .lst (SqL.of e14) (.cons d3 (.cons d3 .nil)), ?_, fun H15 s15 => ⟨true, rfl, iteF ?_⟩⟩
            · refine ⟨by show 2 ≤ 100000; decide, fun e he => ?_⟩
              have he' : e = PyData.tuple [.int (lowI h' ds[j]), .int (highI t' ds.length ds[j])] := by simpa using he
              rw [he']
              exact lv_intsT [_, _] (by show 2 ≤ 100000; decide)
            exact ⟨_, _, _, rfl, s7.trans (s8.trans (s9.trans (s10.trans (s11.trans (s12.trans (s13.trans (s14.trans s15)))))))⟩
        rintro σ H7 ⟨z7'', z9', z10', rfl, s7⟩
        have si7 := si6.same s7
        exact ⟨_, _, _, _, _, _, _, _, _, _, rfl, si7.box.mono (by omega), si7.but⟩
    · rintro σ H' ⟨y1, y2, y3, y4, y5, y6, y7, y8, y9, y10, rfl, _, u⟩
      exact q _ u
end
end Sh

namespace Sh
open PySem PySem.Spec PyProof.Rows L2
/-! ### the law itself -/
def spLaw (K : PySem.W.Frag) : Sp := fun vs H Q _ => ∃ (a : Addr) (ns : List Int), vs = [.ref a] ∧ SqL K H a (ns.map V.int) ∧ ns.length ≤ 63 ∧ ∀ H', Q (.bl true) H'
abbrev s_law : Stmt := topS 16
theorem sc_law : FnScope (["_law_script", "_law_k"] : List Str) (["_law_script"] : List Str) (defScope s_law) := ⟨rfl, rfl, rfl, by decide +kernel, rfl, by decide +kernel, by decide +kernel⟩
theorem b_law (kV doc pm : Value) (an : Option Addr) (cdv ct : Value) (us : List Value) (hl : us.length = (["_law_script"] : List Str).length) : bindArgs (PySem.W.fnOf "law" "law" (defArgs s_law) (defBody s_law) (defScope s_law) .none kV doc pm an cdv ct) ⟨us, []⟩ = pure ((["_law_script"] : List Str).zip us) :=
  match us, hl with | [_], _ => rfl
section
variable {P : Program} {w : World} {K : PySem.W.Frag} {mg : Str → Option Value} {base : Heap}
theorem ok_law {k : Nat} (D : Df K mg "law" s_law) (T : Bt mg) (O__law_box : Ok P w K mg base k "_law_box" s__law_box ["_law_script", "_law_k"] (spBox K)) (O__law_right : Ok P w K mg base k "_law_right" s__law_right ["_law_box_here"] spRight) :
    Ok P w K mg base (k + 1) "law" s_law ["_law_script"] (spLaw K) := by
  refine D.ok sc_law b_law (fun vs H Q E h => ?_) (fun f cdv A outer s H vs Q E hr h => ?_)
  · obtain ⟨a, ns, rfl, _⟩ := h
    rfl
  · obtain ⟨a, ns, rfl, hS, hl, q⟩ := h
    refine ⟨_, (pss_one (ps_ret (pe_callB (cr_all rfl) (by rfl) T.all_ (by decide +kernel) (pa_cons (pe_lc (own := [("_law_k", 1)]) (g := (gName 1)) (tt := tYes) (by rfl) sc_law.nd (pi_range1 (by rfl) T.range_ (pa_cons (pe_op op_add pe_int (pe_callB (call_min2 rfl) (by rfl) T.min_ (by decide +kernel) (pa_cons pe_int (pa_cons (pe_callB call_len_seq (by rfl) T.len_ PySem.boot_len (pa_cons (pv 0) pa_nil)) pa_nil)))) pa_nil)) (blkOk_by (own := [("_law_k", 1)]) (N := (["_law_script", "_law_k"] : List Str)) (sc := defScope s_law) (by decide +kernel)) (fun _ _ _ _ _ => (pg_name (i := 1) sc_law.nd rfl (.inl rfl))) (fun _ _ _ _ _ => pts_nil) (fun _ _ _ _ _ => (pe_fn O__law_right (hr.mono (by omega)) (pa_cons (pe_fn O__law_box (hr.mono (by omega)) (pa_cons (pv 0) (pa_cons (pv 1) pa_nil))) pa_nil)))) pa_nil)))), ?_⟩
    refine ⟨_, rfl, a, _, rfl, .inl hS, _, _, rfl, 1, _, rfl, rfl, _, rfl, ?_, ?_, fun C nC => ?_⟩
    · split <;> omega
    · rw [List.length_map]
      split <;> omega
    rw [List.length_map]
    generalize en : (1 + if (ns.length : Int) < 3 then (ns.length : Int) else 3).toNat = n
    have hn : n ≤ 4 := by
      rw [← en]
      split <;> omega
    refine lc_range (fun i H' => Same H H' ∧ H' C = some (.lst ((List.replicate i true).map V.bl))) ⟨same_new nC, upd_same⟩ ?_ ?_
    · rintro i H1 hi ⟨sm, hC⟩
      refine ⟨rfl, tyes (iteT ?_)⟩
      refine ⟨_, rfl, _, rfl, a, ns, i, ?_, by omega, sm.seq hS, fun b xs nb bx => ?_⟩
      · show [V.ref a, V.int (0 + (i : Int))] = _
        rw [Int.zero_add]
      refine ⟨b, rfl, (BoxAt.put bx).mono (by decide), fun H2 u2 => ?_⟩
      have nCb : C ≠ b := ne_of_none hC nb
      refine ⟨_, u2 _ _ nCb (by rw [upd_ne nCb]; exact hC), ?_, fun p o ho => ?_, ?_⟩
      · rw [List.length_map, List.length_replicate]
        exact small1000 (by omega)
      · have npb : p ≠ b := ne_of_none (sm _ _ ho) nb
        rw [upd_ne (ne_of_none ho nC)]
        exact u2 _ _ npb (by rw [upd_ne npb]; exact sm _ _ ho)
      · rw [upd_same, List.replicate_succ', List.map_append]
        rfl
    · rintro H1 ⟨sm, hC⟩
      refine ⟨C, _, rfl, SqL.of hC, ?_⟩
      have e : (List.replicate n true).all id = true := by simp
      rw [e]
      exact q _
theorem law_end {k : Nat} {fa : Addr} {sp : Sp} (D : Df K mg "law" s_law) (hfa : mg "law" = some (.ref fa)) (O : ∀ base, Ok P w K mg base k "law" s_law ["_law_script"] sp) :
    ∃ fd : FuncData, (∀ (s : Shared) (v : Value), BindsTo s fd ⟨[v], []⟩ [("_law_script", v)]) ∧ ∀ base : Heap, K.In base → base.Ns mainGlobals mg → FnOk P w K mg base CX0 k fa fd ["_law_script"] sp := by
  obtain ⟨f, fd, F, g⟩ := D.ex
  obtain rfl : fa = f := by
    have e := hfa.symm.trans g
    cases e
    rfl
  refine ⟨fd, fun s v => ?_, fun base _ _ => ?_⟩
  · obtain ⟨oc, od, kV, doc, pm, an, cdv, ct, osl, rfl, lk, hcd⟩ := F.ex
    exact .of_eq (b_law kV doc pm an cdv ct [v] rfl)
  · obtain ⟨f', fd', F', g', _, G⟩ := (O base).ex
    obtain rfl : fa = f' := by
      have e := g.symm.trans g'
      cases e
      rfl
    obtain ⟨_, _, _, _, _, _, _, _, _, _, lk, _⟩ := F.ex
    obtain ⟨_, _, _, _, _, _, _, _, _, _, lk', _⟩ := F'.ex
    have e := lk.symm.trans lk'
    cases e
    exact G
theorem df_mk {x : Str} {st : Stmt} {h : Heap} {f : Addr} {oc : Value} {od an : Option Addr} {sl : Array (Option Value)} {kV dc pm cd ct : Value} (X : K.In h) (G : h.Ns mainGlobals mg)
    (a : PySem.W.nsIn K mainGlobals x = some (some (.ref f))) (l : K.lookup f = some ⟨oc, od, .func (PySem.W.fnOf x x (defArgs st) (defBody st) (defScope st) .none kV dc pm an cd ct), sl⟩)
    (c : PySem.W.codeIn K cd x = true) (k : PySem.W.keepIn K (.ref f) = true) : Df K mg x st := ⟨f, _, fun_mk l c k, PySem.W.mg_of X G a⟩
theorem with_df {R : Prop} {x : Str} {st : Stmt} {h : Heap} {f : Addr} {oc : Value} {od an : Option Addr} {sl : Array (Option Value)} {kV dc pm cd ct : Value} (X : K.In h) (G : h.Ns mainGlobals mg)
    (a : PySem.W.nsIn K mainGlobals x = some (some (.ref f))) (l : K.lookup f = some ⟨oc, od, .func (PySem.W.fnOf x x (defArgs st) (defBody st) (defScope st) .none kV dc pm an cd ct), sl⟩)
    (c : PySem.W.codeIn K cd x = true) (k : PySem.W.keepIn K (.ref f) = true) (r : Df K mg x st → R) : R := r (df_mk X G a l c k)
end
end Sh

open PySem PySem.W PyProof.Rows
set_option maxHeartbeats 0 in
theorem PySem.Challenge.cw_shoalmates_k05_steps_and_marks_holds : PySem.Challenge.rw_shoalmates_k05_steps_and_marks.Holds := by
  w_on; o_law; k_head; (case hw => w_witness2)
  k_fill
  refine L2.walk_of (l := PySem.Challenge.rw_shoalmates_k05_steps_and_marks) (n := 63) (k := 6) (x := "_law_script") (CX := fun _ => L2.CX0) (sp := fun w => Sh.spLaw _) rfl (by decide) rfl ⟨rfl, by decide, by decide⟩ (fun w h Y => PySem.W.kIn_of Y) ?F (fun _ _ a ns hl _ hS => ⟨a, ns, rfl, hS, hl, fun _ => rfl⟩) (fun _ _ _ _ _ h => h)
  case F =>
    intro w mg fa h KX G hmg
    have T : Sh.Bt mg := by
      constructor <;> (refine PySem.W.mg_none_of KX G ?_; k_is)
    refine' Sh.with_df (x := "mark_of") (st := Sh.s_mark_of) KX G ?a ?l ?c ?k fun D_mark_of => ?_
    (case a => k_is); (case l => k_is); (case c => k_is); (case k => k_is)
    refine' Sh.with_df (x := "top_of") (st := Sh.s_top_of) KX G ?a ?l ?c ?k fun D_top_of => ?_
    (case a => k_is); (case l => k_is); (case c => k_is); (case k => k_is)
    refine' Sh.with_df (x := "mark_at") (st := Sh.s_mark_at) KX G ?a ?l ?c ?k fun D_mark_at => ?_
    (case a => k_is); (case l => k_is); (case c => k_is); (case k => k_is)
    refine' Sh.with_df (x := "goers_at") (st := Sh.s_goers_at) KX G ?a ?l ?c ?k fun D_goers_at => ?_
    (case a => k_is); (case l => k_is); (case c => k_is); (case k => k_is)
    refine' Sh.with_df (x := "top_step") (st := Sh.s_top_step) KX G ?a ?l ?c ?k fun D_top_step => ?_
    (case a => k_is); (case l => k_is); (case c => k_is); (case k => k_is)
    refine' Sh.with_df (x := "window_of") (st := Sh.s_window_of) KX G ?a ?l ?c ?k fun D_window_of => ?_
    (case a => k_is); (case l => k_is); (case c => k_is); (case k => k_is)
    refine' Sh.with_df (x := "_law_cell_at") (st := Sh.s__law_cell_at) KX G ?a ?l ?c ?k fun D__law_cell_at => ?_
    (case a => k_is); (case l => k_is); (case c => k_is); (case k => k_is)
    refine' Sh.with_df (x := "_law_box") (st := Sh.s__law_box) KX G ?a ?l ?c ?k fun D__law_box => ?_
    (case a => k_is); (case l => k_is); (case c => k_is); (case k => k_is)
    refine' Sh.with_df (x := "_law_take") (st := Sh.s__law_take) KX G ?a ?l ?c ?k fun D__law_take => ?_
    (case a => k_is); (case l => k_is); (case c => k_is); (case k => k_is)
    refine' Sh.with_df (x := "_law_of") (st := Sh.s__law_of) KX G ?a ?l ?c ?k fun D__law_of => ?_
    (case a => k_is); (case l => k_is); (case c => k_is); (case k => k_is)
    refine' Sh.with_df (x := "_law_same") (st := Sh.s__law_same) KX G ?a ?l ?c ?k fun D__law_same => ?_
    (case a => k_is); (case l => k_is); (case c => k_is); (case k => k_is)
    refine' Sh.with_df (x := "_law_sea") (st := Sh.s__law_sea) KX G ?a ?l ?c ?k fun D__law_sea => ?_
    (case a => k_is); (case l => k_is); (case c => k_is); (case k => k_is)
    refine' Sh.with_df (x := "_law_right") (st := Sh.s__law_right) KX G ?a ?l ?c ?k fun D__law_right => ?_
    (case a => k_is); (case l => k_is); (case c => k_is); (case k => k_is)
    refine' Sh.with_df (x := "law") (st := Sh.s_law) KX G ?a ?l ?c ?k fun D_law => ?_
    (case a => k_is); (case l => k_is); (case c => k_is); (case k => k_is)
    exact Sh.law_end D_law hmg fun base =>
      let O__law_take := Sh.ok_take (base := base) (k := 0) D__law_take T
      let O__law_cell_at := Sh.ok_cell_at (base := base) (k := 0) D__law_cell_at T
      let O__law_box := Sh.ok_box (k := 1) D__law_box T O__law_cell_at
      let O__law_of := Sh.ok_of (k := 1) D__law_of T O__law_take
      let O__law_sea := Sh.ok_sea (k := 2) D__law_sea T (O__law_take.mono (by decide)) O__law_of
      let O_mark_of := Sh.ok_mark_of (base := base) (k := 0) D_mark_of T
      let O_top_of := Sh.ok_top_of (base := base) (k := 0) D_top_of T
      let O_mark_at := Sh.ok_mark (k := 1) D_mark_at T O_mark_of
      let O_goers_at := Sh.ok_goers (k := 2) D_goers_at T O_mark_at
      let O_top_step := Sh.ok_top (k := 1) D_top_step T O_top_of
      let O_window_of := Sh.ok_window (base := base) (k := 0) D_window_of T
      Sh.ok_law (k := 5) D_law T (O__law_box.mono (by decide)) (Sh.ok_right (k := 4) (by decide) D__law_right T (O__law_take.mono (by decide)) (O__law_sea.mono (by decide)) (Sh.ok_same D__law_same T 3) (O_mark_at.mono (by decide)) (O_goers_at.mono (by decide)) (O_top_step.mono (by decide)) (O_window_of.mono (by decide)))
