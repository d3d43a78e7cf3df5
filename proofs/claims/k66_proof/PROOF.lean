import PyProof.Rows.All
import Wide.All
import OpenK.AllK
import Wide.FinOn
import KE.GoesEnum
import HandS.ForMost
import HandS.Walk
import HandS.Zip
import HandS.IsInst
import HandS.NoneIn
import HandS.SortInts
import HandS.Evl
import HandS.Conv
import HandS.Style
import HandS.Star
import HandS.More
import HandS.Strs
import HandS.SetFor
import HandS.Wide
import HandS.TupAny
import PySem.Challenge.RW_shoalmates_k66_whole_filled_and_emptied
set_option Elab.async false
set_option linter.all false
set_option maxRecDepth 100000
set_option maxHeartbeats 1000000
/-! Own layer over the hand layer: sequences (a list or a tuple), enumerate of a tuple, defs by one fact each, what is told kept under a growing heap. -/
namespace Sh
open PySem PySem.Spec PyProof.Rows L2

/-! ### heaps -/
theorem same_new {H : Hp} {p : Addr} {o : HO} (h : H p = none) : Same H (upd H p o) := fun b x e => by
  rw [upd_ne (ne_of_none e h)]
  exact e
theorem Same.tup {K : PySem.W.Frag} {H H' : Hp} {a : Addr} {xs : List V} (e : Same H H') (h : SqT K H a xs) : SqT K H' a xs := by
  rcases h with (h | ⟨o, h⟩) | h
  · exact .inl (.inl (e _ _ h))
  · exact .inl (.inr ⟨o, e _ _ h⟩)
  · exact .inr h
/-- a list or a tuple of xs is to be read at a -/
def SqA (K : PySem.W.Frag) (H : Hp) (a : Addr) (xs : List V) : Prop := SqL K H a xs ∨ SqT K H a xs
theorem Same.sqA {K : PySem.W.Frag} {H H' : Hp} {a : Addr} {xs : List V} (e : Same H H') (h : SqA K H a xs) : SqA K H' a xs := h.elim (fun q => .inl (e.seq q)) fun q => .inr (Same.tup e q)
theorem SqA.l {K : PySem.W.Frag} {H : Hp} {a : Addr} {xs : List V} (h : H a = some (.lst xs)) : SqA K H a xs := .inl (SqL.of h)
theorem SqA.t {K : PySem.W.Frag} {H : Hp} {a : Addr} {xs : List V} (h : H a = some (.tup xs)) : SqA K H a xs := .inr (SqT.of h)
/-- nothing but b has changed of what was tracked -/
def But (b : Addr) (H H' : Hp) : Prop := ∀ a o, a ≠ b → H a = some o → H' a = some o
theorem But.refl (b : Addr) (H : Hp) : But b H H := fun _ _ _ e => e
theorem But.trans {b : Addr} {H H1 H2 : Hp} (x : But b H H1) (y : But b H1 H2) : But b H H2 := fun a o n e => y a o n (x a o n e)
theorem Same.but {b : Addr} {H H' : Hp} (e : Same H H') : But b H H' := fun a o _ h => e a o h
theorem But.ups {b : Addr} {H : Hp} {o : HO} : But b H (upd H b o) := fun a x n e => by rw [upd_ne n]; exact e
theorem But.same {b : Addr} {G H H' : Hp} (x : But b H H') (g : Same G H) (n : G b = none) : Same G H' := fun a o e => x a o (ne_of_none e n) (g a o e)

section
variable {K : PySem.W.Frag} {H H' : Hp}
mutual
theorem Dp.same (e : Same H H') : ∀ {v : V} {d : PyData}, Dp K H v d → Dp K H' v d
  | _, _, .non => .non
  | _, _, .bl b => .bl b
  | _, _, .int i => .int i
  | _, _, .str x => .str x
  | _, _, .lst h a => .lst (e.seq h) (DpAll.same e a)
  | _, _, .tup h a => .tup (Same.tup e h) (DpAll.same e a)
theorem DpAll.same (e : Same H H') : ∀ {vs : List V} {ds : List PyData}, DpAll K H vs ds → DpAll K H' vs ds
  | _, _, .nil => .nil
  | _, _, .cons h a => .cons (Dp.same e h) (DpAll.same e a)
end
theorem DpAll.ints : ∀ ns : List Int, DpAll K H (ns.map V.int) (ns.map PyData.int)
  | [] => .nil
  | n :: ns => .cons (.int n) (DpAll.ints ns)
theorem DpAll.len : ∀ {vs : List V} {ds : List PyData}, DpAll K H vs ds → vs.length = ds.length
  | _, _, .nil => rfl
  | _, _, .cons _ a => congrArg Nat.succ (DpAll.len a)
theorem DpAll.get : ∀ {vs : List V} {ds : List PyData} {i : Nat} {v : V}, DpAll K H vs ds → vs[i]? = some v → ∃ d, ds[i]? = some d ∧ Dp K H v d
  | _, _, _, _, .nil, h => by simp at h
  | _, _, 0, _, .cons x _, h => by
    cases Option.some.inj h
    exact ⟨_, rfl, x⟩
  | _, _, i + 1, _, .cons _ a, h => DpAll.get (i := i) a h
end

/-! ### rules for a list or a tuple -/
section
variable {X : Cx}
def rIxA (K : PySem.W.Frag) : R2 := fun x y H Q => ∃ p xs i v, x = .ref p ∧ y = .int i ∧ SqA K H p xs ∧ atI xs i = some v ∧ Q v H
theorem ix_lt : IxR X (rIxA X.K) := fun value slice pins s σ H x y v u Q I rx ry h hs => by
  obtain ⟨p, xs, i, z, e1, e2, hq | hq, he, q⟩ := h
  · exact ix_list value slice pins s σ H x y v u Q I rx ry ⟨p, xs, i, z, e1, e2, hq, he, q⟩ hs
  · exact ix_tup value slice pins s σ H x y v u Q I rx ry ⟨p, xs, i, z, e1, e2, hq, he, q⟩ hs
/-- a written power, its worth written -/
theorem op_powC (v : Int) : OpR X (binaryOp .Pow) (rI (fun i j => CPow i j ∧ i ^ j.toNat = v) fun _ _ => .int v) := fun pins s σ H x y u w Q I rx ry h => by
  obtain ⟨i, j, e1, e2, ⟨hc, hv⟩, q⟩ := h
  exact op_pow pins s σ H x y u w Q I rx ry ⟨i, j, e1, e2, hc, show Q (.int (i ^ j.toNat)) H by rw [hv]; exact q⟩
/-- a < b < c < d -/
def tChain3 (r r' r'' : R2) (ta tb tc td : TE) : TE := fun σ H Q => ta σ H fun x H1 => tb σ H1 fun y H2 => r x y H2 fun z H3 => ∃ k, z = .bl k ∧
  (if k = true then tc σ H3 fun y' H4 => r' y y' H4 fun z' H5 => ∃ k', z' = .bl k' ∧ (if k' = true then td σ H5 fun y'' H6 => r'' y' y'' H6 Q else Q (.bl false) H5) else Q (.bl false) H3)
theorem pe_chain3 {a b c d : Expr} {ta tb tc td : TE} {pos : Pos} {op op' op'' : CmpOp} {r r' r'' : R2} (ho : OpR X (compareOp op) r) (ho' : OpR X (compareOp op') r') (ho'' : OpR X (compareOp op'') r'') (ha : PE X a ta) (hb : PE X b tb) (hc : PE X c tc) (hd : PE X d td)
    (hm : lastMarks [op, op', op''] [b, c, d] = false := by with_unfolding_all rfl) : PE X (.Compare a [op, op', op''] [b, c, d] pos) (tChain3 r r' r'' ta tb tc td) := by
  refine ⟨fun pins s σ H Q I h => ?_⟩
  refine Compare_chain (thn (ha.run pins s σ H _ I h) fun v s1 ⟨x, H1, I1, r1, q1⟩ => chain_link (thn (hb.run pins s1 σ H1 _ I1 q1) fun u s2 ⟨y, H2, I2, r2, q2⟩ =>
    thn (ho pins s2 σ H2 x y v u _ I2 r1 r2 q2) fun e s3 ⟨z, H3, I3, r3, k, ez, q3⟩ => ?_)) hm
  subst ez
  cases r3
  refine wpAny_truthy_bool ?_
  cases k with
  | false => exact ite_ff ⟨.bl false, H3, I3, rfl, q3⟩
  | true =>
    refine ite_tt (chain_link (thn (hc.run pins s3 σ H3 _ I3 q3) fun u' s4 ⟨y', H4, I4, r4, q4⟩ => thn (ho' pins s4 σ H4 y y' u u' _ I4 r2 r4 q4) fun e s5 ⟨z', H5, I5, r5, k', ez', q5⟩ => ?_))
    subst ez'
    cases r5
    refine wpAny_truthy_bool ?_
    cases k' with
    | false => exact ite_ff ⟨.bl false, H5, I5, rfl, q5⟩
    | true => exact ite_tt (chain_last (thn (hd.run pins s5 σ H5 _ I5 q5) fun w' s6 ⟨y'', H6, I6, r6, q6⟩ => ho'' pins s6 σ H6 y' y'' u' w' Q I6 r4 r6 q6))
theorem pt_chain3 {a b c d : Expr} {ta tb tc td : TE} {pos : Pos} {op op' op'' : CmpOp} {r r' r'' : R2} (ho : OpR X (compareOp op) r) (ho' : OpR X (compareOp op') r') (ho'' : OpR X (compareOp op'') r'') (ha : PE X a ta) (hb : PE X b tb) (hc : PE X c tc) (hd : PE X d td)
    (hm : lastMarks [op, op', op''] [b, c, d] = false := by with_unfolding_all rfl) : PT X (.Compare a [op, op', op''] [b, c, d] pos) (tTest (tChain3 r r' r'' ta tb tc td)) := by
  refine ⟨fun pins s σ H Q I h => ?_⟩
  refine isTrue_chain (thn (ha.run pins s σ H _ I h) fun v s1 ⟨x, H1, I1, r1, q1⟩ => test_link (thn (hb.run pins s1 σ H1 _ I1 q1) fun u s2 ⟨y, H2, I2, r2, q2⟩ =>
    thn (ho pins s2 σ H2 x y v u _ I2 r1 r2 q2) fun e s3 ⟨z, H3, I3, r3, k, ez, q3⟩ => ?_)) hm
  subst ez
  cases r3
  refine wpAny_truthy_bool ?_
  cases k with
  | false =>
    obtain ⟨k', e', q'⟩ := q3
    cases e'
    exact ite_ff ⟨H3, I3, q'⟩
  | true =>
    refine ite_tt (test_link (thn (hc.run pins s3 σ H3 _ I3 q3) fun u' s4 ⟨y', H4, I4, r4, q4⟩ => thn (ho' pins s4 σ H4 y y' u u' _ I4 r2 r4 q4) fun e s5 ⟨z', H5, I5, r5, k', ez', q5⟩ => ?_))
    subst ez'
    cases r5
    refine wpAny_truthy_bool ?_
    cases k' with
    | false =>
      obtain ⟨k', e', q'⟩ := q5
      cases e'
      exact ite_ff ⟨H5, I5, q'⟩
    | true =>
      refine ite_tt (test_last (thn (hd.run pins s5 σ H5 _ I5 q5) fun w' s6 ⟨y'', H6, I6, r6, q6⟩ => thn (ho'' pins s6 σ H6 y' y'' u' w' _ I6 r4 r6 q6) fun e s7 ⟨z2, H7, I7, r7, k2, e2, q7⟩ => ?_))
      subst e2
      cases r7
      exact wpAny_truthy_bool ⟨H7, I7, q7⟩
/-- the same, the written part by its own name (within a comprehension) -/
theorem ix_ltK (K : PySem.W.Frag) (hK : X.K = K := by rfl) : IxR X (rIxA K) := hK ▸ ix_lt
theorem call_lenK (K : PySem.W.Frag) (hK : X.K = K := by rfl) : CallR X (.builtin "len") (fun xs H Q => ∃ p ys, xs = [.ref p] ∧ (SqL K H p ys ∨ SqT K H p ys) ∧ Q (.int ys.length) H) := hK ▸ call_len_seq
theorem op_inK (K : PySem.W.Frag) (hK : X.K = K := by rfl) : OpR X (compareOp .In) (rIn K false) := hK ▸ op_in_seq
theorem op_notInK (K : PySem.W.Frag) (hK : X.K = K := by rfl) : OpR X (compareOp .NotIn) (rIn K true) := hK ▸ op_notIn_seq
def gSeq (K : PySem.W.Frag) (n : Nat) (t : TGs) : TG := fun v σ H Q => ∃ a xs, v = .ref a ∧ SqA K H a xs ∧ xs.length = n ∧ t xs σ H Q
theorem pg_seq {es : List Expr} {k : Nat} {t : TGs} {n : Nat} {pos : Pos} (hc : X.calm = true) (h : PGs X es t)
    (hn : (assignEach es X.env).length = n := by rfl) (hst : (assignEach es X.env).findIdx? (·.1) = none := by rfl) : PG X (.Tuple es k pos) (gSeq X.K n t) := by
  refine ⟨fun pins s σ H v u Q I r hw => ?_⟩
  obtain ⟨a, xs, e1, hq | hq, hl, hw⟩ := hw
  · exact (pg_unl hc h hn hst).run pins s σ H v u Q I r ⟨a, xs, e1, hq, hl, hw⟩
  · exact (pg_tup hc h hn hst).run pins s σ H v u Q I r ⟨a, xs, e1, hq, hl, hw⟩
/-- what stands at a stands -/
def Kp (a : Addr) (H H' : Hp) : Prop := ∀ o, H a = some o → H' a = some o
theorem Kp.ofS {a : Addr} {H H' : Hp} (e : Same H H') : Kp a H H' := fun o h => e a o h
theorem Kp.ofB {a b : Addr} {H H' : Hp} (e : But b H H') (n : a ≠ b) : Kp a H H' := fun o h => e a o n h
theorem Kp.refl (a : Addr) (H : Hp) : Kp a H H := fun _ h => h
theorem Kp.sl {K : PySem.W.Frag} {a : Addr} {xs : List V} {H H' : Hp} (k : Kp a H H') (h : SqL K H a xs) : SqL K H' a xs := by
  rcases h with (h | ⟨o, h⟩) | h
  · exact .inl (.inl (k _ h))
  · exact .inl (.inr ⟨o, k _ h⟩)
  · exact .inr h
theorem Kp.st {K : PySem.W.Frag} {a : Addr} {xs : List V} {H H' : Hp} (k : Kp a H H') (h : SqT K H a xs) : SqT K H' a xs := by
  rcases h with (h | ⟨o, h⟩) | h
  · exact .inl (.inl (k _ h))
  · exact .inl (.inr ⟨o, k _ h⟩)
  · exact .inr h
theorem Kp.sa {K : PySem.W.Frag} {a : Addr} {xs : List V} {H H' : Hp} (k : Kp a H H') (h : SqA K H a xs) : SqA K H' a xs := h.elim (fun q => .inl (k.sl q)) fun q => .inr (k.st q)
/-- the walk over what stood at a in H0 -/
def ItA (K : PySem.W.Frag) (H0 : Hp) (a : Addr) (xs : List V) (J : It) : Prop := (J = Itl K a ∧ SqL K H0 a xs) ∨ (J = Itt K a ∧ SqT K H0 a xs)
def iSeq (K : PySem.W.Frag) (tl : TE) : TI := fun σ H R => tl σ H fun x H1 => ∃ (a : Addr) (xs : List V) (H0 : Hp), x = .ref a ∧ SqA K H0 a xs ∧ Kp a H0 H1 ∧ ∀ J, ItA K H0 a xs J → R J H1
theorem pi_seq {tg l : Expr} {tl : TE} (hl : PE X l tl) : PI X tg l (iSeq X.K tl) := by
  refine ⟨fun pins s σ H R I h => ?_⟩
  refine thn (hl.run pins s σ H _ I h) fun v s1 ⟨x, H1, I1, r1, q1⟩ => ?_
  obtain ⟨a, xs, H0, e, hq | hq, hk, q⟩ := q1
  · replace q := q _ (.inl ⟨rfl, hq⟩)
    replace hq := hk.sl hq
    subst e
    cases r1
    obtain ⟨its, rv, p, hz⟩ := I1.list hq
    refine wpAny_pyIter_list p.isList ?_
    refine ⟨s1.heap.objs.size, [s1.heap.objs.size], _, _, H1, rfl, I1.kept (t' := s1.toks) fun b o e => Heap.get?_push_of_some _ e, turn_list a _, ⟨_, Heap.get?_push_size _ rfl, rfl, rfl⟩, fun b hb => ?_, q⟩
    have e : b = s1.heap.objs.size := by simpa using hb
    subst e
    exact I1.fpOk (Nat.le_refl _) (I1.hok.fresh (Nat.le_refl _))
  · replace q := q _ (.inr ⟨rfl, hq⟩)
    replace hq := hk.st hq
    subst e
    cases r1
    obtain ⟨its, rv, p, hz⟩ := I1.tuple hq
    refine wpAny_pyIter_tuple (show s1.heap.IsTuple a its.toArray from p) ?_
    refine ⟨s1.heap.objs.size, [s1.heap.objs.size], _, _, H1, rfl, I1.kept (t' := s1.toks) fun b o e => Heap.get?_push_of_some _ e, turn_tuple a _, ⟨_, Heap.get?_push_size _ rfl, rfl, rfl⟩, fun b hb => ?_, q⟩
    have e : b = s1.heap.objs.size := by simpa using hb
    subst e
    exact I1.fpOk (Nat.le_refl _) (I1.hok.fresh (Nat.le_refl _))
end

theorem ItA.walk {K : PySem.W.Frag} {H0 : Hp} {a : Addr} {xs : List V} {J : It} (h : ItA K H0 a xs J) : ∃ G : Hp → Prop, (∀ H', Kp a H0 H' → G H') ∧ Walk J xs.length G (YAt xs) := by
  rcases h with ⟨rfl, q⟩ | ⟨rfl, q⟩
  · exact ⟨_, fun _ k => k.sl q, walk_list⟩
  · exact ⟨_, fun _ k => k.st q, walk_tup⟩

/-! ### enumerate of a tuple -/
set_option maxHeartbeats 1000000 in
theorem meets_enum1 {v : Value} {o : Obj} {H : Heap → Prop} (B : Begins v o H) :
    Meets (Builtin.«enumerate.__new__» ⟨[.type "enumerate", v], []⟩) (fun _ R s => H s.heap ∧
      R (.ok (.ret (.ref (s.heap.push o).objs.size))) { s with heap := (s.heap.push o).push { cls := .type "enumerate", data := .fields #[.none, .bool false, .ref s.heap.objs.size, rawInt 0, .none, .none] } }) :=
  .of_wp fun prog w A R s h => by
    obtain ⟨hp, g, d, tk, os⟩ := s; obtain ⟨h1, h⟩ := h
    have hsub := sub_enumerate
    have q1 : ∀ {A' : Around} {E : Value → Shared → Prop} {Q : Value → Shared → Prop}, Q (.ref hp.objs.size) ⟨hp.push o, g, d, tk, os⟩ → wpAny (model prog w) A' (pyIter v) Q E ⟨hp, g, d, tk, os⟩ :=
      fun q => B.iter prog w _ _ ⟨hp, g, d, tk, os⟩ _ h1 q
    wp_walk using q1
    refine wpAny_stack_any fun st => wpAny_pure ?_
    split
    · rename_i c _ _ _ _ _
      cases (c == Value.type "enumerate")
      · wp_walk using q1
        exact ⟨_, rfl, h⟩
      · wp_walk using q1
        exact ⟨_, rfl, h⟩
    · wp_walk using q1
      exact ⟨_, rfl, h⟩
section
variable {prog : Program} {w : World} {A : Around} {E : Value → Shared → Prop} {s : Shared}
theorem enum1_begins {v : Value} {o : Obj} {H : Heap → Prop} {Q : Value → Shared → Prop} (B : Begins v o H) (h1 : H s.heap)
    (h : ∀ h', IsEnum h' (s.heap.objs.size + 1) s.heap.objs.size 0 .none → h'.get? s.heap.objs.size = some o → h'.objs.size = s.heap.objs.size + 2 →
      (∀ b o, s.heap.get? b = some o → h'.get? b = some o) → Q (.ref (s.heap.objs.size + 1)) { s with heap := h' }) :
    wpAny (model prog w) A (call (.type "enumerate") [v]) Q E s := by
  refine callType_new F.called_enumerate (by decide) (F.typeCall_enumerate_1 _) (F.newCall_enumerate_1 _) (fun obj => F.args_object_init_2 obj _) F.entry_enumerate_new
    (meets_enum1 B) ⟨h1, ?_⟩
  have hz : (s.heap.push o).objs.size = s.heap.objs.size + 1 := Heap.size_push ..
  show _ ∧ _
  rw [hz]
  have he : IsEnum ((s.heap.push o).push { cls := .type "enumerate", data := .fields #[.none, .bool false, .ref s.heap.objs.size, rawInt 0, .none, .none] }) (s.heap.objs.size + 1) s.heap.objs.size 0 .none := by
    have := Heap.get?_push_size (s.heap.push o) (o := { cls := .type "enumerate", data := .fields #[.none, .bool false, .ref s.heap.objs.size, rawInt 0, .none, .none] }) rfl
    rw [hz] at this; exact this
  refine ⟨⟨_, he, rfl⟩, h _ he (Heap.get?_push_of_some _ (Heap.get?_push_size _ B.free)) (by rw [Heap.size_push, hz]) fun b o x => Heap.get?_push_of_some _ (Heap.get?_push_of_some _ x)⟩
end
/-- the tuple at a as it stands at each turn, each item in a new pair -/
def IteT (K : PySem.W.Frag) (a : Addr) : It :=
  ⟨fun i H => ∃ (xs : List V) (x : V), SqT K H a xs ∧ xs[i]? = some x, fun i H v H' => ∃ T x, v = .ref T ∧ H T = none ∧ H' = upd H T (.tup [.int (i : Nat), x]) ∧ ∀ xs, SqT K H a xs → xs[i]? = some x, fun i H => ∃ xs : List V, SqT K H a xs ∧ xs.length ≤ i⟩
end Sh

namespace Sh
open PySem PySem.Spec PyProof.Rows L2
section
variable {prog : Program} {w : World} {A : Around} {E : Value → Shared → Prop} {s : Shared}
theorem enum_endT {e it t : Addr} {n : Nat} {i : Int} {old : Value} {items : Array Value} {Q : Option Value → Shared → Prop} (hh : A.handled = none)
    (he : IsEnum s.heap e it i old) (hit : s.heap.IsTupleIter it t n) (ht : s.heap.IsTuple t items) (hx : items[n]? = none)
    (hQ : ∀ h', Heap.ExtBut it s.heap h' → Q none { s with heap := h' }) : wpAny (model prog w) A (pyNext (.ref e)) Q E s := by
  have hT : s.TypeIs (.ref e) "enumerate" := ⟨_, he, rfl⟩
  unfold pyNext
  refine wpAny_bind (wpAny_attempt (wpAny_callSpecial?_slot (name := Str.ofString "__next__") hT F.slot_enumerate_next
    (wpAny_call_entry F.slot_enumerate_next hT F.entry_enumerate_next ?_ (F.args_enumerate_next_1 _))))
  show wpAny _ _ (field (.ref e) 2 >>= _) _ _ _
  refine wpAny_bind (wpAny_field he rfl (x := .ref it) rfl ?_)
  refine wpAny_bind (wpAny_nextOf_tuple_end (show _ = none from hh) hit ht hx fun h' x he' hx' => ?_)
  obtain ⟨o, ho, hc⟩ := hx'
  refine wpAny_bind (wpAny_isInstance (T := "StopIteration") (b := true) ⟨o, ho, hc⟩ isSubtype_stop ?_)
  exact wpAny_pure (hQ _ he')
end
theorem turn_enumT {P : Program} {w : World} {K : PySem.W.Frag} {elts : List Expr} {kk : Nat} {tpos : Pos} (a e it : Addr) :
    Turn P w K (.Tuple elts kk tpos) (IteT K a) [e, it] e (fun i h => (∃ old, IsEnum h e it ((i : Nat) : Int) old) ∧ h.IsTupleIter it a i ∧ e ≠ it ∧ a ≠ it ∧ e ≠ a) where
  mem := by simp
  obj := fun i h st b hb => by
    obtain ⟨⟨old, he⟩, ⟨o, ho, hc, hd⟩, _⟩ := st
    have e' : b = e ∨ b = it := by simpa using hb
    rcases e' with z | z
    · rw [z]; exact ⟨_, he, fun v q => nomatch q⟩
    · rw [z]; exact ⟨o, ho, fun v q => by rw [hd] at q; cases q⟩
  keep := fun i h h' st k => let ⟨⟨old, he⟩, hi, hne⟩ := st; ⟨⟨old, k e (by simp) _ he⟩, hi.at fun o q => k it (by simp) o q, hne⟩
  item := by
    intro X hP hw hK hc i pins s σ H E I hf st hg
    subst hP hw hK
    obtain ⟨⟨old, he⟩, hit, hne, hai, hea⟩ := st
    obtain ⟨xs, x, hq, hx⟩ := hg
    obtain ⟨its, rv, p, hz⟩ := I.tuple hq
    obtain ⟨u, hu, ru⟩ := rv.get hx
    have hel : e < s.heap.objs.size := Heap.lt_size he
    have hil : it < s.heap.objs.size := by obtain ⟨_, q, _⟩ := hit; exact Heap.lt_size q
    have D := Draws.tuple (prog := X.prog) (w := X.w) (A := X.A.in1) (show X.A.in1.handled = none from I.ok.hd hc) it a hai its.toArray
    have hlt : i < its.toArray.size := by
      have q := (List.getElem?_eq_some_iff.mp hu).1
      simpa using q
    refine wpAny_pyNext_enum_itemC D he ⟨hit, p⟩ hlt hne (by simp [hne, hea]) fun u' h' tk hP ho hst' hT hsz hk => ?_
    have eu : u' = u := by
      have q : its.toArray[i]? = some u' := hP
      have q2 : its.toArray[i]? = some u := by simpa using hu
      exact Option.some.inj (q.symm.trans q2)
    subst eu
    obtain ⟨hit', _⟩ := hst'
    refine ⟨_, rfl, wpAny_letOwnedTupleGo_enum (s := { s with heap := h', toks := tk + 1 }) ho fun h'' he' sb => ?_⟩
    have hT2 : h''.get? s.heap.objs.size = some { cls := .type "tuple", data := .seq #[.int i tk, u'] } := (sb.2 _ (Nat.ne_of_gt hel)).trans hT
    have new : ObjOk X.prog X.w (upd H s.heap.objs.size (.tup [.int (i : Nat), x])) h'' s.heap.objs.size (.tup [.int (i : Nat), x]) :=
      ⟨by show 2 ≤ sizeLine; decide, [.int i tk, u'], .cons ⟨_, rfl⟩ (.cons ru .nil), ⟨_, hT2, rfl, _, rfl⟩⟩
    have I1 : Inv X pins σ (upd H s.heap.objs.size (.tup [.int (i : Nat), x])) { s with heap := h'', toks := tk + 1 } :=
      I.turnedNew (ch := [e, it]) (fun b ob hb q => (sb.2 b (fun z => hb (by simp [z]))).trans (hk b ob (fun z => hb (by simp [z])) (fun z => hb (by simp [z])) q)) hf (Nat.le_refl _) new
    refine ⟨.ref s.heap.objs.size, _, I1, rfl, ⟨_, x, rfl, I.hok.fresh (Nat.le_refl _), rfl, fun ys hy => by rw [I.tuple_inj hy hq]; exact hx⟩, ⟨⟨u', ?_⟩, hit'.at fun o q => (sb.2 it (Ne.symm hne)).trans q, hne, hai, hea⟩, fun b hb => ?_⟩
    · have e1 : ((i + 1 : Nat) : Int) = (i : Int) + 1 := by omega
      rw [e1]; exact he'
    · have hb' : b < s.heap.objs.size := by
        have e' : b = e ∨ b = it := by simpa using hb
        rcases e' with z | z
        · rw [z]; exact hel
        · rw [z]; exact hil
      rw [upd_ne (Nat.ne_of_lt hb')]
      exact (hf b hb).1
  done := by
    intro X hP hw hK hc i pins s σ H E I hf st hg
    subst hP hw hK
    obtain ⟨⟨old, he⟩, hit, hne, hai, hea⟩ := st
    obtain ⟨xs, hq, hx⟩ := hg
    obtain ⟨its, rv, p, hz⟩ := I.tuple hq
    obtain ⟨f0, f1, f2, f3, f4, f5⟩ := hf it (by simp)
    have hl := rv.length
    exact enum_endT (I.ok.hd hc) he hit p (by simp; omega) fun h' eb => ⟨rfl, I.turned (t' := s.toks) (fun b o hb q => eb b o hb q) f0 f1 f3 f4 f5⟩
  self := fun A i s Q E st h => let ⟨⟨_, he⟩, _⟩ := st; wpAny_pyIter_enum he h
def ItE (K : PySem.W.Frag) (H0 : Hp) (a : Addr) (xs : List V) (J : It) : Prop := (J = Ite K a ∧ SqL K H0 a xs) ∨ (J = IteT K a ∧ SqT K H0 a xs)
def iEnumA (K : PySem.W.Frag) (ta : TA) : TI := fun σ H R => ta σ H fun vs H1 => ∃ (a : Addr) (xs : List V) (H0 : Hp), vs = [.ref a] ∧ SqA K H0 a xs ∧ Kp a H0 H1 ∧ ∀ J, ItE K H0 a xs J → R J H1
theorem pi_enumA {X : Cx} {e : Expr} {ta : TA} {p pos tpos : Pos} {elts : List Expr} {kk : Nat} (hg : Gl X "enumerate") (hm : X.mg "enumerate" = none) (ha : PA X [e] ta) (hs : starEach [e] X.env = [(false, eval e X.env)] := by rfl) :
    PI X (.Tuple elts kk tpos) (.Call (.Name "enumerate" p) [e] [] pos) (iEnumA X.K ta) := by
  refine ⟨fun pins s σ H R I h => ?_⟩
  refine Call_ (ld_blt I hg hm boot_enumerate (PyProof.Rows.callWith_type1 (thn (ha.run pos pins s σ H _ I h) fun us s1 ⟨vs, H1, I1, r1, q1⟩ => ?_) hs rfl))
  obtain ⟨a, xs, H0, ex, hs0, hk, q1⟩ := q1
  subst ex
  cases r1 with
  | cons r rr =>
    cases rr
    cases r
    have fr : ∀ b ∈ [s1.heap.objs.size + 1, s1.heap.objs.size], FpOk X pins H1 b := fun b hb => by
      have e' : b = s1.heap.objs.size + 1 ∨ b = s1.heap.objs.size := by simpa using hb
      have hle : s1.heap.objs.size ≤ b := by
        rcases e' with z | z
        · rw [z]; exact Nat.le_add_right _ _
        · rw [z]; exact Nat.le_refl _
      exact I1.fpOk hle (I1.hok.fresh hle)
    rcases hs0 with hq | hq
    · have q := q1 _ (.inl ⟨rfl, hq⟩)
      replace hq := hk.sl hq
      obtain ⟨its, rv, p', hz⟩ := I1.list hq
      refine call_enumerate_list p'.isList fun h' he hit hsz hk => wpAny_pyIter_enum he ?_
      have I2 : Inv X pins σ H1 { s1 with heap := h' } := I1.kept (t' := s1.toks) hk
      exact ⟨s1.heap.objs.size + 1, [s1.heap.objs.size + 1, s1.heap.objs.size], _, _, H1, rfl, I2, turn_enum a (s1.heap.objs.size + 1) s1.heap.objs.size, ⟨⟨.none, he⟩, hit, Nat.succ_ne_self _⟩, fr, q⟩
    · have q := q1 _ (.inr ⟨rfl, hq⟩)
      replace hq := hk.st hq
      obtain ⟨its, rv, p', hz⟩ := I1.tuple hq
      have al : a < s1.heap.objs.size := by obtain ⟨_, q, _⟩ := id p'; exact Heap.lt_size q
      refine enum1_begins (begins_tuple a its.toArray) p' fun h' he hit hsz hk => wpAny_pyIter_enum he ?_
      have I2 : Inv X pins σ H1 { s1 with heap := h' } := I1.kept (t' := s1.toks) hk
      exact ⟨s1.heap.objs.size + 1, [s1.heap.objs.size + 1, s1.heap.objs.size], _, _, H1, rfl, I2, turn_enumT a (s1.heap.objs.size + 1) s1.heap.objs.size, ⟨⟨.none, he⟩, ⟨_, hit, rfl, rfl⟩, Nat.succ_ne_self _, Nat.ne_of_lt al, Nat.ne_of_gt (Nat.lt_succ_of_lt al)⟩, fr, q⟩
theorem walk_enumT {K : PySem.W.Frag} {a : Addr} {xs : List V} : Walk (IteT K a) xs.length (fun H => SqT K H a xs) (YPair (fun i => some (.int (i : Nat))) (fun i => xs[i]?)) := by
  refine ⟨fun i _ hi q => ⟨xs, xs[i], q, by simp [hi]⟩, fun _ q => ⟨xs, q, Nat.le_refl _⟩, fun i H v H' _ q y => ?_⟩
  obtain ⟨T, x, h1, h2, h3, h4⟩ := y
  exact ⟨T, .int (i : Nat), x, h1, h2, h3, rfl, h4 xs q⟩
theorem ItE.walk {K : PySem.W.Frag} {H0 : Hp} {a : Addr} {xs : List V} {J : It} (h : ItE K H0 a xs J) : ∃ G : Hp → Prop, (∀ H', Kp a H0 H' → G H') ∧ Walk J xs.length G (YPair (fun i => some (.int (i : Nat))) (fun i => xs[i]?)) := by
  rcases h with ⟨rfl, q⟩ | ⟨rfl, q⟩
  · exact ⟨_, fun _ k => k.sl q, walk_enum⟩
  · exact ⟨_, fun _ k => k.st q, walk_enumT⟩
theorem walk_zipT {K : PySem.W.Frag} {a b : Addr} {xs ys : List V} {n : Nat} (hn : n = min xs.length ys.length) : Walk (RZ.ItzT K a b) n (fun H => SqT K H a xs ∧ SqT K H b ys) (YPair (fun i => xs[i]?) (fun i => ys[i]?)) := by
  subst hn
  refine ⟨fun i _ hi q => ?_, fun _ q => ⟨xs, ys, q.1, q.2, by omega⟩, fun i H v H' _ q y => ?_⟩
  · have h1 : i < xs.length := by omega
    have h2 : i < ys.length := by omega
    exact ⟨xs, ys, xs[i], ys[i], q.1, q.2, by simp [h1], by simp [h2]⟩
  · obtain ⟨T, x, z, h1, h2, h3, h4, h5⟩ := y
    exact ⟨T, x, z, h1, h2, h3, h4 xs q.1, h5 ys q.2⟩
end Sh

namespace Sh
open PySem PySem.Spec PyProof.Rows L2
/-- a def of the top: where it stands, and the global name -/
structure Df (K : PySem.W.Frag) (mg : Str → Option Value) (x : Str) (st : Stmt) : Prop where
  ex : ∃ (f : Addr) (fd : FuncData), Fun K x x st f fd ∧ mg x = some (.ref f)
/-- it keeps its promise -/
structure Ok (P : Program) (w : World) (K : PySem.W.Frag) (mg : Str → Option Value) (base : Heap) (k : Nat) (x : Str) (st : Stmt) (ps : List Str) (sp : Sp) : Prop where
  ex : ∃ (f : Addr) (fd : FuncData), Fun K x x st f fd ∧ mg x = some (.ref f) ∧ Binds K fd ps [] ∧ FnOk P w K mg base CX0 k f fd ps sp
section
variable {P : Program} {w : World} {K : PySem.W.Frag} {mg : Str → Option Value} {base : Heap}
theorem Df.ok {x : Str} {st : Stmt} {N ps : List Str} {k : Nat} {sp : Sp} (D : Df K mg x st) (S : FnScope N ps (defScope st))
    (hb : ∀ (kV doc pm : Value) (an : Option Addr) (cdv ct : Value) (us : List Value), us.length = ps.length → bindArgs (PySem.W.fnOf x x (defArgs st) (defBody st) (defScope st) .none kV doc pm an cdv ct) ⟨us, []⟩ = pure (ps.zip us))
    (len : ∀ vs H Q E, sp vs H Q E → vs.length = ps.length)
    (hbody : ∀ (f : Addr) (cdv : Value) (A : Around) (outer : List Env) (s : Shared) (H : Hp) (vs : List V) (Q : VK) (E : XK), Room k (A.deeper (envOfC x (defScope st) s.heap.objs.size f cdv)) → sp vs H Q E →
      ∃ t, PSs (cxOf CX0 P w K mg base N x (defScope st) f cdv A outer s H E).nox (defBody st) t ∧ t { nx := fun _ H' => Q .non H', rt := Q } (start N vs) H) : Ok P w K mg base (k + 1) x st ps sp := by
  obtain ⟨f, fd, F, g⟩ := D.ex
  exact ⟨f, fd, F, g, F.binds hb, F.ok S len (fun cdv A outer s H vs Q E hr h => hbody f cdv A outer s H vs Q E hr h)⟩
theorem Ok.mono {x : Str} {st : Stmt} {ps : List Str} {j k : Nat} {sp : Sp} (O : Ok P w K mg base j x st ps sp) (h : j ≤ k) : Ok P w K mg base k x st ps sp := by
  obtain ⟨f, fd, F, g, b, G⟩ := O.ex
  exact ⟨f, fd, F, g, b, G.mono h⟩
theorem Ok.imp {x : Str} {st : Stmt} {ps : List Str} {k : Nat} {sp sp' : Sp} (O : Ok P w K mg base k x st ps sp) (h : ∀ vs H Q E, sp' vs H Q E → sp vs H Q E) : Ok P w K mg base k x st ps sp' := by
  obtain ⟨f, fd, F, g, b, G⟩ := O.ex
  exact ⟨f, fd, F, g, b, G.imp h⟩
end
/-- the values at the places js -/
def pk {α : Type} (js : List Nat) (l : List α) : List α := js.filterMap fun j => l[j]?
theorem vals_get : ∀ {vs : List V} {us : List Value} (j : Nat), Vals vs us → (vs[j]? = none ∧ us[j]? = none) ∨ ∃ v u, vs[j]? = some v ∧ us[j]? = some u ∧ RelV v u
  | _, _, _, .nil => .inl ⟨by simp, by simp⟩
  | _, _, 0, .cons r _ => .inr ⟨_, _, rfl, rfl, r⟩
  | _, _, j + 1, .cons _ t => by simpa using vals_get j t
theorem vals_app : ∀ {vs zs : List V} {us ws : List Value}, Vals vs us → Vals zs ws → Vals (vs ++ zs) (us ++ ws)
  | _, _, _, _, .nil, h => h
  | _, _, _, _, .cons r t, h => .cons r (vals_app t h)
theorem vals_pk {vs : List V} {us : List Value} (h : Vals vs us) : ∀ js : List Nat, Vals (pk js vs) (pk js us)
  | [] => .nil
  | j :: js => by
    unfold pk
    rcases vals_get j h with ⟨a, b⟩ | ⟨v, u, a, b, r⟩
    · rw [List.filterMap_cons_none a, List.filterMap_cons_none b]
      exact vals_pk h js
    · rw [List.filterMap_cons_some a, List.filterMap_cons_some b]
      exact .cons r (vals_pk h js)
section
variable {X : Cx} {k : Nat} {x : Str} {st : Stmt} {ps : List Str} {sp : Sp} {e : Expr} {es : List Expr} {t tk : TA} {p pos : Pos} {kws : List Keyword} {ks : List Str}
/-- f(e, ..) -/
theorem pe_fn (O : Ok X.prog X.w X.K X.mg X.base k x st ps sp) (hr : Room k X.A) (ha : PA X (e :: es) t) (hg : Gl X x := by rfl)
    (hdb : (x == ("__debug__" : Str)) = false := by decide) (he : starEach (e :: es) X.env = (false, eval e X.env) :: starEach es X.env := by rfl) (hpl : (backTo pos (starEach es X.env)).any (·.1) = false := by rfl) :
    PE X (.Call (.Name x p) (e :: es) [] pos) (tCall sp [] E0 t) := by
  obtain ⟨f, fd, F, g, b, G⟩ := O.ex
  exact pe_call G hr hg g F.kp b .nil pass0 ha hdb he hpl
/-- f(e, .., k = v, ..): the parameters are the places js of all that is handed in -/
def tCallJ (js : List Nat) (n : Nat) (sp : Sp) (t tk : TA) : TE := fun σ H Q => t σ H fun vs H1 => tk σ H1 fun zs H2 => (vs.length + zs.length = n ∧ zs.length = n - vs.length) ∧ sp (pk js (vs ++ zs)) H2 Q E0
theorem run_fnJ {pins : List (Addr × Obj)} {σ : L2.St} {H : Hp} {s : Shared} {Q : VK} {us ws : List Value} {vs zs : List V} {js : List Nat} {f : Addr} {fd : FuncData} (F : Fun X.K x x st f fd) (G : FnOk X.prog X.w X.K X.mg X.base CX0 k f fd ps sp) (hr : Room k X.A)
    (hb : ∀ (kV doc pm : Value) (an : Option Addr) (cdv ct : Value), bindArgs (PySem.W.fnOf x x (defArgs st) (defBody st) (defScope st) .none kV doc pm an cdv ct) ⟨us, ks.zip ws⟩ = pure (ps.zip (pk js (us ++ ws))))
    (I : Inv X pins σ H s) (r : Vals vs us) (rz : Vals zs ws) (h : sp (pk js (vs ++ zs)) H Q E0) : wpAny (model X.prog X.w) X.A (call (.ref f) us (ks.zip ws)) (EP X pins σ Q) X.xe s := by
  obtain ⟨oc, od, kV, doc, pm, an, cdv, ct, osl, rfl, lk, hcd⟩ := F.ex
  refine wpAny_call (codeAny_mono (G.run X.A X.stack s H ⟨us, ks.zip ws⟩ (pk js (us ++ ws)) (pk js (vs ++ zs)) Q E0 hr I.env0 (.of_eq (hb kV doc pm an cdv ct)) (vals_pk (vals_app r rz) js) h) fun r s' hq => ?_)
  cases r with
  | error e => exact pass0 pins σ H s e s' I hq
  | ok fl =>
    cases fl with
    | ret u => exact I.after hq
    | next => exact False.elim hq
    | brk => exact False.elim hq
    | cont => exact False.elim hq
/-- f(k = v, ..) -/
theorem pe_fnK0 (js : List Nat) (O : Ok X.prog X.w X.K X.mg X.base k x st ps sp) (hr : Room k X.A)
    (hb : ∀ (kV doc pm : Value) (an : Option Addr) (cdv ct : Value) (ws : List Value), ws.length = ks.length → bindArgs (PySem.W.fnOf x x (defArgs st) (defBody st) (defScope st) .none kV doc pm an cdv ct) ⟨[], ks.zip ws⟩ = pure (ps.zip (pk js ws)))
    (hkw : PK X kws tk) (hg : Gl X x := by rfl) (hall : (backToKw pos (keywordEach kws X.env)).all (·.1.isSome) = true := by rfl) (hks : (backToKw pos (keywordEach kws X.env)).filterMap (·.1) = ks := by rfl) (hdb : (x == ("__debug__" : Str)) = false := by decide)
    (hpl : ((backTo pos (starEach [] X.env)).any (·.1) || (backToKw pos (keywordEach kws X.env)).any (·.1.isNone)) = false := by rfl) :
    PE X (.Call (.Name x p) [] kws pos) (tCallJ js ks.length sp tNil tk) := by
  obtain ⟨f, fd, F, g, b, G⟩ := O.ex
  refine ⟨fun pins s σ H Q I h => ?_⟩
  refine wpAny_Call_Name_kw (ld_glob I hg g ?_ hdb)
  refine PySem.W.callWith_KW0 (h₀ := X.base) I.ok.mod.kin F.kp hall ?_ hpl
  refine thn (hkw.run pos pins s σ H _ I h) fun ws s2 ⟨zs, H2, I2, rz, l2, q2⟩ => ⟨I2.kIn, ?_⟩
  rw [hks]
  exact run_fnJ (us := []) (vs := []) (js := js) F G hr (fun kV doc pm an cdv ct => hb kV doc pm an cdv ct ws (rz.length.symm.trans l2.2)) I2 .nil rz q2
/-- f(e, .., k = v, ..), n positional ones -/
theorem pe_fnK (js : List Nat) (n : Nat) (O : Ok X.prog X.w X.K X.mg X.base k x st ps sp) (hr : Room k X.A)
    (hb : ∀ (kV doc pm : Value) (an : Option Addr) (cdv ct : Value) (us ws : List Value), us.length = n → ws.length = ks.length → bindArgs (PySem.W.fnOf x x (defArgs st) (defBody st) (defScope st) .none kV doc pm an cdv ct) ⟨us, ks.zip ws⟩ = pure (ps.zip (pk js (us ++ ws))))
    (ha : PA X (e :: es) t) (hkw : PK X kws tk) (hg : Gl X x := by rfl) (hall : (backToKw pos (keywordEach kws X.env)).all (·.1.isSome) = true := by rfl) (hks : (backToKw pos (keywordEach kws X.env)).filterMap (·.1) = ks := by rfl)
    (hdb : (x == ("__debug__" : Str)) = false := by decide) (he : starEach (e :: es) X.env = (false, eval e X.env) :: starEach es X.env := by rfl)
    (hpl : ((backTo pos (starEach (e :: es) X.env)).any (·.1) || (backToKw pos (keywordEach kws X.env)).any (·.1.isNone)) = false := by rfl) :
    PE X (.Call (.Name x p) (e :: es) kws pos) (fun σ H Q => t σ H fun vs H1 => tk σ H1 fun zs H2 => (vs.length = n ∧ zs.length = ks.length) ∧ sp (pk js (vs ++ zs)) H2 Q E0) := by
  obtain ⟨f, fd, F, g, b, G⟩ := O.ex
  refine ⟨fun pins s σ H Q I h => ?_⟩
  refine wpAny_Call_Name_kw (ld_glob I hg g ?_ hdb)
  refine PySem.W.callWith_KW (h₀ := X.base) I.ok.mod.kin F.kp hall (thn (ha.run pos pins s σ H _ I h) fun us s1 ⟨vs, H1, I1, r, q⟩ => ?_) hpl he
  refine thn (hkw.run pos pins s1 σ H1 _ I1 q) fun ws s2 ⟨zs, H2, I2, rz, ⟨l1, l2⟩, q2⟩ => ⟨I2.kIn, ?_⟩
  rw [hks]
  exact run_fnJ (js := js) F G hr (fun kV doc pm an cdv ct => hb kV doc pm an cdv ct us ws (r.length.symm.trans l1) (rz.length.symm.trans l2)) I2 r rz q2
end
theorem tyes {σ : L2.St} {H : Hp} {Q : Bool → Hp → Prop} (h : Q true H) : tYes σ H Q := h
/-! ### xs[a:b:c] -/
def pickV (xs : List V) (lo hi st : Option Int) : List V := pk (sliceRange (sliceBounds lo hi st xs.length).1 (sliceBounds lo hi st xs.length).2.1 (sliceBounds lo hi st xs.length).2.2) xs
theorem pick_vals {xs : List V} {us : List Value} (r : Vals xs us) (lo hi st : Option Int) : Vals (pickV xs lo hi st) (slicePick us.toArray lo hi st).toList := by
  have e := vals_pk r (sliceRange (sliceBounds lo hi st xs.length).1 (sliceBounds lo hi st xs.length).2.1 (sliceBounds lo hi st xs.length).2.2)
  have e2 : (slicePick us.toArray lo hi st).toList = pk (sliceRange (sliceBounds lo hi st xs.length).1 (sliceBounds lo hi st xs.length).2.1 (sliceBounds lo hi st xs.length).2.2) us := by
    unfold slicePick pk
    rw [List.size_toArray, ← r.length]
    simp
  rw [e2]
  exact e
section
variable {X : Cx}
def tStep (K : PySem.W.Frag) (te : TE) (tl th ts : TO) : TE := fun σ H Q => te σ H fun x H1 => tl σ H1 fun l H2 => th σ H2 fun u H3 => ts σ H3 fun o H4 => ∃ a xs, x = .ref a ∧ SqL K H4 a xs ∧ o ≠ some 0 ∧ (pickV xs l u o).length ≤ sizeLine ∧ ∀ p, H4 p = none → Q (.ref p) (upd H4 p (.lst (pickV xs l u o)))
theorem pe_step {e st : Expr} {lo hi : Option Expr} {te : TE} {tl th ts : TO} {p3 pos : Pos} (he : PE X e te) (hlo : PO X lo tl) (hhi : PO X hi th) (hst : PO X (some st) ts) : PE X (.Subscript e (.Slice lo hi (some st) p3) pos) (tStep X.K te tl th ts) := by
  refine ⟨fun pins s σ H Q I h => ?_⟩
  refine Subscript_ (thn (he.run pins s σ H _ I h) fun v s1 ⟨x, H1, I1, r1, q1⟩ => ?_)
  refine wpAny_Slice (thn (hlo.run pins s1 σ H1 _ I1 q1) fun vl s2 ⟨l, H2, I2, pl, q2⟩ => ?_)
  refine thn (hhi.run pins s2 σ H2 _ I2 q2) fun vu s3 ⟨u, H3, I3, pu, q3⟩ => ?_
  refine thn (hst.run pins s3 σ H3 _ I3 q3) fun vs s4 ⟨o, H4, I4, ps, q4⟩ => ?_
  obtain ⟨a, xs, ex, hx, h0, hz2, q⟩ := q4
  subst ex
  cases r1
  have I5 : Inv X pins σ H4 { s4 with heap := s4.heap.push { cls := .type "slice", data := .fields #[vl, vu, vs] } } := I4.kept (t' := s4.toks) fun b ob q => Heap.get?_push_of_some _ q
  obtain ⟨its, r, ht, hz⟩ := I5.list hx
  have hlen := r.length
  show wpAny (model X.prog X.w) X.A (subscriptTail e (.Slice lo hi (some st) p3) (.ref a) (.ref s4.heap.objs.size)) (EP X pins σ Q) X.xe { s4 with heap := s4.heap.push { cls := .type "slice", data := .fields #[vl, vu, vs] } }
  refine tail_any (ops := [.ref a, .ref s4.heap.objs.size]) ht.isList.typeIs (PySem.slot_list_getitem.lookup) ?_ (by with_unfolding_all rfl)
  refine wpAny_getItem_list_slice ht.isList (Heap.IsSliceOf.new _ vl vu vs) pl pu ps h0 ?_ (by rw [List.size_toArray]; omega)
  refine ⟨.ref _, _, I5.laid (t' := s4.toks) (o := .lst (pickV xs l u o)) (fun b ob q => Heap.get?_push_of_some _ q) (Nat.le_refl _) ?_, rfl, q _ (I5.hok.fresh (Nat.le_refl _))⟩
  exact ⟨hz2, (slicePick its.toArray l u o).toList, 0, pick_vals r l u o, Heap.get?_push_size _ rfl⟩
end
/-! ### set(t) of a tuple of ints, as a thing that stands -/
def rSetT (K : PySem.W.Frag) (w : World) : List V → Hp → VK → Prop := fun xs H Q => ∃ (q : Addr) (ns : List Int), xs = [.ref q] ∧ SqT K H q (ns.map V.int) ∧ ns.length ≤ 1000 ∧ ∀ (a : Addr) (c : Nat), H a = none → c ≤ ns.length → Q (.ref a) (upd H a (SetO w a (fun j => decide (j ∈ ns)) c))
theorem cr_setT {X : Cx} (hc : X.calm = true) : CallR X (.type "set") (rSetT X.K X.w) := by
  intro pins s σ H xs us Q I r h
  obtain ⟨q, ns, rfl, hq, hl, k⟩ := h
  rw [Vals.ref1 r]
  obtain ⟨its, rv, pt, hz⟩ := I.tuple hq
  have hi : IntsAre its.toArray.toList ns := ints_of_vals rv
  refine call_set_tupI ns (I.ok.hd hc) (show s.heap.IsTuple q its.toArray from pt) hi (by unfold scanBound; omega) fun h' tk c R1 hcn kk => ?_
  exact ⟨.ref _, upd H s.heap.objs.size (SetO X.w s.heap.objs.size _ c), I.laid (t' := tk) kk (Nat.le_refl _) (setO_new R1), rfl, k _ _ (I.hok.fresh (Nat.le_refl _)) hcn⟩
theorem cr_setTw {X : Cx} (w : World) (hc : X.calm = true) (hw : X.w = w := by rfl) : CallR X (.type "set") (rSetT X.K w) := hw ▸ cr_setT hc
theorem cr_sortedSetw {X : Cx} (w : World) (hc : X.calm = true) (hw : X.w = w := by rfl) : CallR X (.builtin "sorted") (rSortedSet w) := hw ▸ cr_sortedSet hc
/-- names of Python's own that the top leaves alone -/
structure Bt (mg : Str → Option Value) : Prop where
  len_ : mg "len" = none
  range_ : mg "range" = none
  abs_ : mg "abs" = none
  int_ : mg "int" = none
  min_ : mg "min" = none
  max_ : mg "max" = none
  list_ : mg "list" = none
  tuple_ : mg "tuple" = none
  all_ : mg "all" = none
  any_ : mg "any" = none
  sorted_ : mg "sorted" = none
  sum_ : mg "sum" = none
  repr_ : mg "repr" = none
  zip_ : mg "zip" = none
  enumerate_ : mg "enumerate" = none
  isinstance_ : mg "isinstance" = none
  reversed_ : mg "reversed" = none
  str_ : mg "str" = none
  bool_ : mg "bool" = none
  set_ : mg "set" = none
end Sh

namespace Sh
open PySem PySem.Spec PyProof.Rows L2
/-! ### the text by places -/
def topS (i : Nat) : Stmt := PySem.Challenge.pw_shoalmates_k66_whole_filled_and_emptied.main.body.getD i (.Pass ⟨0, 0, 0, 0⟩)
end Sh

namespace Sh
open PySem PySem.Spec PyProof.Rows L2
/-! ### what is drawn from -/
def BoxOk (xs : List V) (n : Nat) : Prop := ∃ b0 b1 b2 : Int, xs = [.int b0, .int b1, .int b2] ∧ 0 ≤ b0 ∧ 0 ≤ b1 ∧ b1 < 4611686018427387904 ∧ 0 ≤ b2 ∧ b2 + (n : Int) ≤ 1099511627776
def BoxAt (H : Hp) (b : Addr) (n : Nat) : Prop := ∃ xs, H b = some (.lst xs) ∧ BoxOk xs n
theorem BoxOk.mono {xs : List V} {n m : Nat} (h : BoxOk xs n) (l : m ≤ n) : BoxOk xs m := by
  obtain ⟨b0, b1, b2, e, h0, h1, h2, h3, h4⟩ := h
  exact ⟨b0, b1, b2, e, h0, h1, h2, h3, by omega⟩
theorem BoxAt.mono {H : Hp} {b : Addr} {n m : Nat} (h : BoxAt H b n) (l : m ≤ n) : BoxAt H b m := let ⟨xs, e, k⟩ := h; ⟨xs, e, k.mono l⟩
theorem BoxAt.same {H H' : Hp} {b : Addr} {n : Nat} (h : BoxAt H b n) (s : Same H H') : BoxAt H' b n := let ⟨xs, e, k⟩ := h; ⟨xs, s _ _ e, k⟩
theorem BoxAt.some {H : Hp} {b : Addr} {n : Nat} (h : BoxAt H b n) : H b ≠ none := fun z => by
  obtain ⟨xs, e, _⟩ := h
  rw [e] at z
  cases z
/-- a new place is not the box -/
theorem BoxAt.ne {H : Hp} {b p : Addr} {n : Nat} (h : BoxAt H b n) (z : H p = none) : b ≠ p := let ⟨_, e, _⟩ := h; ne_of_none e z
def spTake : Sp := fun vs H Q _ => ∃ (b : Addr) (n : Nat) (span : Int), vs = [.ref b, .int span] ∧ 0 < span ∧ span < 1152921504606846976 ∧ BoxAt H b (n + 1) ∧ ∀ (v : Int) (xs : List V), 0 ≤ v → v < span → BoxOk xs n → Q (.int v) (upd H b (.lst xs))
abbrev s__law_take : Stmt := topS 36
theorem sc__law_take : FnScope (["_law_box_here", "_law_span", "_law_found", "_law_once", "_law_twice"] : List Str) (["_law_box_here", "_law_span"] : List Str) (defScope s__law_take) := ⟨rfl, rfl, rfl, by decide +kernel, rfl, by decide +kernel, by decide +kernel⟩
theorem b__law_take (kV doc pm : Value) (an : Option Addr) (cdv ct : Value) (us : List Value) (hl : us.length = (["_law_box_here", "_law_span"] : List Str).length) : bindArgs (PySem.W.fnOf "_law_take" "_law_take" (defArgs s__law_take) (defBody s__law_take) (defScope s__law_take) .none kV doc pm an cdv ct) ⟨us, []⟩ = pure ((["_law_box_here", "_law_span"] : List Str).zip us) :=
  match us, hl with | [_, _], _ => rfl
section
variable {P : Program} {w : World} {K : PySem.W.Frag} {mg : Str → Option Value} {base : Heap}
theorem ok_take {k : Nat} (D : Df K mg "_law_take" s__law_take) (T : Bt mg) : Ok P w K mg base (k + 1) "_law_take" s__law_take ["_law_box_here", "_law_span"] spTake := by
  refine D.ok sc__law_take b__law_take (fun vs H Q E h => ?_) (fun f cdv A outer s H vs Q E hr h => ?_)
  · obtain ⟨b, n, span, rfl, _⟩ := h
    rfl
  · obtain ⟨b, n, span, rfl, s0, s1, ⟨xs, hb, b0, b1, b2, rfl, h0, h1, h1', h2, h3⟩, q⟩ := h
    refine ⟨_, (pss_cons (ps_if (pt_cmpR op_gt (pe_ix ix_lt (pv 0) pe_int (fun _ _ => rfl)) pe_int (nomark _))
        (pss_cons (ps_set (i := 2) sc__law_take.nd rfl (.inl rfl) (pe_op op_mod (pe_ix ix_lt (pv 0) pe_int (fun _ _ => rfl)) (pv 1)))
          (pss_cons (ps_asg (pe_op op_fdivW (pe_ix ix_lt (pv 0) pe_int (fun _ _ => rfl)) (pv 1)) (pg_sub (pv 0) pe_int set_list))
          (pss_one (ps_ret (pv 2)))))
        pss_nil)
      (pss_cons (ps_asg (pe_op op_add (pe_ix ix_lt (pv 0) pe_int (fun _ _ => rfl)) pe_int) (pg_sub (pv 0) pe_int set_list))
      (pss_cons (ps_set (i := 3) sc__law_take.nd rfl (.inl rfl) (pe_op op_mod (pe_op op_mul (pe_op op_add (pe_ix ix_lt (pv 0) pe_int (fun _ _ => rfl)) (pe_op op_mul pe_int (pe_ix ix_lt (pv 0) pe_int (fun _ _ => rfl)))) (pe_op op_add pe_int (pe_ix ix_lt (pv 0) pe_int (fun _ _ => rfl)))) pe_int))
      (pss_cons (ps_set (i := 4) sc__law_take.nd rfl (.inl rfl) (pe_op op_mod (pe_op op_mul (pe_op op_add (pe_op op_add (pv 3) (pe_ix ix_lt (pv 0) pe_int (fun _ _ => rfl))) (pe_op op_fdiv (pe_ix ix_lt (pv 0) pe_int (fun _ _ => rfl)) pe_int)) (pe_op op_add (pe_op op_mod (pv 3) pe_int) pe_int)) pe_int))
      (pss_one (ps_ret (pe_op op_mod (pe_op op_fdiv (pe_op op_mod (pe_op op_add (pe_op op_mul (pv 4) pe_int) (pv 3)) pe_int) pe_int) (pv 1)))))))), ?_⟩
    have hq : SqA K H b [.int b0, .int b1, .int b2] := SqA.l hb
    refine ⟨_, rfl, b, _, 0, .int b0, rfl, rfl, hq, rfl, b0, 0, rfl, rfl, _, rfl, ite2 (fun c => ?_) (fun c => ?_)⟩
    · have c0 : 0 < b0 := of_decide_eq_true c
      refine ⟨_, rfl, b, _, 0, .int b0, rfl, rfl, hq, rfl, _, rfl, b0, span, rfl, rfl, s0, ?_⟩
      refine ⟨_, rfl, b, _, 0, .int b0, rfl, rfl, hq, rfl, _, rfl, b0, span, rfl, rfl, wide_div (b := 60) s0 (show span.natAbs < 1152921504606846976 by omega) (by decide) (by decide), ?_⟩
      refine ⟨_, rfl, b, _, 0, 0, rfl, rfl, hb, rfl, ?_⟩
      refine ⟨_, rfl, ?_⟩
      exact q _ _ (Int.emod_nonneg _ (by omega)) (Int.emod_lt_of_pos _ s0) ⟨b0 / span, b1, b2, rfl, Int.ediv_nonneg h0 (by omega), h1, h1', h2, by omega⟩
    · refine ⟨_, rfl, b, _, 2, .int b2, rfl, rfl, hq, rfl, b2, 1, rfl, rfl, ?_⟩
      refine ⟨_, rfl, b, _, 2, 2, rfl, rfl, hb, rfl, ?_⟩
      have hq2 : SqA K (upd H b (.lst [.int b0, .int b1, .int (b2 + 1)])) b [.int b0, .int b1, .int (b2 + 1)] := SqA.l upd_same
      have m1 : 0 ≤ (b1 + 48271 * (b2 + 1)) * (39373 + (b2 + 1)) % 2147483647 := Int.emod_nonneg _ (by decide)
      have m2 : (b1 + 48271 * (b2 + 1)) * (39373 + (b2 + 1)) % 2147483647 < 2147483647 := Int.emod_lt_of_pos _ (by decide)
      refine ⟨_, rfl, b, _, 1, .int b1, rfl, rfl, hq2, rfl, _, rfl, b, _, 2, .int (b2 + 1), rfl, rfl, hq2, rfl, 48271, b2 + 1, rfl, rfl, .inl ⟨by decide, by decide⟩, b1, _, rfl, rfl, ?_⟩
      refine ⟨_, rfl, b, _, 2, .int (b2 + 1), rfl, rfl, hq2, rfl, 39373, b2 + 1, rfl, rfl, _, _, rfl, rfl, .inr ⟨by omega, by omega⟩, _, 2147483647, rfl, rfl, (show (0 : Int) < 2147483647 by decide), ?_⟩
      dsimp only
      generalize (b1 + 48271 * (b2 + 1)) * (39373 + (b2 + 1)) % 2147483647 = once at m1 m2
      have o1 : 0 ≤ once % 40009 := Int.emod_nonneg _ (by decide)
      have o2 : once % 40009 < 40009 := Int.emod_lt_of_pos _ (by decide)
      refine ⟨_, rfl, _, rfl, b, _, 2, .int (b2 + 1), rfl, rfl, hq2, rfl, once, b2 + 1, rfl, rfl, _, rfl, b, _, 1, .int b1, rfl, rfl, hq2, rfl, b1, 1000003, rfl, rfl, ⟨by decide, by decide⟩, _, _, rfl, rfl, ?_⟩
      refine ⟨_, rfl, once, 40009, rfl, rfl, (show (0 : Int) < 40009 by decide), _, 7, rfl, rfl, _, _, rfl, rfl, .inr ⟨by omega, by omega⟩, _, 2147483629, rfl, rfl, (show (0 : Int) < 2147483629 by decide), ?_⟩
      dsimp only
      have t1 : 0 ≤ (once + (b2 + 1) + b1 / 1000003) * (once % 40009 + 7) % 2147483629 := Int.emod_nonneg _ (by decide)
      have t2 : (once + (b2 + 1) + b1 / 1000003) * (once % 40009 + 7) % 2147483629 < 2147483629 := Int.emod_lt_of_pos _ (by decide)
      generalize (once + (b2 + 1) + b1 / 1000003) * (once % 40009 + 7) % 2147483629 = twice at t1 t2
      refine ⟨_, rfl, twice, 48271, rfl, rfl, .inl ⟨by omega, by omega⟩, _, rfl, _, once, rfl, rfl, _, 2147483587, rfl, rfl, (show (0 : Int) < 2147483587 by decide), _, 64, rfl, rfl, ⟨by decide, by decide⟩, _, rfl, _, span, rfl, rfl, s0, ?_⟩
      exact q _ _ (Int.emod_nonneg _ (by omega)) (Int.emod_lt_of_pos _ s0) ⟨b0, b1, b2 + 1, rfl, h0, h1, h1', by omega, by omega⟩
end
end Sh

namespace Sh
open PySem PySem.Spec PyProof.Rows L2
theorem SqA.at {K : PySem.W.Frag} {H : Hp} {b l : Addr} {o : HO} {xs : List V} (n : l ≠ b) (h : SqA K H l xs) : SqA K (upd H b o) l xs := by
  rcases h with ((h | ⟨z, h⟩) | h) | ((h | ⟨z, h⟩) | h)
  · exact .inl (.inl (.inl (by rw [upd_ne n]; exact h)))
  · exact .inl (.inl (.inr ⟨z, by rw [upd_ne n]; exact h⟩))
  · exact .inl (.inr h)
  · exact .inr (.inl (.inl (by rw [upd_ne n]; exact h)))
  · exact .inr (.inl (.inr ⟨z, by rw [upd_ne n]; exact h⟩))
  · exact .inr (.inr h)
theorem at_nat {xs : List V} {i : Int} {j : Nat} {v : V} (e : i = (j : Int)) (h : xs[j]? = some v) : atI xs i = some v := L2.at_of e h
theorem b01 (c : Bool) : (0 : Int) ≤ if c = true then 1 else 0 := by cases c <;> decide
theorem b01' (c : Bool) : (-(2 ^ 64) : Int) < (if c = true then 1 else 0) ∧ (if c = true then 1 else 0) < (2 ^ 64 : Int) := by cases c <;> decide
/-- a cell of the script: some int -/
def spCellAt (K : PySem.W.Frag) : Sp := fun vs H Q _ => ∃ (l : Addr) (ns : List Int) (j : Nat), vs = [.ref l, .int (j : Int)] ∧ SqL K H l (ns.map V.int) ∧ ∀ z : Int, Q (.int z) H
abbrev s__law_cell_at : Stmt := topS 34
theorem sc__law_cell_at : FnScope (["_law_script", "_law_k"] : List Str) (["_law_script", "_law_k"] : List Str) (defScope s__law_cell_at) := ⟨rfl, rfl, rfl, by decide +kernel, rfl, by decide +kernel, by decide +kernel⟩
theorem b__law_cell_at (kV doc pm : Value) (an : Option Addr) (cdv ct : Value) (us : List Value) (hl : us.length = (["_law_script", "_law_k"] : List Str).length) : bindArgs (PySem.W.fnOf "_law_cell_at" "_law_cell_at" (defArgs s__law_cell_at) (defBody s__law_cell_at) (defScope s__law_cell_at) .none kV doc pm an cdv ct) ⟨us, []⟩ = pure ((["_law_script", "_law_k"] : List Str).zip us) :=
  match us, hl with | [_, _], _ => rfl
def spBox (K : PySem.W.Frag) : Sp := fun vs H Q _ => ∃ (l : Addr) (ns : List Int) (j : Nat), vs = [.ref l, .int (j : Int)] ∧ j ≤ 100 ∧ SqL K H l (ns.map V.int) ∧ ∀ (p : Addr) (xs : List V), H p = none → BoxOk xs 549755813888 → Q (.ref p) (upd H p (.lst xs))
abbrev s__law_box : Stmt := topS 35
theorem sc__law_box : FnScope (["_law_script", "_law_k", "_law_core"] : List Str) (["_law_script", "_law_k"] : List Str) (defScope s__law_box) := ⟨rfl, rfl, rfl, by decide +kernel, rfl, by decide +kernel, by decide +kernel⟩
theorem b__law_box (kV doc pm : Value) (an : Option Addr) (cdv ct : Value) (us : List Value) (hl : us.length = (["_law_script", "_law_k"] : List Str).length) : bindArgs (PySem.W.fnOf "_law_box" "_law_box" (defArgs s__law_box) (defBody s__law_box) (defScope s__law_box) .none kV doc pm an cdv ct) ⟨us, []⟩ = pure ((["_law_script", "_law_k"] : List Str).zip us) :=
  match us, hl with | [_, _], _ => rfl
section
variable {P : Program} {w : World} {K : PySem.W.Frag} {mg : Str → Option Value} {base : Heap}
theorem ok_cell_at {k : Nat} (D : Df K mg "_law_cell_at" s__law_cell_at) (T : Bt mg) : Ok P w K mg base (k + 1) "_law_cell_at" s__law_cell_at ["_law_script", "_law_k"] (spCellAt K) := by
  refine D.ok sc__law_cell_at b__law_cell_at (fun vs H Q E h => ?_) (fun f cdv A outer s H vs Q E hr h => ?_)
  · obtain ⟨l, ns, j, rfl, _⟩ := h
    rfl
  · obtain ⟨l, ns, j, rfl, hs, q⟩ := h
    refine ⟨_, (pss_cons (ps_if (pt_cmpR op_lt (pv 1) (pe_callB call_len_seq (by rfl) T.len_ PySem.boot_len (pa_cons (pv 0) pa_nil)) (nomark _))
        (pss_one (ps_ret (pe_ix ix_lt (pv 0) (pv 1) (fun _ _ => rfl))))
        pss_nil)
      (pss_one (ps_ret pe_int))), ?_⟩
    refine ⟨_, rfl, _, rfl, l, _, rfl, .inl hs, _, _, rfl, rfl, _, rfl, ite2 (fun c => ?_) (fun c => ?_)⟩
    · have c0 : (j : Int) < ((ns.map V.int).length : Int) := of_decide_eq_true c
      rw [List.length_map] at c0
      have c1 : j < ns.length := by omega
      refine ⟨_, rfl, _, rfl, l, _, _, .int ns[j], rfl, rfl, .inl hs, at_nat rfl (by simp [c1]), q _⟩
    · exact q 0
theorem ok_box {k : Nat} (D : Df K mg "_law_box" s__law_box) (T : Bt mg) (O__law_cell_at : Ok P w K mg base k "_law_cell_at" s__law_cell_at ["_law_script", "_law_k"] (spCellAt K)) : Ok P w K mg base (k + 1) "_law_box" s__law_box ["_law_script", "_law_k"] (spBox K) := by
  refine D.ok sc__law_box b__law_box (fun vs H Q E h => ?_) (fun f cdv A outer s H vs Q E hr h => ?_)
  · obtain ⟨l, ns, j, rfl, _⟩ := h
    rfl
  · obtain ⟨l, ns, j, rfl, hj, hs, q⟩ := h
    refine ⟨_, (pss_cons (ps_set (i := 2) sc__law_box.nd rfl (.inl rfl) (pe_fn O__law_cell_at (hr.mono (by omega)) (pa_cons (pv 0) (pa_cons (pv 1) pa_nil))))
      (pss_one (ps_ret (pe_lst (pa_cons (pe_op op_mul (pe_callB call_abs (by rfl) T.abs_ (by decide +kernel) (pa_cons (pv 2) pa_nil)) (pe_callTy call_int1 (by rfl) T.int_ (by decide +kernel) (pa_cons (pe_cmpR op_ge (pe_callB call_abs (by rfl) T.abs_ (by decide +kernel) (pa_cons (pv 2) pa_nil)) (pe_op (op_powC 1000000000000000000) pe_int pe_int) (nomark _)) pa_nil))) (pa_cons (pe_op op_add (pe_op op_add (pe_op op_mod (pv 2) pe_int) (pe_op op_mul pe_int (pv 1))) pe_int) (pa_cons pe_int pa_nil))))))), ?_⟩
    refine ⟨_, rfl, _, rfl, l, ns, j, rfl, hs, fun z => ?_⟩
    have z1 : 0 ≤ z % 2305843009213693951 := Int.emod_nonneg _ (by decide)
    have z2 : z % 2305843009213693951 < 2305843009213693951 := Int.emod_lt_of_pos _ (by decide)
    have za : 0 ≤ (if z < 0 then -z else z) := by split <;> omega
    refine ⟨_, rfl, z, rfl, _, rfl, z, rfl, 10, 18, rfl, rfl, ⟨⟨by decide, by decide, by decide⟩, by decide⟩, _, _, rfl, rfl, .inr ⟨_, rfl, ?_⟩⟩
    refine ⟨_, _, rfl, rfl, .inr (b01' _), ?_⟩
    refine ⟨_, rfl, z, _, rfl, rfl, (show (0 : Int) < 2305843009213693951 by decide), _, rfl, 39373, (j : Int), rfl, rfl, .inl ⟨by decide, by decide⟩, _, _, rfl, rfl, _, 17, rfl, rfl, ?_⟩
    refine ⟨(by show 3 ≤ sizeLine; decide), fun p np => ?_⟩
    refine q p _ np ⟨_, _, 0, rfl, ?_, by omega, by omega, by omega, by omega⟩
    exact Int.mul_nonneg za (b01 _)
end
/-! ### one of some -/
def spOf (K : PySem.W.Frag) : Sp := fun vs H Q _ => ∃ (b l : Addr) (n : Nat) (xs : List V), vs = [.ref b, .ref l] ∧ SqA K H l xs ∧ l ≠ b ∧ 0 < xs.length ∧ xs.length < 1000000 ∧ BoxAt H b (n + 1) ∧ ∀ (v : V) (ys : List V), v ∈ xs → BoxOk ys n → Q v (upd H b (.lst ys))
abbrev s__law_of : Stmt := topS 37
theorem sc__law_of : FnScope (["_law_box_here", "_law_some"] : List Str) (["_law_box_here", "_law_some"] : List Str) (defScope s__law_of) := ⟨rfl, rfl, rfl, by decide +kernel, rfl, by decide +kernel, by decide +kernel⟩
theorem b__law_of (kV doc pm : Value) (an : Option Addr) (cdv ct : Value) (us : List Value) (hl : us.length = (["_law_box_here", "_law_some"] : List Str).length) : bindArgs (PySem.W.fnOf "_law_of" "_law_of" (defArgs s__law_of) (defBody s__law_of) (defScope s__law_of) .none kV doc pm an cdv ct) ⟨us, []⟩ = pure ((["_law_box_here", "_law_some"] : List Str).zip us) :=
  match us, hl with | [_, _], _ => rfl
section
variable {P : Program} {w : World} {K : PySem.W.Frag} {mg : Str → Option Value} {base : Heap}
theorem ok_of {k : Nat} (D : Df K mg "_law_of" s__law_of) (T : Bt mg) (O__law_take : Ok P w K mg base k "_law_take" s__law_take ["_law_box_here", "_law_span"] spTake) : Ok P w K mg base (k + 1) "_law_of" s__law_of ["_law_box_here", "_law_some"] (spOf K) := by
  refine D.ok sc__law_of b__law_of (fun vs H Q E h => ?_) (fun f cdv A outer s H vs Q E hr h => ?_)
  · obtain ⟨b, l, n, xs, rfl, _⟩ := h
    rfl
  · obtain ⟨b, l, n, xs, rfl, hl, hne, l0, l1, hb, q⟩ := h
    refine ⟨_, (pss_one (ps_ret (pe_ix ix_lt (pv 1) (pe_fn O__law_take (hr.mono (by omega)) (pa_cons (pv 0) (pa_cons (pe_callB call_len_seq (by rfl) T.len_ PySem.boot_len (pa_cons (pv 1) pa_nil)) pa_nil))) (fun _ _ => rfl)))), ?_⟩
    refine ⟨_, rfl, _, rfl, _, rfl, l, xs, rfl, hl, b, n, _, rfl, by omega, by omega, hb, fun v ys v0 v1 hy => ?_⟩
    have hi : v.toNat < xs.length := by omega
    refine ⟨l, xs, v, xs[v.toNat], rfl, rfl, SqA.at hne hl, at_nat (j := v.toNat) (by omega) (by simp [hi]), ?_⟩
    exact q _ _ (List.getElem_mem hi) hy
end
end Sh

namespace Sh
open PySem PySem.Spec PyProof.Rows L2
/-! ### what is told is what is due -/
def tyS : PyData → String
  | .none => "NoneType" | .bool _ => "bool" | .int _ => "int" | .str _ => "str" | .list _ => "list" | .tuple _ => "tuple" | .dict _ => "dict"
/-- at most so deep, no longer than a hundred thousand -/
def Lv : Nat → PyData → Prop
  | 0, _ => False
  | _ + 1, .none => True
  | _ + 1, .bool _ => True
  | _ + 1, .int _ => True
  | _ + 1, .str _ => True
  | n + 1, .list ds => ds.length ≤ 100000 ∧ ∀ e ∈ ds, Lv n e
  | n + 1, .tuple ds => ds.length ≤ 100000 ∧ ∀ e ∈ ds, Lv n e
  | _ + 1, .dict _ => False
theorem lv_ints {n : Nat} (ns : List Int) (h : ns.length ≤ 100000) : Lv (n + 2) (.list (ns.map .int)) := ⟨by rw [List.length_map]; exact h, fun e he => by
  obtain ⟨i, _, rfl⟩ := List.mem_map.mp he
  exact trivial⟩
theorem lv_intsT {n : Nat} (ns : List Int) (h : ns.length ≤ 100000) : Lv (n + 2) (.tuple (ns.map .int)) := ⟨by rw [List.length_map]; exact h, fun e he => by
  obtain ⟨i, _, rfl⟩ := List.mem_map.mp he
  exact trivial⟩
section
variable {K : PySem.W.Frag} {H : Hp}
theorem ty_list {a : Addr} {xs : List V} (h : SqL K H a xs) : TyX K H (.ref a) (.type "list") := by
  rcases h with (h | ⟨o, h⟩) | ⟨o, its, n, h, c, _⟩
  · exact .base (.lst h)
  · exact .base (.frz h)
  · exact .kList h c
theorem ty_tup {a : Addr} {xs : List V} (h : SqT K H a xs) : TyX K H (.ref a) (.type "tuple") := by
  rcases h with (h | ⟨o, h⟩) | ⟨o, its, n, h, c, _⟩
  · exact .base (.tup h)
  · exact .fTuple h
  · exact .kTuple h c
theorem ty_of {v : V} {d : PyData} (h : Dp K H v d) : TyX K H v (.type (tyS d)) := by
  cases h with
  | non => exact .base .non
  | bl b => exact .base (.bl b)
  | int i => exact .base (.int i)
  | str x => exact .base (.str x)
  | lst h _ => exact ty_list h
  | tup h _ => exact ty_tup h
theorem kit2 {t a b : String} {r1 r2 r : Bool} (h1 : kitB t a = some r1) (h2 : kitB t b = some r2) (hr : (r1 || r2) = r) : PySem.W.kitAny K (.type t) [.type a, .type b] = some r := by
  refine kitAny_cons (b := r1) (kit_ty h1) (fun e => ?_) (fun e => ?_)
  · refine kitAny_cons (b := r2) (kit_ty h2) (fun e2 => ?_) (fun e2 => ?_)
    · rw [← hr, e, e2]
      exact kitAny_nil
    · rw [← hr, e, e2]
      all_goals rfl
  · rw [← hr, e]
    all_goals rfl
end
def spSame (K : PySem.W.Frag) (n : Nat) : Sp := fun vs H Q _ => ∃ (x y : V) (d : PyData), vs = [x, y] ∧ Dp K H x d ∧ Dp K H y d ∧ Lv n d ∧ ∀ H', Same H H' → Q (.bl true) H'
abbrev s__law_same : Stmt := topS 38
theorem sc__law_same : FnScope (["_law_found", "_law_due", "_law_a", "_law_b"] : List Str) (["_law_found", "_law_due"] : List Str) (defScope s__law_same) := ⟨rfl, rfl, rfl, by decide +kernel, rfl, by decide +kernel, by decide +kernel⟩
theorem b__law_same (kV doc pm : Value) (an : Option Addr) (cdv ct : Value) (us : List Value) (hl : us.length = (["_law_found", "_law_due"] : List Str).length) : bindArgs (PySem.W.fnOf "_law_same" "_law_same" (defArgs s__law_same) (defBody s__law_same) (defScope s__law_same) .none kV doc pm an cdv ct) ⟨us, []⟩ = pure ((["_law_found", "_law_due"] : List Str).zip us) :=
  match us, hl with | [_, _], _ => rfl
section
variable {P : Program} {w : World} {K : PySem.W.Frag} {mg : Str → Option Value} {base : Heap}
theorem same0 (D : Df K mg "_law_same" s__law_same) : Ok P w K mg base 0 "_law_same" s__law_same ["_law_found", "_law_due"] (spSame K 0) := by
  obtain ⟨f, fd, F, g⟩ := D.ex
  refine ⟨f, fd, F, g, F.binds b__law_same, ⟨fun vs H Q E h => ?_, fun A outer s H args us vs Q E hr he hb hv h => ?_⟩⟩
  · obtain ⟨x, y, d, _, _, _, lv, _⟩ := h
    cases d <;> exact lv.elim
  · obtain ⟨x, y, d, _, _, _, lv, _⟩ := h
    cases d <;> exact lv.elim
set_option maxHeartbeats 4000000 in
theorem same1 {m : Nat} (D : Df K mg "_law_same" s__law_same) (T : Bt mg) (O__law_same : Ok P w K mg base m "_law_same" s__law_same ["_law_found", "_law_due"] (spSame K m)) : Ok P w K mg base (m + 1) "_law_same" s__law_same ["_law_found", "_law_due"] (spSame K (m + 1)) := by
  refine D.ok sc__law_same b__law_same (fun vs H Q E h => ?_) (fun f cdv A outer s H vs Q E hr h => ?_)
  · obtain ⟨x, y, d, rfl, _⟩ := h
    rfl
  · obtain ⟨x, y, d, rfl, hx, hy, lv, q⟩ := h
    refine ⟨_, (pss_cons (ps_if (pt_val (pe_callB call_isiT (by rfl) T.isinstance_ (by decide +kernel) (pa_cons (pv 1) (pa_cons (pe_tup (pa_cons (pe_bltn (v := .ty "list") (by rfl) T.list_ (by decide +kernel) rfl) (pa_cons (pe_bltn (v := .ty "tuple") (by rfl) T.tuple_ (by decide +kernel) rfl) pa_nil))) pa_nil))))
        (pss_cons (ps_if (PW.pt (pw_or (pt_cmpR op_ne (pe_callB call_isi (by rfl) T.isinstance_ (by decide +kernel) (pa_cons (pv 0) (pa_cons (pe_bltn (v := .ty "list") (by rfl) T.list_ (by decide +kernel) rfl) pa_nil))) (pe_callB call_isi (by rfl) T.isinstance_ (by decide +kernel) (pa_cons (pv 1) (pa_cons (pe_bltn (v := .ty "list") (by rfl) T.list_ (by decide +kernel) rfl) pa_nil))) (nomark _)) (pw_or1 (pt_cmpR op_ne (pe_callB call_isi (by rfl) T.isinstance_ (by decide +kernel) (pa_cons (pv 0) (pa_cons (pe_bltn (v := .ty "tuple") (by rfl) T.tuple_ (by decide +kernel) rfl) pa_nil))) (pe_callB call_isi (by rfl) T.isinstance_ (by decide +kernel) (pa_cons (pv 1) (pa_cons (pe_bltn (v := .ty "tuple") (by rfl) T.tuple_ (by decide +kernel) rfl) pa_nil))) (nomark _)))))
            (pss_one (ps_ret pe_bl))
            pss_nil)
          (pss_one (ps_ret (pe_and (pe_cmpR op_eq (pe_callB call_len_seq (by rfl) T.len_ PySem.boot_len (pa_cons (pv 0) pa_nil)) (pe_callB call_len_seq (by rfl) T.len_ PySem.boot_len (pa_cons (pv 1) pa_nil)) (nomark _)) (pe_one (pe_callB (cr_all rfl) (by rfl) T.all_ (by decide +kernel) (pa_cons (pe_lc (own := [("_law_a", 2), ("_law_b", 3)]) (g := (gSeq K 2 (gCons (gName 2) (gCons (gName 3) gNil)))) (tt := tYes) (by rfl) sc__law_same.nd (RZ.pi_zipA (by rfl) T.zip_ (pa_cons (pv 0) (pa_cons (pv 1) pa_nil))) (blkOk_by (own := [("_law_a", 2), ("_law_b", 3)]) (N := (["_law_found", "_law_due", "_law_a", "_law_b"] : List Str)) (sc := defScope s__law_same) (by decide +kernel)) (fun _ _ _ _ _ => (pg_seq rfl (pgs_cons (pg_name (i := 2) sc__law_same.nd rfl (.inl rfl)) (pgs_cons (pg_name (i := 3) sc__law_same.nd rfl (.inl rfl)) pgs_nil)))) (fun _ _ _ _ _ => pts_nil) (fun _ _ _ _ _ => (pe_fn O__law_same (hr.mono (by omega)) (pa_cons (pv 2) (pa_cons (pv 3) pa_nil))))) pa_nil)))))))
        pss_nil)
      (pss_cons (ps_if (PW.pt (pw_or (pt_cmpR op_isN (pv 1) pe_non (nomark _)) (pw_or1 (pt_val (pe_callB call_isiT (by rfl) T.isinstance_ (by decide +kernel) (pa_cons (pv 1) (pa_cons (pe_tup (pa_cons (pe_bltn (v := .ty "bool") (by rfl) T.bool_ (by decide +kernel) rfl) (pa_cons (pe_bltn (v := .ty "str") (by rfl) T.str_ (by decide +kernel) rfl) pa_nil))) pa_nil)))))))
        (pss_one (ps_ret (pe_and (pe_cmpR op_eq (pv 0) (pv 1) (nomark _)) (pe_and (pe_cmpR op_eq (pe_callB call_isi (by rfl) T.isinstance_ (by decide +kernel) (pa_cons (pv 0) (pa_cons (pe_bltn (v := .ty "bool") (by rfl) T.bool_ (by decide +kernel) rfl) pa_nil))) (pe_callB call_isi (by rfl) T.isinstance_ (by decide +kernel) (pa_cons (pv 1) (pa_cons (pe_bltn (v := .ty "bool") (by rfl) T.bool_ (by decide +kernel) rfl) pa_nil))) (nomark _)) (pe_one (pe_cmpR op_eq (pe_cmpR op_isN (pv 0) pe_non (nomark _)) (pe_cmpR op_isN (pv 1) pe_non (nomark _)) (nomark _)))))))
        pss_nil)
      (pss_one (ps_ret (pe_and (pe_callB call_isi (by rfl) T.isinstance_ (by decide +kernel) (pa_cons (pv 0) (pa_cons (pe_bltn (v := .ty "int") (by rfl) T.int_ (by decide +kernel) rfl) pa_nil))) (pe_and (pe_not (pe_callB call_isi (by rfl) T.isinstance_ (by decide +kernel) (pa_cons (pv 0) (pa_cons (pe_bltn (v := .ty "bool") (by rfl) T.bool_ (by decide +kernel) rfl) pa_nil)))) (pe_one (pe_cmpR op_eq (pv 0) (pv 1) (nomark _))))))))), ?_⟩
    refine ⟨_, rfl, (by show 2 ≤ sizeLine; decide), fun tp ntp => ?_⟩
    have s1 : Same H (upd H tp (.tup [.ty "list", .ty "tuple"])) := same_new ntp
    generalize eH1 : upd H tp (.tup [.ty "list", .ty "tuple"]) = H1 at s1
    have htp : H1 tp = some (.tup [.ty "list", .ty "tuple"]) := by rw [← eH1, upd_same]
    clear eH1 ntp
    cases d with
    | dict kvs => exact lv.elim
    | list ds =>
      obtain ⟨a, xs, hsx, hax⟩ : ∃ a xs, SqL K H1 a xs ∧ DpAll K H1 xs ds ∧ x = .ref a := by cases hx with | lst h a => exact ⟨_, _, s1.seq h, DpAll.same s1 a, rfl⟩
      obtain ⟨b, ys, hsy, hay⟩ : ∃ a xs, SqL K H1 a xs ∧ DpAll K H1 xs ds ∧ y = .ref a := by cases hy with | lst h a => exact ⟨_, _, s1.seq h, DpAll.same s1 a, rfl⟩
      obtain ⟨hax, rfl⟩ := hax
      obtain ⟨hay, rfl⟩ := hay
      have lx : xs.length = ds.length := DpAll.len hax
      have ly : ys.length = ds.length := DpAll.len hay
      refine ⟨.ref b, tp, [.ty "list", .ty "tuple"], .type "list", [.type "list", .type "tuple"], true, rfl, htp, .cons (.ty _) (.cons (.ty _) .nil), ty_list hsy, kit2 (r1 := true) (r2 := false) (by decide +kernel) (by decide +kernel) rfl, _, rfl, iteT ?_⟩
      refine ⟨_, rfl, .ref a, .ty "list", .type "list", .type "list", true, rfl, .ty _, ty_list hsx, kit_ty (by decide +kernel), _, rfl, .ref b, .ty "list", .type "list", .type "list", true, rfl, .ty _, ty_list hsy, kit_ty (by decide +kernel), rfl, _, rfl, iteNS rfl ?_⟩
      refine ⟨_, rfl, .ref a, .ty "tuple", .type "list", .type "tuple", false, rfl, .ty _, ty_list hsx, kit_ty (by decide +kernel), _, rfl, .ref b, .ty "tuple", .type "list", .type "tuple", false, rfl, .ty _, ty_list hsy, kit_ty (by decide +kernel), rfl, _, rfl, iteNS rfl ?_⟩
      refine ⟨_, rfl, a, xs, rfl, .inl hsx, _, rfl, b, ys, rfl, .inl hsy, rfl, _, rfl, ?_⟩
      rw [if_pos (decide_eq_true (by rw [lx, ly]))]
      refine ⟨_, rfl, _, rfl, a, b, xs, ys, rfl, .inl ⟨hsx, hsy, fun C nC => ?_⟩⟩
      refine lc_it (walk_zip (n := ds.length) (by rw [lx, ly]; exact (Nat.min_self _).symm)) (fun i H' => Same H1 H' ∧ H' C = some (.lst ((List.replicate i true).map V.bl))) ⟨same_new nC, upd_same⟩ (fun i H' _ p => ⟨p.1.seq hsx, p.1.seq hsy⟩) ?_ ?_
      · rintro i z H2 H3 hi ⟨sm, hC⟩ ⟨t, u, v, rfl, nt, rfl, gu, gv⟩
        have sm2 : Same H1 (upd H2 t (.tup [u, v])) := sm.trans (same_new nt)
        obtain ⟨e, ge, he⟩ := DpAll.get (DpAll.same sm2 hax) gu
        obtain ⟨e', ge', he'⟩ := DpAll.get (DpAll.same sm2 hay) gv
        obtain rfl : e = e' := Option.some.inj (ge.symm.trans ge')
        refine ⟨t, [u, v], rfl, SqA.t upd_same, rfl, u, [v], rfl, v, [], rfl, rfl, rfl, tyes (iteT ?_)⟩
        refine ⟨_, rfl, _, rfl, u, v, e, rfl, he, he', lv.2 e (List.mem_of_getElem? ge), fun H4 s4 => ?_⟩
        refine ⟨_, s4 _ _ (by rw [upd_ne (ne_of_none hC nt)]; exact hC), ?_, fun p o ho => ?_, ?_⟩
        · have h1 := lv.1
          rw [List.length_map, List.length_replicate]
          exact Nat.lt_of_lt_of_le hi (Nat.le_trans h1 (by decide))
        · have np : p ≠ C := ne_of_none ho nC
          rw [upd_ne np]
          exact s4 _ _ (sm2 _ _ ho)
        · rw [upd_same, List.replicate_succ', List.map_append]
          rfl
      · rintro H2 ⟨sm, hC⟩
        refine ⟨C, _, rfl, SqL.of hC, ?_⟩
        have e : (List.replicate ds.length true).all id = true := by simp
        rw [e]
        exact q _ (s1.trans sm)
    | tuple ds =>
      obtain ⟨a, xs, hsx, hax⟩ : ∃ a xs, SqT K H1 a xs ∧ DpAll K H1 xs ds ∧ x = .ref a := by cases hx with | tup h a => exact ⟨_, _, Same.tup s1 h, DpAll.same s1 a, rfl⟩
      obtain ⟨b, ys, hsy, hay⟩ : ∃ a xs, SqT K H1 a xs ∧ DpAll K H1 xs ds ∧ y = .ref a := by cases hy with | tup h a => exact ⟨_, _, Same.tup s1 h, DpAll.same s1 a, rfl⟩
      obtain ⟨hax, rfl⟩ := hax
      obtain ⟨hay, rfl⟩ := hay
      have lx : xs.length = ds.length := DpAll.len hax
      have ly : ys.length = ds.length := DpAll.len hay
      refine ⟨.ref b, tp, [.ty "list", .ty "tuple"], .type "tuple", [.type "list", .type "tuple"], true, rfl, htp, .cons (.ty _) (.cons (.ty _) .nil), ty_tup hsy, kit2 (r1 := false) (r2 := true) (by decide +kernel) (by decide +kernel) rfl, _, rfl, iteT ?_⟩
      refine ⟨_, rfl, .ref a, .ty "list", .type "tuple", .type "list", false, rfl, .ty _, ty_tup hsx, kit_ty (by decide +kernel), _, rfl, .ref b, .ty "list", .type "tuple", .type "list", false, rfl, .ty _, ty_tup hsy, kit_ty (by decide +kernel), rfl, _, rfl, iteNS rfl ?_⟩
      refine ⟨_, rfl, .ref a, .ty "tuple", .type "tuple", .type "tuple", true, rfl, .ty _, ty_tup hsx, kit_ty (by decide +kernel), _, rfl, .ref b, .ty "tuple", .type "tuple", .type "tuple", true, rfl, .ty _, ty_tup hsy, kit_ty (by decide +kernel), rfl, _, rfl, iteNS rfl ?_⟩
      refine ⟨_, rfl, a, xs, rfl, .inr hsx, _, rfl, b, ys, rfl, .inr hsy, rfl, _, rfl, ?_⟩
      rw [if_pos (decide_eq_true (by rw [lx, ly]))]
      refine ⟨_, rfl, _, rfl, a, b, xs, ys, rfl, .inr ⟨hsx, hsy, fun C nC => ?_⟩⟩
      refine lc_it (walk_zipT (n := ds.length) (by rw [lx, ly]; exact (Nat.min_self _).symm)) (fun i H' => Same H1 H' ∧ H' C = some (.lst ((List.replicate i true).map V.bl))) ⟨same_new nC, upd_same⟩ (fun i H' _ p => ⟨Same.tup p.1 hsx, Same.tup p.1 hsy⟩) ?_ ?_
      · rintro i z H2 H3 hi ⟨sm, hC⟩ ⟨t, u, v, rfl, nt, rfl, gu, gv⟩
        have sm2 : Same H1 (upd H2 t (.tup [u, v])) := sm.trans (same_new nt)
        obtain ⟨e, ge, he⟩ := DpAll.get (DpAll.same sm2 hax) gu
        obtain ⟨e', ge', he'⟩ := DpAll.get (DpAll.same sm2 hay) gv
        obtain rfl : e = e' := Option.some.inj (ge.symm.trans ge')
        refine ⟨t, [u, v], rfl, SqA.t upd_same, rfl, u, [v], rfl, v, [], rfl, rfl, rfl, tyes (iteT ?_)⟩
        refine ⟨_, rfl, _, rfl, u, v, e, rfl, he, he', lv.2 e (List.mem_of_getElem? ge), fun H4 s4 => ?_⟩
        refine ⟨_, s4 _ _ (by rw [upd_ne (ne_of_none hC nt)]; exact hC), ?_, fun p o ho => ?_, ?_⟩
        · have h1 := lv.1
          rw [List.length_map, List.length_replicate]
          exact Nat.lt_of_lt_of_le hi (Nat.le_trans h1 (by decide))
        · have np : p ≠ C := ne_of_none ho nC
          rw [upd_ne np]
          exact s4 _ _ (sm2 _ _ ho)
        · rw [upd_same, List.replicate_succ', List.map_append]
          rfl
      · rintro H2 ⟨sm, hC⟩
        refine ⟨C, _, rfl, SqL.of hC, ?_⟩
        have e : (List.replicate ds.length true).all id = true := by simp
        rw [e]
        exact q _ (s1.trans sm)
    | int i =>
      cases hx; cases hy
      refine ⟨.int i, tp, [.ty "list", .ty "tuple"], .type "int", [.type "list", .type "tuple"], false, rfl, htp, .cons (.ty _) (.cons (.ty _) .nil), .base (.int i), kit2 (r1 := false) (r2 := false) (by decide +kernel) (by decide +kernel) rfl, _, rfl, iteF ?_⟩
      refine ⟨_, rfl, rfl, _, rfl, iteF ?_⟩
      refine ⟨_, rfl, (by show 2 ≤ sizeLine; decide), fun tq ntq => ?_⟩
      refine ⟨.int i, tq, [.ty "bool", .ty "str"], .type "int", [.type "bool", .type "str"], false, rfl, upd_same, .cons (.ty _) (.cons (.ty _) .nil), .base (.int i), kit2 (r1 := false) (r2 := false) (by decide +kernel) (by decide +kernel) rfl, _, rfl, iteF ?_⟩
      refine ⟨_, rfl, .int i, .ty "int", .type "int", .type "int", true, rfl, .ty _, .base (.int i), kit_ty (by decide +kernel), _, rfl, iteT ?_⟩
      refine ⟨_, rfl, .int i, .ty "bool", .type "int", .type "bool", false, rfl, .ty _, .base (.int i), kit_ty (by decide +kernel), _, rfl, _, rfl, iteT ?_⟩
      refine ⟨_, rfl, _, rfl, rfl, ?_⟩
      rw [decide_eq_true rfl]
      exact q _ (s1.trans (same_new ntq))
    | none =>
      cases hx; cases hy
      refine ⟨.non, tp, [.ty "list", .ty "tuple"], .type "NoneType", [.type "list", .type "tuple"], false, rfl, htp, .cons (.ty _) (.cons (.ty _) .nil), .base .non, kit2 (r1 := false) (r2 := false) (by decide +kernel) (by decide +kernel) rfl, _, rfl, iteF ?_⟩
      refine ⟨_, rfl, rfl, _, rfl, iteT (iteT ?_)⟩
      refine ⟨_, rfl, _, rfl, rfl, _, rfl, iteT ?_⟩
      refine ⟨_, rfl, .non, .ty "bool", .type "NoneType", .type "bool", false, rfl, .ty _, .base .non, kit_ty (by decide +kernel), _, rfl, .non, .ty "bool", .type "NoneType", .type "bool", false, rfl, .ty _, .base .non, kit_ty (by decide +kernel), rfl, _, rfl, iteT ?_⟩
      refine ⟨_, rfl, rfl, _, rfl, rfl, rfl, ?_⟩
      exact q _ s1
    | bool c =>
      cases hx; cases hy
      refine ⟨.bl c, tp, [.ty "list", .ty "tuple"], .type "bool", [.type "list", .type "tuple"], false, rfl, htp, .cons (.ty _) (.cons (.ty _) .nil), .base (.bl c), kit2 (r1 := false) (r2 := false) (by decide +kernel) (by decide +kernel) rfl, _, rfl, iteF ?_⟩
      refine ⟨_, rfl, rfl, _, rfl, iteF ?_⟩
      refine ⟨_, rfl, (by show 2 ≤ sizeLine; decide), fun tq ntq => ?_⟩
      refine ⟨.bl c, tq, [.ty "bool", .ty "str"], .type "bool", [.type "bool", .type "str"], true, rfl, upd_same, .cons (.ty _) (.cons (.ty _) .nil), .base (.bl c), kit2 (r1 := true) (r2 := false) (by decide +kernel) (by decide +kernel) rfl, _, rfl, iteT ?_⟩
      refine ⟨_, rfl, _, rfl, rfl, _, rfl, ?_⟩
      rw [if_pos (decide_eq_true rfl)]
      refine ⟨_, rfl, .bl c, .ty "bool", .type "bool", .type "bool", true, rfl, .ty _, .base (.bl c), kit_ty (by decide +kernel), _, rfl, .bl c, .ty "bool", .type "bool", .type "bool", true, rfl, .ty _, .base (.bl c), kit_ty (by decide +kernel), rfl, _, rfl, iteT ?_⟩
      refine ⟨_, rfl, rfl, _, rfl, rfl, rfl, ?_⟩
      exact q _ (s1.trans (same_new ntq))
    | str c =>
      cases hx; cases hy
      refine ⟨.str c, tp, [.ty "list", .ty "tuple"], .type "str", [.type "list", .type "tuple"], false, rfl, htp, .cons (.ty _) (.cons (.ty _) .nil), .base (.str c), kit2 (r1 := false) (r2 := false) (by decide +kernel) (by decide +kernel) rfl, _, rfl, iteF ?_⟩
      refine ⟨_, rfl, rfl, _, rfl, iteF ?_⟩
      refine ⟨_, rfl, (by show 2 ≤ sizeLine; decide), fun tq ntq => ?_⟩
      refine ⟨.str c, tq, [.ty "bool", .ty "str"], .type "str", [.type "bool", .type "str"], true, rfl, upd_same, .cons (.ty _) (.cons (.ty _) .nil), .base (.str c), kit2 (r1 := false) (r2 := true) (by decide +kernel) (by decide +kernel) rfl, _, rfl, iteT ?_⟩
      refine ⟨_, rfl, _, rfl, rfl, _, rfl, ?_⟩
      rw [if_pos (decide_eq_true rfl)]
      refine ⟨_, rfl, .str c, .ty "bool", .type "str", .type "bool", false, rfl, .ty _, .base (.str c), kit_ty (by decide +kernel), _, rfl, .str c, .ty "bool", .type "str", .type "bool", false, rfl, .ty _, .base (.str c), kit_ty (by decide +kernel), rfl, _, rfl, iteT ?_⟩
      refine ⟨_, rfl, rfl, _, rfl, rfl, rfl, ?_⟩
      exact q _ (s1.trans (same_new ntq))
theorem ok_same (D : Df K mg "_law_same" s__law_same) (T : Bt mg) : ∀ m : Nat, Ok P w K mg base m "_law_same" s__law_same ["_law_found", "_law_due"] (spSame K m)
  | 0 => same0 D
  | m + 1 => same1 D T (ok_same D T m)
end
end Sh

namespace Sh
open PySem PySem.Spec PyProof.Rows L2
/-! ### a drawn sea -/
theorem But.put {b p : Addr} {H H' : Hp} {o : HO} (h : But b H H') (n : H p = none) : But b H (upd H' p o) := fun a x na e => by
  rw [upd_ne (ne_of_none e n)]
  exact h a x na e
theorem But.box {b : Addr} {H H' : Hp} {o : HO} (h : But b H H') : But b H (upd H' b o) := fun a x na e => by
  rw [upd_ne na]
  exact h a x na e
theorem BoxAt.put {H : Hp} {b : Addr} {n : Nat} {xs : List V} (h : BoxOk xs n) : BoxAt (upd H b (.lst xs)) b n := ⟨xs, upd_same, h⟩
theorem BoxAt.at {H : Hp} {b p : Addr} {n : Nat} {o : HO} (h : BoxAt H b n) (ne : b ≠ p) : BoxAt (upd H p o) b n := let ⟨xs, e, k⟩ := h; ⟨xs, by rw [upd_ne ne]; exact e, k⟩
structure SeaOk (most : Nat) (h t : Int) (ds : List Int) : Prop where
  h0 : 0 ≤ h
  h1 : h ≤ 1000000000000
  t0 : 0 ≤ t
  t1 : t ≤ 1000000000000
  l0 : 0 < ds.length
  l1 : ds.length ≤ most
  d0 : ∀ d ∈ ds, 0 ≤ d ∧ d ≤ 1000000000000
def spSea : Sp := fun vs H Q _ => ∃ (b : Addr) (n most : Nat), vs = [.ref b, .int (most : Int)] ∧ 0 < most ∧ most ≤ 60 ∧ BoxAt H b (n + 200) ∧
  ∀ (H' : Hp) (p q : Addr) (h t : Int) (ds : List Int), But b H H' → BoxAt H' b n → H p = none → H q = none → H' p = some (.tup [.int h, .int t, .ref q]) → H' q = some (.tup (ds.map V.int)) → SeaOk most h t ds → Q (.ref p) H'
abbrev s__law_sea : Stmt := topS 39
theorem sc__law_sea : FnScope (["_law_box_here", "_law_most_here", "_law_count", "_law_far", "_law_wide", "_law_depths", "_law_draughts", "_law_side", "_law_whom"] : List Str) (["_law_box_here", "_law_most_here"] : List Str) (defScope s__law_sea) := ⟨rfl, rfl, rfl, by decide +kernel, rfl, by decide +kernel, by decide +kernel⟩
theorem b__law_sea (kV doc pm : Value) (an : Option Addr) (cdv ct : Value) (us : List Value) (hl : us.length = (["_law_box_here", "_law_most_here"] : List Str).length) : bindArgs (PySem.W.fnOf "_law_sea" "_law_sea" (defArgs s__law_sea) (defBody s__law_sea) (defScope s__law_sea) .none kV doc pm an cdv ct) ⟨us, []⟩ = pure ((["_law_box_here", "_law_most_here"] : List Str).zip us) :=
  match us, hl with | [_, _], _ => rfl
section
variable {P : Program} {w : World} {K : PySem.W.Frag} {mg : Str → Option Value} {base : Heap}
/-- a new object, a draw: what stands, stands -/
theorem al {b p : Addr} {H Hc : Hp} {n : Nat} {o : HO} (u : But b H Hc) (x : BoxAt Hc b n) (np : Hc p = none) : But b H (upd Hc p o) ∧ BoxAt (upd Hc p o) b n ∧ upd Hc p o p = some o ∧ p ≠ b :=
  ⟨fun a z na e => by rw [upd_ne (ne_of_none (u a z na e) np)]; exact u a z na e, x.at (x.ne np), upd_same, (x.ne np).symm⟩
theorem tk {b : Addr} {H Hc : Hp} {n : Nat} {ys : List V} (u : But b H Hc) (y : BoxOk ys n) : But b H (upd Hc b (.lst ys)) ∧ BoxAt (upd Hc b (.lst ys)) b n := ⟨u.box, .put y⟩
theorem But.free {b p : Addr} {H H' : Hp} (u : But b H H') (n : p ≠ b) (h : H' p = none) : H p = none := by
  cases e : H p with
  | none => rfl
  | some o =>
    rw [u p o n e] at h
    cases h
theorem two_of {ns : List Int} (h : ns.length = 2) : ∃ a b, ns = [a, b] := by
  match ns, h with
  | [a, b], _ => exact ⟨a, b, rfl⟩
theorem ints_mem {v : V} {ns : List Int} (h : v ∈ ns.map V.int) : ∃ i ∈ ns, v = .int i := by
  obtain ⟨i, hi, e⟩ := List.mem_map.mp h
  exact ⟨i, hi, e.symm⟩
theorem ne_box {H : Hp} {b p : Addr} {n : Nat} (h : BoxAt H b n) (z : H p = none) : p ≠ b := (h.ne z).symm
set_option maxHeartbeats 4000000 in
theorem ok_sea {k : Nat} (D : Df K mg "_law_sea" s__law_sea) (T : Bt mg) (O__law_take : Ok P w K mg base k "_law_take" s__law_take ["_law_box_here", "_law_span"] spTake) (O__law_of : Ok P w K mg base k "_law_of" s__law_of ["_law_box_here", "_law_some"] (spOf K)) :
    Ok P w K mg base (k + 1) "_law_sea" s__law_sea ["_law_box_here", "_law_most_here"] spSea := by
  refine D.ok sc__law_sea b__law_sea (fun vs H Q E h => ?_) (fun f cdv A outer s H vs Q E hr h => ?_)
  · obtain ⟨b, n, most, rfl, _⟩ := h
    rfl
  · obtain ⟨b, n, most, rfl, m0, m1, hb, q⟩ := h
    refine ⟨_, (pss_cons (ps_asg (pe_tup (pa_cons (pe_op op_add pe_int (pe_fn O__law_take (hr.mono (by omega)) (pa_cons (pv 0) (pa_cons (pv 1) pa_nil)))) (pa_cons (pe_fn O__law_of (hr.mono (by omega)) (pa_cons (pv 0) (pa_cons (pe_lst (pa_cons pe_int (pa_cons pe_int (pa_cons pe_int (pa_cons (pe_op op_sub (pe_op op_sub (pe_op (op_powC 1000000000000) pe_int pe_int) pe_int) (pe_fn O__law_take (hr.mono (by omega)) (pa_cons (pv 0) (pa_cons (pe_op (op_powC 1000000) pe_int pe_int) pa_nil)))) pa_nil))))) pa_nil))) pa_nil))) (pg_seq rfl (pgs_cons (pg_name (i := 2) sc__law_sea.nd rfl (.inr rfl)) (pgs_cons (pg_name (i := 3) sc__law_sea.nd rfl (.inr rfl)) pgs_nil))))
      (pss_cons (ps_set (i := 4) sc__law_sea.nd rfl (.inr rfl) (pe_fn O__law_of (hr.mono (by omega)) (pa_cons (pv 0) (pa_cons (pe_lst (pa_cons pe_int (pa_cons (pe_op op_add (pv 2) pe_int) (pa_cons (pe_op op_add (pe_op op_mul pe_int (pv 2)) pe_int) pa_nil)))) pa_nil))))
      (pss_cons (ps_setLc (i := 5) (own := [("_law_side", 7)]) (g := (gName 7)) (tt := tYes) (by rfl) sc__law_sea.nd rfl rfl (sw_true rfl rfl rfl (by decide +kernel)) (pi_range1 (by rfl) T.range_ (pa_cons pe_int pa_nil)) (blkOk_by (own := [("_law_side", 7)]) (N := (["_law_box_here", "_law_most_here", "_law_count", "_law_far", "_law_wide", "_law_depths", "_law_draughts", "_law_side", "_law_whom"] : List Str)) (sc := defScope s__law_sea) (by decide +kernel)) (fun _ _ _ _ _ => (pg_name (i := 7) sc__law_sea.nd rfl (.inl rfl))) (fun _ _ _ _ _ => pts_nil) (fun _ _ _ _ _ => (pe_op op_add (pv 3) (pe_op op_mul (pe_fn O__law_take (hr.mono (by omega)) (pa_cons (pv 0) (pa_cons (pe_op op_add (pv 2) pe_int) pa_nil))) (pe_fn O__law_take (hr.mono (by omega)) (pa_cons (pv 0) (pa_cons pe_int pa_nil)))))))
      (pss_cons (ps_set (i := 6) sc__law_sea.nd rfl (.inr rfl) (pe_lc (own := [("_law_whom", 8)]) (g := (gName 8)) (tt := tYes) (by rfl) sc__law_sea.nd (pi_range1 (by rfl) T.range_ (pa_cons (pv 2) pa_nil)) (blkOk_by (own := [("_law_whom", 8)]) (N := (["_law_box_here", "_law_most_here", "_law_count", "_law_far", "_law_wide", "_law_depths", "_law_draughts", "_law_side", "_law_whom"] : List Str)) (sc := defScope s__law_sea) (by decide +kernel)) (fun _ _ _ _ _ => (pg_name (i := 8) sc__law_sea.nd rfl (.inl rfl))) (fun _ _ _ _ _ => pts_nil) (fun _ _ _ _ _ => (pe_op op_add (pv 3) (pe_fn O__law_take (hr.mono (by omega)) (pa_cons (pv 0) (pa_cons (pv 4) pa_nil)))))))
      (pss_cons (ps_if (pt_cmpR op_eq (pe_fn O__law_take (hr.mono (by omega)) (pa_cons (pv 0) (pa_cons pe_int pa_nil))) pe_int (nomark _))
        (pss_one (ps_set (i := 6) sc__law_sea.nd rfl (.inr rfl) (pe_lc (own := [("_law_whom", 8)]) (g := (gName 8)) (tt := tYes) (by rfl) sc__law_sea.nd (pi_range1 (by rfl) T.range_ (pa_cons (pv 2) pa_nil)) (blkOk_by (own := [("_law_whom", 8)]) (N := (["_law_box_here", "_law_most_here", "_law_count", "_law_far", "_law_wide", "_law_depths", "_law_draughts", "_law_side", "_law_whom"] : List Str)) (sc := defScope s__law_sea) (by decide +kernel)) (fun _ _ _ _ _ => (pg_name (i := 8) sc__law_sea.nd rfl (.inl rfl))) (fun _ _ _ _ _ => pts_nil) (fun _ _ _ _ _ => (pe_ifExp (pt_cmpR op_eq (pe_fn O__law_take (hr.mono (by omega)) (pa_cons (pv 0) (pa_cons pe_int pa_nil))) pe_int (nomark _)) (pe_ix (ix_ltK K) (pv 6) (pv 8) (fun _ _ => rfl)) (pe_ix (ix_ltK K) (pv 6) pe_int (fun _ _ => rfl)))))))
        pss_nil)
      (pss_one (ps_ret (pe_tup (pa_cons (pe_ix ix_lt (pv 5) pe_int (fun _ _ => rfl)) (pa_cons (pe_ix ix_lt (pv 5) pe_int (fun _ _ => rfl)) (pa_cons (pe_callTy call_tuple_of (by rfl) T.tuple_ (by decide +kernel) (pa_cons (pv 6) pa_nil)) pa_nil))))))))))), ?_⟩
    -- 1 + take(box, most)
    refine ⟨_, rfl, _, rfl, b, n + 199, _, rfl, by omega, by omega, hb, fun c ys1 c0 c1 y1 => ?_⟩
    refine ⟨1, c, rfl, rfl, ?_⟩
    have u1 : But b H (upd H b (.lst ys1)) := But.ups
    have x1 : BoxAt (upd H b (.lst ys1)) b (n + 199) := .put y1
    generalize upd H b (.lst ys1) = H1 at u1 x1
    -- of(box, [0, 0, 0, 10 ** 12 - 200 - take(box, 10 ** 6)])
    refine ⟨_, rfl, 10, 12, rfl, rfl, ⟨⟨by decide, by decide, by decide⟩, by decide⟩, _, 200, rfl, rfl, _, rfl, 10, 6, rfl, rfl, ⟨⟨by decide, by decide, by decide⟩, by decide⟩, ?_⟩
    refine ⟨b, n + 198, 1000000, rfl, by decide, by decide, x1, fun r ys2 r0 r1 y2 => ?_⟩
    have u2 : But b H (upd H1 b (.lst ys2)) := u1.box
    have x2 : BoxAt (upd H1 b (.lst ys2)) b (n + 198) := .put y2
    generalize upd H1 b (.lst ys2) = H2 at u2 x2
    refine ⟨_, _, rfl, rfl, (by show 4 ≤ sizeLine; decide), fun l nl => ?_⟩
    have u3 : But b H (upd H2 l (.lst [.int 0, .int 0, .int 0, .int (1000000000000 - 200 - r)])) := fun a o na e => by
      rw [upd_ne (ne_of_none (u2 a o na e) nl)]
      exact u2 a o na e
    refine ⟨b, l, n + 197, _, rfl, SqA.l upd_same, ne_box x2 nl, (by show 0 < 4; decide), (by show 4 < 1000000; decide), x2.at (x2.ne nl), fun v ys3 hv y3 => ?_⟩
    obtain ⟨far, f0, f1, rfl⟩ : ∃ far : Int, 0 ≤ far ∧ far ≤ 1000000000000 - 200 ∧ v = .int far := by
      have e4 : v = .int 0 ∨ v = .int (1000000000000 - 200 - r) := by
        have e5 : v = .int 0 ∨ v = .int 0 ∨ v = .int 0 ∨ v = .int (1000000000000 - 200 - r) := by simpa using hv
        rcases e5 with e | e | e | e
        · exact .inl e
        · exact .inl e
        · exact .inl e
        · exact .inr e
      rcases e4 with e | e
      · exact ⟨0, by decide, by decide, e⟩
      · exact ⟨_, by omega, by omega, e⟩
    replace u3 : But b H (upd (upd H2 l (.lst [.int 0, .int 0, .int 0, .int (1000000000000 - 200 - r)])) b (.lst ys3)) := u3.box
    have x3 : BoxAt (upd (upd H2 l (.lst [.int 0, .int 0, .int 0, .int (1000000000000 - 200 - r)])) b (.lst ys3)) b (n + 197) := .put y3
    try dsimp only
    generalize upd (upd H2 l (.lst [.int 0, .int 0, .int 0, .int (1000000000000 - 200 - r)])) b (.lst ys3) = H3 at u3 x3
    refine ⟨(by show 2 ≤ sizeLine; decide), fun tp ntp => ?_⟩
    refine ⟨tp, _, rfl, SqA.t upd_same, rfl, _, _, rfl, _, _, rfl, rfl, ?_⟩
    obtain ⟨u4, x4, _, _⟩ := al (o := .tup [.int (1 + c), .int far]) u3 x3 ntp
    try dsimp only
    generalize upd H3 tp (.tup [.int (1 + c), .int far]) = H4 at u4 x4
    obtain ⟨cn, ec⟩ : ∃ cn : Nat, 1 + c = ((cn : Nat) : Int) := ⟨(1 + c).toNat, by omega⟩
    have cn0 : 0 < cn := by omega
    have cn1 : cn ≤ most := by omega
    rw [ec]
    -- wide
    refine ⟨_, rfl, _, rfl, _, 2, rfl, rfl, _, rfl, 2, _, rfl, rfl, .inl ⟨by decide, by decide⟩, _, 2, rfl, rfl, (by show 3 ≤ sizeLine; decide), fun l2 nl2 => ?_⟩
    obtain ⟨u5, x5, e5, n5⟩ := al (o := .lst [.int 2, .int ((cn : Int) + 2), .int (2 * (cn : Int) + 2)]) u4 x4 nl2
    refine ⟨b, l2, n + 196, _, rfl, SqA.l upd_same, n5, (by show 0 < 3; decide), (by show 3 < 1000000; decide), x5.mono (by omega), fun v ys6 hv y6 => ?_⟩
    obtain ⟨wide, w0, w1, rfl⟩ : ∃ wide : Int, 2 ≤ wide ∧ wide ≤ 122 ∧ v = .int wide := by
      have e5 : v = .int 2 ∨ v = .int ((cn : Int) + 2) ∨ v = .int (2 * (cn : Int) + 2) := by simpa using hv
      rcases e5 with e | e | e
      · exact ⟨2, by decide, by decide, e⟩
      · exact ⟨_, by omega, by omega, e⟩
      · exact ⟨_, by omega, by omega, e⟩
    obtain ⟨u6, x6⟩ := tk u5 y6
    try dsimp only
    generalize upd (upd H4 l2 (.lst [.int 2, .int ((cn : Int) + 2), .int (2 * (cn : Int) + 2)])) b (.lst ys6) = H6 at u6 x6
    -- depths
    refine ⟨2, rfl, by decide, by decide, fun C nC => ?_⟩
    refine lc_range (fun i Hc => ∃ ns : List Int, But b H6 Hc ∧ BoxAt Hc b (n + 196 - 2 * i) ∧ Hc C = some (.lst (ns.map V.int)) ∧ ns.length = i ∧ ∀ d ∈ ns, 0 ≤ d ∧ d ≤ 1000000000000) ?_ ?_ ?_
    · exact ⟨[], (al (But.refl b H6) x6 nC).1, (al (But.refl b H6) x6 nC).2.1, upd_same, rfl, fun d hd => by simp at hd⟩
    · rintro i Hc hi ⟨ns, uc, xc, hC, hl, hn⟩
      have nCb : C ≠ b := (x6.ne nC).symm
      have i2 : i < 2 := hi
      refine ⟨rfl, tyes (iteT ?_)⟩
      refine ⟨_, rfl, _, rfl, _, rfl, _, 2, rfl, rfl, ?_⟩
      refine ⟨b, n + 196 - 2 * i - 1, _, rfl, by omega, by omega, xc.mono (by omega), fun v ys v0 v1 y => ?_⟩
      obtain ⟨ud, xd⟩ := tk uc y
      have hD : upd Hc b (.lst ys) C = some (.lst (ns.map V.int)) := by rw [upd_ne nCb]; exact hC
      generalize upd Hc b (.lst ys) = Hd at ud xd hD
      refine ⟨_, rfl, ?_⟩
      refine ⟨b, n + 196 - 2 * i - 2, 2, rfl, by decide, by decide, xd.mono (by omega), fun v' ys' v0' v1' y' => ?_⟩
      obtain ⟨ue, xe⟩ := tk ud y'
      have hE : upd Hd b (.lst ys') C = some (.lst (ns.map V.int)) := by rw [upd_ne nCb]; exact hD
      generalize upd Hd b (.lst ys') = He at ue xe hE
      refine ⟨v, v', rfl, rfl, .inl ⟨by omega, by omega⟩, far, v * v', rfl, rfl, ns.map V.int, hE, ?_, ns ++ [far + v * v'], ?_, ?_, ?_, ?_, ?_⟩
      · rw [List.length_map, hl]
        exact Nat.lt_trans i2 (by decide)
      · exact fun a o na e => by rw [upd_ne (ne_of_none e nC)]; exact ue a o na e
      · exact (xe.at (x6.ne nC)).mono (by omega)
      · rw [upd_same, List.map_append]
        rfl
      · simp [hl]
      · intro d hd
        rcases List.mem_append.mp hd with z | z
        · exact hn d z
        · have e : d = far + v * v' := by simpa using z
          have e01 : v' = 0 ∨ v' = 1 := by omega
          rcases e01 with z | z <;> (rw [e, z]; omega)
    · rintro H7 ⟨ds2, u7', x7, h7, l7, b7⟩
      have u7 : But b H H7 := u6.trans u7'
      clear u7'
      replace x7 : BoxAt H7 b (n + 192) := x7.mono (by omega)
      have nCb : C ≠ b := (x6.ne nC).symm
      -- draughts
      refine ⟨_, rfl, _, rfl, by omega, by omega, fun C2 nC2 => ?_⟩
      rw [show ((cn : Int)).toNat = cn by omega]
      refine lc_range (fun i Hc => ∃ ns : List Int, But b H7 Hc ∧ BoxAt Hc b (n + 192 - i) ∧ Hc C2 = some (.lst (ns.map V.int)) ∧ ns.length = i ∧ ∀ d ∈ ns, 0 ≤ d ∧ d ≤ 1000000000000) ?_ ?_ ?_
      · exact ⟨[], (al (But.refl b H7) x7 nC2).1, (al (But.refl b H7) x7 nC2).2.1, upd_same, rfl, fun d hd => by simp at hd⟩
      · rintro i Hc hi ⟨ns, uc, xc, hC, hl, hn⟩
        have nCb2 : C2 ≠ b := (x7.ne nC2).symm
        refine ⟨rfl, tyes (iteT ?_)⟩
        refine ⟨_, rfl, _, rfl, _, rfl, ?_⟩
        refine ⟨b, n + 192 - i - 1, wide, rfl, by omega, by omega, xc.mono (by omega), fun v ys v0 v1 y => ?_⟩
        obtain ⟨ud, xd⟩ := tk uc y
        have hD : upd Hc b (.lst ys) C2 = some (.lst (ns.map V.int)) := by rw [upd_ne nCb2]; exact hC
        generalize upd Hc b (.lst ys) = Hd at ud xd hD
        refine ⟨far, v, rfl, rfl, ns.map V.int, hD, ?_, ns ++ [far + v], ?_, ?_, ?_, ?_, ?_⟩
        · rw [List.length_map, hl]
          exact Nat.lt_of_lt_of_le hi (Nat.le_trans (show cn ≤ 60 by omega) (by decide))
        · exact fun a o na e => by rw [upd_ne (ne_of_none e nC2)]; exact ud a o na e
        · exact (xd.at (x7.ne nC2)).mono (by omega)
        · rw [upd_same, List.map_append]
          rfl
        · simp [hl]
        · intro d hd
          rcases List.mem_append.mp hd with z | z
          · exact hn d z
          · have e : d = far + v := by simpa using z
            omega
      · rintro H8 ⟨ds, u8', x8, h8, l8, b8⟩
        have h7' : H8 C = some (.lst (ds2.map V.int)) := u8' _ _ nCb h7
        have u8 : But b H H8 := u7.trans u8'
        have nC2b : C2 ≠ b := (x7.ne nC2).symm
        have nCC : C ≠ C2 := ne_of_none h7 nC2
        replace x8 : BoxAt H8 b (n + 132) := x8.mono (by omega)
        clear u8'
        -- take(box, 4) == 0
        refine ⟨_, rfl, b, n + 131, 4, rfl, by decide, by decide, x8.mono (by omega), fun v ys v0 v1 y => ?_⟩
        obtain ⟨u9, x9⟩ := tk u8 y
        have h9 : upd H8 b (.lst ys) C = some (.lst (ds2.map V.int)) := by rw [upd_ne nCb]; exact h7'
        have g9 : upd H8 b (.lst ys) C2 = some (.lst (ds.map V.int)) := by rw [upd_ne nC2b]; exact h8
        generalize upd H8 b (.lst ys) = H9 at u9 x9 h9 g9
        obtain ⟨d0, d1, rfl⟩ := two_of l7
        refine ⟨rfl, _, rfl, ite2 (fun c => ?_) (fun c => ?_)⟩
        · refine ⟨_, rfl, _, rfl, by omega, by omega, fun C3 nC3 => ?_⟩
          rw [show ((cn : Int)).toNat = cn by omega]
          have nC3b : C3 ≠ b := (x9.ne nC3).symm
          refine lc_range (fun i Hc => ∃ ns : List Int, But b H9 Hc ∧ BoxAt Hc b (n + 131 - i) ∧ Hc C3 = some (.lst (ns.map V.int)) ∧ ns.length = i ∧ ∀ d ∈ ns, 0 ≤ d ∧ d ≤ 1000000000000) ?_ ?_ ?_
          · exact ⟨[], (al (But.refl b H9) x9 nC3).1, (al (But.refl b H9) x9 nC3).2.1, upd_same, rfl, fun d hd => by simp at hd⟩
          · rintro i Hc hi ⟨ns, uc, xc, hC, hl, hn⟩
            refine ⟨rfl, tyes (iteT ?_)⟩
            refine ⟨_, rfl, b, n + 131 - i - 1, 2, rfl, by decide, by decide, xc.mono (by omega), fun v ys v0 v1 y => ?_⟩
            obtain ⟨ud, xd⟩ := tk uc y
            have hD : upd Hc b (.lst ys) C3 = some (.lst (ns.map V.int)) := by rw [upd_ne nC3b]; exact hC
            generalize upd Hc b (.lst ys) = Hd at ud xd hD
            have gd : Hd C2 = some (.lst (ds.map V.int)) := ud _ _ nC2b g9
            have fin : ∀ z ∈ ds, ∃ acc : List V, Hd C3 = some (.lst acc) ∧ acc.length < sizeLine ∧ ∃ ns : List Int, But b H9 (upd Hd C3 (.lst (acc ++ [.int z]))) ∧ BoxAt (upd Hd C3 (.lst (acc ++ [.int z]))) b (n + 131 - (i + 1)) ∧
                upd Hd C3 (.lst (acc ++ [.int z])) C3 = some (.lst (ns.map V.int)) ∧ ns.length = i + 1 ∧ ∀ d ∈ ns, 0 ≤ d ∧ d ≤ 1000000000000 := fun z hz => by
              refine ⟨ns.map V.int, hD, ?_, ns ++ [z], ?_, ?_, ?_, ?_, ?_⟩
              · rw [List.length_map, hl]
                exact Nat.lt_of_lt_of_le hi (Nat.le_trans (show cn ≤ 60 by omega) (by decide))
              · exact fun a o na e => by rw [upd_ne (ne_of_none e nC3)]; exact ud a o na e
              · exact (xd.at (x9.ne nC3)).mono (by omega)
              · rw [upd_same, List.map_append]
                rfl
              · simp [hl]
              · intro d hd
                rcases List.mem_append.mp hd with z2 | z2
                · exact hn d z2
                · have e : d = z := by simpa using z2
                  rw [e]
                  exact b8 z hz
            refine ⟨rfl, _, rfl, ite2 (fun c => ?_) (fun c => ?_)⟩
            · have hi' : i < ds.length := by omega
              exact ⟨_, rfl, _, rfl, C2, _, _, .int ds[i], rfl, rfl, SqA.l gd, at_nat (j := i) (by omega) (by simp [hi']), fin _ (List.getElem_mem hi')⟩
            · have hi' : 0 < ds.length := by omega
              exact ⟨_, rfl, C2, _, _, .int ds[0], rfl, rfl, SqA.l gd, at_nat (j := 0) rfl (by simp [hi']), fin _ (List.getElem_mem hi')⟩
          · rintro H10 ⟨ds', u10', x10, h10, l10, b10⟩
            have u10 : But b H H10 := u9.trans u10'
            refine ⟨_, rfl, C, _, 0, .int d0, rfl, rfl, SqA.l (u10' _ _ nCb h9), rfl, _, rfl, C, _, 1, .int d1, rfl, rfl, SqA.l (u10' _ _ nCb h9), rfl, _, rfl, C3, _, rfl, .inl ⟨SqL.of h10, fun q' nq => ?_⟩⟩
            refine ⟨(by show 3 ≤ sizeLine; decide), fun p np => ?_⟩
            obtain ⟨uq, xq, eq, nqb⟩ := al (o := .tup (ds'.map V.int)) u10 x10 nq
            obtain ⟨up, xp, ep, npb⟩ := al (o := .tup [.int d0, .int d1, .ref q']) uq xq np
            refine q _ p q' d0 d1 ds' up (xp.mono (by omega)) (uq.free npb np) (u10.free nqb nq) ep ?_ ⟨(b7 d0 (by simp)).1, (b7 d0 (by simp)).2, (b7 d1 (by simp)).1, (b7 d1 (by simp)).2, by omega, by omega, b10⟩
            rw [upd_ne (ne_of_none eq np)]
            exact eq
        · refine ⟨_, rfl, C, _, 0, .int d0, rfl, rfl, SqA.l h9, rfl, _, rfl, C, _, 1, .int d1, rfl, rfl, SqA.l h9, rfl, _, rfl, C2, _, rfl, .inl ⟨SqL.of g9, fun q' nq => ?_⟩⟩
          refine ⟨(by show 3 ≤ sizeLine; decide), fun p np => ?_⟩
          obtain ⟨uq, xq, eq, nqb⟩ := al (o := .tup (ds.map V.int)) u9 x9 nq
          obtain ⟨up, xp, ep, npb⟩ := al (o := .tup [.int d0, .int d1, .ref q']) uq xq np
          refine q _ p q' d0 d1 ds up (xp.mono (by omega)) (uq.free npb np) (u9.free nqb nq) ep ?_ ⟨(b7 d0 (by simp)).1, (b7 d0 (by simp)).2, (b7 d1 (by simp)).1, (b7 d1 (by simp)).2, by omega, by omega, b8⟩
          rw [upd_ne (ne_of_none eq np)]
          exact eq
end
end Sh

namespace Sh
open PySem PySem.Spec PyProof.Rows L2
/-! ### what many laws ask -/
/-- a sea (list or tuple) is handed in -/
def SeaA (K : PySem.W.Frag) (H : Hp) (v : V) (h t : Int) (ds : List Int) : Prop := ∃ p q, v = .ref p ∧ SqA K H p [.int h, .int t, .ref q] ∧ SqA K H q (ds.map V.int)
theorem SeaA.same {K : PySem.W.Frag} {H H' : Hp} {v : V} {h t : Int} {ds : List Int} (s : SeaA K H v h t ds) (e : Same H H') : SeaA K H' v h t ds := let ⟨p, q, a, b, c⟩ := s; ⟨p, q, a, Same.sqA e b, Same.sqA e c⟩
theorem lay_ints : ∀ ns : List Int, PyData.canLayAll0 (ns.map .int) = true ∧ PyData.depthAll (ns.map .int) = 0
  | [] => ⟨rfl, rfl⟩
  | n :: ns => by
    obtain ⟨a, b⟩ := lay_ints ns
    constructor
    · show (PyData.canLay0 (.int n) && PyData.canLayAll0 (ns.map .int)) = true
      rw [a]
      rfl
    · show max (PyData.depth (.int n)) (PyData.depthAll (ns.map .int)) = 0
      rw [b]
      rfl
theorem shaped_ints (ns : List Int) : SeqAt.shaped (.list (ns.map .int)) = true := by
  obtain ⟨a, b⟩ := lay_ints ns
  unfold SeqAt.shaped
  rw [show PyData.canLay0 (.list (ns.map .int)) = PyData.canLayAll0 (ns.map .int) from rfl, show PyData.depth (.list (ns.map .int)) = PyData.depthAll (ns.map .int) + 1 from rfl, a, b]
  rfl
theorem flat_ints (ns : List Int) : (ns.map V.int).all flatV = true := by
  rw [List.all_map]
  exact List.all_eq_true.mpr fun _ _ => rfl
theorem same_over {H H1 : Hp} {p : Addr} {o : HO} (s : Same H H1) (n : H p = none) : Same H (upd H1 p o) := fun a x e => by
  rw [upd_ne (ne_of_none e n)]
  exact s _ _ e
end Sh

namespace Sh
open PySem PySem.Spec PyProof.Rows L2
/-! ### standings as lists of ships -/
def ni (L : List Nat) : List V := L.map fun (i : Nat) => V.int (i : Int)
theorem ni_len (L : List Nat) : (ni L).length = L.length := by unfold ni; simp
theorem ni_get {L : List Nat} {i : Nat} (h : i < L.length) : (ni L)[i]? = some (.int ((L[i] : Nat) : Int)) := by unfold ni; simp [h]
theorem ni_app (L M : List Nat) : ni (L ++ M) = ni L ++ ni M := by unfold ni; simp
theorem ni_ints (L : List Nat) : ni L = (L.map fun (i : Nat) => (i : Int)).map V.int := by unfold ni; simp
theorem ni_flat (L : List Nat) : (ni L).all flatV = true := by unfold ni; rw [List.all_map]; exact List.all_eq_true.mpr fun _ _ => rfl
/-- a rising lot of ships below c -/
structure Lot (c : Nat) (L : List Nat) : Prop where
  up : L.Pairwise (· < ·)
  lt : ∀ i ∈ L, i < c
theorem up_len : ∀ {L : List Nat} {lo c : Nat}, L.Pairwise (· < ·) → (∀ i ∈ L, lo ≤ i ∧ i < c) → L.length ≤ c - lo
  | [], _, _, _, _ => Nat.zero_le _
  | a :: r, lo, c, h, hb => by
    obtain ⟨h1, h2⟩ := List.pairwise_cons.mp h
    have ha := hb a List.mem_cons_self
    have := up_len (lo := a + 1) (c := c) h2 fun i hi => ⟨h1 i hi, (hb i (List.mem_cons_of_mem _ hi)).2⟩
    rw [List.length_cons]
    omega
theorem Lot.len {c : Nat} {L : List Nat} (h : Lot c L) : L.length ≤ c := up_len (lo := 0) h.up fun i hi => ⟨Nat.zero_le _, h.lt i hi⟩
theorem Lot.nil (c : Nat) : Lot c [] := ⟨.nil, fun _ h => by cases h⟩
theorem Lot.all (c : Nat) : Lot c (List.range c) := ⟨List.pairwise_lt_range, fun _ h => List.mem_range.mp h⟩
theorem Lot.filter {c : Nat} {L : List Nat} (h : Lot c L) (p : Nat → Bool) : Lot c (L.filter p) := ⟨h.up.filter p, fun i hi => h.lt i (List.mem_filter.mp hi).1⟩
theorem rgV_ni (n : Nat) : rgV 0 (n : Int) = ni (List.range n) := by
  unfold rgV ni
  rw [show ((n : Int) - 0).toNat = n by omega]
  refine List.map_congr_left fun i _ => ?_
  rw [Int.zero_add]
theorem dp_ni {K : PySem.W.Frag} {H : Hp} {a : Addr} {L : List Nat} (h : H a = some (.lst (ni L))) : Dp K H (.ref a) (.list ((L.map fun (i : Nat) => (i : Int)).map .int)) := by
  rw [ni_ints] at h
  exact .lst (SqL.of h) (DpAll.ints _)
end Sh

namespace Sh
open PySem PySem.Spec PyProof.Rows L2
/-! ### a drawn lot -/
def spLot : Sp := fun vs H Q _ => ∃ (b : Addr) (n c : Nat), vs = [.ref b, .int (c : Int)] ∧ c ≤ 60 ∧ BoxAt H b (n + 100) ∧
  ∀ (H' : Hp) (p : Addr) (L : List Nat), But b H H' → BoxAt H' b n → H p = none → H' p = some (.tup (ni L)) → Lot c L → Q (.ref p) H'
abbrev s__law_lot : Stmt := topS 40
theorem sc__law_lot : FnScope (["_law_box_here", "_law_count", "_law_odds", "_law_whom"] : List Str) (["_law_box_here", "_law_count"] : List Str) (defScope s__law_lot) := ⟨rfl, rfl, rfl, by decide +kernel, rfl, by decide +kernel, by decide +kernel⟩
theorem b__law_lot (kV doc pm : Value) (an : Option Addr) (cdv ct : Value) (us : List Value) (hl : us.length = (["_law_box_here", "_law_count"] : List Str).length) : bindArgs (PySem.W.fnOf "_law_lot" "_law_lot" (defArgs s__law_lot) (defBody s__law_lot) (defScope s__law_lot) .none kV doc pm an cdv ct) ⟨us, []⟩ = pure ((["_law_box_here", "_law_count"] : List Str).zip us) :=
  match us, hl with | [_, _], _ => rfl
section
variable {P : Program} {w : World} {K : PySem.W.Frag} {mg : Str → Option Value} {base : Heap}
theorem ok_lot {k : Nat} (D : Df K mg "_law_lot" s__law_lot) (T : Bt mg) (O__law_take : Ok P w K mg base k "_law_take" s__law_take ["_law_box_here", "_law_span"] spTake) (O__law_of : Ok P w K mg base k "_law_of" s__law_of ["_law_box_here", "_law_some"] (spOf K)) :
    Ok P w K mg base (k + 1) "_law_lot" s__law_lot ["_law_box_here", "_law_count"] spLot := by
  refine D.ok sc__law_lot b__law_lot (fun vs H Q E h => ?_) (fun f cdv A outer s H vs Q E hr h => ?_)
  · obtain ⟨b, n, c, rfl, _⟩ := h
    rfl
  · obtain ⟨b, n, c, rfl, c60, hb, q⟩ := h
    refine ⟨_, (pss_cons (ps_set (i := 2) sc__law_lot.nd rfl (.inr rfl) (pe_fn O__law_of (hr.mono (by omega)) (pa_cons (pv 0) (pa_cons (pe_lst (pa_cons pe_int (pa_cons pe_int (pa_cons pe_int (pa_cons pe_int (pa_cons pe_int pa_nil)))))) pa_nil))))
      (pss_cons (ps_if (pt_cmpR op_eq (pe_fn O__law_take (hr.mono (by omega)) (pa_cons (pv 0) (pa_cons pe_int pa_nil))) pe_int (nomark _))
        (pss_one (ps_ret (pe_ifExp (pt_cmpR op_eq (pe_fn O__law_take (hr.mono (by omega)) (pa_cons (pv 0) (pa_cons pe_int pa_nil))) pe_int (nomark _)) (pe_tupRg (by rfl) (by rfl) T.tuple_ (prg_1 (by rfl) T.range_ (pv 1))) (pe_tup pa_nil))))
        pss_nil)
      (pss_one (ps_ret (pe_callTy call_tuple_of (by rfl) T.tuple_ (by decide +kernel) (pa_cons (pe_lc (own := [("_law_whom", 3)]) (g := (gName 3)) (by rfl) sc__law_lot.nd (pi_range1 (by rfl) T.range_ (pa_cons (pv 1) pa_nil)) (blkOk_by (own := [("_law_whom", 3)]) (N := (["_law_box_here", "_law_count", "_law_odds", "_law_whom"] : List Str)) (sc := defScope s__law_lot) (by decide +kernel)) (fun _ _ _ _ _ => (pg_name (i := 3) sc__law_lot.nd rfl (.inl rfl))) (fun _ _ _ _ _ => (pts_one (pt_cmpR op_eq (pe_fn O__law_take (hr.mono (by omega)) (pa_cons (pv 0) (pa_cons (pv 2) pa_nil))) pe_int (nomark _)))) (fun _ _ _ _ _ => (pv 3))) pa_nil)))))), ?_⟩
    -- odds
    refine ⟨_, rfl, (by show 5 ≤ sizeLine; decide), fun l nl => ?_⟩
    obtain ⟨u1, x1, e1, n1⟩ := al (o := .lst [.int 1, .int 2, .int 2, .int 3, .int 4]) (But.refl b H) hb nl
    refine ⟨b, l, n + 99, _, rfl, SqA.l upd_same, n1, (by show 0 < 5; decide), (by show 5 < 1000000; decide), x1.mono (by omega), fun v ys hv y => ?_⟩
    obtain ⟨o, o0, o1, rfl⟩ : ∃ o : Int, 1 ≤ o ∧ o ≤ 4 ∧ v = .int o := by
      have e5 : v = .int 1 ∨ v = .int 2 ∨ v = .int 3 ∨ v = .int 4 := by simpa using hv
      rcases e5 with e | e | e | e
      · exact ⟨1, by decide, by decide, e⟩
      · exact ⟨2, by decide, by decide, e⟩
      · exact ⟨3, by decide, by decide, e⟩
      · exact ⟨4, by decide, by decide, e⟩
    obtain ⟨u2, x2⟩ := tk u1 y
    generalize upd (upd H l (.lst [.int 1, .int 2, .int 2, .int 3, .int 4])) b (.lst ys) = H2 at u2 x2
    -- take(box, 8) == 0
    refine ⟨_, rfl, b, n + 98, 8, rfl, by decide, by decide, x2.mono (by omega), fun v ys v0 v1 y => ?_⟩
    obtain ⟨u3, x3⟩ := tk u2 y
    generalize upd H2 b (.lst ys) = H3 at u3 x3
    refine ⟨rfl, _, rfl, ite2 (fun _ => ?_) (fun _ => ?_)⟩
    · refine ⟨_, rfl, b, n + 97, 2, rfl, by decide, by decide, x3.mono (by omega), fun v ys v0 v1 y => ?_⟩
      obtain ⟨u4, x4⟩ := tk u3 y
      generalize upd H3 b (.lst ys) = H4 at u4 x4
      refine ⟨rfl, _, rfl, ite2 (fun _ => ?_) (fun _ => ?_)⟩
      · refine ⟨_, rfl, _, rfl, .of_le (by omega) (by omega) (by omega) (by omega), fun p np => ?_⟩
        rw [rgV_ni]
        obtain ⟨u5, x5, e5, n5⟩ := al (o := .tup (ni (List.range c))) u4 x4 np
        exact q _ p _ u5 (x5.mono (by omega)) (u4.free n5 np) e5 (Lot.all c)
      · refine ⟨Nat.zero_le _, fun p np => ?_⟩
        obtain ⟨u5, x5, e5, n5⟩ := al (o := .tup []) u4 x4 np
        exact q _ p [] u5 (x5.mono (by omega)) (u4.free n5 np) e5 (Lot.nil c)
    · refine ⟨_, rfl, _, rfl, by omega, by omega, fun C nC => ?_⟩
      rw [show ((c : Int)).toNat = c by omega]
      have nCb : C ≠ b := (x3.ne nC).symm
      refine lc_range (fun i Hc => ∃ L : List Nat, But b H3 Hc ∧ BoxAt Hc b (n + 98 - i) ∧ Hc C = some (.lst (ni L)) ∧ Lot i L) ?_ ?_ ?_
      · exact ⟨[], (al (But.refl b H3) x3 nC).1, (al (But.refl b H3) x3 nC).2.1, upd_same, Lot.nil 0⟩
      · rintro i Hc hi ⟨L, uc, xc, hC, hL⟩
        refine ⟨rfl, ?_⟩
        refine ⟨_, rfl, _, rfl, b, n + 98 - i - 1, o, rfl, by omega, by omega, xc.mono (by omega), fun v ys v0 v1 y => ?_⟩
        obtain ⟨ud, xd⟩ := tk uc y
        have hD : upd Hc b (.lst ys) C = some (.lst (ni L)) := by rw [upd_ne nCb]; exact hC
        generalize upd Hc b (.lst ys) = Hd at ud xd hD
        refine ⟨rfl, _, rfl, ite2 (fun _ => ?_) (fun _ => ?_)⟩
        · refine ⟨_, rfl, _, hD, ?_, L ++ [i], ?_, ?_, ?_, ?_⟩
          · rw [ni_len]
            exact small1000 (by have := hL.len; omega)
          · exact fun a z na e => by rw [upd_ne (ne_of_none e nC)]; exact ud a z na e
          · exact (xd.at (x3.ne nC)).mono (by omega)
          · rw [upd_same, ni_app]
            exact congrArg (fun z => some (HO.lst (ni L ++ [V.int z]))) (Int.zero_add (i : Int))
          · refine ⟨List.pairwise_append.mpr ⟨hL.up, List.pairwise_singleton _ _, fun a ha z hz => ?_⟩, fun a ha => ?_⟩
            · rw [List.mem_singleton.mp hz]
              exact hL.lt a ha
            · rcases List.mem_append.mp ha with z | z
              · have := hL.lt a z
                omega
              · rw [List.mem_singleton.mp z]
                omega
        · exact ⟨L, ud, xd.mono (by omega), hD, hL.up, fun a ha => Nat.lt_succ_of_lt (hL.lt a ha)⟩
      · rintro H4 ⟨L, u4', x4, h4, hL⟩
        have u4 := u3.trans u4'
        refine ⟨C, _, rfl, .inl ⟨SqL.of h4, fun p np => ?_⟩⟩
        obtain ⟨u5, x5, e5, n5⟩ := al (o := .tup (ni L)) u4 x4 np
        exact q _ p L u5 (x5.mono (by omega)) (u4.free n5 np) e5 hL
end
end Sh

namespace Sh
open PySem PySem.Spec PyProof.Rows L2
/-! ### who may go -/
/-- how many others lie here -/
def near (L : List Nat) (i : Nat) : Nat := (L.filter fun j => !decide (j = i)).length
def mayB (h t : Int) (ds : List Int) (L : List Nat) (i : Nat) : Bool := decide (ds.getD i 0 ≤ h + (near L i : Int)) && decide (ds.getD i 0 ≤ t + (ds.length : Int) - 1 - (near L i : Int))
def lets (h t : Int) (ds : List Int) (L : List Nat) (n : Nat) : List Nat := (List.range n).filter (mayB h t ds L)
theorem filter_succ (p : Nat → Bool) (n : Nat) : (List.range (n + 1)).filter p = (List.range n).filter p ++ (if p n = true then [n] else []) := by
  rw [List.range_succ, List.filter_append]
  congr 1
  by_cases h : p n = true
  · rw [if_pos h, List.filter_cons_of_pos h]
    rfl
  · rw [if_neg h, List.filter_cons_of_neg h]
    rfl
theorem filter_len (p : Nat → Bool) (n : Nat) : ((List.range n).filter p).length ≤ n := Nat.le_trans (List.length_filter_le _ _) (by simp)
theorem take_succ_get {α : Type} {L : List α} {i : Nat} (h : i < L.length) : L.take (i + 1) = L.take i ++ [L[i]] := by rw [List.take_add_one, List.getElem?_eq_getElem h]; rfl
/-- a standing is handed in -/
def LotA (K : PySem.W.Frag) (H : Hp) (v : V) (L : List Nat) : Prop := ∃ p, v = .ref p ∧ SqA K H p (ni L)
theorem LotA.same {K : PySem.W.Frag} {H H' : Hp} {v : V} {L : List Nat} (s : LotA K H v L) (e : Same H H') : LotA K H' v L := let ⟨p, a, b⟩ := s; ⟨p, a, Same.sqA e b⟩
end Sh

namespace Sh
open PySem PySem.Spec PyProof.Rows L2
/-! ### who is afloat -/
theorem Lot.mem_eq {c : Nat} {L : List Nat} (h : Lot c L) : L = (List.range c).filter fun j => decide (j ∈ L) := by
  have h2 : Lot c ((List.range c).filter fun j => decide (j ∈ L)) := (Lot.all c).filter _
  refine List.Perm.eq_of_pairwise (le := (· < ·)) (fun a b _ _ h1 h2 => absurd (Nat.lt_trans h1 h2) (Nat.lt_irrefl _)) h.up h2.up ?_
  refine (List.perm_ext_iff_of_nodup (h.up.imp Nat.ne_of_lt) (h2.up.imp Nat.ne_of_lt)).mpr fun a => ?_
  rw [List.mem_filter, List.mem_range, decide_eq_true_eq]
  exact ⟨fun q => ⟨h.lt a q, q⟩, fun q => q.2⟩
theorem filter_filter_len (p q : Nat → Bool) : ∀ l : List Nat, (l.filter p).length = (l.filter fun j => p j && q j).length + (l.filter fun j => p j && !q j).length
  | [] => rfl
  | a :: l => by
    have ih := filter_filter_len p q l
    cases hp : p a <;> cases hq : q a <;> simp [List.filter_cons, hp, hq, ih] <;> omega
/-- how many mates: here, or there -/
def mates (c : Nat) (L : List Nat) (i : Nat) : List Nat := (List.range c).filter fun j => !decide (j = i) && (decide (j ∈ L) == decide (i ∈ L))
theorem near_in {c : Nat} {L : List Nat} (h : Lot c L) (i : Nat) : near L i = ((List.range c).filter fun j => decide (j ∈ L) && !decide (j = i)).length := by
  unfold near
  conv => lhs; rw [h.mem_eq]
  rw [List.filter_filter]
  congr 1
  refine List.filter_congr fun a _ => ?_
  cases decide (a ∈ L) <;> cases decide (a = i) <;> rfl
theorem mates_here {c : Nat} {L : List Nat} (h : Lot c L) {i : Nat} (hi : i ∈ L) : (mates c L i).length = near L i := by
  rw [near_in h, mates]
  congr 1
  refine List.filter_congr fun a _ => ?_
  rw [decide_eq_true hi]
  cases decide (a ∈ L) <;> cases decide (a = i) <;> rfl
theorem one_of {c i : Nat} (hi : i < c) : ((List.range c).filter fun j => decide (j = i)).length = 1 := by
  have e : ((List.range c).filter fun j => decide (j = i)) = [i] := by
    refine List.Perm.eq_of_pairwise (le := (· < ·)) (fun a b _ _ h1 h2 => absurd (Nat.lt_trans h1 h2) (Nat.lt_irrefl _)) (List.pairwise_lt_range.filter _) (List.pairwise_singleton _ _) ?_
    refine (List.perm_ext_iff_of_nodup ((List.pairwise_lt_range.filter _).imp Nat.ne_of_lt) (by simp)).mpr fun a => ?_
    rw [List.mem_filter, List.mem_range, decide_eq_true_eq, List.mem_singleton]
    exact ⟨fun q => q.2, fun q => ⟨q ▸ hi, q⟩⟩
  rw [e]
  rfl
theorem mates_there {c : Nat} {L : List Nat} (h : Lot c L) {i : Nat} (hc : i < c) (hi : i ∉ L) : ((mates c L i).length : Int) = (c : Int) - 1 - (near L i : Int) := by
  have e1 := filter_filter_len (fun j => !decide (j = i)) (fun j => decide (j ∈ L)) (List.range c)
  have e2 := filter_filter_len (fun _ => true) (fun j => decide (j = i)) (List.range c)
  have e3 : ((List.range c).filter fun j => true && decide (j = i)).length = 1 := one_of hc
  have e4 : ((List.range c).filter fun _ => true).length = c := by rw [List.filter_eq_self.mpr fun _ _ => rfl, List.length_range]
  have e5 : ((List.range c).filter fun j => !decide (j = i) && decide (j ∈ L)).length = near L i := by
    rw [near_in h]
    congr 1
    exact List.filter_congr fun a _ => Bool.and_comm _ _
  have e6 : ((List.range c).filter fun j => !decide (j = i) && !decide (j ∈ L)).length = (mates c L i).length := by
    unfold mates
    congr 1
    refine List.filter_congr fun a _ => ?_
    rw [decide_eq_false hi]
    cases decide (a ∈ L) <;> cases decide (a = i) <;> rfl
  have e7 : ((List.range c).filter fun j => true && !decide (j = i)).length = ((List.range c).filter fun j => !decide (j = i)).length := rfl
  rw [e5, e6] at e1
  rw [e3, e4, e7] at e2
  omega
/-- afloat where it lies -/
def aflB (h t : Int) (ds : List Int) (L : List Nat) (i : Nat) : Bool := if i ∈ L then decide (ds.getD i 0 ≤ h + (near L i : Int)) else decide (ds.getD i 0 ≤ t + ((ds.length : Int) - 1 - (near L i : Int)))
def afl (h t : Int) (ds : List Int) (L : List Nat) (n : Nat) : List Nat := (List.range n).filter (aflB h t ds L)
theorem aflB_mates {h t : Int} {ds : List Int} {L : List Nat} {i : Nat} (hL : Lot ds.length L) (hi : i < ds.length) :
    aflB h t ds L i = decide (ds.getD i 0 ≤ (if i ∈ L then h else t) + ((mates ds.length L i).length : Int)) := by
  unfold aflB
  by_cases z : i ∈ L
  · rw [if_pos z, if_pos z, mates_here hL z]
  · rw [if_neg z, if_neg z, mates_there hL hi z]
theorem in_ni {i : Nat} {L : List Nat} : inV (.int (i : Int)) (ni L) = decide (i ∈ L) := by
  unfold inV ni
  rw [List.any_map, Bool.eq_iff_iff, List.any_eq_true, decide_eq_true_eq]
  constructor
  · rintro ⟨x, hx, e⟩
    have e' : ((x : Int) == (i : Int)) = true := e
    have : x = i := by have := beq_iff_eq.mp e'; omega
    rw [← this]
    exact hx
  · intro hx
    exact ⟨i, hx, beq_self_eq_true (i : Int)⟩
def spAfl (K : PySem.W.Frag) : Sp := fun vs H Q _ => ∃ (v l : V) (h t : Int) (ds : List Int) (L : List Nat), vs = [v, l] ∧ SeaA K H v h t ds ∧ LotA K H l L ∧ ds.length ≤ 1000 ∧ Lot ds.length L ∧
  ∀ (H' : Hp) (p : Addr), Same H H' → H p = none → H' p = some (.lst (ni (afl h t ds L ds.length))) → Q (.ref p) H'
/-- the same of who may go: of a standing -/
def spMay (K : PySem.W.Frag) : Sp := fun vs H Q _ => ∃ (v l : V) (h t : Int) (ds : List Int) (L : List Nat), vs = [v, l] ∧ SeaA K H v h t ds ∧ LotA K H l L ∧ ds.length ≤ 1000 ∧ Lot ds.length L ∧
  ∀ (H' : Hp) (p : Addr), Same H H' → H p = none → H' p = some (.lst (ni (lets h t ds L ds.length))) → Q (.ref p) H'
end Sh

namespace Sh
open PySem PySem.Spec PyProof.Rows L2
theorem eqv_nil (ns : List Int) : PyData.eqv (.list (ns.map .int)) (.list []) = ns.isEmpty := by cases ns <;> rfl
end Sh

namespace Sh
open PySem PySem.Spec PyProof.Rows L2
/-! ### the program: steps -/
def mk (h t : Int) (k : Nat) (s : Int) : Int := if t + ((k : Int) - 1 - s) < h + s then t + ((k : Int) - 1 - s) else h + s
def gs (m : Int) (ds : List Int) (n : Nat) : List Nat := (List.range n).filter fun i => decide (ds.getD i 0 ≤ m)
def topI (h t : Int) (k : Nat) : Int := if (if (t + ((k : Int) - 1) - h) / 2 < (k : Int) - 1 then (t + ((k : Int) - 1) - h) / 2 else (k : Int) - 1) > 0 then (if (t + ((k : Int) - 1) - h) / 2 < (k : Int) - 1 then (t + ((k : Int) - 1) - h) / 2 else (k : Int) - 1) else 0
def lowI (h d : Int) : Int := if d - h > 0 then d - h else 0
def highI (t : Int) (k : Nat) (d : Int) : Int := if t + ((k : Int) - 1) - d < (k : Int) - 1 then t + ((k : Int) - 1) - d else (k : Int) - 1
def spMark (K : PySem.W.Frag) : Sp := fun vs H Q _ => ∃ (v : V) (h t s : Int) (ds : List Int), vs = [v, .int s] ∧ SeaA K H v h t ds ∧ Q (.int (mk h t ds.length s)) H
def spGoers (K : PySem.W.Frag) : Sp := fun vs H Q _ => ∃ (v : V) (h t s : Int) (ds : List Int), vs = [v, .int s] ∧ SeaA K H v h t ds ∧ ds.length ≤ 1000 ∧
  ∀ (H' : Hp) (p : Addr), Same H H' → H p = none → H' p = some (.lst (((gs (mk h t ds.length s) ds ds.length).map fun (i : Nat) => (i : Int)).map V.int)) → Q (.ref p) H'
def spTop (K : PySem.W.Frag) : Sp := fun vs H Q _ => ∃ (v : V) (h t : Int) (ds : List Int), vs = [v] ∧ SeaA K H v h t ds ∧ Q (.int (topI h t ds.length)) H
def spWindow (K : PySem.W.Frag) : Sp := fun vs H Q _ => ∃ (v : V) (h t d : Int) (j : Nat) (ds : List Int), vs = [v, .int (j : Int)] ∧ SeaA K H v h t ds ∧ ds[j]? = some d ∧
  (lowI h d > highI t ds.length d → Q .non H) ∧ (¬ lowI h d > highI t ds.length d → ∀ p, H p = none → Q (.ref p) (upd H p (.tup [.int (lowI h d), .int (highI t ds.length d)])))
theorem gs_succ {m : Int} {ds : List Int} {n : Nat} : gs m ds (n + 1) = gs m ds n ++ (if ds.getD n 0 ≤ m then [n] else []) := by
  unfold gs
  rw [List.range_succ, List.filter_append]
  congr 1
  by_cases h : ds.getD n 0 ≤ m
  · rw [if_pos h, List.filter_cons_of_pos (by simpa using h)]
    rfl
  · rw [if_neg h, List.filter_cons_of_neg (by simpa using h)]
    rfl
theorem gs_len {m : Int} {ds : List Int} {n : Nat} : (gs m ds n).length ≤ n := by
  unfold gs
  exact Nat.le_trans (List.length_filter_le _ _) (by simp)
theorem mk_alt (h t : Int) (k : Nat) (s : Int) : (if t + (k : Int) - 1 - s < h + s then t + (k : Int) - 1 - s else h + s) = mk h t k s := by
  unfold mk
  rw [show t + (k : Int) - 1 - s = t + ((k : Int) - 1 - s) by omega]
end Sh

namespace Sh
open PySem PySem.Spec PyProof.Rows L2
/-! ### steps: the mathematics -/
def ml (h t : Int) (k n : Nat) : List Int := (List.range n).map fun (i : Nat) => mk h t k (i : Int)
theorem ml_succ (h t : Int) (k n : Nat) : ml h t k (n + 1) = ml h t k n ++ [mk h t k (n : Int)] := by
  unfold ml
  rw [List.range_succ, List.map_append]
  rfl
theorem ml_len (h t : Int) (k n : Nat) : (ml h t k n).length = n := by
  unfold ml
  simp
theorem ml_get {h t : Int} {k n i : Nat} (hi : i < n) : (ml h t k n)[i]? = some (mk h t k (i : Int)) := by
  unfold ml
  simp [hi]
theorem top_lo (h t : Int) (k : Nat) : 0 ≤ topI h t k := by
  unfold topI
  split <;> omega
theorem top_hi (h t : Int) {k : Nat} (hk : 0 < k) : topI h t k < (k : Int) := by
  unfold topI
  repeat' split
  all_goals omega
theorem top_max (h t : Int) {k i : Nat} (hi : i < k) : mk h t k (i : Int) ≤ mk h t k (topI h t k) := by
  unfold mk topI
  repeat' split
  all_goals omega
theorem top_least (h t : Int) {k i : Nat} (hi : (i : Int) < topI h t k) : mk h t k (i : Int) < mk h t k (topI h t k) := by
  unfold mk topI at *
  repeat' split
  all_goals (repeat' split at hi)
  all_goals omega
theorem win_iff (h t d : Int) {k i : Nat} (hi : i < k) : d ≤ mk h t k (i : Int) ↔ lowI h d ≤ (i : Int) ∧ (i : Int) ≤ highI t k d := by
  unfold mk lowI highI
  constructor
  · intro z
    split at z <;> (constructor <;> split <;> omega)
  · intro z
    split <;> (obtain ⟨z1, z2⟩ := z; split at z1 <;> split at z2 <;> omega)
/-- the steps at which it may go -/
def fl (h t d : Int) (k n : Nat) : List Nat := (List.range n).filter fun (i : Nat) => decide (d ≤ mk h t k (i : Int))
theorem fl_succ {h t d : Int} {k n : Nat} : fl h t d k (n + 1) = fl h t d k n ++ (if d ≤ mk h t k (n : Int) then [n] else []) := by
  unfold fl
  rw [List.range_succ, List.filter_append]
  congr 1
  by_cases z : d ≤ mk h t k (n : Int)
  · rw [if_pos z, List.filter_cons_of_pos (by simpa using z)]
    rfl
  · rw [if_neg z, List.filter_cons_of_neg (by simpa using z)]
    rfl
theorem fl_len {h t d : Int} {k n : Nat} : (fl h t d k n).length ≤ n := by
  unfold fl
  exact Nat.le_trans (List.length_filter_le _ _) (by simp)
theorem fl_mem {h t d : Int} {k i : Nat} : i ∈ fl h t d k k ↔ i < k ∧ lowI h d ≤ (i : Int) ∧ (i : Int) ≤ highI t k d := by
  unfold fl
  rw [List.mem_filter, List.mem_range, decide_eq_true_eq]
  constructor
  · rintro ⟨a, b⟩
    exact ⟨a, (win_iff h t d a).mp b⟩
  · rintro ⟨a, b⟩
    exact ⟨a, (win_iff h t d a).mpr b⟩
theorem fl_sorted (h t d : Int) (k : Nat) : (fl h t d k k).Pairwise (· < ·) := by
  unfold fl
  exact List.Pairwise.filter _ List.pairwise_lt_range
theorem high_lt (t d : Int) {k : Nat} (hk : 0 < k) : highI t k d < (k : Int) := by
  unfold highI
  split <;> omega
theorem low_nn (h d : Int) : 0 ≤ lowI h d := by
  unfold lowI
  split <;> omega
theorem fl_nil {h t d : Int} {k : Nat} (z : lowI h d > highI t k d) : fl h t d k k = [] := by
  cases e : fl h t d k k with
  | nil => rfl
  | cons x r =>
    have m : x ∈ fl h t d k k := by rw [e]; exact List.mem_cons_self
    obtain ⟨_, a, b⟩ := fl_mem.mp m
    omega
/-- a rising list has its least first, its greatest last -/
theorem fl_ends {h t d : Int} {k : Nat} (hk : 0 < k) (z : ¬ lowI h d > highI t k d) : ∃ (l : List Nat) (r : List Nat) (a b : Nat), fl h t d k k = a :: r ∧ fl h t d k k = l ++ [b] ∧ (a : Int) = lowI h d ∧ (b : Int) = highI t k d := by
  have hh := high_lt t d hk
  have hl := low_nn h d
  have ml' : (lowI h d).toNat ∈ fl h t d k k := fl_mem.mpr ⟨by omega, by omega, by omega⟩
  have mh : (highI t k d).toNat ∈ fl h t d k k := fl_mem.mpr ⟨by omega, by omega, by omega⟩
  have ne : fl h t d k k ≠ [] := List.ne_nil_of_mem ml'
  have st := fl_sorted h t d k
  obtain ⟨a, r, e1⟩ : ∃ a r, fl h t d k k = a :: r := by
    cases e : fl h t d k k with
    | nil => exact absurd e ne
    | cons x r => exact ⟨x, r, rfl⟩
  have e2 : fl h t d k k = (fl h t d k k).dropLast ++ [(fl h t d k k).getLast ne] := (List.dropLast_concat_getLast ne).symm
  refine ⟨_, r, a, _, e1, e2, ?_, ?_⟩
  · have ma : a ∈ fl h t d k k := by rw [e1]; exact List.mem_cons_self
    obtain ⟨_, g1, g2⟩ := fl_mem.mp ma
    have le : a ≤ (lowI h d).toNat := by
      rw [e1] at ml' st
      rcases List.mem_cons.mp ml' with q | q
      · omega
      · have := (List.pairwise_cons.mp st).1 _ q
        omega
    omega
  · have mb := List.getLast_mem ne
    obtain ⟨_, g1, g2⟩ := fl_mem.mp mb
    have le : (highI t k d).toNat ≤ (fl h t d k k).getLast ne := by
      have st2 := st
      rw [e2] at mh st2
      rcases List.mem_append.mp mh with q | q
      · have := (List.pairwise_append.mp st2).2.2 _ q _ List.mem_cons_self
        omega
      · have : (highI t k d).toNat = (fl h t d k k).getLast ne := by simpa using q
        omega
    omega
end Sh

namespace Sh
open PySem PySem.Spec PyProof.Rows L2
/-! ### sorted lists of ships -/
theorem nat_list {c : Nat} : ∀ {ns : List Int}, (∀ z ∈ ns, 0 ≤ z ∧ z < (c : Int)) → ∃ L : List Nat, ns = L.map (fun (i : Nat) => (i : Int)) ∧ ∀ i ∈ L, i < c
  | [], _ => ⟨[], rfl, fun _ h => by cases h⟩
  | z :: ns, h => by
    obtain ⟨L, e, hL⟩ := nat_list (ns := ns) fun y hy => h y (List.mem_cons_of_mem _ hy)
    have hz := h z List.mem_cons_self
    refine ⟨z.toNat :: L, ?_, fun i hi => ?_⟩
    · rw [List.map_cons, ← e]
      congr 1
      omega
    · rcases List.mem_cons.mp hi with q | q
      · omega
      · exact hL i q
theorem map_inj {L M : List Nat} (h : (L.map fun (i : Nat) => (i : Int)).Perm (M.map fun (i : Nat) => (i : Int))) : L.Perm M := by
  have h2 := h.map Int.toNat
  rw [List.map_map, List.map_map] at h2
  have e : (Int.toNat ∘ fun (i : Nat) => (i : Int)) = id := by
    funext i
    exact Int.toNat_natCast i
  rw [e, List.map_id, List.map_id] at h2
  exact h2
/-- sorted ints that are a rearrangement of different ships: a lot -/
theorem lot_sorted {c : Nat} {ns : List Int} {M : List Nat} (pm : ns.Perm (M.map fun (i : Nat) => (i : Int))) (up : ns.Pairwise (· ≤ ·)) (nd : M.Nodup) (lt : ∀ i ∈ M, i < c) :
    ∃ L : List Nat, ns = L.map (fun (i : Nat) => (i : Int)) ∧ L.Perm M ∧ Lot c L := by
  obtain ⟨L, rfl, hL⟩ := nat_list (c := c) (ns := ns) fun z hz => by
    obtain ⟨i, hi, rfl⟩ := List.mem_map.mp (pm.mem_iff.mp hz)
    have := lt i hi
    omega
  have p2 := map_inj pm
  refine ⟨L, rfl, p2, ?_, hL⟩
  have ndL : L.Nodup := p2.nodup_iff.mpr nd
  have up2 : L.Pairwise (· ≤ ·) := by
    rw [List.pairwise_map] at up
    exact up.imp fun h => by omega
  exact (up2.and ndL).imp fun h => Nat.lt_of_le_of_ne h.1 h.2
theorem cut_take (xs : List V) (l : Nat) : cutV xs none (some (l : Int)) = xs.take l := by
  unfold cutV
  rw [HT.sIx_none, HT.sIx_nat]
  show (xs.drop 0).take (min l xs.length - 0) = xs.take l
  rw [List.drop_zero, Nat.sub_zero]
  by_cases h : l ≤ xs.length
  · rw [Nat.min_eq_left h]
  · rw [Nat.min_eq_right (by omega), List.take_length, List.take_of_length_le (by omega)]
theorem near_out {L : List Nat} {i : Nat} (h : i ∉ L) : near L i = L.length := by
  unfold near
  rw [List.filter_eq_self.mpr fun a ha => ?_]
  have : ¬ a = i := fun e => h (e ▸ ha)
  simpa using this
theorem near_perm {L M : List Nat} (i : Nat) (h : L.Perm M) : near L i = near M i := (h.filter _).length_eq
theorem near_add {L : List Nat} {i : Nat} (h : i ∉ L) : near (L ++ [i]) i = L.length := by
  rw [← near_out h]
  unfold near
  rw [List.filter_append]
  simp
end Sh

namespace Th
/-! ### counting ships below k -/
def cnt (k : Nat) (S : Nat → Bool) : Nat := (List.range k).countP S
theorem cnt_zero (S : Nat → Bool) : cnt 0 S = 0 := rfl
theorem cnt_succ (k : Nat) (S : Nat → Bool) : cnt (k + 1) S = cnt k S + (if S k = true then 1 else 0) := by
  unfold cnt
  rw [List.range_succ, List.countP_append]
  congr 1
  cases h : S k <;> simp [h]
theorem cnt_le (k : Nat) (S : Nat → Bool) : cnt k S ≤ k := by
  induction k with
  | zero => exact Nat.le_refl _
  | succ k ih => rw [cnt_succ]; split <;> omega
theorem cnt_congr {k : Nat} {S U : Nat → Bool} (h : ∀ i, i < k → S i = U i) : cnt k S = cnt k U := by
  induction k with
  | zero => rfl
  | succ k ih => rw [cnt_succ, cnt_succ, ih fun i hi => h i (by omega), h k (by omega)]
theorem cnt_mono {k : Nat} {S U : Nat → Bool} (h : ∀ i, i < k → S i = true → U i = true) : cnt k S ≤ cnt k U := by
  induction k with
  | zero => exact Nat.le_refl _
  | succ k ih =>
    have := ih fun i hi => h i (by omega)
    rw [cnt_succ, cnt_succ]
    by_cases e : S k = true
    · rw [if_pos e, if_pos (h k (by omega) e)]
      omega
    · rw [if_neg e]
      omega
/-- as many, and all of the one among the other: the same -/
theorem cnt_eq {k : Nat} {S U : Nat → Bool} (h : ∀ i, i < k → S i = true → U i = true) (e : cnt k U ≤ cnt k S) : ∀ i, i < k → U i = true → S i = true := by
  induction k with
  | zero => intro i hi; omega
  | succ k ih =>
    have hm := cnt_mono (k := k) fun i hi => h i (by omega)
    rw [cnt_succ, cnt_succ] at e
    intro i hi hu
    by_cases ek : S k = true
    · have uk := h k (by omega) ek
      rw [if_pos ek, if_pos uk] at e
      by_cases z : i = k
      · rw [z]; exact ek
      · exact ih (fun i hi => h i (by omega)) (by omega) i (by omega) hu
    · rw [if_neg ek] at e
      by_cases uk : U k = true
      · rw [if_pos uk] at e
        omega
      · rw [if_neg uk] at e
        by_cases z : i = k
        · rw [z] at hu; exact absurd hu uk
        · exact ih (fun i hi => h i (by omega)) (by omega) i (by omega) hu
theorem cnt_ex {k : Nat} {S U : Nat → Bool} (e : cnt k S < cnt k U) : ∃ i, i < k ∧ U i = true ∧ S i = false := by
  induction k with
  | zero => rw [cnt_zero, cnt_zero] at e; omega
  | succ k ih =>
    rw [cnt_succ, cnt_succ] at e
    by_cases uk : U k = true
    · by_cases sk : S k = true
      · rw [if_pos uk, if_pos sk] at e
        obtain ⟨i, h1, h2⟩ := ih (by omega)
        exact ⟨i, by omega, h2⟩
      · exact ⟨k, by omega, uk, by simpa using sk⟩
    · rw [if_neg uk] at e
      obtain ⟨i, h1, h2⟩ := ih (by omega)
      exact ⟨i, by omega, h2⟩
theorem cnt_pos_ex {k : Nat} {S : Nat → Bool} (e : 0 < cnt k S) : ∃ i, i < k ∧ S i = true := by
  induction k with
  | zero => rw [cnt_zero] at e; omega
  | succ k ih =>
    by_cases sk : S k = true
    · exact ⟨k, by omega, sk⟩
    · rw [cnt_succ, if_neg sk] at e
      obtain ⟨i, h1, h2⟩ := ih (by omega)
      exact ⟨i, by omega, h2⟩
def flip (S : Nat → Bool) (i : Nat) : Nat → Bool := fun j => if j = i then !S j else S j
theorem flip_self (S : Nat → Bool) (i : Nat) : flip S i i = !S i := by unfold flip; rw [if_pos rfl]
theorem flip_ne (S : Nat → Bool) {i j : Nat} (h : j ≠ i) : flip S i j = S j := by unfold flip; rw [if_neg h]
theorem flip_flip (S : Nat → Bool) (i : Nat) : flip (flip S i) i = S := by
  funext j
  by_cases h : j = i
  · subst h
    rw [flip_self, flip_self, Bool.not_not]
  · rw [flip_ne _ h, flip_ne _ h]
theorem cnt_flip_up {k : Nat} {S : Nat → Bool} {i : Nat} (hi : i < k) (h : S i = false) : cnt k (flip S i) = cnt k S + 1 := by
  induction k with
  | zero => omega
  | succ k ih =>
    rw [cnt_succ, cnt_succ]
    by_cases z : i = k
    · subst z
      rw [flip_self, h]
      rw [cnt_congr (k := i) (S := flip S i) (U := S) fun j hj => flip_ne S (by omega)]
      simp
    · rw [ih (by omega), flip_ne S (show k ≠ i by omega)]
      omega
theorem cnt_flip_dn {k : Nat} {S : Nat → Bool} {i : Nat} (hi : i < k) (h : S i = true) : cnt k (flip S i) + 1 = cnt k S := by
  have e : flip S i i = false := by rw [flip_self, h]; rfl
  have := cnt_flip_up hi e
  rw [flip_flip] at this
  omega
theorem cnt_pos {k : Nat} {S : Nat → Bool} {i : Nat} (hi : i < k) (h : S i = true) : 0 < cnt k S := by
  have := cnt_flip_dn hi h
  omega
theorem cnt_or_not {k : Nat} (S U : Nat → Bool) : cnt k (fun i => S i || U i) = cnt k S + cnt k (fun i => U i && !S i) := by
  induction k with
  | zero => rfl
  | succ k ih =>
    rw [cnt_succ, cnt_succ, cnt_succ, ih]
    cases S k <;> cases U k <;> simp <;> omega
theorem cnt_split {k : Nat} (S U : Nat → Bool) : cnt k S = cnt k (fun i => S i && U i) + cnt k (fun i => S i && !U i) := by
  induction k with
  | zero => rfl
  | succ k ih =>
    rw [cnt_succ, cnt_succ, cnt_succ, ih]
    cases S k <;> cases U k <;> simp <;> omega
theorem cnt_not {k : Nat} (S : Nat → Bool) : cnt k S + cnt k (fun i => !S i) = k := by
  induction k with
  | zero => rfl
  | succ k ih =>
    rw [cnt_succ, cnt_succ]
    cases S k <;> simp <;> omega

/-! ### crossings -/
section
variable (k : Nat) (G : Nat → Nat → Bool)
inductive Step : (Nat → Bool) → (Nat → Bool) → Prop
  | up {S : Nat → Bool} {i : Nat} (hi : i < k) (hs : S i = false) (hg : G (cnt k S) i = true) : Step S (flip S i)
  | dn {S : Nat → Bool} {i : Nat} (hi : i < k) (hs : S i = true) (hg : G (cnt k S - 1) i = true) : Step S (flip S i)
inductive Reach : (Nat → Bool) → (Nat → Bool) → Prop
  | refl (S : Nat → Bool) : Reach S S
  | step {S U W : Nat → Bool} : Reach S U → Step k G U W → Reach S W
end
section
variable {k : Nat} {G : Nat → Nat → Bool} {S U W : Nat → Bool}
theorem Step.symm (h : Step k G S U) : Step k G U S := by
  cases h with
  | @up i hi hs hg =>
    have e : Step k G (flip S i) (flip (flip S i) i) := .dn hi (by rw [flip_self, hs]; rfl) (by rw [cnt_flip_up hi hs, Nat.add_sub_cancel]; exact hg)
    rwa [flip_flip] at e
  | @dn i hi hs hg =>
    have e : Step k G (flip S i) (flip (flip S i) i) := .up hi (by rw [flip_self, hs]; rfl) (by have := cnt_flip_dn hi hs; rw [show cnt k (flip S i) = cnt k S - 1 by omega]; exact hg)
    rwa [flip_flip] at e
theorem Reach.trans (a : Reach k G S U) (b : Reach k G U W) : Reach k G S W := by
  induction b with
  | refl => exact a
  | step _ s ih => exact .step ih s
theorem Reach.one (s : Step k G S U) : Reach k G S U := .step (.refl _) s
theorem Reach.symm (a : Reach k G S U) : Reach k G U S := by
  induction a with
  | refl => exact .refl _
  | step _ s ih => exact (Reach.one s.symm).trans ih
/-- whatever every crossing keeps -/
theorem Reach.inv {P : (Nat → Bool) → Prop} (hp : ∀ S U, P S → Step k G S U → P U) (a : Reach k G S U) (h : P S) : P U := by
  induction a with
  | refl => exact h
  | step _ s ih => exact hp _ _ ih s
/-! ### filled from below -/
/-- between a and b goers grow -/
def Grow (G : Nat → Nat → Bool) (b : Nat) : Prop := ∀ s s' i, s ≤ s' → s' ≤ b → G s i = true → G s' i = true
/-- S can be filled to N, if at each number on the way somebody lacks -/
theorem fill {T : Nat} (gr : Grow G T) (N : Nat) (hN : N ≤ T + 1) (h0 : cnt k S ≤ N) (hl : ∀ n, cnt k S ≤ n → n < N → n < cnt k (fun i => S i || G n i)) :
    ∃ U, Reach k G S U ∧ cnt k U = N ∧ (∀ i, S i = true → U i = true) ∧ ∀ i, i < k → U i = true → S i = true ∨ (0 < N ∧ G (N - 1) i = true) := by
  induction N with
  | zero => exact ⟨S, .refl _, by omega, fun _ h => h, fun _ _ h => .inl h⟩
  | succ N ih =>
    by_cases e : cnt k S = N + 1
    · exact ⟨S, .refl _, e, fun _ h => h, fun _ _ h => .inl h⟩
    · obtain ⟨U, r, c, h1, h2⟩ := ih (by omega) (by omega) fun n a b => hl n a (by omega)
      have hlt := hl N (by omega) (by omega)
      obtain ⟨i, hi, g, u⟩ := cnt_ex (k := k) (S := U) (U := fun i => S i || G N i) (by omega)
      have gi : G N i = true := by
        cases hs : S i with
        | true => rw [h1 i hs] at u; cases u
        | false => rw [hs] at g; exact g
      refine ⟨flip U i, r.step (.up hi u (by rw [c]; exact gi)), by rw [cnt_flip_up hi u, c], fun j hj => ?_, fun j hj hf => ?_⟩
      · by_cases z : j = i
        · subst z
          rw [h1 j hj] at u
          cases u
        · rw [flip_ne _ z]
          exact h1 j hj
      · by_cases z : j = i
        · exact .inr ⟨by omega, by rw [z]; exact gi⟩
        · rw [flip_ne _ z] at hf
          rcases h2 j hj hf with q | ⟨q, g2⟩
          · exact .inl q
          · exact .inr ⟨by omega, gr _ _ _ (by omega) (by omega) g2⟩
/-- stuck at N: the fullest one is S with all goers at N -/
theorem stuck {T N : Nat} (gr : Grow G T) (hN : N ≤ T) (h0 : cnt k S ≤ N) (hl : ∀ n, cnt k S ≤ n → n < N → n < cnt k (fun i => S i || G n i)) (hs : cnt k (fun i => S i || G N i) ≤ N) :
    ∃ U, Reach k G S U ∧ cnt k U = N ∧ ∀ i, i < k → U i = (S i || G N i) := by
  obtain ⟨U, r, c, h1, h2⟩ := fill gr N (by omega) h0 hl
  have hm : ∀ i, i < k → U i = true → (S i || G N i) = true := fun i hi hu => by
    rcases h2 i hi hu with q | ⟨_, q⟩
    · rw [q]; rfl
    · rw [gr _ _ _ (by omega) hN q, Bool.or_true]
  have he := cnt_eq (k := k) (S := U) (U := fun i => S i || G N i) hm (by omega)
  refine ⟨U, r, c, fun i hi => ?_⟩
  cases hu : U i with
  | true => exact (hm i hi hu).symm
  | false =>
    cases hq : (S i || G N i) with
    | false => rfl
    | true => rw [he i hi hq] at hu; cases hu
/-- under a low bar at N nobody gets out -/
theorem low_inv {T N : Nat} (gr : Grow G T) (hN : N ≤ T) {F : Nat → Bool} (hF : cnt k F = N) (hG : ∀ i, i < k → G N i = true → F i = true) :
    ∀ S U, (cnt k S ≤ N ∧ ∀ i, i < k → (S i || G N i) = F i) → Step k G S U → (cnt k U ≤ N ∧ ∀ i, i < k → (U i || G N i) = F i) := by
  rintro S U ⟨c, h⟩ s
  have sub : ∀ i, i < k → S i = true → F i = true := fun i hi hs => by rw [← h i hi, hs]; rfl
  cases s with
  | @up i hi hs hg =>
    by_cases z : cnt k S = N
    · exfalso
      rw [z] at hg
      have := cnt_eq sub (by omega) i hi (hG i hi hg)
      rw [hs] at this
      cases this
    · refine ⟨by rw [cnt_flip_up hi hs]; omega, fun j hj => ?_⟩
      by_cases e : j = i
      · subst e
        have gN := gr _ _ _ (by omega) hN hg
        rw [gN, Bool.or_true, hG j hj gN]
      · rw [flip_ne _ e]
        exact h j hj
  | @dn i hi hs hg =>
    have := cnt_flip_dn hi hs
    refine ⟨by omega, fun j hj => ?_⟩
    by_cases e : j = i
    · subst e
      have gN := gr _ _ _ (by omega) hN hg
      rw [gN, Bool.or_true, hG j hj gN]
    · rw [flip_ne _ e]
      exact h j hj
end
end Th
namespace Th
section
variable {k : Nat} {G : Nat → Nat → Bool} {S U W : Nat → Bool}
/-! ### met from the other basin -/
def co (S : Nat → Bool) : Nat → Bool := fun i => !S i
def dual (k : Nat) (G : Nat → Nat → Bool) : Nat → Nat → Bool := fun s i => G (k - 1 - s) i
theorem co_co (S : Nat → Bool) : co (co S) = S := by funext i; exact Bool.not_not _
theorem cnt_co (k : Nat) (S : Nat → Bool) : cnt k S + cnt k (co S) = k := cnt_not S
theorem flip_co (S : Nat → Bool) (i : Nat) : flip (co S) i = co (flip S i) := by
  funext j
  unfold co flip
  split <;> rfl
theorem Step.dual (h : Step k G S U) : Step k (dual k G) (co S) (co U) := by
  cases h with
  | @up i hi hs hg =>
    rw [← flip_co]
    have c1 := cnt_co k S
    have c2 := cnt_le k (flip S i)
    rw [cnt_flip_up hi hs] at c2
    refine .dn hi (by unfold co; rw [hs]; rfl) ?_
    unfold Th.dual
    rw [show k - 1 - (cnt k (co S) - 1) = cnt k S by omega]
    exact hg
  | @dn i hi hs hg =>
    rw [← flip_co]
    have c1 := cnt_co k S
    have c2 := cnt_pos hi hs
    refine .up hi (by unfold co; rw [hs]; rfl) ?_
    unfold Th.dual
    rw [show k - 1 - cnt k (co S) = cnt k S - 1 by omega]
    exact hg
theorem dual_dual_at {s : Nat} (hs : s < k) (i : Nat) : Th.dual k (Th.dual k G) s i = G s i := by
  unfold Th.dual
  rw [show k - 1 - (k - 1 - s) = s by omega]
theorem Reach.dual (h : Reach k G S U) : Reach k (Th.dual k G) (co S) (co U) := by
  induction h with
  | refl => exact .refl _
  | step _ s ih => exact .step ih s.dual
theorem Step.congr {G' : Nat → Nat → Bool} (hg : ∀ s i, s < k → G s i = G' s i) (h : Step k G S U) : Step k G' S U := by
  cases h with
  | @up i hi hs g =>
    have := cnt_le k (flip S i)
    rw [cnt_flip_up hi hs] at this
    exact .up hi hs (by rw [← hg _ _ (by omega)]; exact g)
  | @dn i hi hs g =>
    have := cnt_le k S
    have := cnt_pos hi hs
    exact .dn hi hs (by rw [← hg _ _ (by omega)]; exact g)
theorem Reach.congr {G' : Nat → Nat → Bool} (hg : ∀ s i, s < k → G s i = G' s i) (h : Reach k G S U) : Reach k G' S U := by
  induction h with
  | refl => exact .refl _
  | step _ s ih => exact .step ih (s.congr hg)
theorem Reach.codual (h : Reach k (Th.dual k G) (co S) (co U)) : Reach k G S U := by
  have h2 := h.dual
  rw [co_co, co_co] at h2
  exact h2.congr fun s i hs => dual_dual_at hs i
/-! ### at the top -/
structure Top (k : Nat) (G : Nat → Nat → Bool) (T : Nat) : Prop where
  lt : T < k
  up : Grow G T
  dn : ∀ s s' i, T ≤ s → s ≤ s' → s' < k → G s' i = true → G s i = true
theorem Top.all {T : Nat} (t : Top k G T) {s i : Nat} (hs : s < k) (h : G s i = true) : G T i = true := by
  by_cases z : s ≤ T
  · exact t.up s T i z (Nat.le_refl _) h
  · exact t.dn T s i (Nat.le_refl _) (by omega) hs h
theorem Top.dual {T : Nat} (t : Top k G T) : Top k (Th.dual k G) (k - 1 - T) := by
  have := t.lt
  refine ⟨by omega, fun s s' i a b g => ?_, fun s s' i a b c g => ?_⟩
  · exact t.dn (k - 1 - s') (k - 1 - s) i (by omega) (by omega) (by omega) g
  · exact t.up (k - 1 - s') (k - 1 - s) i (by omega) (by omega) g
/-- who isn't a goer at the top never goes -/
theorem fast_inv {T : Nat} (t : Top k G T) (h : Reach k G S U) : ∀ i, i < k → G T i = false → U i = S i := by
  intro i hi hg
  refine Reach.inv (P := fun W => W i = S i) (fun A B e s => ?_) h rfl
  cases s with
  | @up j hj hs g =>
    have c := cnt_le k (flip A j)
    rw [cnt_flip_up hj hs] at c
    have : i ≠ j := fun z => by
      subst z
      rw [t.all (by omega) g] at hg
      cases hg
    rw [flip_ne _ this]
    exact e
  | @dn j hj hs g =>
    have c := cnt_le k A
    have c2 := cnt_pos hj hs
    have : i ≠ j := fun z => by
      subst z
      rw [t.all (by omega) g] at hg
      cases hg
    rw [flip_ne _ this]
    exact e
def diff (k : Nat) (S U : Nat → Bool) : Nat := cnt k (fun i => S i && !U i)
theorem reach_out (h : Reach k G S U) : ∀ i, ¬ i < k → U i = S i := by
  intro i hi
  refine Reach.inv (P := fun W => W i = S i) (fun A B e s => ?_) h rfl
  cases s with
  | @up j hj hs g =>
    rw [flip_ne _ (show i ≠ j by omega)]
    exact e
  | @dn j hj hs g =>
    rw [flip_ne _ (show i ≠ j by omega)]
    exact e
/-- at the top's own number goers can be exchanged -/
theorem swap {T : Nat} (t : Top k G T) : ∀ (n : Nat) (S U : Nat → Bool), diff k S U ≤ n → cnt k S = T → cnt k U = T → (∀ i, i < k → G T i = false → U i = S i) → (∀ i, ¬ i < k → U i = S i) → Reach k G S U := by
  intro n
  induction n with
  | zero =>
    intro S U hd cs cu hf ho
    have hsub : ∀ i, i < k → S i = true → U i = true := fun i hi hs => by
      cases hu : U i with
      | true => rfl
      | false =>
        have := cnt_pos (k := k) (S := fun i => S i && !U i) hi (by show (S i && !U i) = true; rw [hs, hu]; rfl)
        unfold diff at hd
        omega
    have heq := cnt_eq hsub (by omega)
    have : U = S := by
      funext i
      by_cases hi : i < k
      · cases hs : S i with
        | true => exact hsub i hi hs
        | false =>
          cases hu : U i with
          | false => rfl
          | true => rw [heq i hi hu] at hs; cases hs
      · exact ho i hi
    rw [this]
    exact .refl _
  | succ n ih =>
    intro S U hd cs cu hf ho
    by_cases z : diff k S U = 0
    · exact ih S U (by omega) cs cu hf ho
    · obtain ⟨i, hi, h1⟩ := cnt_pos_ex (k := k) (S := fun i => S i && !U i) (by unfold diff at z; omega)
      have si : S i = true := by revert h1; cases S i <;> simp
      have ui : U i = false := by revert h1; cases U i <;> simp
      have e1 := cnt_split (k := k) S U
      have e2 := cnt_split (k := k) U S
      have e3 : cnt k (fun i => S i && U i) = cnt k (fun i => U i && S i) := cnt_congr fun i _ => Bool.and_comm _ _
      obtain ⟨j, hj, h2⟩ := cnt_pos_ex (k := k) (S := fun i => U i && !S i) (by unfold diff at z; omega)
      have uj : U j = true := by revert h2; cases U j <;> simp
      have sj : S j = false := by revert h2; cases S j <;> simp
      have gi : G T i = true := by
        cases g : G T i with
        | true => rfl
        | false => rw [hf i hi g, si] at ui; cases ui
      have gj : G T j = true := by
        cases g : G T j with
        | true => rfl
        | false => rw [hf j hj g, sj] at uj; cases uj
      have ij : i ≠ j := fun e => by rw [e, sj] at si; cases si
      have s1 : Step k G S (flip S j) := .up hj sj (by rw [cs]; exact gj)
      have c1 : cnt k (flip S j) = T + 1 := by rw [cnt_flip_up hj sj, cs]
      have s2 : Step k G (flip S j) (flip (flip S j) i) := .dn hi (by rw [flip_ne _ ij]; exact si) (by rw [c1, Nat.add_sub_cancel]; exact gi)
      have c2 := cnt_flip_dn (k := k) (S := flip S j) hi (by rw [flip_ne _ ij]; exact si)
      refine ((Reach.one s1).trans (Reach.one s2)).trans (ih _ U ?_ (by omega) cu (fun l hl g => ?_) (fun l hl => ?_))
      · have e : (fun l => flip (flip S j) i l && !U l) = flip (fun l => S l && !U l) i := by
          funext l
          by_cases li : l = i
          · subst li
            rw [flip_self, flip_self, flip_ne _ ij, si, ui]
            rfl
          · rw [flip_ne _ li, flip_ne _ li]
            by_cases lj : l = j
            · subst lj
              rw [flip_self, sj, uj]
              rfl
            · rw [flip_ne _ lj]
        unfold diff
        rw [e]
        have := cnt_flip_dn (k := k) (S := fun l => S l && !U l) hi h1
        unfold diff at hd
        omega
      · have li : l ≠ i := fun e => by rw [e, gi] at g; cases g
        have lj : l ≠ j := fun e => by rw [e, gj] at g; cases g
        rw [flip_ne _ li, flip_ne _ lj]
        exact hf l hl g
      · rw [flip_ne _ (show l ≠ i by omega), flip_ne _ (show l ≠ j by omega)]
        exact ho l hl
/-! ### which lot a standing is in -/
/-- from below it gets to the top's number -/
def Rises (k : Nat) (G : Nat → Nat → Bool) (T : Nat) (S : Nat → Bool) : Prop := cnt k S ≤ T ∧ ∀ n, cnt k S ≤ n → n < T → n < cnt k (fun i => S i || G n i)
/-- from above -/
def Sinks (k : Nat) (G : Nat → Nat → Bool) (T : Nat) (S : Nat → Bool) : Prop := T < cnt k S ∧ ∀ s, T ≤ s → s < cnt k S → cnt k (fun i => S i && !G s i) ≤ s
theorem Rises.to {T : Nat} (t : Top k G T) (h : Rises k G T S) : ∃ U, Reach k G S U ∧ cnt k U = T := by
  obtain ⟨U, r, c, _⟩ := fill t.up T (by omega) h.1 h.2
  exact ⟨U, r, c⟩
theorem co_or (S : Nat → Bool) (f : Nat → Bool) : (fun i => co S i || f i) = co (fun i => S i && !f i) := by
  funext i
  show (!S i || f i) = !(S i && !f i)
  cases S i <;> cases f i <;> rfl
theorem Sinks.to {T : Nat} (t : Top k G T) (h : Sinks k G T S) : ∃ U, Reach k G S U ∧ cnt k U = T := by
  have tl := t.lt
  have c0 := cnt_co k S
  have cle := cnt_le k S
  obtain ⟨h1, h2⟩ := h
  obtain ⟨U, r, c, _⟩ := fill (k := k) (G := Th.dual k G) (S := co S) t.dual.up (k - 1 - T + 1) (by omega) (by omega) fun n a b => by
    have e : (fun i => co S i || Th.dual k G n i) = co (fun i => S i && !G (k - 1 - n) i) := co_or S _
    rw [e]
    have q := h2 (k - 1 - n) (by omega) (by omega)
    have c1 := cnt_co k (fun i => S i && !G (k - 1 - n) i)
    omega
  refine ⟨co U, ?_, ?_⟩
  · refine Reach.codual ?_
    rw [co_co]
    exact r
  · have := cnt_co k U
    omega
/-- two that get to the top's number and have the same fast ones here come to one another -/
theorem open_reach {T : Nat} (t : Top k G T) (hS : Rises k G T S ∨ Sinks k G T S) (hU : Rises k G T U ∨ Sinks k G T U) (hf : ∀ i, i < k → G T i = false → U i = S i) (ho : ∀ i, ¬ i < k → U i = S i) : Reach k G S U := by
  obtain ⟨S', rS, cS⟩ := hS.elim (fun h => h.to t) (fun h => h.to t)
  obtain ⟨U', rU, cU⟩ := hU.elim (fun h => h.to t) (fun h => h.to t)
  refine rS.trans (Reach.trans ?_ rU.symm)
  refine swap t _ S' U' (Nat.le_refl _) cS cU (fun i hi g => ?_) (fun i hi => ?_)
  · rw [fast_inv t rS i hi g, fast_inv t rU i hi g, hf i hi g]
  · rw [reach_out rS i hi, reach_out rU i hi, ho i hi]
/-- the first number at which filling is stuck -/
def StuckLow (k : Nat) (G : Nat → Nat → Bool) (N : Nat) (S : Nat → Bool) : Prop := cnt k S ≤ N ∧ (∀ n, cnt k S ≤ n → n < N → n < cnt k (fun i => S i || G n i)) ∧ cnt k (fun i => S i || G N i) ≤ N
theorem StuckLow.full {N : Nat} (h : StuckLow k G N S) {T : Nat} (t : Top k G T) (hN : N ≤ T) : ∃ U, Reach k G S U ∧ cnt k U = N ∧ ∀ i, i < k → U i = (S i || G N i) := stuck t.up hN h.1 h.2.1 h.2.2
theorem StuckLow.cnt_full {N : Nat} (h : StuckLow k G N S) {T : Nat} (t : Top k G T) (hN : N ≤ T) : cnt k (fun i => S i || G N i) = N := by
  obtain ⟨U, _, c, e⟩ := h.full t hN
  exact (cnt_congr e).symm.trans c
/-- nobody leaves the lot under it -/
theorem StuckLow.under {N T : Nat} (h : StuckLow k G N S) (t : Top k G T) (hN : N ≤ T) (r : Reach k G S U) : cnt k U ≤ N ∧ ∀ i, i < k → (U i || G N i) = (S i || G N i) := by
  refine Reach.inv (P := fun W => cnt k W ≤ N ∧ ∀ i, i < k → (W i || G N i) = (S i || G N i)) (low_inv t.up hN (h.cnt_full t hN) fun i _ g => by rw [g, Bool.or_true]) r ⟨h.1, fun _ _ => rfl⟩
/-- all of a lot are stuck alike -/
theorem StuckLow.same {N T : Nat} (h : StuckLow k G N S) (t : Top k G T) (hN : N ≤ T) (r : Reach k G S U) : StuckLow k G N U := by
  obtain ⟨c, e⟩ := h.under t hN r
  have ce : cnt k (fun i => U i || G N i) = N := by
    rw [cnt_congr e]
    exact h.cnt_full t hN
  refine ⟨c, fun n a b => ?_, by omega⟩
  -- stuck earlier it would never get to S's fullest one
  by_cases z : n < cnt k (fun i => U i || G n i)
  · exact z
  · exfalso
    -- the first such number
    have ex : ∃ m, cnt k U ≤ m ∧ m < N ∧ ¬ m < cnt k (fun i => U i || G m i) ∧ ∀ m', cnt k U ≤ m' → m' < m → m' < cnt k (fun i => U i || G m' i) := by
      clear ce e
      induction n using Nat.strongRecOn with
      | _ n ih =>
        by_cases q : ∀ m', cnt k U ≤ m' → m' < n → m' < cnt k (fun i => U i || G m' i)
        · exact ⟨n, a, b, z, q⟩
        · have : ∃ m', cnt k U ≤ m' ∧ m' < n ∧ ¬ m' < cnt k (fun i => U i || G m' i) := by
            refine Classical.byContradiction fun w => q fun m' x y => ?_
            refine Classical.byContradiction fun v => w ⟨m', x, y, v⟩
          obtain ⟨m', x, y, v⟩ := this
          exact ih m' y x (by omega) v
    obtain ⟨m, x, y, v, u⟩ := ex
    have sl : StuckLow k G m U := ⟨x, u, by omega⟩
    obtain ⟨F, rF, cF, _⟩ := h.full t hN
    have := (sl.under t (by omega) (r.symm.trans rF)).1
    omega
theorem StuckLow.iff {N T : Nat} (h : StuckLow k G N S) (t : Top k G T) (hN : N ≤ T) (ho : ∀ i, ¬ i < k → U i = S i) : Reach k G S U ↔ StuckLow k G N U ∧ ∀ i, i < k → (U i || G N i) = (S i || G N i) := by
  constructor
  · intro r
    exact ⟨h.same t hN r, (h.under t hN r).2⟩
  · rintro ⟨hu, e⟩
    obtain ⟨A, rA, _, eA⟩ := h.full t hN
    obtain ⟨B, rB, _, eB⟩ := hu.full t hN
    have : A = B := by
      funext i
      by_cases hi : i < k
      · rw [eA i hi, eB i hi, e i hi]
      · rw [reach_out rA i hi, reach_out rB i hi, ho i hi]
    rw [this] at rA
    exact rA.trans rB.symm
/-- each standing of no more than the top's number is stuck below it, or gets there -/
theorem low_or {T : Nat} (h : cnt k S ≤ T) : (∃ N, N < T ∧ StuckLow k G N S) ∨ Rises k G T S := by
  by_cases q : ∀ n, cnt k S ≤ n → n < T → n < cnt k (fun i => S i || G n i)
  · exact .inr ⟨h, q⟩
  · refine .inl ?_
    have : ∃ m, cnt k S ≤ m ∧ m < T ∧ ¬ m < cnt k (fun i => S i || G m i) := by
      refine Classical.byContradiction fun w => q fun m' x y => ?_
      refine Classical.byContradiction fun v => w ⟨m', x, y, v⟩
    obtain ⟨n, a, b, z⟩ := this
    clear q
    induction n using Nat.strongRecOn with
    | _ n ih =>
      by_cases q : ∀ m', cnt k S ≤ m' → m' < n → m' < cnt k (fun i => S i || G m' i)
      · exact ⟨n, b, a, q, by omega⟩
      · have : ∃ m', cnt k S ≤ m' ∧ m' < n ∧ ¬ m' < cnt k (fun i => S i || G m' i) := by
          refine Classical.byContradiction fun w => q fun m' x y => ?_
          refine Classical.byContradiction fun v => w ⟨m', x, y, v⟩
        obtain ⟨m', x, y, v⟩ := this
        exact ih m' y x (by omega) v
end
end Th
namespace Th
section
variable {k : Nat} {G : Nat → Nat → Bool} {S U W : Nat → Bool}
/-- i may go at U -/
def May (k : Nat) (G : Nat → Nat → Bool) (U : Nat → Bool) (i : Nat) : Prop := G (if U i = true then cnt k U - 1 else cnt k U) i = true
theorem May.step {i : Nat} (hi : i < k) (h : May k G U i) : Step k G U (flip U i) := by
  unfold May at h
  cases e : U i with
  | true => rw [e, if_pos rfl] at h; exact .dn hi e h
  | false => rw [e, if_neg Bool.false_ne_true] at h; exact .up hi e h
/-- ever goes -/
def Moves (k : Nat) (G : Nat → Nat → Bool) (S : Nat → Bool) (i : Nat) : Prop := ∃ U, Reach k G S U ∧ May k G U i
theorem moves_low {N T i : Nat} (h : StuckLow k G N S) (t : Top k G T) (hN : N ≤ T) (hi : i < k) : Moves k G S i ↔ 0 < N ∧ G (N - 1) i = true := by
  constructor
  · rintro ⟨U, r, m⟩
    obtain ⟨c, e⟩ := h.under t hN r
    unfold May at m
    cases u : U i with
    | true =>
      rw [u, if_pos rfl] at m
      have := cnt_pos hi u
      exact ⟨by omega, t.up _ _ _ (by omega) (by omega) m⟩
    | false =>
      rw [u, if_neg Bool.false_ne_true] at m
      by_cases z : cnt k U = N
      · exfalso
        rw [z] at m
        have cf := h.cnt_full t hN
        have hsub : ∀ j, j < k → U j = true → (S j || G N j) = true := fun j hj uj => by rw [← e j hj, uj]; rfl
        have := cnt_eq hsub (by omega) i hi (by rw [m, Bool.or_true])
        rw [u] at this
        cases this
      · exact ⟨by omega, t.up _ _ _ (by omega) (by omega) m⟩
  · rintro ⟨n0, g⟩
    obtain ⟨F, r, c, e⟩ := h.full t hN
    refine ⟨F, r, ?_⟩
    have fi : F i = true := by rw [e i hi, t.up _ _ _ (show N - 1 ≤ N by omega) hN g, Bool.or_true]
    unfold May
    rw [fi, if_pos rfl, c]
    exact g
/-- gets to the top's number, and there's somebody out who may go there -/
theorem moves_open {T i : Nat} (t : Top k G T) (hS : Rises k G T S ∨ Sinks k G T S) (hc : T < cnt k (fun i => S i || G T i)) (hi : i < k) : Moves k G S i ↔ G T i = true := by
  constructor
  · rintro ⟨U, r, m⟩
    unfold May at m
    have := cnt_le k U
    by_cases u : U i = true
    · rw [if_pos u] at m
      have := cnt_pos hi u
      exact t.all (by omega) m
    · rw [if_neg u] at m
      have u' : U i = false := by simpa using u
      have c := cnt_le k (flip U i)
      rw [cnt_flip_up hi u'] at c
      exact t.all (by omega) m
  · intro g
    obtain ⟨U, r, c⟩ := hS.elim (fun h => h.to t) (fun h => h.to t)
    by_cases u : U i = true
    · -- somebody j is out: exchange them
      have hf := fast_inv t r
      have ce : cnt k (fun i => U i || G T i) = cnt k (fun i => S i || G T i) := cnt_congr fun j hj => by
        cases q : G T j with
        | true => rw [Bool.or_true, Bool.or_true]
        | false => rw [Bool.or_false, Bool.or_false, hf j hj q]
      obtain ⟨j, hj, h1, h2⟩ := cnt_ex (k := k) (S := U) (U := fun i => U i || G T i) (by omega)
      have gj : G T j = true := by rw [h2] at h1; exact h1
      have ij : i ≠ j := fun e => by rw [e, h2] at u; cases u
      have s1 : Step k G U (flip U j) := .up hj h2 (by rw [c]; exact gj)
      have c1 : cnt k (flip U j) = T + 1 := by rw [cnt_flip_up hj h2, c]
      refine ⟨flip U j, r.step s1, ?_⟩
      unfold May
      rw [flip_ne _ ij, u, if_pos rfl, c1, Nat.add_sub_cancel]
      exact g
    · refine ⟨U, r, ?_⟩
      unfold May
      rw [if_neg u, c]
      exact g
/-- stuck at some number up to N, or not before it -/
theorem stuck_or (N : Nat) : (∃ n, n < N ∧ StuckLow k G n S) ∨ ∀ n, cnt k S ≤ n → n < N → n < cnt k (fun i => S i || G n i) := by
  by_cases h : cnt k S ≤ N
  · rcases low_or (k := k) (G := G) (S := S) h with ⟨n, a, b⟩ | r
    · exact .inl ⟨n, a, b⟩
    · exact .inr r.2
  · exact .inr fun n a b => by omega
/-- the three sorts of lots -/
theorem sorts {T : Nat} (t : Top k G T) : (∃ N, N ≤ T ∧ StuckLow k G N S) ∨ (∃ N, N ≤ k - 1 - T ∧ StuckLow k (Th.dual k G) N (co S)) ∨ ((Rises k G T S ∨ Sinks k G T S) ∧ T < cnt k (fun i => S i || G T i)) := by
  have tl := t.lt
  by_cases h : cnt k S ≤ T
  · rcases stuck_or (k := k) (G := G) (S := S) (T + 1) with ⟨N, a, b⟩ | r
    · exact .inl ⟨N, by omega, b⟩
    · exact .inr (.inr ⟨.inl ⟨h, fun n a b => r n a (by omega)⟩, r T h (by omega)⟩)
  · have c0 := cnt_co k S
    rcases stuck_or (k := k) (G := Th.dual k G) (S := co S) (k - 1 - T + 1) with ⟨N, a, b⟩ | r
    · exact .inr (.inl ⟨N, by omega, b⟩)
    · refine .inr (.inr ⟨.inr ⟨by omega, fun s a b => ?_⟩, ?_⟩)
      · have cle := cnt_le k S
        have q := r (k - 1 - s) (by omega) (by omega)
        have e : (fun i => co S i || Th.dual k G (k - 1 - s) i) = co (fun i => S i && !G s i) := by
          rw [co_or]
          funext i
          show (!(S i && !Th.dual k G (k - 1 - s) i)) = !(S i && !G s i)
          have := dual_dual_at (G := G) (k := k) (s := s) (by omega) i
          unfold Th.dual at this ⊢
          rw [this]
        rw [e] at q
        have c1 := cnt_co k (fun i => S i && !G s i)
        omega
      · have := cnt_mono (k := k) (S := S) (U := fun i => S i || G T i) fun i _ hs => by show (S i || G T i) = true; rw [hs]; rfl
        omega
theorem may_co {i : Nat} (hi : i < k) : May k (Th.dual k G) (co U) i ↔ May k G U i := by
  have c0 := cnt_co k U
  have cl := cnt_le k U
  unfold May Th.dual
  cases u : U i with
  | true =>
    have := cnt_pos hi u
    have e : co U i = false := by unfold co; rw [u]; rfl
    rw [e, if_neg Bool.false_ne_true, if_pos rfl, show k - 1 - cnt k (co U) = cnt k U - 1 by omega]
  | false =>
    have e : co U i = true := by unfold co; rw [u]; rfl
    have := cnt_pos (S := co U) hi e
    rw [e, if_pos rfl, if_neg Bool.false_ne_true, show k - 1 - (cnt k (co U) - 1) = cnt k U by omega]
theorem moves_co {i : Nat} (hi : i < k) : Moves k (Th.dual k G) (co S) i ↔ Moves k G S i := by
  constructor
  · rintro ⟨U, r, m⟩
    refine ⟨co U, ?_, ?_⟩
    · refine Reach.codual ?_
      rw [co_co]
      exact r
    · rw [← may_co hi, co_co]
      exact m
  · rintro ⟨U, r, m⟩
    exact ⟨co U, r.dual, (may_co hi).mpr m⟩
/-- stuck from above at N (of the turned sea): who moves -/
theorem moves_high {N T i : Nat} (h : StuckLow k (Th.dual k G) N (co S)) (t : Top k G T) (hN : N ≤ k - 1 - T) (hi : i < k) : Moves k G S i ↔ 0 < N ∧ G (k - N) i = true := by
  have tl := t.lt
  rw [← moves_co hi, moves_low h t.dual hN hi]
  constructor
  · rintro ⟨a, b⟩
    refine ⟨a, ?_⟩
    unfold Th.dual at b
    rw [show k - N = k - 1 - (N - 1) by omega]
    exact b
  · rintro ⟨a, b⟩
    refine ⟨a, ?_⟩
    unfold Th.dual
    rw [show k - 1 - (N - 1) = k - N by omega]
    exact b
end
end Th
namespace Th
section
variable {k : Nat} {G : Nat → Nat → Bool} {S U W : Nat → Bool}
def Sub (k : Nat) (A B : Nat → Bool) : Prop := ∀ i, i < k → A i = true → B i = true
/-- so many of Z, such that each set of a nested family is among them or they among it -/
theorem chain (F : Nat → Nat → Bool) (P : Nat → Prop) (nest : ∀ s s', P s → P s' → Sub k (F s) (F s') ∨ Sub k (F s') (F s)) (Z : Nat → Bool) (inZ : ∀ s, P s → Sub k (F s) Z) :
    ∀ m, m ≤ cnt k Z → ∃ A : Nat → Bool, Sub k A Z ∧ cnt k A = m ∧ (∀ i, ¬ i < k → A i = false) ∧ ∀ s, P s → Sub k A (F s) ∨ Sub k (F s) A := by
  intro m
  induction m with
  | zero =>
    intro _
    have e : ∀ n, cnt n (fun _ => false) = 0 := fun n => by
      induction n with
      | zero => rfl
      | succ n ih => rw [cnt_succ, ih]; rfl
    exact ⟨fun _ => false, (fun _ _ h => by cases h), e k, (fun _ _ => rfl), fun s _ => .inl (fun _ _ h => by cases h)⟩
  | succ m ih =>
    intro hm
    obtain ⟨A, a1, a2, a3, a4⟩ := ih (by omega)
    -- a smallest set of the family that isn't among them, or Z
    have pick : ∃ i, i < k ∧ A i = false ∧ Z i = true ∧ ∀ s, P s → ¬ Sub k (F s) A → F s i = true := by
      -- by how many members
      have go : ∀ n, (∃ s, P s ∧ ¬ Sub k (F s) A ∧ cnt k (F s) ≤ n) → ∃ i, i < k ∧ A i = false ∧ Z i = true ∧ ∀ s, P s → ¬ Sub k (F s) A → F s i = true := by
        intro n
        induction n using Nat.strongRecOn with
        | _ n ih2 =>
          rintro ⟨s, ps, hs, hn⟩
          by_cases q : ∃ s', P s' ∧ ¬ Sub k (F s') A ∧ cnt k (F s') < cnt k (F s)
          · obtain ⟨s', ps', hs', hlt⟩ := q
            exact ih2 (cnt k (F s')) (by omega) ⟨s', ps', hs', Nat.le_refl _⟩
          · have : ∃ i, i < k ∧ F s i = true ∧ A i = false := by
              refine Classical.byContradiction fun w => hs fun i hi f => ?_
              cases e : A i with
              | true => rfl
              | false => exact absurd ⟨i, hi, f, e⟩ w
            obtain ⟨i, hi, f, e⟩ := this
            refine ⟨i, hi, e, inZ s ps i hi f, fun s' ps' hs' => ?_⟩
            rcases nest s s' ps ps' with w | w
            · exact w i hi f
            · have hge : cnt k (F s) ≤ cnt k (F s') := by
                refine Classical.byContradiction fun v => q ⟨s', ps', hs', by omega⟩
              exact cnt_eq w hge i hi f
      by_cases q : ∃ s, P s ∧ ¬ Sub k (F s) A
      · obtain ⟨s, ps, hs⟩ := q
        exact go _ ⟨s, ps, hs, Nat.le_refl _⟩
      · obtain ⟨i, hi, z, e⟩ := cnt_ex (k := k) (S := A) (U := Z) (by omega)
        exact ⟨i, hi, e, z, fun s ps hs => absurd ⟨s, ps, hs⟩ q⟩
    obtain ⟨i, hi, e, z, hp⟩ := pick
    refine ⟨flip A i, fun j hj h => ?_, by rw [cnt_flip_up hi e, a2], fun j hj => ?_, fun s ps => ?_⟩
    · by_cases q : j = i
      · rw [q]; exact z
      · rw [flip_ne _ q] at h
        exact a1 j hj h
    · rw [flip_ne _ (show j ≠ i by omega)]
      exact a3 j hj
    · by_cases q : Sub k (F s) A
      · refine .inr fun j hj h => ?_
        by_cases w : j = i
        · subst w
          have := q j hj h
          rw [e] at this
          cases this
        · rw [flip_ne _ w]
          exact q j hj h
      · rcases a4 s ps with w | w
        · refine .inl fun j hj h => ?_
          by_cases v : j = i
          · rw [v]; exact hp s ps q
          · rw [flip_ne _ v] at h
            exact w j hj h
        · exact absurd w q
theorem cnt_diff {A B : Nat → Bool} (h : Sub k B A) : cnt k (fun i => A i && !B i) + cnt k B = cnt k A := by
  have e := cnt_split (k := k) A B
  have e2 : cnt k (fun i => A i && B i) = cnt k B := cnt_congr fun i hi => by
    cases b : B i with
    | true => rw [h i hi b]; rfl
    | false => rw [Bool.and_false]
  omega
theorem cnt_none {A : Nat → Bool} (h : ∀ i, i < k → A i = false) : cnt k A = 0 := by
  have := cnt_congr (k := k) (S := A) (U := fun _ => false) h
  have e : ∀ n, cnt n (fun _ => false) = 0 := fun n => by
    induction n with
    | zero => rfl
    | succ n ih => rw [cnt_succ, ih]; rfl
  rw [this, e]
/-- how few can come to lie here, of a lot that is stuck at N -/
theorem low_counts {N T n : Nat} (h : StuckLow k G N S) (t : Top k G T) (hN : N ≤ T) (hn : n ≤ N) : (∃ U, Reach k G S U ∧ cnt k U = n) ↔ ∀ m, m < N → m + 1 ≤ n + cnt k (G m) := by
  constructor
  · rintro ⟨U, r, c⟩ m hm
    by_cases z : n ≤ m
    · have q := (h.same t hN r).2.1 m (by omega) hm
      have e := cnt_or_not (k := k) U (G m)
      have e2 := cnt_mono (k := k) (S := fun i => G m i && !U i) (U := G m) fun i _ hh => by revert hh; cases G m i <;> simp
      omega
    · omega
  · intro hc
    have cf := h.cnt_full t hN
    -- the goers at N, so many of them out: the shallowest ones
    have cR : cnt k (fun i => S i && !G N i) + cnt k (G N) = N := by
      have e := cnt_or_not (k := k) (G N) S
      have e1 : (fun i => G N i || S i) = (fun i => S i || G N i) := funext fun i => Bool.or_comm _ _
      rw [e1] at e
      omega
    have hle : N - n ≤ cnt k (G N) := by
      by_cases z : N = 0
      · omega
      · have q := hc (N - 1) (by omega)
        have := cnt_mono (k := k) (S := G (N - 1)) (U := G N) fun i _ g => t.up _ _ _ (by omega) hN g
        omega
    obtain ⟨A, a1, a2, a3, a4⟩ := chain (k := k) G (fun m => m ≤ N) (fun s s' hs hs' => by
      by_cases z : s ≤ s'
      · exact .inl fun i _ g => t.up _ _ _ z (by omega) g
      · exact .inr fun i _ g => t.up _ _ _ (by omega) (by omega) g) (G N) (fun s hs i _ g => t.up _ _ _ hs hN g) (N - n) hle
    -- all others of the fullest one
    have hout : ∀ i, ¬ i < k → (fun i => if i < k then (S i || G N i) && !A i else S i) i = S i := fun i hi => by show (if i < k then (S i || G N i) && !A i else S i) = S i; rw [if_neg hi]
    have hin : ∀ i, i < k → (fun i => if i < k then (S i || G N i) && !A i else S i) i = ((S i || G N i) && !A i) := fun i hi => by show (if i < k then (S i || G N i) && !A i else S i) = _; rw [if_pos hi]
    have subA : Sub k A (fun i => S i || G N i) := fun i hi q => by show (S i || G N i) = true; rw [a1 i hi q, Bool.or_true]
    have cU : cnt k (fun i => if i < k then (S i || G N i) && !A i else S i) = n := by
      rw [cnt_congr hin]
      have := cnt_diff subA
      omega
    have or_eq : ∀ i, i < k → ((fun i => if i < k then (S i || G N i) && !A i else S i) i || G N i) = (S i || G N i) := fun i hi => by
      rw [hin i hi]
      cases q : A i with
      | true =>
        have := a1 i hi q
        rw [this, Bool.or_true, Bool.or_true]
      | false => cases S i <;> cases G N i <;> rfl
    have sl : StuckLow k G N (fun i => if i < k then (S i || G N i) && !A i else S i) := by
      refine ⟨by omega, fun m x y => ?_, ?_⟩
      · have q := hc m y
        -- all of the fullest one but those of A that aren't goers at m
        have e1 : cnt k (fun i => (fun i => if i < k then (S i || G N i) && !A i else S i) i || G m i) = cnt k (fun i => (S i || G N i) && !(A i && !G m i)) := cnt_congr fun i hi => by
          rw [hin i hi]
          cases g : G m i with
          | true =>
            rw [t.up _ _ _ (show m ≤ N by omega) hN g]
            cases S i <;> cases A i <;> rfl
          | false => cases S i <;> cases G N i <;> cases A i <;> rfl
        have sub2 : Sub k (fun i => A i && !G m i) (fun i => S i || G N i) := fun i hi w => subA i hi (by have w' : (A i && !G m i) = true := w; revert w'; cases A i <;> simp)
        have e2 := cnt_diff sub2
        rw [e1]
        rcases a4 m (by omega) with w | w
        · have e3 : cnt k (fun i => A i && !G m i) = 0 := cnt_none fun i hi => by
            cases q : A i with
            | false => rfl
            | true => rw [w i hi q]; rfl
          omega
        · have e3 := cnt_diff w
          omega
      · rw [cnt_congr or_eq]
        omega
    exact ⟨_, (h.iff t hN hout).mpr ⟨sl, or_eq⟩, cU⟩
/-- how many can come to lie here, of a lot that gets to the top's number -/
theorem open_counts {T n : Nat} (t : Top k G T) (hS : Rises k G T S ∨ Sinks k G T S) (hn : T ≤ n) : (∃ U, Reach k G S U ∧ cnt k U = n) ↔ n ≤ cnt k (fun i => S i || G T i) ∧ ∀ s, T ≤ s → s < k → n ≤ s + cnt k (G s) := by
  obtain ⟨V, rV, cV⟩ := hS.elim (fun h => h.to t) (fun h => h.to t)
  have tl := t.lt
  constructor
  · rintro ⟨U, r, c⟩
    have sub : Sub k U (fun i => S i || G T i) := fun i hi u => by
      cases g : G T i with
      | true => show (S i || G T i) = true; rw [g, Bool.or_true]
      | false =>
        rw [fast_inv t r i hi g] at u
        show (S i || G T i) = true
        rw [u]; rfl
    refine ⟨by rw [← c]; exact cnt_mono sub, fun s hs hk => ?_⟩
    by_cases z : n ≤ s
    · omega
    · -- U isn't stuck from above
      have c0 := cnt_co k U
      have cle := cnt_le k U
      rcases stuck_or (k := k) (G := Th.dual k G) (S := co U) (k - 1 - T + 1) with ⟨N, a, b⟩ | q
      · exfalso
        have hr := (rV.symm.trans r).symm.dual
        have := (b.under t.dual (by omega) hr).1
        have c1 := cnt_co k V
        omega
      · have q2 := q (k - 1 - s) (by omega) (by omega)
        have e : (fun i => co U i || Th.dual k G (k - 1 - s) i) = co (fun i => U i && !G s i) := by
          rw [co_or]
          funext i
          show (!(U i && !Th.dual k G (k - 1 - s) i)) = !(U i && !G s i)
          have := dual_dual_at (G := G) (k := k) (s := s) hk i
          unfold Th.dual at this ⊢
          rw [this]
        rw [e] at q2
        have c1 := cnt_co k (fun i => U i && !G s i)
        have c2 := cnt_split (k := k) U (G s)
        have c3 := cnt_mono (k := k) (S := fun i => U i && G s i) (U := G s) fun i _ h => by revert h; cases U i <;> simp
        omega
  · rintro ⟨h1, h2⟩
    have cR : cnt k (fun i => S i && !G T i) + cnt k (G T) = cnt k (fun i => S i || G T i) := by
      have e := cnt_or_not (k := k) (G T) S
      have e1 : (fun i => G T i || S i) = (fun i => S i || G T i) := funext fun i => Bool.or_comm _ _
      rw [e1] at e
      omega
    have rT : cnt k (fun i => S i && !G T i) ≤ T := by
      refine Nat.le_trans (cnt_mono (U := V) fun i hi q => ?_) (Nat.le_of_eq cV)
      have q' : (S i && !G T i) = true := q
      have g : G T i = false := by revert q'; cases G T i <;> cases S i <;> simp
      have s : S i = true := by revert q'; cases G T i <;> cases S i <;> simp
      rw [fast_inv t rV i hi g]
      exact s
    obtain ⟨A, a1, a2, a3, a4⟩ := chain (k := k) G (fun s => T ≤ s ∧ s < k) (fun s s' hs hs' => by
      by_cases z : s ≤ s'
      · exact .inr fun i _ g => t.dn _ _ _ hs.1 z hs'.2 g
      · exact .inl fun i _ g => t.dn _ _ _ hs'.1 (by omega) hs.2 g) (G T) (fun s hs i _ g => t.dn _ _ _ (Nat.le_refl _) hs.1 hs.2 g) (n - cnt k (fun i => S i && !G T i)) (by omega)
    have hout : ∀ i, ¬ i < k → (fun i => if i < k then (S i && !G T i) || A i else S i) i = S i := fun i hi => by show (if i < k then (S i && !G T i) || A i else S i) = S i; rw [if_neg hi]
    have hin : ∀ i, i < k → (fun i => if i < k then (S i && !G T i) || A i else S i) i = ((S i && !G T i) || A i) := fun i hi => by show (if i < k then (S i && !G T i) || A i else S i) = _; rw [if_pos hi]
    have cU : cnt k (fun i => if i < k then (S i && !G T i) || A i else S i) = n := by
      rw [cnt_congr hin, cnt_or_not]
      have : cnt k (fun i => A i && !(S i && !G T i)) = cnt k A := cnt_congr fun i hi => by
        cases q : A i with
        | false => rfl
        | true => rw [a1 i hi q]; cases S i <;> rfl
      omega
    refine ⟨_, open_reach t hS ?_ (fun i hi g => ?_) hout, cU⟩
    · by_cases z : n = T
      · exact .inl ⟨by omega, fun m x y => by omega⟩
      · refine .inr ⟨by omega, fun s x y => ?_⟩
        rw [cU] at y
        have sk : s < k := by
          have := cnt_le k (fun i => if i < k then (S i && !G T i) || A i else S i)
          omega
        have q := h2 s x sk
        have e1 : cnt k (fun i => (fun i => if i < k then (S i && !G T i) || A i else S i) i && !G s i) ≤ cnt k (fun i => S i && !G T i) + cnt k (fun i => A i && !G s i) := by
          have e : cnt k (fun i => (fun i => if i < k then (S i && !G T i) || A i else S i) i && !G s i) ≤ cnt k (fun i => (S i && !G T i) || (A i && !G s i)) := cnt_mono fun i hi w => by
            rw [hin i hi] at w
            show ((S i && !G T i) || (A i && !G s i)) = true
            revert w
            cases S i <;> cases G T i <;> cases A i <;> cases G s i <;> simp
          have e2 := cnt_or_not (k := k) (fun i => S i && !G T i) (fun i => A i && !G s i)
          have e3 := cnt_mono (k := k) (S := fun i => (A i && !G s i) && !(S i && !G T i)) (U := fun i => A i && !G s i) fun i _ w => by revert w; cases (A i && !G s i) <;> simp
          omega
        rcases a4 s ⟨x, sk⟩ with w | w
        · have e3 : cnt k (fun i => A i && !G s i) = 0 := cnt_none fun i hi => by
            cases q : A i with
            | false => rfl
            | true => rw [w i hi q]; rfl
          omega
        · have e3 := cnt_diff w
          omega
    · show (if i < k then S i && !G T i || A i else S i) = S i
      rw [if_pos hi, g]
      cases q : A i with
      | true => rw [a1 i hi q] at g; cases g
      | false => cases S i <;> rfl
end
end Th

namespace Sh
open PySem PySem.Spec PyProof.Rows L2
def spRight : Sp := fun vs H Q _ => ∃ b : Addr, vs = [.ref b] ∧ BoxAt H b 100000 ∧ ∀ H', But b H H' → Q (.bl true) H'
end Sh

namespace Sh
open PySem PySem.Spec PyProof.Rows L2
/-! ### windows, goers, seas beside the box -/
theorem may_mk {h t : Int} {ds : List Int} {L : List Nat} {i : Nat} : mayB h t ds L i = decide (ds.getD i 0 ≤ mk h t ds.length (near L i : Int)) := by
  unfold mayB mk
  rw [Bool.eq_iff_iff, Bool.and_eq_true, decide_eq_true_eq, decide_eq_true_eq, decide_eq_true_eq]
  constructor
  · rintro ⟨a, b⟩
    split <;> omega
  · intro a
    split at a <;> omega
theorem in_lets {h t : Int} {ds : List Int} {L : List Nat} {i : Nat} (hi : i < ds.length) : inV (.int (i : Int)) (ni (lets h t ds L ds.length)) = mayB h t ds L i := by
  rw [in_ni, Bool.eq_iff_iff, decide_eq_true_eq]
  unfold lets
  rw [List.mem_filter, List.mem_range]
  exact ⟨fun q => q.2, fun q => ⟨hi, q⟩⟩
theorem in_gs {m : Int} {ds : List Int} {i : Nat} (hi : i < ds.length) : inV (.int (i : Int)) (((gs m ds ds.length).map fun (i : Nat) => (i : Int)).map V.int) = decide (ds.getD i 0 ≤ m) := by
  rw [← ni_ints, in_ni, Bool.eq_iff_iff, decide_eq_true_eq, decide_eq_true_eq]
  unfold gs
  rw [List.mem_filter, List.mem_range, decide_eq_true_eq]
  exact ⟨fun q => q.2, fun q => ⟨hi, q⟩⟩
/-- a sea that is none of the box -/
def SeaB (K : PySem.W.Frag) (H : Hp) (b : Addr) (v : V) (h t : Int) (ds : List Int) : Prop := ∃ p q, v = .ref p ∧ SqA K H p [.int h, .int t, .ref q] ∧ SqA K H q (ds.map V.int) ∧ p ≠ b ∧ q ≠ b
theorem SeaB.but {K : PySem.W.Frag} {H H' : Hp} {b : Addr} {v : V} {h t : Int} {ds : List Int} (s : SeaB K H b v h t ds) (u : But b H H') : SeaB K H' b v h t ds := let ⟨p, q, e, hp, hq, pb, qb⟩ := s; ⟨p, q, e, (Kp.ofB u pb).sa hp, (Kp.ofB u qb).sa hq, pb, qb⟩
theorem SeaB.a {K : PySem.W.Frag} {H : Hp} {b : Addr} {v : V} {h t : Int} {ds : List Int} (s : SeaB K H b v h t ds) : SeaA K H v h t ds := let ⟨p, q, e, hp, hq, _, _⟩ := s; ⟨p, q, e, hp, hq⟩
/-- a window as it is told: None, or a new pair -/
def WinAt (H H' : Hp) (sp : V) (lo hi : Int) : Prop := (lo > hi ∧ sp = .non) ∨ (¬ lo > hi ∧ ∃ a, sp = .ref a ∧ H a = none ∧ H' a = some (.tup [.int lo, .int hi]))
def spWin (K : PySem.W.Frag) : Sp := fun vs H Q _ => ∃ (v : V) (h t d : Int) (j : Nat) (ds : List Int), vs = [v, .int (j : Int)] ∧ SeaA K H v h t ds ∧ ds[j]? = some d ∧ ∀ (sp : V) (H' : Hp), Same H H' → WinAt H H' sp (lowI h d) (highI t ds.length d) → Q sp H'
theorem win_imp {K : PySem.W.Frag} (vs : List V) (H : Hp) (Q : VK) (E : XK) (z : spWin K vs H Q E) : spWindow K vs H Q E := by
  obtain ⟨v, h, t, d, j, ds, rfl, hv, hj, q⟩ := z
  exact ⟨v, h, t, d, j, ds, rfl, hv, hj, fun c => q .non H (Same.refl _) (.inl ⟨c, rfl⟩), fun c p np => q (.ref p) _ (same_new np) (.inr ⟨c, p, rfl, np, upd_same⟩)⟩
end Sh

namespace Sh
open PySem PySem.Spec PyProof.Rows L2
/-! ### lots as sets, crossings of lots -/
def mem (L : List Nat) : Nat → Bool := fun i => decide (i ∈ L)
theorem cnt_mem {c : Nat} {L : List Nat} (h : Lot c L) : Th.cnt c (mem L) = L.length := by
  unfold Th.cnt mem
  rw [List.countP_eq_length_filter]
  exact congrArg List.length h.mem_eq.symm
theorem mem_out {c : Nat} {L : List Nat} (h : Lot c L) {i : Nat} (hi : ¬ i < c) : mem L i = false := decide_eq_false fun z => hi (h.lt i z)
theorem lot_ext {c : Nat} {L M : List Nat} (h : Lot c L) (h' : Lot c M) (e : ∀ i, i < c → mem L i = mem M i) : L = M := by
  rw [h.mem_eq, h'.mem_eq]
  exact List.filter_congr fun i hi => e i (List.mem_range.mp hi)
/-- who goes at a step -/
def Gof (h t : Int) (ds : List Int) : Nat → Nat → Bool := fun s i => decide (ds.getD i 0 ≤ mk h t ds.length (s : Int))
theorem near_cnt {c : Nat} {L : List Nat} (h : Lot c L) {i : Nat} (hi : i < c) : near L i = if i ∈ L then L.length - 1 else L.length := by
  by_cases z : i ∈ L
  · rw [if_pos z, near_in h]
    have e := filter_filter_len (fun j => decide (j ∈ L)) (fun j => decide (j = i)) (List.range c)
    have e1 : ((List.range c).filter fun j => decide (j ∈ L)).length = L.length := congrArg List.length h.mem_eq.symm
    have e2 : ((List.range c).filter fun j => decide (j ∈ L) && decide (j = i)).length = 1 := by
      rw [← one_of hi]
      congr 1
      refine List.filter_congr fun a _ => ?_
      by_cases q : a = i
      · subst q
        rw [decide_eq_true z]
        rfl
      · rw [decide_eq_false q, Bool.and_false]
    omega
  · rw [if_neg z]
    exact near_out z
theorem may_G {h t : Int} {ds : List Int} {L : List Nat} {i : Nat} : mayB h t ds L i = Gof h t ds (near L i) i := may_mk
/-- the standing behind i's going over -/
def gone (L : List Nat) (i : Nat) : List Nat := if i ∈ L then L.filter (fun j => !decide (j = i)) else L.filter (fun j => decide (j < i)) ++ i :: L.filter (fun j => decide (i < j))
theorem gone_lot {c : Nat} {L : List Nat} (h : Lot c L) {i : Nat} (hi : i < c) : Lot c (gone L i) := by
  unfold gone
  split
  · exact h.filter _
  · refine ⟨List.pairwise_append.mpr ⟨h.up.filter _, List.pairwise_cons.mpr ⟨fun a ha => ?_, h.up.filter _⟩, fun a ha b hb => ?_⟩, fun a ha => ?_⟩
    · simpa using (List.mem_filter.mp ha).2
    · have h1 : a < i := by simpa using (List.mem_filter.mp ha).2
      rcases List.mem_cons.mp hb with q | q
      · omega
      · have : i < b := by simpa using (List.mem_filter.mp q).2
        omega
    · rcases List.mem_append.mp ha with q | q
      · exact h.lt a (List.mem_filter.mp q).1
      · rcases List.mem_cons.mp q with q | q
        · omega
        · exact h.lt a (List.mem_filter.mp q).1
theorem gone_mem {L : List Nat} {i : Nat} : mem (gone L i) = Th.flip (mem L) i := by
  funext j
  unfold mem gone
  by_cases z : i ∈ L
  · rw [if_pos z]
    by_cases e : j = i
    · subst e
      rw [Th.flip_self]
      simp [z]
    · rw [Th.flip_ne _ e]
      simp [e]
  · rw [if_neg z]
    by_cases e : j = i
    · subst e
      rw [Th.flip_self]
      simp [z]
    · rw [Th.flip_ne _ e]
      by_cases q : j < i
      · simp [e, q]
        omega
      · have : i < j := by omega
        simp [e, q, this]
/-- one comes to the other -/
def Rl (h t : Int) (ds : List Int) (L M : List Nat) : Prop := Th.Reach ds.length (Gof h t ds) (mem L) (mem M)
theorem rl_one {h t : Int} {ds : List Int} {L : List Nat} {i : Nat} (hL : Lot ds.length L) (hi : i < ds.length) (m : mayB h t ds L i = true) : Rl h t ds L (gone L i) := by
  unfold Rl
  rw [gone_mem]
  rw [may_G, near_cnt hL hi] at m
  refine .one ?_
  by_cases z : i ∈ L
  · rw [if_pos z] at m
    exact .dn hi (decide_eq_true z) (by rw [cnt_mem hL]; exact m)
  · rw [if_neg z] at m
    exact .up hi (decide_eq_false z) (by rw [cnt_mem hL]; exact m)
/-- behind its going over it may go back -/
theorem may_back {h t : Int} {ds : List Int} {L : List Nat} {i : Nat} (hL : Lot ds.length L) (hi : i < ds.length) : near (gone L i) i = near L i := by
  rw [near_cnt (gone_lot hL hi) hi, near_cnt hL hi]
  have m : mem (gone L i) i = !mem L i := by rw [gone_mem, Th.flip_self]
  have c1 := cnt_mem hL
  have c2 := cnt_mem (gone_lot hL hi)
  rw [gone_mem] at c2
  by_cases z : i ∈ L
  · have z2 : ¬ i ∈ gone L i := fun q => by
      have : mem (gone L i) i = true := decide_eq_true q
      rw [m, show mem L i = true from decide_eq_true z] at this
      cases this
    have := Th.cnt_flip_dn (k := ds.length) (S := mem L) hi (decide_eq_true z)
    rw [if_pos z, if_neg z2]
    omega
  · have z2 : i ∈ gone L i := by
      have : mem (gone L i) i = true := by rw [m, show mem L i = false from decide_eq_false z]; rfl
      exact of_decide_eq_true this
    have := Th.cnt_flip_up (k := ds.length) (S := mem L) hi (decide_eq_false z)
    rw [if_neg z, if_pos z2]
    omega
theorem top_of (h t : Int) (ds : List Int) (hk : 0 < ds.length) : Th.Top ds.length (Gof h t ds) (topI h t ds.length).toNat := by
  have t0 := top_lo h t ds.length
  have t1 := top_hi h t hk
  refine ⟨by omega, fun s s' i a b g => ?_, fun s s' i a b c g => ?_⟩
  · have g' : ds.getD i 0 ≤ mk h t ds.length (s : Int) := of_decide_eq_true g
    refine decide_eq_true (Int.le_trans g' ?_)
    have b' : (s' : Int) ≤ topI h t ds.length := by omega
    clear g g' t0 t1
    unfold mk topI at *
    repeat' split
    all_goals (repeat' split at b')
    all_goals omega
  · have g' : ds.getD i 0 ≤ mk h t ds.length (s' : Int) := of_decide_eq_true g
    refine decide_eq_true (Int.le_trans g' ?_)
    have b' : topI h t ds.length ≤ (s : Int) := by omega
    clear g g' t0 t1
    unfold mk topI at *
    repeat' split
    all_goals (repeat' split at b')
    all_goals omega
/-! ### what is told of it -/
def IsMost (h t : Int) (ds : List Int) (L : List Nat) (m : Nat) : Prop := (∃ M, Lot ds.length M ∧ Rl h t ds L M ∧ M.length = m) ∧ ∀ M, Lot ds.length M → Rl h t ds L M → M.length ≤ m
def IsLeast (h t : Int) (ds : List Int) (L : List Nat) (m : Nat) : Prop := (∃ M, Lot ds.length M ∧ Rl h t ds L M ∧ M.length = m) ∧ ∀ M, Lot ds.length M → Rl h t ds L M → m ≤ M.length
def IsMovers (h t : Int) (ds : List Int) (L ms : List Nat) : Prop := Lot ds.length ms ∧ ∀ i, i < ds.length → (i ∈ ms ↔ ∃ M, Lot ds.length M ∧ Rl h t ds L M ∧ mayB h t ds M i = true)
theorem IsMost.uniq {h t : Int} {ds : List Int} {L L' : List Nat} {m m' : Nat} (r : Rl h t ds L L') (a : IsMost h t ds L m) (b : IsMost h t ds L' m') : m = m' := by
  obtain ⟨⟨M, l1, r1, e1⟩, h1⟩ := a
  obtain ⟨⟨M', l2, r2, e2⟩, h2⟩ := b
  have := h1 M' l2 (r.trans r2)
  have := h2 M l1 (r.symm.trans r1)
  omega
theorem IsLeast.uniq {h t : Int} {ds : List Int} {L L' : List Nat} {m m' : Nat} (r : Rl h t ds L L') (a : IsLeast h t ds L m) (b : IsLeast h t ds L' m') : m = m' := by
  obtain ⟨⟨M, l1, r1, e1⟩, h1⟩ := a
  obtain ⟨⟨M', l2, r2, e2⟩, h2⟩ := b
  have := h1 M' l2 (r.trans r2)
  have := h2 M l1 (r.symm.trans r1)
  omega
theorem IsMovers.uniq {h t : Int} {ds : List Int} {L L' ms ms' : List Nat} (r : Rl h t ds L L') (a : IsMovers h t ds L ms) (b : IsMovers h t ds L' ms') : ms = ms' := by
  refine lot_ext a.1 b.1 fun i hi => ?_
  unfold mem
  rw [decide_eq_decide, a.2 i hi, b.2 i hi]
  exact ⟨fun ⟨M, l, q, m⟩ => ⟨M, l, r.symm.trans q, m⟩, fun ⟨M, l, q, m⟩ => ⟨M, l, r.trans q, m⟩⟩
/-- a sea whose draughts are a tuple is handed in -/
def SeaD (K : PySem.W.Frag) (H : Hp) (v : V) (h t : Int) (ds : List Int) : Prop := ∃ p q, v = .ref p ∧ SqA K H p [.int h, .int t, .ref q] ∧ SqT K H q (ds.map V.int)
theorem SeaD.same {K : PySem.W.Frag} {H H' : Hp} {v : V} {h t : Int} {ds : List Int} (s : SeaD K H v h t ds) (e : Same H H') : SeaD K H' v h t ds := let ⟨p, q, a, b, c⟩ := s; ⟨p, q, a, Same.sqA e b, Same.tup e c⟩
theorem SeaD.a {K : PySem.W.Frag} {H : Hp} {v : V} {h t : Int} {ds : List Int} (s : SeaD K H v h t ds) : SeaA K H v h t ds := let ⟨p, q, a, b, c⟩ := s; ⟨p, q, a, b, .inr c⟩
def spMost (K : PySem.W.Frag) : Sp := fun vs H Q _ => ∃ (v l : V) (h t : Int) (ds : List Int) (L : List Nat), vs = [v, l] ∧ SeaD K H v h t ds ∧ LotA K H l L ∧ ds.length ≤ 60 ∧ 0 < ds.length ∧ Lot ds.length L ∧ ∀ (H' : Hp) (m : Nat), Same H H' → IsMost h t ds L m → Q (.int (m : Int)) H'
def spLeast (K : PySem.W.Frag) : Sp := fun vs H Q _ => ∃ (v l : V) (h t : Int) (ds : List Int) (L : List Nat), vs = [v, l] ∧ SeaD K H v h t ds ∧ LotA K H l L ∧ ds.length ≤ 60 ∧ 0 < ds.length ∧ Lot ds.length L ∧ ∀ (H' : Hp) (m : Nat), Same H H' → IsLeast h t ds L m → Q (.int (m : Int)) H'
def spMovers (K : PySem.W.Frag) : Sp := fun vs H Q _ => ∃ (v l : V) (h t : Int) (ds : List Int) (L : List Nat), vs = [v, l] ∧ SeaD K H v h t ds ∧ LotA K H l L ∧ ds.length ≤ 60 ∧ 0 < ds.length ∧ Lot ds.length L ∧
  ∀ (H' : Hp) (p : Addr) (ms : List Nat), Same H H' → H p = none → H' p = some (.lst (ni ms)) → IsMovers h t ds L ms → Q (.ref p) H'
def spComes (K : PySem.W.Frag) : Sp := fun vs H Q _ => ∃ (v l m : V) (h t : Int) (ds : List Int) (L M : List Nat), vs = [v, l, m] ∧ SeaD K H v h t ds ∧ LotA K H l L ∧ LotA K H m M ∧ ds.length ≤ 60 ∧ 0 < ds.length ∧ Lot ds.length L ∧ Lot ds.length M ∧
  ∀ (H' : Hp) (b : Bool), Same H H' → (b = true ↔ Rl h t ds L M) → Q (.bl b) H'
/-! ### turned about -/
def away (c : Nat) (L : List Nat) : List Nat := (List.range c).filter fun i => !decide (i ∈ L)
theorem away_lot (c : Nat) (L : List Nat) : Lot c (away c L) := (Lot.all c).filter _
theorem mk_turn {h t : Int} {k s : Nat} (hs : s < k) : mk t h k (s : Int) = mk h t k ((k - 1 - s : Nat) : Int) := by
  unfold mk
  split <;> split <;> omega
theorem mem_away {c : Nat} {L : List Nat} {i : Nat} (hi : i < c) : mem (away c L) i = !mem L i := by
  unfold mem away
  rw [Bool.eq_iff_iff, decide_eq_true_eq, List.mem_filter, List.mem_range]
  simp [hi]
end Sh

namespace Sh
/-! ### fleets: sums over sorts, and ships one by one -/
abbrev Srt := Int × Nat × Nat
def mny (ss : List Srt) : Nat := (ss.map fun x => x.2.1 + x.2.2).sum
theorem mny_cons (x : Srt) (l : List Srt) : mny (x :: l) = x.2.1 + x.2.2 + mny l := by
  unfold mny
  rw [List.map_cons, List.sum_cons]
theorem mny_snoc (l : List Srt) (x : Srt) : mny (l ++ [x]) = mny l + (x.2.1 + x.2.2) := by
  unfold mny
  rw [List.map_append, List.sum_append]
  simp
def ourn (ss : List Srt) : Nat := (ss.map fun x => x.2.1).sum
def gmF (ss : List Srt) (m : Int) : Nat := ((ss.filter fun x => decide (x.1 ≤ m)).map fun x => x.2.1 + x.2.2).sum
def filF (ss : List Srt) (m : Int) : Nat := (ss.map fun x => x.2.1 + if x.1 ≤ m then x.2.2 else 0).sum
def fxF (ss : List Srt) (m : Int) : List Nat := (ss.filter fun x => decide (x.1 > m)).map fun x => x.2.1
def turnF (ss : List Srt) : List Srt := ss.map fun x => (x.1, x.2.2, x.2.1)
theorem mny_turn (ss : List Srt) : mny (turnF ss) = mny ss := by
  unfold mny turnF
  rw [List.map_map]
  congr 1
  exact List.map_congr_left fun x _ => Nat.add_comm _ _
theorem turn_turn (ss : List Srt) : turnF (turnF ss) = ss := by
  unfold turnF
  rw [List.map_map]
  exact (List.map_congr_left fun x _ => rfl).trans (List.map_id ss)
/-- the ships of a fleet one by one -/
structure Rp (ss : List Srt) (k : Nat) (D : Nat → Int) (S : Nat → Bool) : Prop where
  here : ∀ P : Int → Bool, ((ss.filter fun x => P x.1).map fun x => x.2.1).sum = Th.cnt k (fun i => P (D i) && S i)
  there : ∀ P : Int → Bool, ((ss.filter fun x => P x.1).map fun x => x.2.2).sum = Th.cnt k (fun i => P (D i) && !S i)
theorem sum_two (f g : Srt → Nat) : ∀ l : List Srt, (l.map fun x => f x + g x).sum = (l.map f).sum + (l.map g).sum
  | [] => rfl
  | a :: l => by
    simp only [List.map_cons, List.sum_cons, sum_two f g l]
    omega
theorem sum_filter (P : Srt → Bool) (f : Srt → Nat) : ∀ l : List Srt, (l.map fun x => if P x = true then f x else 0).sum = ((l.filter P).map f).sum
  | [] => rfl
  | a :: l => by
    cases h : P a <;> simp [h, sum_filter P f l]
section
variable {ss : List Srt} {k : Nat} {D : Nat → Int} {S : Nat → Bool}
theorem Rp.gm (r : Rp ss k D S) (m : Int) : gmF ss m = Th.cnt k (fun i => decide (D i ≤ m)) := by
  unfold gmF
  rw [sum_two (fun x => x.2.1) (fun x => x.2.2), r.here fun d => decide (d ≤ m), r.there fun d => decide (d ≤ m)]
  exact (Th.cnt_split _ S).symm
theorem Rp.ourn (r : Rp ss k D S) : ourn ss = Th.cnt k S := by
  have e := r.here fun _ => true
  rw [List.filter_eq_self.mpr fun _ _ => rfl] at e
  exact e
theorem Rp.mny (r : Rp ss k D S) : mny ss = k := by
  have e := r.there fun _ => true
  rw [List.filter_eq_self.mpr fun _ _ => rfl] at e
  unfold Sh.mny
  rw [sum_two (fun x => x.2.1) (fun x => x.2.2), e]
  have e2 := r.ourn
  unfold Sh.ourn at e2
  rw [e2]
  exact Th.cnt_not S
theorem Rp.fil (r : Rp ss k D S) (m : Int) : filF ss m = Th.cnt k (fun i => S i || decide (D i ≤ m)) := by
  unfold filF
  rw [sum_two (fun x => x.2.1) (fun x => if x.1 ≤ m then x.2.2 else 0)]
  have e1 := r.ourn
  unfold Sh.ourn at e1
  have e2 : (ss.map fun x => if x.1 ≤ m then x.2.2 else 0).sum = Th.cnt k (fun i => decide (D i ≤ m) && !S i) := by
    rw [← r.there fun d => decide (d ≤ m), ← sum_filter]
    congr 1
    refine List.map_congr_left fun x _ => ?_
    by_cases z : x.1 ≤ m
    · rw [if_pos z, if_pos (decide_eq_true z)]
    · rw [if_neg z, if_neg (by simpa using z)]
  rw [e1, e2, Th.cnt_or_not]
theorem Rp.fx (r : Rp ss k D S) (m : Int) : (fxF ss m).sum = Th.cnt k (fun i => S i && !decide (D i ≤ m)) := by
  unfold fxF
  rw [r.here fun d => decide (d > m)]
  refine Th.cnt_congr fun i _ => ?_
  rw [Bool.and_comm]
  congr 1
  by_cases z : D i ≤ m
  · rw [decide_eq_true z, decide_eq_false (by omega)]; rfl
  · rw [decide_eq_false z, decide_eq_true (by omega)]; rfl
theorem Rp.turn (r : Rp ss k D S) : Rp (turnF ss) k D (Th.co S) := by
  refine ⟨fun P => ?_, fun P => ?_⟩
  · have e := r.there P
    unfold turnF
    rw [List.filter_map, List.map_map]
    exact e
  · have e := r.here P
    unfold turnF
    rw [List.filter_map, List.map_map]
    refine Eq.trans e ?_
    refine Th.cnt_congr fun i _ => ?_
    unfold Th.co
    rw [Bool.not_not]
end
/-- who goes at a step -/
def Gd (h t : Int) (k : Nat) (D : Nat → Int) : Nat → Nat → Bool := fun s i => decide (D i ≤ mk h t k (s : Int))
theorem top_lo' (h t : Int) (k : Nat) : 0 ≤ topI h t k := by
  unfold topI
  split <;> omega
theorem top_hi' (h t : Int) {k : Nat} (hk : 0 < k) : topI h t k < (k : Int) := by
  unfold topI
  repeat' split
  all_goals omega
theorem mk_le {h t : Int} {k : Nat} {s s' : Int} (s0 : 0 ≤ s) (a : s ≤ s') (b : s' ≤ topI h t k) : mk h t k s ≤ mk h t k s' := by
  unfold mk topI at *
  repeat' split
  all_goals (repeat' split at b)
  all_goals omega
theorem mk_dn {h t : Int} {k : Nat} {s s' : Int} (c : topI h t k ≤ s) (a : s ≤ s') (d : s' < (k : Int)) : mk h t k s' ≤ mk h t k s := by
  unfold mk topI at *
  repeat' split
  all_goals (repeat' split at c)
  all_goals omega
theorem mk_turn' {h t : Int} {k : Nat} {s : Int} : mk t h k s = mk h t k ((k : Int) - 1 - s) := by
  unfold mk
  split <;> split <;> omega
/-- up to the top the water here bounds -/
theorem mk_low {h t : Int} {k : Nat} {s : Int} (s0 : 0 ≤ s) (b : s < topI h t k) : mk h t k s = h + s := by
  unfold mk topI at *
  repeat' split at b
  all_goals split
  all_goals omega
theorem mk_high {h t : Int} {k : Nat} {s : Int} (s0 : 0 ≤ s) (b : s < (k : Int) - 1 - topI h t k) : mk t h k s = t + s := by
  unfold mk topI at *
  repeat' split at b
  all_goals split
  all_goals omega
theorem top_D (h t : Int) {k : Nat} (D : Nat → Int) (hk : 0 < k) : Th.Top k (Gd h t k D) (topI h t k).toNat := by
  have t0 := top_lo' h t k
  have t1 := top_hi' h t hk
  refine ⟨by omega, fun s s' i a b g => ?_, fun s s' i a b c g => ?_⟩
  · have g' : D i ≤ mk h t k (s : Int) := of_decide_eq_true g
    exact decide_eq_true (Int.le_trans g' (mk_le (by omega) (by omega) (by omega)))
  · have g' : D i ≤ mk h t k (s' : Int) := of_decide_eq_true g
    exact decide_eq_true (Int.le_trans g' (mk_dn (by omega) (by omega) (by omega)))
theorem Gd_turn {h t : Int} {k : Nat} {D : Nat → Int} {s i : Nat} (hs : s < k) : Gd t h k D s i = Th.dual k (Gd h t k D) s i := by
  unfold Gd Th.dual
  rw [mk_turn', show ((k : Int) - 1 - (s : Int)) = ((k - 1 - s : Nat) : Int) by omega]
/-! ### stuck, by sums -/
def StuckF (h t : Int) (ss : List Srt) (N : Nat) : Prop := ourn ss ≤ N ∧ (∀ n : Nat, ourn ss ≤ n → n < N → n < filF ss (mk h t (mny ss) (n : Int))) ∧ filF ss (mk h t (mny ss) (N : Int)) ≤ N
theorem Rp.stuck {ss : List Srt} {k : Nat} {D : Nat → Int} {S : Nat → Bool} (r : Rp ss k D S) (h t : Int) (N : Nat) : StuckF h t ss N ↔ Th.StuckLow k (Gd h t k D) N S := by
  unfold StuckF Th.StuckLow
  rw [r.ourn, r.mny, r.fil]
  have e : ∀ n : Nat, filF ss (Sh.mk h t k (n : Int)) = Th.cnt k (fun i => S i || Gd h t k D n i) := fun n => r.fil _
  simp only [e]
  exact Iff.rfl
end Sh
namespace Th
theorem StuckLow.congr {k : Nat} {G G' : Nat → Nat → Bool} {S : Nat → Bool} {N : Nat} (hN : N < k) (e : ∀ s i, s < k → G s i = G' s i) (h : StuckLow k G N S) : StuckLow k G' N S := by
  have e2 : ∀ n, n < k → cnt k (fun i => S i || G n i) = cnt k (fun i => S i || G' n i) := fun n hn => cnt_congr fun i _ => by rw [e n i hn]
  refine ⟨h.1, fun n a b => ?_, ?_⟩
  · rw [← e2 n (by omega)]
    exact h.2.1 n a b
  · rw [← e2 N hN]
    exact h.2.2
/-- gets to the top's number, and somebody may go there -/
def Open (k : Nat) (G : Nat → Nat → Bool) (T : Nat) (S : Nat → Bool) : Prop := (Rises k G T S ∨ Sinks k G T S) ∧ T < cnt k (fun i => S i || G T i)
theorem Open.congr {k : Nat} {G G' : Nat → Nat → Bool} {T : Nat} {S : Nat → Bool} (hT : T < k) (e : ∀ s i, s < k → G s i = G' s i) (h : Open k G T S) : Open k G' T S := by
  have e2 : ∀ n, n < k → cnt k (fun i => S i || G n i) = cnt k (fun i => S i || G' n i) := fun n hn => cnt_congr fun i _ => by rw [e n i hn]
  have e3 : ∀ n, n < k → cnt k (fun i => S i && !G n i) = cnt k (fun i => S i && !G' n i) := fun n hn => cnt_congr fun i _ => by rw [e n i hn]
  have cl := cnt_le k S
  refine ⟨h.1.imp (fun q => ⟨q.1, fun n a b => ?_⟩) (fun q => ⟨q.1, fun s a b => ?_⟩), ?_⟩
  · rw [← e2 n (by omega)]
    exact q.2 n a b
  · rw [← e3 s (by omega)]
    exact q.2 s a b
  · rw [← e2 T hT]
    exact h.2
theorem cnt_and_or {k : Nat} (S f : Nat → Bool) : cnt k (fun i => S i && !f i) + cnt k f = cnt k (fun i => S i || f i) := by
  have e := cnt_or_not (k := k) f S
  have e1 : (fun i => f i || S i) = (fun i => S i || f i) := funext fun i => Bool.or_comm _ _
  rw [e1] at e
  omega
theorem Open.dual {k : Nat} {G : Nat → Nat → Bool} {T : Nat} {S : Nat → Bool} (t : Top k G T) (h : Open k G T S) : Open k (Th.dual k G) (k - 1 - T) (co S) := by
  have tl := t.lt
  have c0 := cnt_co k S
  have cle := cnt_le k S
  have key : ∀ n, n < k → cnt k (fun i => co S i && !Th.dual k G (k - 1 - n) i) + cnt k (fun i => S i || G n i) = k := fun n hn => by
    have e : (fun i => co S i && !Th.dual k G (k - 1 - n) i) = co (fun i => S i || G n i) := by
      funext i
      have := dual_dual_at (G := G) (k := k) (s := n) hn i
      unfold Th.dual at this
      show (!S i && !G (k - 1 - (k - 1 - n)) i) = !(S i || G n i)
      rw [this]
      cases S i <;> cases G n i <;> rfl
    rw [e, Nat.add_comm]
    exact cnt_co k _
  have key2 : ∀ n, n < k → cnt k (fun i => co S i || Th.dual k G (k - 1 - n) i) + cnt k (fun i => S i && !G n i) = k := fun n hn => by
    have e : (fun i => co S i || Th.dual k G (k - 1 - n) i) = co (fun i => S i && !G n i) := by
      rw [co_or]
      funext i
      have := dual_dual_at (G := G) (k := k) (s := n) hn i
      unfold Th.dual at this
      show (!(S i && !G (k - 1 - (k - 1 - n)) i)) = !(S i && !G n i)
      rw [this]
    rw [e, Nat.add_comm]
    exact cnt_co k _
  obtain ⟨rs, hc⟩ := h
  have hf : cnt k (fun i => S i && !G T i) ≤ T := by
    rcases rs with q | q
    · exact Nat.le_trans (cnt_mono fun i _ w => by revert w; cases S i <;> simp) q.1
    · exact q.2 T (Nat.le_refl _) q.1
  refine ⟨?_, ?_⟩
  · rcases rs with ⟨q1, q2⟩ | ⟨q1, q2⟩
    · refine .inr ⟨by omega, fun s a b => ?_⟩
      have hk := key (k - 1 - s) (by omega)
      rw [show k - 1 - (k - 1 - s) = s by omega] at hk
      have : k - 1 - s < cnt k (fun i => S i || G (k - 1 - s) i) := by
        by_cases z : k - 1 - s = T
        · rw [z]; exact hc
        · exact q2 _ (by omega) (by omega)
      omega
    · refine .inl ⟨by omega, fun n a b => ?_⟩
      have hk := key2 (k - 1 - n) (by omega)
      rw [show k - 1 - (k - 1 - n) = n by omega] at hk
      have := q2 (k - 1 - n) (by omega) (by omega)
      omega
  · have hk := key2 T tl
    omega
/-- how few can come to lie here, of a lot that gets to the top's number -/
theorem open_counts_low {k : Nat} {G : Nat → Nat → Bool} {T n : Nat} {S : Nat → Bool} (t : Top k G T) (h : Open k G T S) (hn : n ≤ T + 1) : (∃ U, Reach k G S U ∧ cnt k U = n) ↔ cnt k (fun i => S i && !G T i) ≤ n ∧ ∀ m, m ≤ T → m + 1 ≤ n + cnt k (G m) := by
  have tl := t.lt
  have hd := h.dual t
  have oc := open_counts (n := k - n) t.dual hd.1 (by omega)
  have e1 : (∃ U, Reach k G S U ∧ cnt k U = n) ↔ ∃ U, Reach k (Th.dual k G) (co S) U ∧ cnt k U = k - n := by
    constructor
    · rintro ⟨U, r, c⟩
      refine ⟨co U, r.dual, ?_⟩
      have := cnt_co k U
      omega
    · rintro ⟨U, r, c⟩
      refine ⟨co U, ?_, ?_⟩
      · refine Reach.codual ?_
        rw [co_co]
        exact r
      · have := cnt_co k U
        omega
  have e2 : cnt k (fun i => co S i || Th.dual k G (k - 1 - T) i) + cnt k (fun i => S i && !G T i) = k := by
    have e : (fun i => co S i || Th.dual k G (k - 1 - T) i) = co (fun i => S i && !G T i) := by
      rw [co_or]
      funext i
      have := dual_dual_at (G := G) (k := k) (s := T) tl i
      unfold Th.dual at this
      show (!(S i && !G (k - 1 - (k - 1 - T)) i)) = !(S i && !G T i)
      rw [this]
    rw [e, Nat.add_comm]
    exact cnt_co k _
  rw [e1, oc]
  constructor
  · rintro ⟨a, b⟩
    refine ⟨by omega, fun m hm => ?_⟩
    have := b (k - 1 - m) (by omega) (by omega)
    unfold Th.dual at this
    rw [show k - 1 - (k - 1 - m) = m by omega] at this
    have this' : k - n ≤ k - 1 - m + cnt k (G m) := this
    omega
  · rintro ⟨a, b⟩
    refine ⟨by omega, fun s hs hk => ?_⟩
    have := b (k - 1 - s) (by omega)
    show k - n ≤ s + cnt k (G (k - 1 - s))
    omega
def IsMin (k : Nat) (G : Nat → Nat → Bool) (S : Nat → Bool) (n : Nat) : Prop := (∃ U, Reach k G S U ∧ cnt k U = n) ∧ ∀ U, Reach k G S U → n ≤ cnt k U
def IsMax (k : Nat) (G : Nat → Nat → Bool) (S : Nat → Bool) (n : Nat) : Prop := (∃ U, Reach k G S U ∧ cnt k U = n) ∧ ∀ U, Reach k G S U → cnt k U ≤ n
theorem IsMin.co {k : Nat} {G : Nat → Nat → Bool} {S : Nat → Bool} {n : Nat} (h : IsMin k (Th.dual k G) (co S) n) : n ≤ k ∧ IsMax k G S (k - n) := by
  obtain ⟨⟨U, r, c⟩, hm⟩ := h
  have cu := cnt_le k U
  refine ⟨by omega, ⟨Th.co U, ?_, ?_⟩, fun W rW => ?_⟩
  · refine Reach.codual ?_
    rw [co_co]
    exact r
  · have := cnt_co k U
    omega
  · have := hm _ rW.dual
    have := cnt_co k W
    omega
theorem IsMin.congr {k : Nat} {G G' : Nat → Nat → Bool} {S : Nat → Bool} {n : Nat} (e : ∀ s i, s < k → G s i = G' s i) (h : IsMin k G S n) : IsMin k G' S n := by
  obtain ⟨⟨U, r, c⟩, hm⟩ := h
  exact ⟨⟨U, r.congr e, c⟩, fun W rW => hm W (rW.congr fun s i hs => (e s i hs).symm)⟩
theorem stuck_min_high {k : Nat} {G : Nat → Nat → Bool} {T N : Nat} {S : Nat → Bool} (t : Top k G T) (hN : N ≤ T) (h : StuckLow k G N S) : IsMax k G S N := by
  obtain ⟨U, r, c, _⟩ := h.full t hN
  exact ⟨⟨U, r, c⟩, fun W rW => (h.under t hN rW).1⟩
end Th
namespace Sh
/-! ### the least number, as it's told -/
/-- m is the greatest of what least_in looks at -/
def LeastI (h t : Int) (ss : List Srt) (step : Int) (m : Int) : Prop :=
  (m = ((fxF ss (mk h t (mny ss) step)).sum : Int) ∨ ∃ e : Int, (e = step ∨ (∃ x ∈ ss, e = x.1 - h ∧ e < step)) ∧ 0 < e ∧ m = e - (gmF ss (mk h t (mny ss) (e - 1)) : Int)) ∧
  ((fxF ss (mk h t (mny ss) step)).sum : Int) ≤ m ∧ ∀ e : Int, (e = step ∨ (∃ x ∈ ss, e = x.1 - h ∧ e < step)) → 0 < e → e - (gmF ss (mk h t (mny ss) (e - 1)) : Int) ≤ m
/-- the ends are enough -/
theorem least_ends {h t : Int} {ss : List Srt} {N : Nat} {m0 : Int} (hm : ∀ m : Nat, m < N → mk h t (mny ss) (m : Int) = h + m)
    (ub : ∀ e : Int, (e = (N : Int) ∨ (∃ x ∈ ss, e = x.1 - h ∧ e < (N : Int))) → 0 < e → e - (gmF ss (mk h t (mny ss) (e - 1)) : Int) ≤ m0) :
    ∀ (j m : Nat), m < N → N - m = j → (m : Int) + 1 - (gmF ss (mk h t (mny ss) (m : Int)) : Int) ≤ m0 := by
  intro j
  induction j with
  | zero => intro m a b; omega
  | succ j ih =>
    intro m a b
    by_cases z : m + 1 = N
    · have := ub N (.inl rfl) (by omega)
      rw [show (N : Int) - 1 = (m : Int) by omega] at this
      omega
    · by_cases q : ∃ x ∈ ss, x.1 - h = (m : Int) + 1
      · obtain ⟨x, hx, e⟩ := q
        have := ub ((m : Int) + 1) (.inr ⟨x, hx, e.symm, by omega⟩) (by omega)
        rw [show (m : Int) + 1 - 1 = (m : Int) by omega] at this
        exact this
      · have i2 := ih (m + 1) (by omega) (by omega)
        rw [hm (m + 1) (by omega)] at i2
        rw [hm m a]
        have e : gmF ss (h + ((m + 1 : Nat) : Int)) = gmF ss (h + (m : Int)) := by
          unfold gmF
          congr 2
          refine List.filter_congr fun x hx => ?_
          rw [decide_eq_decide]
          have : ¬ x.1 - h = (m : Int) + 1 := fun w => q ⟨x, hx, w⟩
          omega
        rw [e] at i2
        omega
section
variable {ss : List Srt} {k : Nat} {D : Nat → Int} {S : Nat → Bool} {h t : Int}
theorem least_low (r : Rp ss k D S) {T N : Nat} (tp : Th.Top k (Gd h t k D) T) (hN : N ≤ T) (sl : Th.StuckLow k (Gd h t k D) N S) (hm : ∀ m : Nat, m < N → mk h t k (m : Int) = h + m) {m0 : Int} (L : LeastI h t ss (N : Int) m0) :
    ∃ n : Nat, m0 = (n : Int) ∧ Th.IsMin k (Gd h t k D) S n := by
  obtain ⟨l1, l2, l3⟩ := L
  have km := r.mny
  have hends := least_ends (h := h) (t := t) (ss := ss) (N := N) (by rw [km]; exact hm) l3
  have efx := r.fx (mk h t (mny ss) (N : Int))
  rw [km] at efx hends l1 l2 l3
  have gme : ∀ m : Nat, gmF ss (mk h t k (m : Int)) = Th.cnt k (Gd h t k D m) := fun m => r.gm _
  have fxle : (fxF ss (mk h t k (N : Int))).sum ≤ Th.cnt k S := by
    rw [efx]
    exact Th.cnt_mono fun i _ w => by revert w; cases S i <;> simp
  have m0N : m0 ≤ (N : Int) := by
    have := sl.1
    rcases l1 with e | ⟨e, he, e0, e1⟩
    · omega
    · rcases he with he | ⟨x, _, _, he⟩ <;> omega
  have cond : ∀ m, m < N → m + 1 ≤ m0.toNat + Th.cnt k (Gd h t k D m) := fun m a => by
    have := hends _ m a rfl
    rw [gme] at this
    omega
  refine ⟨m0.toNat, by omega, (Th.low_counts sl tp hN (by omega)).mpr cond, fun U rU => ?_⟩
  have ur := sl.under tp hN rU
  have lc := (Th.low_counts sl tp hN ur.1).mp ⟨U, rU, rfl⟩
  rcases l1 with e | ⟨e, he, e0, e1⟩
  · have : Th.cnt k (fun i => S i && !Gd h t k D N i) ≤ Th.cnt k U := Th.cnt_mono fun i hi w => by
      have := ur.2 i hi
      revert w this
      cases S i <;> cases U i <;> cases Gd h t k D N i <;> simp
    have e3 : (fxF ss (mk h t k (N : Int))).sum = Th.cnt k (fun i => S i && !Gd h t k D N i) := efx
    omega
  · have eN : e ≤ (N : Int) := by rcases he with he | ⟨x, _, _, he⟩ <;> omega
    have := lc (e - 1).toNat (by omega)
    rw [show e - 1 = (((e - 1).toNat : Nat) : Int) by omega, gme] at e1
    omega
theorem least_open (r : Rp ss k D S) {T : Nat} (tp : Th.Top k (Gd h t k D) T) (op : Th.Open k (Gd h t k D) T S) (hm : ∀ m : Nat, m < T → mk h t k (m : Int) = h + m) {m0 : Int} (L : LeastI h t ss (T : Int) m0) :
    ∃ n : Nat, m0 = (n : Int) ∧ Th.IsMin k (Gd h t k D) S n := by
  obtain ⟨l1, l2, l3⟩ := L
  have km := r.mny
  have hends := least_ends (h := h) (t := t) (ss := ss) (N := T) (by rw [km]; exact hm) l3
  have efx := r.fx (mk h t (mny ss) (T : Int))
  rw [km] at efx hends l1 l2 l3
  have e3 : (fxF ss (mk h t k (T : Int))).sum = Th.cnt k (fun i => S i && !Gd h t k D T i) := efx
  have gme : ∀ m : Nat, gmF ss (mk h t k (m : Int)) = Th.cnt k (Gd h t k D m) := fun m => r.gm _
  have fT : Th.cnt k (fun i => S i && !Gd h t k D T i) ≤ T := by
    rcases op.1 with q | q
    · exact Nat.le_trans (Th.cnt_mono fun i _ w => by revert w; cases S i <;> simp) q.1
    · exact q.2 T (Nat.le_refl _) q.1
  have m0N : m0 ≤ (T : Int) := by
    rcases l1 with e | ⟨e, he, e0, e1⟩
    · omega
    · rcases he with he | ⟨x, _, _, he⟩ <;> omega
  have ca := Th.cnt_and_or (k := k) S (Gd h t k D T)
  have opc := op.2
  refine ⟨m0.toNat, by omega, (Th.open_counts_low tp op (by omega)).mpr ⟨by omega, fun m a => ?_⟩, fun U rU => ?_⟩
  · by_cases z : m = T
    · subst z
      omega
    · have := hends _ m (by omega) rfl
      rw [gme] at this
      omega
  · by_cases z : Th.cnt k U ≤ T + 1
    · have lc := (Th.open_counts_low tp op z).mp ⟨U, rU, rfl⟩
      rcases l1 with e | ⟨e, he, e0, e1⟩
      · have := lc.1
        omega
      · have eN : e ≤ (T : Int) := by rcases he with he | ⟨x, _, _, he⟩ <;> omega
        have := lc.2 (e - 1).toNat (by omega)
        rw [show e - 1 = (((e - 1).toNat : Nat) : Int) by omega, gme] at e1
        omega
    · omega
end
end Sh

namespace Sh
open PySem PySem.Spec PyProof.Rows L2
theorem may_May {h t : Int} {ds : List Int} {L : List Nat} {i : Nat} (hL : Lot ds.length L) (hi : i < ds.length) : mayB h t ds L i = true ↔ Th.May ds.length (Gof h t ds) (mem L) i := by
  rw [may_G, near_cnt hL hi]
  unfold Th.May
  rw [cnt_mem hL]
  unfold mem
  by_cases z : i ∈ L
  · rw [if_pos z, decide_eq_true z, if_pos rfl]
  · rw [if_neg z, decide_eq_false z, if_neg Bool.false_ne_true]
/-- the lot of a set -/
def lotOf (c : Nat) (U : Nat → Bool) : List Nat := (List.range c).filter U
theorem lotOf_lot (c : Nat) (U : Nat → Bool) : Lot c (lotOf c U) := (Lot.all c).filter _
theorem lotOf_mem {c : Nat} {U : Nat → Bool} {i : Nat} (hi : i < c) : mem (lotOf c U) i = U i := by
  unfold mem lotOf
  rw [Bool.eq_iff_iff, decide_eq_true_eq, List.mem_filter, List.mem_range]
  exact ⟨fun q => q.2, fun q => ⟨hi, q⟩⟩
theorem lotOf_eq {h t : Int} {ds : List Int} {L : List Nat} {U : Nat → Bool} (hL : Lot ds.length L) (r : Th.Reach ds.length (Gof h t ds) (mem L) U) : mem (lotOf ds.length U) = U := by
  funext i
  by_cases hi : i < ds.length
  · exact lotOf_mem hi
  · rw [Th.reach_out r i hi, mem_out hL hi, mem_out (lotOf_lot _ _) hi]
/-- to be one of those that ever go, by lots or by sets -/
theorem ex_moves {h t : Int} {ds : List Int} {L : List Nat} (hL : Lot ds.length L) {i : Nat} (hi : i < ds.length) : (∃ M, Lot ds.length M ∧ Rl h t ds L M ∧ mayB h t ds M i = true) ↔ Th.Moves ds.length (Gof h t ds) (mem L) i := by
  constructor
  · rintro ⟨M, l, r, m⟩
    exact ⟨mem M, r, (may_May l hi).mp m⟩
  · rintro ⟨U, r, m⟩
    have e := lotOf_eq hL r
    refine ⟨lotOf ds.length U, lotOf_lot _ _, ?_, ?_⟩
    · unfold Rl
      rw [e]
      exact r
    · rw [may_May (lotOf_lot _ _) hi, e]
      exact m
theorem movers_moves {h t : Int} {ds : List Int} {L ms : List Nat} (hL : Lot ds.length L) (im : IsMovers h t ds L ms) {i : Nat} (hi : i < ds.length) : i ∈ ms ↔ Th.Moves ds.length (Gof h t ds) (mem L) i := by
  rw [im.2 i hi, ex_moves hL hi]
/-- the most, the least, by sets -/
theorem isMost_of {h t : Int} {ds : List Int} {L : List Nat} {n : Nat} (hL : Lot ds.length L) (q : Th.IsMax ds.length (Gof h t ds) (mem L) n) : IsMost h t ds L n := by
  obtain ⟨⟨U, r, c⟩, hm⟩ := q
  have e := lotOf_eq hL r
  refine ⟨⟨lotOf ds.length U, lotOf_lot _ _, ?_, ?_⟩, fun M l rM => ?_⟩
  · unfold Rl
    rw [e]
    exact r
  · rw [← cnt_mem (lotOf_lot _ _), e]
    exact c
  · rw [← cnt_mem l]
    exact hm _ rM
theorem isLeast_of {h t : Int} {ds : List Int} {L : List Nat} {n : Nat} (hL : Lot ds.length L) (q : Th.IsMin ds.length (Gof h t ds) (mem L) n) : IsLeast h t ds L n := by
  obtain ⟨⟨U, r, c⟩, hm⟩ := q
  have e := lotOf_eq hL r
  refine ⟨⟨lotOf ds.length U, lotOf_lot _ _, ?_, ?_⟩, fun M l rM => ?_⟩
  · unfold Rl
    rw [e]
    exact r
  · rw [← cnt_mem (lotOf_lot _ _), e]
    exact c
  · rw [← cnt_mem l]
    exact hm _ rM
end Sh

/-! set(xs) of a list of ints, by the walk of the list -/
namespace Sh
open PySem PySem.Spec PyProof.Rows L2
section
variable {P : Program} {w : World} {A : Around} {E : Value → Shared → Prop} {s : Shared}
/-- a set as it is born -/
abbrev Bare (w : World) : Obj := { cls := .type "set", dict := none, data := .set #[] 0 (.fresh 0 0 (!w.params.followText "set-order")) }
/-- what is left: a set of the ints; all that stood stands -/
def Made (w : World) (s : Shared) (ns : List Int) (t : Shared) : Prop := ∃ (h' : Heap) (tk c : Nat), t = { s with heap := h', toks := tk } ∧ SetR w h' s.heap.objs.size (fun j => decide (j ∈ ns)) c ∧ c ≤ ns.length ∧ ∀ b o, s.heap.get? b = some o → h'.get? b = some o
/-- the ints of the list, one by one, into the set that was born at the end of the heap -/
theorem fill_lst {A3 : Around} {l : Addr} {items : Array Value} {ns : List Int} {R : Result → Shared → Prop} (hh : A3.in1.handled = none) (hl : s.heap.IsList l items) (hit : IntsAre items.toList ns) (hb : ns.length + 1 < scanBound)
    (hR : ∀ t, Made w s ns t → R (.ok (.ret .none)) t) :
    codeAny (model P w) A3 (.builtin "set.update.loop" ⟨[.ref s.heap.objs.size, .ref (s.heap.push (Bare w)).objs.size], []⟩) R { s with heap := (s.heap.push (Bare w)).push { cls := .type "list_iterator", data := .fields #[.ref l, .int 0 0] } } := by
  have n1 : items.size = ns.length := by rw [← Array.length_toList]; exact hit.length
  obtain ⟨ol, e1, e2, e3⟩ := id hl
  have l1 : l < s.heap.objs.size := Heap.lt_size e1
  have z1 : (s.heap.push (Bare w)).objs.size = s.heap.objs.size + 1 := Heap.size_push ..
  have l2 : l ≠ (s.heap.push (Bare w)).objs.size := by rw [z1]; exact Nat.ne_of_lt (Nat.lt_succ_of_lt l1)
  have vals : ∀ (i : Nat) (v : Value), items[i]? = some v → ∃ k t, ns[i]? = some k ∧ v = .int k t := by
    intro i v hv
    have hi : i < ns.length := n1 ▸ (Array.getElem?_eq_some_iff.mp hv).1
    obtain ⟨t, e⟩ := IntsAre.int_at hit i v (by rw [Array.getElem?_toList]; exact hv)
    exact ⟨ns[i], t, List.getElem?_eq_getElem hi, by rw [e, List.getD_eq_getElem?_getD, List.getElem?_eq_getElem hi]; rfl⟩
  have born : ((s.heap.push (Bare w)).push { cls := .type "list_iterator", data := .fields #[.ref l, .int 0 0] }).get? s.heap.objs.size = some (Bare w) := Heap.get?_push_of_some _ (Heap.get?_push_size _ rfl)
  refine set_update_ints ((Walks.list hh _ l l2 items).toS) s.heap.objs.size (by rw [z1]; simp only [List.mem_cons, List.not_mem_nil, or_false, not_or]; exact ⟨Nat.ne_of_lt (Nat.lt_succ_self _), Nat.ne_of_gt l1⟩) ns n1 hb vals (items.size - 0) 0 _ (by omega) (Nat.zero_le _) ⟨⟨_, Heap.get?_push_size _ rfl, rfl, rfl⟩, (hl.push _).push _⟩ ⟨0, Nat.le_refl 0, setR_new_at born⟩ ?_
  rintro ⟨h', g2, d', tk', os'⟩ c' mv hc' hS'
  obtain rfl : g2 = s.gens := mv.gens
  obtain rfl : d' = s.drawn := mv.drawn
  obtain rfl : os' = s.os := mv.os
  refine hR _ ⟨h', tk', c', rfl, hS', by omega, fun b o e => ?_⟩
  have b0 := Heap.lt_size e
  exact mv.heap b o (by rw [z1]; simp only [List.mem_cons, List.not_mem_nil, or_false, not_or]; exact ⟨Nat.ne_of_lt b0, Nat.ne_of_lt (Nat.lt_succ_of_lt b0)⟩) (Heap.get?_push_of_some _ (Heap.get?_push_of_some _ e))
set_option maxHeartbeats 4000000 in
/-- set(xs) -/
theorem call_set_lst {l : Addr} {items : Array Value} {ns : List Int} {Q : Value → Shared → Prop} (hh : A.handled = none) (hl : s.heap.IsList l items) (hit : IntsAre items.toList ns) (hb : ns.length + 1 < scanBound)
    (h : ∀ t, Made w s ns t → Q (.ref s.heap.objs.size) t) : wpAny (model P w) A (call (.type "set") [.ref l]) Q E s := by
  have ⟨_, _, m1⟩ := F.called_set.mro; have m2 := F.called_set.made; have m3 := F.called_set.sub; have m4 := F.called_set.notType; have m5 := F.called_set.canCreate; have m6 := F.typeCall_set_1 (.ref l)
  refine wpAny_call (codeAny_of_tree (show wpAny _ _ (callAny (.type "set") _) _ _ _ from wpAny_pure ⟨Code.quiet_builtin _ (by decide +kernel), codeAny_builtin F.entry_type_call ?_⟩))
  rw [Around.under_plain (weight_type_call_type "set" [.ref l] []) rfl]
  repeat (any_goals (first | assumption | wp_step))
  refine codeAny_mono (code_set_led1 (.ref l) (E := E) (Q₁ := fun x t => x = .ref s.heap.objs.size ∧ t = { s with heap := s.heap.push (Bare w) }) ⟨rfl, rfl⟩) fun r t hr => ?_
  rcases r with e | fl
  · exact hr
  · rcases fl with x | _ | _ | _
    all_goals try exact hr.elim
    obtain ⟨rfl, rfl⟩ := hr
    have born : (s.heap.push (Bare w)).get? s.heap.objs.size = some (Bare w) := Heap.get?_push_size _ rfl
    have ty : Shared.TypeIs { s with heap := s.heap.push (Bare w) } (.ref s.heap.objs.size) "set" := ⟨_, born, rfl⟩
    have i1 := F.called_set.init.lookup; have i2 := F.called_set.init.bind (.ref s.heap.objs.size)
    repeat (any_goals (first | assumption | wp_step))
    refine codeAny_mono (codeAny_call_builtin (R := wants (fun x t => x = .none ∧ Made w s ns t) E) F.called_set.init.plain F.entry_set_init (check_set_init_1 ty ?_)) fun r2 t2 hr2 => ?_
    · obtain ⟨⟨ocls, odict, odata, oslots⟩, e1, e2, nl, e3⟩ := id hl
      simp only at e2 e3
      subst e2 e3
      have l1 : (s.heap.push (Bare w)).IsList l items := hl.push _
      have e4 : (s.heap.push (Bare w)).get? l = some { cls := .type "list", dict := odict, data := .seq items nl, slots := oslots } := Heap.get?_push_of_some _ e1
      have f1 := F.sub_list_set; have f2 := F.sub_list_frozenset; have f3 : (Value.type "list" == Value.type "dict") = false := by decide
      unfold Builtin.«set.__init__» noKeywords Builtin.Frozenset.updateFrom
      generalize eI : pyIter = it; wp_walk; subst eI
      refine wpAny_pyIter_list l1 (wpAny_bind (wpAny_runValue (fill_lst (by simp [hh]) hl hit hb fun t m => ?_)))
      exact wpAny_pure (wpAny_pure ⟨rfl, m⟩)
    · rcases r2 with e | fl
      · exact hr2
      · rcases fl with x | _ | _ | _
        all_goals try exact hr2.elim
        obtain ⟨rfl, m⟩ := hr2
        repeat (any_goals (first | assumption | wp_step))
        exact h _ m
/-- the members, each once -/
theorem SetR.keys {h : Heap} {a : Addr} {ns : List Int} {c : Nat} (R : SetR w h a (fun j => decide (j ∈ ns)) c) : ∃ ks : List Int, ks.Nodup ∧ (∀ k, k ∈ ks ↔ k ∈ ns) ∧ c = ks.length := by
  obtain ⟨o, es, ep, t, _, _, _, _, nd, hm, _, _, hn, _⟩ := R
  refine ⟨es.toList.map keyOf, nd, fun k => ?_, ?_⟩
  · rw [← hm k, decide_eq_true_eq]
  · rw [List.length_map, Array.length_toList, hn]
/-- set(xs) of a list or a tuple of ints, as a thing that stands -/
def rSetA (K : PySem.W.Frag) (w : World) : List V → Hp → VK → Prop := fun xs H Q => ∃ (q : Addr) (ns : List Int), xs = [.ref q] ∧ SqA K H q (ns.map V.int) ∧ ns.length ≤ 1000 ∧ ∀ (a : Addr) (ks : List Int), H a = none → ks.Nodup → (∀ k, k ∈ ks ↔ k ∈ ns) → Q (.ref a) (upd H a (SetO w a (fun j => decide (j ∈ ns)) ks.length))
theorem cr_setA {X : Cx} (hc : X.calm = true) : CallR X (.type "set") (rSetA X.K X.w) := by
  intro pins s σ H xs us Q I r h
  obtain ⟨q, ns, rfl, hq | hq, hl, k⟩ := h
  · rw [Vals.ref1 r]
    obtain ⟨its, rv, pl, hz⟩ := I.list hq
    refine call_set_lst (ns := ns) (I.ok.hd hc) pl.isList (ints_of_vals rv) (by unfold scanBound; omega) ?_
    rintro t ⟨h', tk, c, rfl, R1, hcn, kk⟩
    obtain ⟨ks, k1, k2, rfl⟩ := SetR.keys R1
    exact ⟨.ref _, upd H s.heap.objs.size (SetO X.w s.heap.objs.size _ ks.length), I.laid (t' := tk) kk (Nat.le_refl _) (setO_new R1), rfl, k _ _ (I.hok.fresh (Nat.le_refl _)) k1 k2⟩
  · rw [Vals.ref1 r]
    obtain ⟨its, rv, pt, hz⟩ := I.tuple hq
    refine call_set_tupI ns (I.ok.hd hc) (show s.heap.IsTuple q its.toArray from pt) (ints_of_vals rv) (by unfold scanBound; omega) fun h' tk c R1 hcn kk => ?_
    obtain ⟨ks, k1, k2, rfl⟩ := SetR.keys R1
    exact ⟨.ref _, upd H s.heap.objs.size (SetO X.w s.heap.objs.size _ ks.length), I.laid (t' := tk) kk (Nat.le_refl _) (setO_new R1), rfl, k _ _ (I.hok.fresh (Nat.le_refl _)) k1 k2⟩
theorem cr_setAw {X : Cx} (w : World) (hc : X.calm = true) (hw : X.w = w := by rfl) : CallR X (.type "set") (rSetA X.K w) := hw ▸ cr_setA hc
end
end Sh

namespace Sh
open PySem PySem.Spec PyProof.Rows L2
/-! ### the program: water -/
def spMarkOf : Sp := fun vs H Q _ => ∃ (h t s : Int) (n : Nat), vs = [.int h, .int t, .int (n : Int), .int s] ∧ Q (.int (mk h t n s)) H
def spTopOf : Sp := fun vs H Q _ => ∃ (h t : Int) (n : Nat), vs = [.int h, .int t, .int (n : Int)] ∧ Q (.int (topI h t n)) H
abbrev s_mark_of : Stmt := topS 1
theorem sc_mark_of : FnScope (["here", "there", "many", "step"] : List Str) (["here", "there", "many", "step"] : List Str) (defScope s_mark_of) := ⟨rfl, rfl, rfl, by decide +kernel, rfl, by decide +kernel, by decide +kernel⟩
theorem b_mark_of (kV doc pm : Value) (an : Option Addr) (cdv ct : Value) (us : List Value) (hl : us.length = (["here", "there", "many", "step"] : List Str).length) : bindArgs (PySem.W.fnOf "mark_of" "mark_of" (defArgs s_mark_of) (defBody s_mark_of) (defScope s_mark_of) .none kV doc pm an cdv ct) ⟨us, []⟩ = pure ((["here", "there", "many", "step"] : List Str).zip us) :=
  match us, hl with | [_, _, _, _], _ => rfl
abbrev s_top_of : Stmt := topS 2
theorem sc_top_of : FnScope (["here", "there", "many", "last", "meeting"] : List Str) (["here", "there", "many"] : List Str) (defScope s_top_of) := ⟨rfl, rfl, rfl, by decide +kernel, rfl, by decide +kernel, by decide +kernel⟩
theorem b_top_of (kV doc pm : Value) (an : Option Addr) (cdv ct : Value) (us : List Value) (hl : us.length = (["here", "there", "many"] : List Str).length) : bindArgs (PySem.W.fnOf "top_of" "top_of" (defArgs s_top_of) (defBody s_top_of) (defScope s_top_of) .none kV doc pm an cdv ct) ⟨us, []⟩ = pure ((["here", "there", "many"] : List Str).zip us) :=
  match us, hl with | [_, _, _], _ => rfl
section
variable {P : Program} {w : World} {K : PySem.W.Frag} {mg : Str → Option Value} {base : Heap}
theorem ok_mark_of {k : Nat} (D : Df K mg "mark_of" s_mark_of) (T : Bt mg) : Ok P w K mg base (k + 1) "mark_of" s_mark_of ["here", "there", "many", "step"] spMarkOf := by
  refine D.ok sc_mark_of b_mark_of (fun vs H Q E h => ?_) (fun f cdv A outer s H vs Q E hr h => ?_)
  · obtain ⟨h, t, s, n, rfl, _⟩ := h
    rfl
  · obtain ⟨h, t, s, n, rfl, k⟩ := h
    refine ⟨_, (pss_one (ps_ret (pe_callB (call_min2 rfl) (by rfl) T.min_ (by decide +kernel) (pa_cons (pe_op op_add (pv 0) (pv 3)) (pa_cons (pe_op op_sub (pe_op op_sub (pe_op op_add (pv 1) (pv 2)) pe_int) (pv 3)) pa_nil))))), ?_⟩
    refine ⟨_, rfl, _, rfl, h, s, rfl, rfl, _, rfl, _, rfl, t, _, rfl, rfl, _, 1, rfl, rfl, _, rfl, _, s, rfl, rfl, _, _, rfl, ?_⟩
    rw [← mk_alt] at k
    exact k
theorem ok_top_of {k : Nat} (D : Df K mg "top_of" s_top_of) (T : Bt mg) : Ok P w K mg base (k + 1) "top_of" s_top_of ["here", "there", "many"] spTopOf := by
  refine D.ok sc_top_of b_top_of (fun vs H Q E h => ?_) (fun f cdv A outer s H vs Q E hr h => ?_)
  · obtain ⟨h, t, n, rfl, _⟩ := h
    rfl
  · obtain ⟨h, t, n, rfl, k⟩ := h
    refine ⟨_, (pss_cons (ps_set (i := 3) sc_top_of.nd rfl (.inl rfl) (pe_op op_sub (pv 2) pe_int))
      (pss_cons (ps_set (i := 4) sc_top_of.nd rfl (.inl rfl) (pe_op op_fdiv (pe_op op_sub (pe_op op_add (pv 1) (pv 3)) (pv 0)) pe_int))
      (pss_one (ps_ret (pe_callB (call_max2 rfl) (by rfl) T.max_ (by decide +kernel) (pa_cons pe_int (pa_cons (pe_callB (call_min2 rfl) (by rfl) T.min_ (by decide +kernel) (pa_cons (pv 3) (pa_cons (pv 4) pa_nil))) pa_nil))))))), ?_⟩
    refine ⟨_, rfl, _, 1, rfl, rfl, ?_⟩
    refine ⟨_, rfl, _, rfl, t, _, rfl, rfl, _, rfl, _, h, rfl, rfl, _, 2, rfl, rfl, ⟨by decide, by decide⟩, ?_⟩
    refine ⟨_, rfl, _, rfl, _, _, rfl, 0, _, rfl, ?_⟩
    exact k
end
end Sh

namespace Sh
open PySem PySem.Spec PyProof.Rows L2
/-! ### the program: steps -/
abbrev s_mark_at : Stmt := topS 26
theorem sc_mark_at : FnScope (["sea", "step", "here", "there", "draughts"] : List Str) (["sea", "step"] : List Str) (defScope s_mark_at) := ⟨rfl, rfl, rfl, by decide +kernel, rfl, by decide +kernel, by decide +kernel⟩
theorem b_mark_at (kV doc pm : Value) (an : Option Addr) (cdv ct : Value) (us : List Value) (hl : us.length = (["sea", "step"] : List Str).length) : bindArgs (PySem.W.fnOf "mark_at" "mark_at" (defArgs s_mark_at) (defBody s_mark_at) (defScope s_mark_at) .none kV doc pm an cdv ct) ⟨us, []⟩ = pure ((["sea", "step"] : List Str).zip us) :=
  match us, hl with | [_, _], _ => rfl
section
variable {P : Program} {w : World} {K : PySem.W.Frag} {mg : Str → Option Value} {base : Heap}
theorem ok_mark {k : Nat} (D : Df K mg "mark_at" s_mark_at) (T : Bt mg) (O_mark_of : Ok P w K mg base k "mark_of" s_mark_of ["here", "there", "many", "step"] spMarkOf) : Ok P w K mg base (k + 1) "mark_at" s_mark_at ["sea", "step"] (spMark K) := by
  refine D.ok sc_mark_at b_mark_at (fun vs H Q E h => ?_) (fun f cdv A outer s H vs Q E hr h => ?_)
  · obtain ⟨v, h, t, s, ds, rfl, _⟩ := h
    rfl
  · obtain ⟨v, h, t, s, ds, rfl, ⟨p, q, rfl, hp, hq⟩, k⟩ := h
    refine ⟨_, (pss_cons (ps_asg (pv 0) (pg_seq rfl (pgs_cons (pg_name (i := 2) sc_mark_at.nd rfl (.inl rfl)) (pgs_cons (pg_name (i := 3) sc_mark_at.nd rfl (.inl rfl)) (pgs_cons (pg_name (i := 4) sc_mark_at.nd rfl (.inl rfl)) pgs_nil)))))
      (pss_one (ps_ret (pe_fn O_mark_of (hr.mono (by omega)) (pa_cons (pv 2) (pa_cons (pv 3) (pa_cons (pe_callB call_len_seq (by rfl) T.len_ PySem.boot_len (pa_cons (pv 4) pa_nil)) (pa_cons (pv 1) pa_nil)))))))), ?_⟩
    refine ⟨_, rfl, p, _, rfl, hp, rfl, _, _, rfl, _, _, rfl, _, _, rfl, rfl, ?_⟩
    refine ⟨_, rfl, _, rfl, _, rfl, q, _, rfl, hq, _, rfl, h, t, s, ds.length, ?_, k⟩
    rw [List.length_map]
    rfl
end
end Sh

namespace Sh
open PySem PySem.Spec PyProof.Rows L2
/-! ### fleets as they are handed in -/
def SrtV (x : Srt) : List V := [.int x.1, .int (x.2.1 : Int), .int (x.2.2 : Int)]
def SrtsA (K : PySem.W.Frag) (H : Hp) (rs : List Addr) (ss : List Srt) : Prop := rs.length = ss.length ∧ ∀ (i : Nat) (r : Addr) (x : Srt), rs[i]? = some r → ss[i]? = some x → SqA K H r (SrtV x)
theorem SrtsA.same {K : PySem.W.Frag} {H H' : Hp} {rs : List Addr} {ss : List Srt} (w : SrtsA K H rs ss) (e : Same H H') : SrtsA K H' rs ss := ⟨w.1, fun i r x a b => Same.sqA e (w.2 i r x a b)⟩
theorem srt_at {K : PySem.W.Frag} {H : Hp} {rs : List Addr} {ss : List Srt} {i : Nat} {v : V} (w : SrtsA K H rs ss) (g : (rs.map V.ref)[i]? = some v) : ∃ (r : Addr) (hi : i < ss.length), v = .ref r ∧ SqA K H r (SrtV ss[i]) := by
  rw [List.getElem?_map] at g
  cases e : rs[i]? with
  | none => rw [e] at g; cases g
  | some r =>
    rw [e] at g
    have hi : i < rs.length := (List.getElem?_eq_some_iff.mp e).1
    have hi2 : i < ss.length := w.1 ▸ hi
    exact ⟨r, hi2, (Option.some.inj g).symm, w.2 i r _ e (List.getElem?_eq_getElem hi2)⟩
/-- a fleet (lists or tuples) is handed in -/
def FltA (K : PySem.W.Frag) (H : Hp) (v : V) (h t : Int) (ss : List Srt) : Prop := ∃ (p q : Addr) (rs : List Addr), v = .ref p ∧ SqA K H p [.int h, .int t, .ref q] ∧ SqA K H q (rs.map V.ref) ∧ SrtsA K H rs ss
theorem FltA.same {K : PySem.W.Frag} {H H' : Hp} {v : V} {h t : Int} {ss : List Srt} (s : FltA K H v h t ss) (e : Same H H') : FltA K H' v h t ss := let ⟨p, q, rs, a, b, c, d⟩ := s; ⟨p, q, rs, a, Same.sqA e b, Same.sqA e c, d.same e⟩
/-- new sorts, as tuples -/
def SrtsN (H : Hp) (rs : List Addr) (ss : List Srt) : Prop := rs.length = ss.length ∧ ∀ (i : Nat) (r : Addr) (x : Srt), rs[i]? = some r → ss[i]? = some x → H r = some (.tup (SrtV x))
theorem SrtsN.a {K : PySem.W.Frag} {H : Hp} {rs : List Addr} {ss : List Srt} (w : SrtsN H rs ss) : SrtsA K H rs ss := ⟨w.1, fun i r x a b => SqA.t (w.2 i r x a b)⟩
theorem SrtsN.same {H H' : Hp} {rs : List Addr} {ss : List Srt} (w : SrtsN H rs ss) (e : Same H H') : SrtsN H' rs ss := ⟨w.1, fun i r x a b => e _ _ (w.2 i r x a b)⟩
theorem SrtsN.put {H : Hp} {rs : List Addr} {ss : List Srt} {C : Addr} {xs ys : List V} (w : SrtsN H rs ss) (h : H C = some (.lst xs)) : SrtsN (upd H C (.lst ys)) rs ss := ⟨w.1, fun i r x a b => by
  have q := w.2 i r x a b
  rw [upd_ne (ne_of q h (by intro z; cases z))]
  exact q⟩
theorem SrtsN.push {H : Hp} {rs : List Addr} {ss : List Srt} {u : Addr} {x : Srt} (w : SrtsN H rs ss) (n : H u = none) : SrtsN (upd H u (.tup (SrtV x))) (rs ++ [u]) (ss ++ [x]) := by
  refine ⟨by rw [List.length_append, List.length_append, w.1]; rfl, fun i r y a b => ?_⟩
  by_cases z : i < rs.length
  · rw [List.getElem?_append_left z] at a
    rw [List.getElem?_append_left (by rw [← w.1]; exact z)] at b
    exact same_new n _ _ (w.2 i r y a b)
  · have e : i = rs.length := by
      have := (List.getElem?_eq_some_iff.mp a).1
      rw [List.length_append] at this
      simp at this
      omega
    subst e
    rw [List.getElem?_append_right (Nat.le_refl _), Nat.sub_self] at a
    rw [List.getElem?_append_right (by rw [w.1]; exact Nat.le_refl _), w.1, Nat.sub_self] at b
    obtain rfl : u = r := Option.some.inj a
    obtain rfl : x = y := Option.some.inj b
    exact upd_same
theorem SrtsN.push' {H : Hp} {rs : List Addr} {ss : List Srt} {u : Addr} {x : Srt} {o : HO} (w : SrtsN H rs ss) (n : H u = none) (e : o = .tup (SrtV x)) : SrtsN (upd H u o) (rs ++ [u]) (ss ++ [x]) := by
  subst e
  exact w.push n
end Sh

namespace Sh
open PySem PySem.Spec PyProof.Rows L2
/-! ### the program: lots, of fleets as they are handed in -/
theorem isum (f : Srt → Nat) : ∀ l : List Srt, (l.map fun x => (f x : Int)).sum = ((l.map f).sum : Int)
  | [] => rfl
  | a :: l => by
    rw [List.map_cons, List.sum_cons, isum f l, List.map_cons, List.sum_cons]
    rfl
theorem tm {β : Type} (f : Srt → β) {ss : List Srt} {i : Nat} (hi : i < ss.length) : (ss.take (i + 1)).map f = (ss.take i).map f ++ [f ss[i]] := by rw [take_succ_get hi, List.map_append]; rfl
theorem tfm {β : Type} (p : Srt → Bool) (f : Srt → β) {ss : List Srt} {i : Nat} (hi : i < ss.length) : ((ss.take (i + 1)).filter p).map f = ((ss.take i).filter p).map f ++ (if p ss[i] = true then [f ss[i]] else []) := by
  rw [take_succ_get hi, List.filter_append, List.map_append]
  congr 1
  by_cases c : p ss[i] = true
  · rw [if_pos c, List.filter_cons_of_pos c]; rfl
  · rw [if_neg c, List.filter_cons_of_neg c]; rfl
theorem take_le {ss : List Srt} {i : Nat} (hi : i < ss.length) : (ss.take i).length < ss.length := by rw [List.length_take]; omega
theorem tf_le {p : Srt → Bool} {ss : List Srt} {i : Nat} (hi : i < ss.length) : ((ss.take i).filter p).length < ss.length := Nat.lt_of_le_of_lt (List.length_filter_le _ _) (take_le hi)
def spShips (K : PySem.W.Frag) : Sp := fun vs H Q _ => ∃ (v : V) (h t : Int) (ss : List Srt), vs = [v] ∧ FltA K H v h t ss ∧ ss.length ≤ 1000 ∧ ∀ H', Same H H' → Q (.int (mny ss : Int)) H'
def spMarkIn (K : PySem.W.Frag) : Sp := fun vs H Q _ => ∃ (v : V) (h t s : Int) (ss : List Srt), vs = [v, .int s] ∧ FltA K H v h t ss ∧ ss.length ≤ 1000 ∧ ∀ H', Same H H' → Q (.int (mk h t (mny ss) s)) H'
def spGoersMany (K : PySem.W.Frag) : Sp := fun vs H Q _ => ∃ (v : V) (h t s : Int) (ss : List Srt), vs = [v, .int s] ∧ FltA K H v h t ss ∧ ss.length ≤ 1000 ∧ ∀ H', Same H H' → Q (.int (gmF ss (mk h t (mny ss) s) : Int)) H'
def spTopIn (K : PySem.W.Frag) : Sp := fun vs H Q _ => ∃ (v : V) (h t : Int) (ss : List Srt), vs = [v] ∧ FltA K H v h t ss ∧ ss.length ≤ 1000 ∧ ∀ H', Same H H' → Q (.int (topI h t (mny ss))) H'
def spFilled (K : PySem.W.Frag) : Sp := fun vs H Q _ => ∃ (v : V) (h t s : Int) (ss : List Srt), vs = [v, .int s] ∧ FltA K H v h t ss ∧ ss.length ≤ 1000 ∧ ∀ H', Same H H' → Q (.int (filF ss (mk h t (mny ss) s) : Int)) H'
/-- marks rise up to top -/
def Rise (h t : Int) (n : Nat) (top : Int) : Prop := ∀ s s' : Int, 0 ≤ s → s ≤ s' → s' ≤ top → mk h t n s ≤ mk h t n s'
def spLowStop (K : PySem.W.Frag) : Sp := fun vs H Q _ => ∃ (v : V) (h t top : Int) (ss : List Srt), vs = [v, .int top] ∧ FltA K H v h t ss ∧ ss.length ≤ 1000 ∧ Rise h t (mny ss) top ∧
  (∀ (H' : Hp) (N : Nat), Same H H' → (N : Int) ≤ top → StuckF h t ss N → Q (.int (N : Int)) H') ∧ (∀ H', Same H H' → (∀ N : Nat, (N : Int) ≤ top → ¬ StuckF h t ss N) → Q .non H')
def spTurnedF (K : PySem.W.Frag) : Sp := fun vs H Q _ => ∃ (v : V) (h t : Int) (ss : List Srt), vs = [v] ∧ FltA K H v h t ss ∧ ss.length ≤ 1000 ∧ ∀ (H' : Hp) (z : V), Same H H' → FltA K H' z t h (turnF ss) → Q z H'
theorem fil_mono {ss : List Srt} {m m' : Int} (e : m ≤ m') : filF ss m ≤ filF ss m' := by
  unfold filF
  induction ss with
  | nil => exact Nat.le_refl _
  | cons a l ih =>
    simp only [List.map_cons, List.sum_cons]
    have : (if a.1 ≤ m then a.2.2 else 0) ≤ (if a.1 ≤ m' then a.2.2 else 0) := by
      by_cases z : a.1 ≤ m
      · rw [if_pos z, if_pos (by omega)]
        exact Nat.le_refl _
      · rw [if_neg z]
        exact Nat.zero_le _
    omega
theorem fil_ge {ss : List Srt} {m : Int} : ourn ss ≤ filF ss m := by
  unfold filF ourn
  induction ss with
  | nil => exact Nat.le_refl _
  | cons a l ih =>
    simp only [List.map_cons, List.sum_cons]
    omega
theorem fil_le {ss : List Srt} {m : Int} : filF ss m ≤ mny ss := by
  unfold filF mny
  induction ss with
  | nil => exact Nat.le_refl _
  | cons a l ih =>
    simp only [List.map_cons, List.sum_cons]
    have : (if a.1 ≤ m then a.2.2 else 0) ≤ a.2.2 := by split <;> omega
    omega
abbrev s_ships_many : Stmt := topS 10
theorem sc_ships_many : FnScope (["fleet", "draught", "ours", "theirs"] : List Str) (["fleet"] : List Str) (defScope s_ships_many) := ⟨rfl, rfl, rfl, by decide +kernel, rfl, by decide +kernel, by decide +kernel⟩
theorem b_ships_many (kV doc pm : Value) (an : Option Addr) (cdv ct : Value) (us : List Value) (hl : us.length = (["fleet"] : List Str).length) : bindArgs (PySem.W.fnOf "ships_many" "ships_many" (defArgs s_ships_many) (defBody s_ships_many) (defScope s_ships_many) .none kV doc pm an cdv ct) ⟨us, []⟩ = pure ((["fleet"] : List Str).zip us) :=
  match us, hl with | [_], _ => rfl
abbrev s_mark_in : Stmt := topS 11
theorem sc_mark_in : FnScope (["fleet", "step", "here", "there", "sorts"] : List Str) (["fleet", "step"] : List Str) (defScope s_mark_in) := ⟨rfl, rfl, rfl, by decide +kernel, rfl, by decide +kernel, by decide +kernel⟩
theorem b_mark_in (kV doc pm : Value) (an : Option Addr) (cdv ct : Value) (us : List Value) (hl : us.length = (["fleet", "step"] : List Str).length) : bindArgs (PySem.W.fnOf "mark_in" "mark_in" (defArgs s_mark_in) (defBody s_mark_in) (defScope s_mark_in) .none kV doc pm an cdv ct) ⟨us, []⟩ = pure ((["fleet", "step"] : List Str).zip us) :=
  match us, hl with | [_, _], _ => rfl
abbrev s_goers_many : Stmt := topS 12
theorem sc_goers_many : FnScope (["fleet", "step", "mark", "draught", "ours", "theirs"] : List Str) (["fleet", "step"] : List Str) (defScope s_goers_many) := ⟨rfl, rfl, rfl, by decide +kernel, rfl, by decide +kernel, by decide +kernel⟩
theorem b_goers_many (kV doc pm : Value) (an : Option Addr) (cdv ct : Value) (us : List Value) (hl : us.length = (["fleet", "step"] : List Str).length) : bindArgs (PySem.W.fnOf "goers_many" "goers_many" (defArgs s_goers_many) (defBody s_goers_many) (defScope s_goers_many) .none kV doc pm an cdv ct) ⟨us, []⟩ = pure ((["fleet", "step"] : List Str).zip us) :=
  match us, hl with | [_, _], _ => rfl
abbrev s_top_in : Stmt := topS 13
theorem sc_top_in : FnScope (["fleet", "here", "there", "sorts"] : List Str) (["fleet"] : List Str) (defScope s_top_in) := ⟨rfl, rfl, rfl, by decide +kernel, rfl, by decide +kernel, by decide +kernel⟩
theorem b_top_in (kV doc pm : Value) (an : Option Addr) (cdv ct : Value) (us : List Value) (hl : us.length = (["fleet"] : List Str).length) : bindArgs (PySem.W.fnOf "top_in" "top_in" (defArgs s_top_in) (defBody s_top_in) (defScope s_top_in) .none kV doc pm an cdv ct) ⟨us, []⟩ = pure ((["fleet"] : List Str).zip us) :=
  match us, hl with | [_], _ => rfl
abbrev s_filled_at : Stmt := topS 14
theorem sc_filled_at : FnScope (["fleet", "step", "mark", "draught", "ours", "theirs"] : List Str) (["fleet", "step"] : List Str) (defScope s_filled_at) := ⟨rfl, rfl, rfl, by decide +kernel, rfl, by decide +kernel, by decide +kernel⟩
theorem b_filled_at (kV doc pm : Value) (an : Option Addr) (cdv ct : Value) (us : List Value) (hl : us.length = (["fleet", "step"] : List Str).length) : bindArgs (PySem.W.fnOf "filled_at" "filled_at" (defArgs s_filled_at) (defBody s_filled_at) (defScope s_filled_at) .none kV doc pm an cdv ct) ⟨us, []⟩ = pure ((["fleet", "step"] : List Str).zip us) :=
  match us, hl with | [_, _], _ => rfl
abbrev s_low_stop : Stmt := topS 15
theorem sc_low_stop : FnScope (["fleet", "top", "step", "filled", "draught", "ours", "theirs"] : List Str) (["fleet", "top"] : List Str) (defScope s_low_stop) := ⟨rfl, rfl, rfl, by decide +kernel, rfl, by decide +kernel, by decide +kernel⟩
theorem b_low_stop (kV doc pm : Value) (an : Option Addr) (cdv ct : Value) (us : List Value) (hl : us.length = (["fleet", "top"] : List Str).length) : bindArgs (PySem.W.fnOf "low_stop" "low_stop" (defArgs s_low_stop) (defBody s_low_stop) (defScope s_low_stop) .none kV doc pm an cdv ct) ⟨us, []⟩ = pure ((["fleet", "top"] : List Str).zip us) :=
  match us, hl with | [_, _], _ => rfl
abbrev s_turned_fleet : Stmt := topS 9
theorem sc_turned_fleet : FnScope (["fleet", "here", "there", "sorts", "draught", "ours", "theirs"] : List Str) (["fleet"] : List Str) (defScope s_turned_fleet) := ⟨rfl, rfl, rfl, by decide +kernel, rfl, by decide +kernel, by decide +kernel⟩
theorem b_turned_fleet (kV doc pm : Value) (an : Option Addr) (cdv ct : Value) (us : List Value) (hl : us.length = (["fleet"] : List Str).length) : bindArgs (PySem.W.fnOf "turned_fleet" "turned_fleet" (defArgs s_turned_fleet) (defBody s_turned_fleet) (defScope s_turned_fleet) .none kV doc pm an cdv ct) ⟨us, []⟩ = pure ((["fleet"] : List Str).zip us) :=
  match us, hl with | [_], _ => rfl
section
variable {P : Program} {w : World} {K : PySem.W.Frag} {mg : Str → Option Value} {base : Heap}
theorem ok_ships {k : Nat} (D : Df K mg "ships_many" s_ships_many) (T : Bt mg) : Ok P w K mg base (k + 1) "ships_many" s_ships_many ["fleet"] (spShips K) := by
  refine D.ok sc_ships_many b_ships_many (fun vs H Q E h => ?_) (fun f cdv A outer s H vs Q E hr h => ?_)
  · obtain ⟨v, h, t, ss, rfl, _⟩ := h
    rfl
  · obtain ⟨v, h, t, ss, rfl, ⟨p, q, rs, rfl, hp, hq, hs⟩, l1, k⟩ := h
    refine ⟨_, (pss_one (ps_ret (pe_callB (cr_sum rfl) (by rfl) T.sum_ (by decide +kernel) (pa_cons (pe_lc (own := [("draught", 1), ("ours", 2), ("theirs", 3)]) (g := (gSeq K 3 (gCons (gName 1) (gCons (gName 2) (gCons (gName 3) gNil))))) (tt := tYes) (by rfl) sc_ships_many.nd (pi_seq (pe_ix ix_lt (pv 0) pe_int (fun _ _ => rfl))) (blkOk_by (own := [("draught", 1), ("ours", 2), ("theirs", 3)]) (N := (["fleet", "draught", "ours", "theirs"] : List Str)) (sc := defScope s_ships_many) (by decide +kernel)) (fun _ _ _ _ _ => (pg_seq rfl (pgs_cons (pg_name (i := 1) sc_ships_many.nd rfl (.inl rfl)) (pgs_cons (pg_name (i := 2) sc_ships_many.nd rfl (.inl rfl)) (pgs_cons (pg_name (i := 3) sc_ships_many.nd rfl (.inl rfl)) pgs_nil))))) (fun _ _ _ _ _ => pts_nil) (fun _ _ _ _ _ => (pe_op op_add (pv 2) (pv 3)))) pa_nil)))), ?_⟩
    refine ⟨_, rfl, p, _, 2, .ref q, rfl, rfl, hp, rfl, q, _, H, rfl, hq, Kp.refl _ _, fun J hJ C nC => ?_⟩
    obtain ⟨G, g, W⟩ := hJ.walk
    refine lc_it W (fun i H' => Same H H' ∧ H' C = some (.lst (((ss.take i).map fun x => ((x.2.1 + x.2.2 : Nat) : Int)).map V.int))) ⟨same_new nC, upd_same⟩ (fun i H' _ z => g H' (.ofS z.1)) ?_ ?_
    · rintro i x H1 H2 _ ⟨sm, hC⟩ ⟨rfl, gx⟩
      obtain ⟨r, hi, rfl, hr1⟩ := srt_at (hs.same sm) gx
      refine ⟨r, _, rfl, hr1, rfl, _, _, rfl, _, _, rfl, _, _, rfl, rfl, rfl, tyes (iteT ⟨_, rfl, _, rfl, _, _, rfl, rfl, _, hC, ?_, same_over sm nC, ?_⟩)⟩
      · rw [List.length_map, List.length_map]
        exact Nat.lt_of_lt_of_le (take_le hi) (Nat.le_trans l1 (by decide))
      · rw [upd_same, tm _ hi, List.map_append]
        rfl
    · rintro H1 ⟨sm, hC⟩
      rw [List.length_map, hs.1, List.take_length] at hC
      refine ⟨C, _, rfl, SqL.of hC, ?_⟩
      rw [isum]
      exact k H1 sm
theorem ok_mark_in {k : Nat} (D : Df K mg "mark_in" s_mark_in) (T : Bt mg) (O_mark_of : Ok P w K mg base k "mark_of" s_mark_of ["here", "there", "many", "step"] spMarkOf) (O_ships_many : Ok P w K mg base k "ships_many" s_ships_many ["fleet"] (spShips K)) :
    Ok P w K mg base (k + 1) "mark_in" s_mark_in ["fleet", "step"] (spMarkIn K) := by
  refine D.ok sc_mark_in b_mark_in (fun vs H Q E h => ?_) (fun f cdv A outer s H vs Q E hr h => ?_)
  · obtain ⟨v, h, t, s, ss, rfl, _⟩ := h
    rfl
  · obtain ⟨v, h, t, s, ss, rfl, hv, l1, k⟩ := h
    obtain ⟨p, q, rs, rfl, hp, hq, hs⟩ := id hv
    refine ⟨_, (pss_cons (ps_asg (pv 0) (pg_seq rfl (pgs_cons (pg_name (i := 2) sc_mark_in.nd rfl (.inl rfl)) (pgs_cons (pg_name (i := 3) sc_mark_in.nd rfl (.inl rfl)) (pgs_cons (pg_name (i := 4) sc_mark_in.nd rfl (.inl rfl)) pgs_nil)))))
      (pss_one (ps_ret (pe_fn O_mark_of (hr.mono (by omega)) (pa_cons (pv 2) (pa_cons (pv 3) (pa_cons (pe_fn O_ships_many (hr.mono (by omega)) (pa_cons (pv 0) pa_nil)) (pa_cons (pv 1) pa_nil)))))))), ?_⟩
    refine ⟨_, rfl, p, _, rfl, hp, rfl, _, _, rfl, _, _, rfl, _, _, rfl, rfl, ?_⟩
    exact ⟨_, rfl, _, rfl, _, rfl, .ref p, h, t, ss, rfl, hv, l1, fun H' s1 => ⟨_, rfl, h, t, s, mny ss, rfl, k H' s1⟩⟩
theorem ok_top_in {k : Nat} (D : Df K mg "top_in" s_top_in) (T : Bt mg) (O_top_of : Ok P w K mg base k "top_of" s_top_of ["here", "there", "many"] spTopOf) (O_ships_many : Ok P w K mg base k "ships_many" s_ships_many ["fleet"] (spShips K)) :
    Ok P w K mg base (k + 1) "top_in" s_top_in ["fleet"] (spTopIn K) := by
  refine D.ok sc_top_in b_top_in (fun vs H Q E h => ?_) (fun f cdv A outer s H vs Q E hr h => ?_)
  · obtain ⟨v, h, t, ss, rfl, _⟩ := h
    rfl
  · obtain ⟨v, h, t, ss, rfl, hv, l1, k⟩ := h
    obtain ⟨p, q, rs, rfl, hp, hq, hs⟩ := id hv
    refine ⟨_, (pss_cons (ps_asg (pv 0) (pg_seq rfl (pgs_cons (pg_name (i := 1) sc_top_in.nd rfl (.inl rfl)) (pgs_cons (pg_name (i := 2) sc_top_in.nd rfl (.inl rfl)) (pgs_cons (pg_name (i := 3) sc_top_in.nd rfl (.inl rfl)) pgs_nil)))))
      (pss_one (ps_ret (pe_fn O_top_of (hr.mono (by omega)) (pa_cons (pv 1) (pa_cons (pv 2) (pa_cons (pe_fn O_ships_many (hr.mono (by omega)) (pa_cons (pv 0) pa_nil)) pa_nil))))))), ?_⟩
    refine ⟨_, rfl, p, _, rfl, hp, rfl, _, _, rfl, _, _, rfl, _, _, rfl, rfl, ?_⟩
    exact ⟨_, rfl, _, rfl, _, rfl, .ref p, h, t, ss, rfl, hv, l1, fun H' s1 => ⟨h, t, mny ss, rfl, k H' s1⟩⟩
theorem ok_goers_many {k : Nat} (D : Df K mg "goers_many" s_goers_many) (T : Bt mg) (O_mark_in : Ok P w K mg base k "mark_in" s_mark_in ["fleet", "step"] (spMarkIn K)) :
    Ok P w K mg base (k + 1) "goers_many" s_goers_many ["fleet", "step"] (spGoersMany K) := by
  refine D.ok sc_goers_many b_goers_many (fun vs H Q E h => ?_) (fun f cdv A outer s H vs Q E hr h => ?_)
  · obtain ⟨v, h, t, s, ss, rfl, _⟩ := h
    rfl
  · obtain ⟨v, h, t, s, ss, rfl, hv, l1, k⟩ := h
    refine ⟨_, (pss_cons (ps_set (i := 2) sc_goers_many.nd rfl (.inr rfl) (pe_fn O_mark_in (hr.mono (by omega)) (pa_cons (pv 0) (pa_cons (pv 1) pa_nil))))
      (pss_one (ps_ret (pe_callB (cr_sum rfl) (by rfl) T.sum_ (by decide +kernel) (pa_cons (pe_lc (own := [("draught", 3), ("ours", 4), ("theirs", 5)]) (g := (gSeq K 3 (gCons (gName 3) (gCons (gName 4) (gCons (gName 5) gNil))))) (by rfl) sc_goers_many.nd (pi_seq (pe_ix ix_lt (pv 0) pe_int (fun _ _ => rfl))) (blkOk_by (own := [("draught", 3), ("ours", 4), ("theirs", 5)]) (N := (["fleet", "step", "mark", "draught", "ours", "theirs"] : List Str)) (sc := defScope s_goers_many) (by decide +kernel)) (fun _ _ _ _ _ => (pg_seq rfl (pgs_cons (pg_name (i := 3) sc_goers_many.nd rfl (.inl rfl)) (pgs_cons (pg_name (i := 4) sc_goers_many.nd rfl (.inl rfl)) (pgs_cons (pg_name (i := 5) sc_goers_many.nd rfl (.inl rfl)) pgs_nil))))) (fun _ _ _ _ _ => (pts_one (pt_cmpR op_le (pv 3) (pv 2) (nomark _)))) (fun _ _ _ _ _ => (pe_op op_add (pv 4) (pv 5)))) pa_nil))))), ?_⟩
    refine ⟨_, rfl, _, rfl, v, h, t, s, ss, rfl, hv, l1, fun H0 s0 => ?_⟩
    obtain ⟨p, q, rs, rfl, hp, hq, hs⟩ := hv.same s0
    generalize mk h t (mny ss) s = m at k
    refine ⟨_, rfl, p, _, 2, .ref q, rfl, rfl, hp, rfl, q, _, H0, rfl, hq, Kp.refl _ _, fun J hJ C nC => ?_⟩
    obtain ⟨G, g, W⟩ := hJ.walk
    refine lc_it W (fun i H' => Same H0 H' ∧ H' C = some (.lst ((((ss.take i).filter fun x => decide (x.1 ≤ m)).map fun x => ((x.2.1 + x.2.2 : Nat) : Int)).map V.int))) ⟨same_new nC, upd_same⟩ (fun i H' _ z => g H' (.ofS z.1)) ?_ ?_
    · rintro i x H1 H2 _ ⟨sm, hC⟩ ⟨rfl, gx⟩
      obtain ⟨r, hi, rfl, hr1⟩ := srt_at (hs.same sm) gx
      refine ⟨r, _, rfl, hr1, rfl, _, _, rfl, _, _, rfl, _, _, rfl, rfl, rfl, _, rfl, _, rfl, _, _, rfl, rfl, _, rfl, ite2 (fun c => ⟨_, rfl, _, rfl, _, _, rfl, rfl, _, hC, ?_, same_over sm nC, ?_⟩) (fun c => ⟨sm, ?_⟩)⟩
      · rw [List.length_map, List.length_map]
        exact Nat.lt_of_lt_of_le (tf_le hi) (Nat.le_trans l1 (by decide))
      · rw [upd_same, tfm _ _ hi, if_pos c, List.map_append]
        rfl
      · rw [hC, tfm _ _ hi, if_neg c, List.append_nil]
    · rintro H1 ⟨sm, hC⟩
      rw [List.length_map, hs.1, List.take_length] at hC
      refine ⟨C, _, rfl, SqL.of hC, ?_⟩
      rw [isum]
      exact k H1 (s0.trans sm)
theorem ok_filled {k : Nat} (D : Df K mg "filled_at" s_filled_at) (T : Bt mg) (O_mark_in : Ok P w K mg base k "mark_in" s_mark_in ["fleet", "step"] (spMarkIn K)) :
    Ok P w K mg base (k + 1) "filled_at" s_filled_at ["fleet", "step"] (spFilled K) := by
  refine D.ok sc_filled_at b_filled_at (fun vs H Q E h => ?_) (fun f cdv A outer s H vs Q E hr h => ?_)
  · obtain ⟨v, h, t, s, ss, rfl, _⟩ := h
    rfl
  · obtain ⟨v, h, t, s, ss, rfl, hv, l1, k⟩ := h
    refine ⟨_, (pss_cons (ps_set (i := 2) sc_filled_at.nd rfl (.inr rfl) (pe_fn O_mark_in (hr.mono (by omega)) (pa_cons (pv 0) (pa_cons (pv 1) pa_nil))))
      (pss_one (ps_ret (pe_callB (cr_sum rfl) (by rfl) T.sum_ (by decide +kernel) (pa_cons (pe_lc (own := [("draught", 3), ("ours", 4), ("theirs", 5)]) (g := (gSeq K 3 (gCons (gName 3) (gCons (gName 4) (gCons (gName 5) gNil))))) (tt := tYes) (by rfl) sc_filled_at.nd (pi_seq (pe_ix ix_lt (pv 0) pe_int (fun _ _ => rfl))) (blkOk_by (own := [("draught", 3), ("ours", 4), ("theirs", 5)]) (N := (["fleet", "step", "mark", "draught", "ours", "theirs"] : List Str)) (sc := defScope s_filled_at) (by decide +kernel)) (fun _ _ _ _ _ => (pg_seq rfl (pgs_cons (pg_name (i := 3) sc_filled_at.nd rfl (.inl rfl)) (pgs_cons (pg_name (i := 4) sc_filled_at.nd rfl (.inl rfl)) (pgs_cons (pg_name (i := 5) sc_filled_at.nd rfl (.inl rfl)) pgs_nil))))) (fun _ _ _ _ _ => pts_nil) (fun _ _ _ _ _ => (pe_op op_add (pv 4) (pe_ifExp (pt_cmpR op_le (pv 3) (pv 2) (nomark _)) (pv 5) pe_int)))) pa_nil))))), ?_⟩
    refine ⟨_, rfl, _, rfl, v, h, t, s, ss, rfl, hv, l1, fun H0 s0 => ?_⟩
    obtain ⟨p, q, rs, rfl, hp, hq, hs⟩ := hv.same s0
    generalize mk h t (mny ss) s = m at k
    refine ⟨_, rfl, p, _, 2, .ref q, rfl, rfl, hp, rfl, q, _, H0, rfl, hq, Kp.refl _ _, fun J hJ C nC => ?_⟩
    obtain ⟨G, g, W⟩ := hJ.walk
    refine lc_it W (fun i H' => Same H0 H' ∧ H' C = some (.lst (((ss.take i).map fun x => ((x.2.1 + if x.1 ≤ m then x.2.2 else 0 : Nat) : Int)).map V.int))) ⟨same_new nC, upd_same⟩ (fun i H' _ z => g H' (.ofS z.1)) ?_ ?_
    · rintro i x H1 H2 _ ⟨sm, hC⟩ ⟨rfl, gx⟩
      obtain ⟨r, hi, rfl, hr1⟩ := srt_at (hs.same sm) gx
      have len : (((ss.take i).map fun x => ((x.2.1 + if x.1 ≤ m then x.2.2 else 0 : Nat) : Int)).map V.int).length < sizeLine := by
        rw [List.length_map, List.length_map]
        exact Nat.lt_of_lt_of_le (take_le hi) (Nat.le_trans l1 (by decide))
      refine ⟨r, _, rfl, hr1, rfl, _, _, rfl, _, _, rfl, _, _, rfl, rfl, rfl, tyes (iteT ⟨_, rfl, _, rfl, _, rfl, _, _, rfl, rfl, _, rfl, ite2 (fun c => ⟨_, rfl, _, _, rfl, rfl, _, hC, len, same_over sm nC, ?_⟩) (fun c => ⟨_, _, rfl, rfl, _, hC, len, same_over sm nC, ?_⟩)⟩)⟩
      · have c0 : ss[i].1 ≤ m := of_decide_eq_true c
        rw [upd_same, tm _ hi, List.map_append, if_pos c0]
        rfl
      · have c0 : ¬ ss[i].1 ≤ m := fun z => c (decide_eq_true z)
        rw [upd_same, tm _ hi, List.map_append, if_neg c0]
        rfl
    · rintro H1 ⟨sm, hC⟩
      rw [List.length_map, hs.1, List.take_length] at hC
      refine ⟨C, _, rfl, SqL.of hC, ?_⟩
      rw [isum]
      exact k H1 (s0.trans sm)
theorem ok_low_stop {k : Nat} (D : Df K mg "low_stop" s_low_stop) (T : Bt mg) (O_filled_at : Ok P w K mg base k "filled_at" s_filled_at ["fleet", "step"] (spFilled K)) :
    Ok P w K mg base (k + 1) "low_stop" s_low_stop ["fleet", "top"] (spLowStop K) := by
  refine D.ok sc_low_stop b_low_stop (fun vs H Q E h => ?_) (fun f cdv A outer s H vs Q E hr h => ?_)
  · obtain ⟨v, h, t, top, ss, rfl, _⟩ := h
    rfl
  · obtain ⟨v, h, t, top, ss, rfl, hv, l1, ris, k1, k2⟩ := h
    refine ⟨_, (pss_cons (ps_set (i := 2) sc_low_stop.nd rfl (.inl rfl) (pe_callB (cr_sum rfl) (by rfl) T.sum_ (by decide +kernel) (pa_cons (pe_lc (own := [("draught", 4), ("ours", 5), ("theirs", 6)]) (g := (gSeq K 3 (gCons (gName 4) (gCons (gName 5) (gCons (gName 6) gNil))))) (tt := tYes) (by rfl) sc_low_stop.nd (pi_seq (pe_ix ix_lt (pv 0) pe_int (fun _ _ => rfl))) (blkOk_by (own := [("draught", 4), ("ours", 5), ("theirs", 6)]) (N := (["fleet", "top", "step", "filled", "draught", "ours", "theirs"] : List Str)) (sc := defScope s_low_stop) (by decide +kernel)) (fun _ _ _ _ _ => (pg_seq rfl (pgs_cons (pg_name (i := 4) sc_low_stop.nd rfl (.inl rfl)) (pgs_cons (pg_name (i := 5) sc_low_stop.nd rfl (.inl rfl)) (pgs_cons (pg_name (i := 6) sc_low_stop.nd rfl (.inl rfl)) pgs_nil))))) (fun _ _ _ _ _ => pts_nil) (fun _ _ _ _ _ => (pv 5))) pa_nil)))
      (pss_cons (ps_while PassesOwn.never (pt_cmpR op_le (pv 2) (pv 1) (nomark _))
        (pss_cons (ps_set (i := 3) sc_low_stop.nd rfl (.inl rfl) (pe_fn O_filled_at (hr.mono (by omega)) (pa_cons (pv 0) (pa_cons (pv 2) pa_nil))))
          (pss_cons (ps_if (pt_cmpR op_eq (pv 3) (pv 2) (nomark _))
            (pss_one (ps_ret (pv 2)))
            pss_nil)
          (pss_one (ps_set (i := 2) sc_low_stop.nd rfl (.inl rfl) (pv 3))))))
      (pss_one (ps_ret pe_non)))), ?_⟩
    obtain ⟨p, q, rs, rfl, hp, hq, hs⟩ := id hv
    refine ⟨_, rfl, p, _, 2, .ref q, rfl, rfl, hp, rfl, q, _, H, rfl, hq, Kp.refl _ _, fun J hJ C nC => ?_⟩
    obtain ⟨G, g, W⟩ := hJ.walk
    refine lc_it W (fun i H' => Same H H' ∧ H' C = some (.lst (((ss.take i).map fun x => ((x.2.1 : Nat) : Int)).map V.int))) ⟨same_new nC, upd_same⟩ (fun i H' _ z => g H' (.ofS z.1)) ?_ ?_
    · rintro i x H1 H2 _ ⟨sm, hC⟩ ⟨rfl, gx⟩
      obtain ⟨r, hi, rfl, hr1⟩ := srt_at (hs.same sm) gx
      refine ⟨r, _, rfl, hr1, rfl, _, _, rfl, _, _, rfl, _, _, rfl, rfl, rfl, tyes (iteT ⟨_, rfl, _, hC, ?_, same_over sm nC, ?_⟩)⟩
      · rw [List.length_map, List.length_map]
        exact Nat.lt_of_lt_of_le (take_le hi) (Nat.le_trans l1 (by decide))
      · rw [upd_same, tm _ hi, List.map_append]
        rfl
    rintro H1 ⟨sm, hC⟩
    rw [List.length_map, hs.1, List.take_length] at hC
    refine ⟨C, _, rfl, SqL.of hC, ?_⟩
    rw [isum]
    -- the loop: step is no less than those here; at no step between is it stuck
    refine ⟨fun m σ H' => ∃ (y : Option V) (n : Nat), σ = [some (.ref p), some (.int top), some (.int (n : Int)), y, none, none, none] ∧ Same H H' ∧ ourn ss ≤ n ∧ n ≤ mny ss ∧ mny ss - n = m ∧ (∀ j : Nat, ourn ss ≤ j → j < n → (j : Int) ≤ top → j < filF ss (mk h t (mny ss) (j : Int))) ∧ ((n : Int) ≤ top → n ≤ filF ss (mk h t (mny ss) (n : Int))),
      ⟨_, none, ourn ss, rfl, sm, Nat.le_refl _, ?_, rfl, fun j a b => by omega, fun _ => fil_ge⟩, ?_⟩
    · exact Nat.le_trans (fil_ge (m := 0)) fil_le
    rintro m σ H2 ⟨y, n, rfl, s2, n0, n1, rfl, hj, hn⟩
    refine ⟨_, rfl, _, rfl, _, _, rfl, rfl, _, rfl, ite2 (fun c => ?_) (fun c => ?_)⟩
    · have c0 : (n : Int) ≤ top := of_decide_eq_true c
      refine ⟨fun σ' H' => ∃ (y : Option V) (n' : Nat), σ' = [some (.ref p), some (.int top), some (.int (n' : Int)), y, none, none, none] ∧ Same H H' ∧ ourn ss ≤ n' ∧ n' ≤ mny ss ∧ n < n' ∧ (∀ j : Nat, ourn ss ≤ j → j < n' → (j : Int) ≤ top → j < filF ss (mk h t (mny ss) (j : Int))) ∧ ((n' : Int) ≤ top → n' ≤ filF ss (mk h t (mny ss) (n' : Int))),
        fun σ' H' ⟨y', n', z1, z2, z3, z4, z5, z6, z7⟩ => ⟨_, by omega, y', n', z1, z2, z3, z4, rfl, z6, z7⟩, ?_⟩
      refine ⟨_, rfl, _, rfl, .ref p, h, t, (n : Int), ss, rfl, hv.same s2, l1, fun H3 s3 => ?_⟩
      have s23 := s2.trans s3
      refine ⟨_, rfl, _, rfl, rfl, _, rfl, ite2 (fun c2 => ?_) (fun c2 => ?_)⟩
      · have e : (filF ss (mk h t (mny ss) (n : Int)) : Int) = (n : Int) := V.int.inj (of_decide_eq_true c2)
        exact ⟨_, rfl, k1 H3 n s23 c0 ⟨n0, fun j a b => hj j a b (by omega), by omega⟩⟩
      · have e : ¬ (filF ss (mk h t (mny ss) (n : Int)) : Int) = (n : Int) := fun z => c2 (decide_eq_true (by rw [z]))
        have hn' := hn c0
        refine ⟨_, rfl, _, filF ss (mk h t (mny ss) (n : Int)), rfl, s23, fil_ge, fil_le, by omega, fun j a b d => ?_, fun d => ?_⟩
        · by_cases z : j < n
          · exact hj j a z d
          · have := fil_mono (ss := ss) (ris (n : Int) (j : Int) (by omega) (by omega) d)
            omega
        · exact fil_mono (ris _ _ (by omega) (by omega) d)
    · have c0 : ¬ (n : Int) ≤ top := fun z => c (decide_eq_true z)
      refine k2 H2 s2 fun N a ⟨b1, b2, b3⟩ => ?_
      have := hj N b1 (by omega) a
      omega
theorem ok_turned_fleet {k : Nat} (D : Df K mg "turned_fleet" s_turned_fleet) (T : Bt mg) : Ok P w K mg base (k + 1) "turned_fleet" s_turned_fleet ["fleet"] (spTurnedF K) := by
  refine D.ok sc_turned_fleet b_turned_fleet (fun vs H Q E h => ?_) (fun f cdv A outer s H vs Q E hr h => ?_)
  · obtain ⟨v, h, t, ss, rfl, _⟩ := h
    rfl
  · obtain ⟨v, h, t, ss, rfl, hv, l1, k⟩ := h
    obtain ⟨p, q, rs, rfl, hp, hq, hs⟩ := id hv
    refine ⟨_, (pss_cons (ps_asg (pv 0) (pg_seq rfl (pgs_cons (pg_name (i := 1) sc_turned_fleet.nd rfl (.inl rfl)) (pgs_cons (pg_name (i := 2) sc_turned_fleet.nd rfl (.inl rfl)) (pgs_cons (pg_name (i := 3) sc_turned_fleet.nd rfl (.inl rfl)) pgs_nil)))))
      (pss_one (ps_ret (pe_tup (pa_cons (pv 2) (pa_cons (pv 1) (pa_cons (pe_callTy call_tuple_of (by rfl) T.tuple_ (by decide +kernel) (pa_cons (pe_lc (own := [("draught", 4), ("ours", 5), ("theirs", 6)]) (g := (gSeq K 3 (gCons (gName 4) (gCons (gName 5) (gCons (gName 6) gNil))))) (tt := tYes) (by rfl) sc_turned_fleet.nd (pi_seq (pv 3)) (blkOk_by (own := [("draught", 4), ("ours", 5), ("theirs", 6)]) (N := (["fleet", "here", "there", "sorts", "draught", "ours", "theirs"] : List Str)) (sc := defScope s_turned_fleet) (by decide +kernel)) (fun _ _ _ _ _ => (pg_seq rfl (pgs_cons (pg_name (i := 4) sc_turned_fleet.nd rfl (.inl rfl)) (pgs_cons (pg_name (i := 5) sc_turned_fleet.nd rfl (.inl rfl)) (pgs_cons (pg_name (i := 6) sc_turned_fleet.nd rfl (.inl rfl)) pgs_nil))))) (fun _ _ _ _ _ => pts_nil) (fun _ _ _ _ _ => (pe_tup (pa_cons (pv 4) (pa_cons (pv 6) (pa_cons (pv 5) pa_nil)))))) pa_nil)) pa_nil))))))), ?_⟩
    refine ⟨_, rfl, p, _, rfl, hp, rfl, _, _, rfl, _, _, rfl, _, _, rfl, rfl, ?_⟩
    refine ⟨_, rfl, _, rfl, _, rfl, q, _, H, rfl, hq, Kp.refl _ _, fun J hJ C nC => ?_⟩
    obtain ⟨G, g, W⟩ := hJ.walk
    refine lc_it W (fun i H' => Same H H' ∧ ∃ us : List Addr, H' C = some (.lst (us.map V.ref)) ∧ SrtsN H' us (turnF (ss.take i))) ⟨same_new nC, [], upd_same, ?_⟩ (fun i H' _ z => g H' (.ofS z.1)) ?_ ?_
    · exact ⟨rfl, fun i r x a _ => by simp at a⟩
    · rintro i x H1 H2 _ ⟨sm, us, hC, hu⟩ ⟨rfl, gx⟩
      obtain ⟨r, hi, rfl, hr1⟩ := srt_at (hs.same sm) gx
      have lu : us.length = i := by
        rw [hu.1]
        unfold turnF
        rw [List.length_map, List.length_take]
        omega
      refine ⟨r, _, rfl, hr1, rfl, _, _, rfl, _, _, rfl, _, _, rfl, rfl, rfl, tyes (iteT ⟨_, rfl, _, rfl, _, rfl, (by show 3 ≤ sizeLine; decide), fun u nu => ⟨_, same_new nu _ _ hC, ?_, ?_, us ++ [u], ?_, ?_⟩⟩)⟩
      · rw [List.length_map, lu]
        exact Nat.lt_of_lt_of_le hi (Nat.le_trans l1 (by decide))
      · exact same_over (sm.trans (same_new nu)) nC
      · rw [upd_same, List.map_append]
        rfl
      · have e : turnF (ss.take (i + 1)) = turnF (ss.take i) ++ [(ss[i].1, ss[i].2.2, ss[i].2.1)] := tm _ hi
        rw [e]
        exact (hu.push (x := (ss[i].1, ss[i].2.2, ss[i].2.1)) nu).put (same_new nu _ _ hC)
    · rintro H1 ⟨sm, us, hC, hu⟩
      rw [List.length_map, hs.1, List.take_length] at hu
      refine ⟨C, _, rfl, .inl ⟨SqL.of hC, fun a na => ⟨(by show 3 ≤ sizeLine; decide), fun b nb => ?_⟩⟩⟩
      have s1 : Same H1 (upd H1 a (.tup (us.map V.ref))) := same_new na
      have s2 := s1.trans (same_new nb (o := .tup [.int t, .int h, .ref a]))
      exact k _ _ (sm.trans s2) ⟨b, a, us, rfl, SqA.t upd_same, SqA.t (same_new nb _ _ upd_same), (hu.same s2).a⟩
end
end Sh

namespace Sh
open PySem PySem.Spec PyProof.Rows L2
/-! ### which lot: its kind and its step -/
/-- constants of the top -/
structure Cn (mg : Str → Option Value) : Prop where
  low : ∃ t, mg "LOW" = some (.str "low" t)
  high : ∃ t, mg "HIGH" = some (.str "high" t)
  top : ∃ t, mg "TOP" = some (.str "top" t)
structure Ck (mg : Str → Option Value) (K : PySem.W.Frag) (w : World) : Prop where
  kinds : ∃ a, mg "TURNED_KINDS" = some (.ref a) ∧ KDct K w a "low" (.str "high") ∧ KDct K w a "high" (.str "low") ∧ KDct K w a "top" (.str "top")
section
variable {K : PySem.W.Frag} {mg : Str → Option Value} {w : World}
theorem with_cn {R : Prop} {h : Heap} {t1 t2 t3 : Tok} (X : K.In h) (G : h.Ns mainGlobals mg) (a : PySem.W.nsIn K mainGlobals "LOW" = some (some (.str "low" t1))) (b : PySem.W.nsIn K mainGlobals "HIGH" = some (some (.str "high" t2)))
    (c : PySem.W.nsIn K mainGlobals "TOP" = some (some (.str "top" t3))) (r : Cn mg → R) : R := r ⟨⟨_, PySem.W.mg_of X G a⟩, ⟨_, PySem.W.mg_of X G b⟩, ⟨_, PySem.W.mg_of X G c⟩⟩
theorem with_ck {R : Prop} {h : Heap} {p : Addr} {es : Array DictEntry} {n : Nat} {t1 t2 t3 : Tok} (X : K.In h) (G : h.Ns mainGlobals mg) (a : PySem.W.nsIn K mainGlobals "TURNED_KINDS" = some (some (.ref p))) (l : K.lookup p = some ⟨.type "dict", none, .dict es n, #[]⟩)
    (k : PySem.W.KeysLit w.params es.toList) (d1 : PySem.W.nsIn K p "low" = some (some (.str "high" t1))) (d2 : PySem.W.nsIn K p "high" = some (some (.str "low" t2))) (d3 : PySem.W.nsIn K p "top" = some (some (.str "top" t3))) (r : Ck mg K w → R) : R :=
  r ⟨⟨p, PySem.W.mg_of X G a, ⟨es, n, _, l, k, d1, _, rfl⟩, ⟨es, n, _, l, k, d2, _, rfl⟩, ⟨es, n, _, l, k, d3, _, rfl⟩⟩⟩
end
inductive Kd where
  | low | high | top
def Kd.str : Kd → Str
  | .low => "low"
  | .high => "high"
  | .top => "top"
def Kd.turn : Kd → Kd
  | .low => .high
  | .high => .low
  | .top => .top
theorem Kd.str_inj {a b : Kd} (h : a.str = b.str) : a = b := by
  cases a <;> cases b <;> first | rfl | (exfalso; revert h; decide)
/-- the lot of a fleet -/
def LotF (h t : Int) (ss : List Srt) : Kd → Int → Prop
  | .low, s => ∃ N : Nat, s = (N : Int) ∧ (N : Int) ≤ topI h t (mny ss) ∧ StuckF h t ss N
  | .high, s => ∃ N : Nat, s = (mny ss : Int) - 1 - (N : Int) ∧ (N : Int) ≤ (mny ss : Int) - 1 - topI h t (mny ss) ∧ StuckF t h (turnF ss) N
  | .top, s => s = topI h t (mny ss) ∧ (∀ N : Nat, (N : Int) ≤ topI h t (mny ss) → ¬ StuckF h t ss N) ∧ ∀ N : Nat, (N : Int) ≤ (mny ss : Int) - 1 - topI h t (mny ss) → ¬ StuckF t h (turnF ss) N
/-- a lot told or handed in -/
def LtA (K : PySem.W.Frag) (H : Hp) (v : V) (kd : Kd) (s : Int) : Prop := ∃ p, v = .ref p ∧ SqA K H p [.str kd.str, .int s]
theorem LtA.same {K : PySem.W.Frag} {H H' : Hp} {v : V} {kd : Kd} {s : Int} (l : LtA K H v kd s) (e : Same H H') : LtA K H' v kd s := let ⟨p, a, b⟩ := l; ⟨p, a, Same.sqA e b⟩
theorem rise_top (h t : Int) (n : Nat) : Rise h t n (topI h t n) := fun _ _ a b c => mk_le a b c
theorem rise_turn (h t : Int) (n : Nat) : Rise t h n ((n : Int) - 1 - topI h t n) := fun s s' a b c => by
  rw [mk_turn' (h := h) (t := t), mk_turn' (h := h) (t := t)]
  exact mk_dn (by omega) (by omega) (by omega)
theorem isumN : ∀ l : List Nat, (l.map fun (n : Nat) => (n : Int)).sum = (l.sum : Int)
  | [] => rfl
  | a :: l => by
    rw [List.map_cons, List.sum_cons, isumN l, List.sum_cons]
    rfl
def spLotOf (K : PySem.W.Frag) : Sp := fun vs H Q _ => ∃ (v : V) (h t : Int) (ss : List Srt), vs = [v] ∧ FltA K H v h t ss ∧ ss.length ≤ 1000 ∧
  ∀ (H' : Hp) (p : Addr) (kd : Kd) (s : Int), Same H H' → H p = none → H' p = some (.tup [.str kd.str, .int s]) → LotF h t ss kd s → Q (.ref p) H'
def spTurnedLot (K : PySem.W.Frag) : Sp := fun vs H Q _ => ∃ (v l : V) (h t s : Int) (ss : List Srt) (kd : Kd), vs = [v, l] ∧ FltA K H v h t ss ∧ ss.length ≤ 1000 ∧ LtA K H l kd s ∧
  ∀ (H' : Hp) (z : V), Same H H' → LtA K H' z kd.turn ((mny ss : Int) - 1 - s) → Q z H'
def spFixed (K : PySem.W.Frag) : Sp := fun vs H Q _ => ∃ (v l : V) (h t s : Int) (ss : List Srt) (kd : Kd), vs = [v, l] ∧ FltA K H v h t ss ∧ ss.length ≤ 1000 ∧ LtA K H l kd s ∧
  ∀ (H' : Hp) (p : Addr), Same H H' → H p = none → H' p = some (.lst (((fxF ss (mk h t (mny ss) s)).map fun (n : Nat) => (n : Int)).map V.int)) → Q (.ref p) H'
def spLeastIn (K : PySem.W.Frag) : Sp := fun vs H Q _ => ∃ (v l : V) (h t s : Int) (ss : List Srt) (kd : Kd), vs = [v, l] ∧ FltA K H v h t ss ∧ ss.length ≤ 1000 ∧ LtA K H l kd s ∧
  (kd = .high → ∀ H', Same H H' → Q (.int (s + 1)) H') ∧ (kd ≠ .high → ∀ (H' : Hp) (m : Int), Same H H' → LeastI h t ss s m → Q (.int m) H')
def spMostIn (K : PySem.W.Frag) : Sp := fun vs H Q _ => ∃ (v l : V) (h t s : Int) (ss : List Srt) (kd : Kd), vs = [v, l] ∧ FltA K H v h t ss ∧ ss.length ≤ 1000 ∧ LtA K H l kd s ∧
  (kd = .low → ∀ H', Same H H' → Q (.int s) H') ∧ (kd ≠ .low → ∀ (H' : Hp) (m : Int), Same H H' → LeastI t h (turnF ss) ((mny ss : Int) - 1 - s) m → Q (.int ((mny ss : Int) - m)) H')
/-- the step next to which one goes -/
def nextS : Kd → Int → Int
  | .low, s => s - 1
  | .high, s => s + 1
  | .top, s => s
def spMoving (K : PySem.W.Frag) : Sp := fun vs H Q _ => ∃ (v l : V) (h t s : Int) (ss : List Srt) (kd : Kd), vs = [v, l] ∧ FltA K H v h t ss ∧ ss.length ≤ 1000 ∧ LtA K H l kd s ∧
  ((nextS kd s < 0 ∨ (mny ss : Int) ≤ nextS kd s) → ∀ H', Same H H' → Q .non H') ∧ (0 ≤ nextS kd s → nextS kd s < (mny ss : Int) → ∀ H', Same H H' → Q (.int (mk h t (mny ss) (nextS kd s))) H')
abbrev s_lot_of : Stmt := topS 16
theorem sc_lot_of : FnScope (["fleet", "last", "top", "stop"] : List Str) (["fleet"] : List Str) (defScope s_lot_of) := ⟨rfl, rfl, rfl, by decide +kernel, rfl, by decide +kernel, by decide +kernel⟩
theorem b_lot_of (kV doc pm : Value) (an : Option Addr) (cdv ct : Value) (us : List Value) (hl : us.length = (["fleet"] : List Str).length) : bindArgs (PySem.W.fnOf "lot_of" "lot_of" (defArgs s_lot_of) (defBody s_lot_of) (defScope s_lot_of) .none kV doc pm an cdv ct) ⟨us, []⟩ = pure ((["fleet"] : List Str).zip us) :=
  match us, hl with | [_], _ => rfl
abbrev s_turned_lot : Stmt := topS 17
theorem sc_turned_lot : FnScope (["fleet", "lot", "kind", "step"] : List Str) (["fleet", "lot"] : List Str) (defScope s_turned_lot) := ⟨rfl, rfl, rfl, by decide +kernel, rfl, by decide +kernel, by decide +kernel⟩
theorem b_turned_lot (kV doc pm : Value) (an : Option Addr) (cdv ct : Value) (us : List Value) (hl : us.length = (["fleet", "lot"] : List Str).length) : bindArgs (PySem.W.fnOf "turned_lot" "turned_lot" (defArgs s_turned_lot) (defBody s_turned_lot) (defScope s_turned_lot) .none kV doc pm an cdv ct) ⟨us, []⟩ = pure ((["fleet", "lot"] : List Str).zip us) :=
  match us, hl with | [_, _], _ => rfl
abbrev s_fixed_ones : Stmt := topS 18
theorem sc_fixed_ones : FnScope (["fleet", "lot", "mark", "draught", "ours", "theirs"] : List Str) (["fleet", "lot"] : List Str) (defScope s_fixed_ones) := ⟨rfl, rfl, rfl, by decide +kernel, rfl, by decide +kernel, by decide +kernel⟩
theorem b_fixed_ones (kV doc pm : Value) (an : Option Addr) (cdv ct : Value) (us : List Value) (hl : us.length = (["fleet", "lot"] : List Str).length) : bindArgs (PySem.W.fnOf "fixed_ones" "fixed_ones" (defArgs s_fixed_ones) (defBody s_fixed_ones) (defScope s_fixed_ones) .none kV doc pm an cdv ct) ⟨us, []⟩ = pure ((["fleet", "lot"] : List Str).zip us) :=
  match us, hl with | [_, _], _ => rfl
abbrev s_least_in : Stmt := topS 19
theorem sc_least_in : FnScope (["fleet", "lot", "kind", "step", "here", "there", "sorts", "ends", "bounds", "draught", "ours", "theirs", "end"] : List Str) (["fleet", "lot"] : List Str) (defScope s_least_in) := ⟨rfl, rfl, rfl, by decide +kernel, rfl, by decide +kernel, by decide +kernel⟩
theorem b_least_in (kV doc pm : Value) (an : Option Addr) (cdv ct : Value) (us : List Value) (hl : us.length = (["fleet", "lot"] : List Str).length) : bindArgs (PySem.W.fnOf "least_in" "least_in" (defArgs s_least_in) (defBody s_least_in) (defScope s_least_in) .none kV doc pm an cdv ct) ⟨us, []⟩ = pure ((["fleet", "lot"] : List Str).zip us) :=
  match us, hl with | [_, _], _ => rfl
abbrev s_most_in : Stmt := topS 20
theorem sc_most_in : FnScope (["fleet", "lot"] : List Str) (["fleet", "lot"] : List Str) (defScope s_most_in) := ⟨rfl, rfl, rfl, by decide +kernel, rfl, by decide +kernel, by decide +kernel⟩
theorem b_most_in (kV doc pm : Value) (an : Option Addr) (cdv ct : Value) (us : List Value) (hl : us.length = (["fleet", "lot"] : List Str).length) : bindArgs (PySem.W.fnOf "most_in" "most_in" (defArgs s_most_in) (defBody s_most_in) (defScope s_most_in) .none kV doc pm an cdv ct) ⟨us, []⟩ = pure ((["fleet", "lot"] : List Str).zip us) :=
  match us, hl with | [_, _], _ => rfl
abbrev s_moving_mark : Stmt := topS 21
theorem sc_moving_mark : FnScope (["fleet", "lot", "kind", "step"] : List Str) (["fleet", "lot"] : List Str) (defScope s_moving_mark) := ⟨rfl, rfl, rfl, by decide +kernel, rfl, by decide +kernel, by decide +kernel⟩
theorem b_moving_mark (kV doc pm : Value) (an : Option Addr) (cdv ct : Value) (us : List Value) (hl : us.length = (["fleet", "lot"] : List Str).length) : bindArgs (PySem.W.fnOf "moving_mark" "moving_mark" (defArgs s_moving_mark) (defBody s_moving_mark) (defScope s_moving_mark) .none kV doc pm an cdv ct) ⟨us, []⟩ = pure ((["fleet", "lot"] : List Str).zip us) :=
  match us, hl with | [_, _], _ => rfl
section
variable {P : Program} {w : World} {K : PySem.W.Frag} {mg : Str → Option Value} {base : Heap}
theorem ok_lot_of {k : Nat} (D : Df K mg "lot_of" s_lot_of) (T : Bt mg) (C : Cn mg) (O_ships_many : Ok P w K mg base k "ships_many" s_ships_many ["fleet"] (spShips K)) (O_top_in : Ok P w K mg base k "top_in" s_top_in ["fleet"] (spTopIn K))
    (O_low_stop : Ok P w K mg base k "low_stop" s_low_stop ["fleet", "top"] (spLowStop K)) (O_turned_fleet : Ok P w K mg base k "turned_fleet" s_turned_fleet ["fleet"] (spTurnedF K)) : Ok P w K mg base (k + 1) "lot_of" s_lot_of ["fleet"] (spLotOf K) := by
  obtain ⟨_, g_LOW⟩ := C.low
  obtain ⟨_, g_HIGH⟩ := C.high
  obtain ⟨_, g_TOP⟩ := C.top
  refine D.ok sc_lot_of b_lot_of (fun vs H Q E h => ?_) (fun f cdv A outer s H vs Q E hr h => ?_)
  · obtain ⟨v, h, t, ss, rfl, _⟩ := h
    rfl
  · obtain ⟨v, h, t, ss, rfl, hv, l1, k⟩ := h
    refine ⟨_, (pss_cons (ps_set (i := 1) sc_lot_of.nd rfl (.inl rfl) (pe_op op_sub (pe_fn O_ships_many (hr.mono (by omega)) (pa_cons (pv 0) pa_nil)) pe_int))
      (pss_cons (ps_set (i := 2) sc_lot_of.nd rfl (.inl rfl) (pe_fn O_top_in (hr.mono (by omega)) (pa_cons (pv 0) pa_nil)))
      (pss_cons (ps_set (i := 3) sc_lot_of.nd rfl (.inl rfl) (pe_fn O_low_stop (hr.mono (by omega)) (pa_cons (pv 0) (pa_cons (pv 2) pa_nil))))
      (pss_cons (ps_if (pt_cmpR op_notN (pv 3) pe_non (nomark _))
        (pss_one (ps_ret (pe_tup (pa_cons (pe_glob (v := .str "low") (by rfl) g_LOW ⟨_, rfl⟩) (pa_cons (pv 3) pa_nil)))))
        pss_nil)
      (pss_cons (ps_set (i := 3) sc_lot_of.nd rfl (.inl rfl) (pe_fn O_low_stop (hr.mono (by omega)) (pa_cons (pe_fn O_turned_fleet (hr.mono (by omega)) (pa_cons (pv 0) pa_nil)) (pa_cons (pe_op op_sub (pv 1) (pv 2)) pa_nil))))
      (pss_cons (ps_if (pt_cmpR op_notN (pv 3) pe_non (nomark _))
        (pss_one (ps_ret (pe_tup (pa_cons (pe_glob (v := .str "high") (by rfl) g_HIGH ⟨_, rfl⟩) (pa_cons (pe_op op_sub (pv 1) (pv 3)) pa_nil)))))
        pss_nil)
      (pss_one (ps_ret (pe_tup (pa_cons (pe_glob (v := .str "top") (by rfl) g_TOP ⟨_, rfl⟩) (pa_cons (pv 2) pa_nil))))))))))), ?_⟩
    refine ⟨_, rfl, v, h, t, ss, rfl, hv, l1, fun H1 s1 => ⟨_, 1, rfl, rfl, ?_⟩⟩
    refine ⟨_, rfl, v, h, t, ss, rfl, hv.same s1, l1, fun H2 s2 => ?_⟩
    have s02 := s1.trans s2
    refine ⟨_, rfl, _, rfl, v, h, t, topI h t (mny ss), ss, rfl, hv.same s02, l1, rise_top _ _ _, fun H3 N s3 a b => ?_, fun H3 s3 no => ?_⟩
    · refine ⟨_, rfl, rfl, _, rfl, iteT ⟨_, rfl, (by show 2 ≤ sizeLine; decide), fun p np => ?_⟩⟩
      have s03 := s02.trans s3
      exact k _ p .low (N : Int) (s03.trans (same_new np)) (s03.free np) upd_same ⟨N, rfl, a, b⟩
    · have s03 := s02.trans s3
      refine ⟨_, rfl, rfl, _, rfl, iteF ?_⟩
      refine ⟨_, rfl, v, h, t, ss, rfl, hv.same s03, l1, fun H4 z s4 hz => ?_⟩
      have s04 := s03.trans s4
      refine ⟨_, rfl, _, rfl, _, _, rfl, rfl, z, t, h, (mny ss : Int) - 1 - topI h t (mny ss), turnF ss, rfl, hz, ?_, ?_, fun H5 N s5 a b => ?_, fun H5 s5 no2 => ?_⟩
      · unfold turnF
        rw [List.length_map]
        exact l1
      · rw [mny_turn]
        exact rise_turn h t _
      · refine ⟨_, rfl, rfl, _, rfl, iteT ⟨_, rfl, _, rfl, _, _, rfl, rfl, (by show 2 ≤ sizeLine; decide), fun p np => ?_⟩⟩
        have s05 := s04.trans s5
        exact k _ p .high _ (s05.trans (same_new np)) (s05.free np) upd_same ⟨N, rfl, a, b⟩
      · refine ⟨_, rfl, rfl, _, rfl, iteF ⟨_, rfl, (by show 2 ≤ sizeLine; decide), fun p np => ?_⟩⟩
        have s05 := s04.trans s5
        exact k _ p .top _ (s05.trans (same_new np)) (s05.free np) upd_same ⟨rfl, no, no2⟩
theorem ok_turned_lot {k : Nat} (D : Df K mg "turned_lot" s_turned_lot) (T : Bt mg) (C : Ck mg K w) (O_ships_many : Ok P w K mg base k "ships_many" s_ships_many ["fleet"] (spShips K)) : Ok P w K mg base (k + 1) "turned_lot" s_turned_lot ["fleet", "lot"] (spTurnedLot K) := by
  obtain ⟨a_TURNED_KINDS, g_TURNED_KINDS, d1, d2, d3⟩ := C.kinds
  refine D.ok sc_turned_lot b_turned_lot (fun vs H Q E h => ?_) (fun f cdv A outer s H vs Q E hr h => ?_)
  · obtain ⟨v, l, h, t, s, ss, kd, rfl, _⟩ := h
    rfl
  · obtain ⟨v, l, h, t, s, ss, kd, rfl, hv, l1, ⟨p, rfl, hp⟩, k⟩ := h
    have dd : KDct K w a_TURNED_KINDS kd.str (.str kd.turn.str) := by
      cases kd
      · exact d1
      · exact d2
      · exact d3
    refine ⟨_, (pss_cons (ps_asg (pv 1) (pg_seq rfl (pgs_cons (pg_name (i := 2) sc_turned_lot.nd rfl (.inl rfl)) (pgs_cons (pg_name (i := 3) sc_turned_lot.nd rfl (.inl rfl)) pgs_nil))))
      (pss_one (ps_ret (pe_tup (pa_cons (pe_ix ix_kdict (pe_glob (v := .ref a_TURNED_KINDS) (by rfl) g_TURNED_KINDS rfl) (pv 2) (fun _ _ => rfl)) (pa_cons (pe_op op_sub (pe_op op_sub (pe_fn O_ships_many (hr.mono (by omega)) (pa_cons (pv 0) pa_nil)) pe_int) (pv 3)) pa_nil)))))), ?_⟩
    refine ⟨_, rfl, p, _, rfl, hp, rfl, _, _, rfl, _, _, rfl, rfl, ?_⟩
    refine ⟨_, rfl, a_TURNED_KINDS, _, _, rfl, rfl, dd, ?_⟩
    refine ⟨_, rfl, v, h, t, ss, rfl, hv, l1, fun H1 s1 => ⟨_, 1, rfl, rfl, _, rfl, _, _, rfl, rfl, (by show 2 ≤ sizeLine; decide), fun u nu => ?_⟩⟩
    exact k _ _ (s1.trans (same_new nu)) ⟨u, rfl, SqA.t upd_same⟩
theorem ok_fixed {k : Nat} (D : Df K mg "fixed_ones" s_fixed_ones) (T : Bt mg) (O_mark_in : Ok P w K mg base k "mark_in" s_mark_in ["fleet", "step"] (spMarkIn K)) : Ok P w K mg base (k + 1) "fixed_ones" s_fixed_ones ["fleet", "lot"] (spFixed K) := by
  refine D.ok sc_fixed_ones b_fixed_ones (fun vs H Q E h => ?_) (fun f cdv A outer s H vs Q E hr h => ?_)
  · obtain ⟨v, l, h, t, s, ss, kd, rfl, _⟩ := h
    rfl
  · obtain ⟨v, l, h, t, s, ss, kd, rfl, hv, l1, ⟨pl, rfl, hpl⟩, k⟩ := h
    refine ⟨_, (pss_cons (ps_set (i := 2) sc_fixed_ones.nd rfl (.inr rfl) (pe_fn O_mark_in (hr.mono (by omega)) (pa_cons (pv 0) (pa_cons (pe_ix ix_lt (pv 1) pe_int (fun _ _ => rfl)) pa_nil))))
      (pss_one (ps_ret (pe_lc (own := [("draught", 3), ("ours", 4), ("theirs", 5)]) (g := (gSeq K 3 (gCons (gName 3) (gCons (gName 4) (gCons (gName 5) gNil))))) (by rfl) sc_fixed_ones.nd (pi_seq (pe_ix ix_lt (pv 0) pe_int (fun _ _ => rfl))) (blkOk_by (own := [("draught", 3), ("ours", 4), ("theirs", 5)]) (N := (["fleet", "lot", "mark", "draught", "ours", "theirs"] : List Str)) (sc := defScope s_fixed_ones) (by decide +kernel)) (fun _ _ _ _ _ => (pg_seq rfl (pgs_cons (pg_name (i := 3) sc_fixed_ones.nd rfl (.inl rfl)) (pgs_cons (pg_name (i := 4) sc_fixed_ones.nd rfl (.inl rfl)) (pgs_cons (pg_name (i := 5) sc_fixed_ones.nd rfl (.inl rfl)) pgs_nil))))) (fun _ _ _ _ _ => (pts_one (pt_cmpR op_gt (pv 3) (pv 2) (nomark _)))) (fun _ _ _ _ _ => (pv 4)))))), ?_⟩
    refine ⟨_, rfl, _, rfl, pl, _, 1, _, rfl, rfl, hpl, rfl, v, h, t, s, ss, rfl, hv, l1, fun H0 s0 => ?_⟩
    obtain ⟨p, q, rs, rfl, hp, hq, hs⟩ := hv.same s0
    unfold fxF at k
    generalize mk h t (mny ss) s = m at k
    refine ⟨_, rfl, p, _, 2, .ref q, rfl, rfl, hp, rfl, q, _, H0, rfl, hq, Kp.refl _ _, fun J hJ C nC => ?_⟩
    obtain ⟨G, g, W⟩ := hJ.walk
    refine lc_it W (fun i H' => Same H0 H' ∧ H' C = some (.lst (((((ss.take i).filter fun x => decide (x.1 > m)).map fun x => x.2.1).map fun (n : Nat) => (n : Int)).map V.int))) ⟨same_new nC, upd_same⟩ (fun i H' _ z => g H' (.ofS z.1)) ?_ ?_
    · rintro i x H1 H2 _ ⟨sm, hC⟩ ⟨rfl, gx⟩
      obtain ⟨r, hi, rfl, hr1⟩ := srt_at (hs.same sm) gx
      refine ⟨r, _, rfl, hr1, rfl, _, _, rfl, _, _, rfl, _, _, rfl, rfl, rfl, _, rfl, _, rfl, _, _, rfl, rfl, _, rfl, ite2 (fun c => ⟨_, rfl, _, hC, ?_, same_over sm nC, ?_⟩) (fun c => ⟨sm, ?_⟩)⟩
      · rw [List.length_map, List.length_map, List.length_map]
        exact Nat.lt_of_lt_of_le (tf_le hi) (Nat.le_trans l1 (by decide))
      · rw [upd_same, tfm _ _ hi, if_pos c, List.map_append, List.map_append]
        rfl
      · rw [hC, tfm _ _ hi, if_neg c, List.append_nil]
    · rintro H1 ⟨sm, hC⟩
      rw [List.length_map, hs.1, List.take_length] at hC
      exact k H1 C (s0.trans sm) (s0.free nC) hC
set_option maxHeartbeats 8000000 in
theorem ok_least_in {k : Nat} (D : Df K mg "least_in" s_least_in) (T : Bt mg) (C : Cn mg) (O_goers_many : Ok P w K mg base k "goers_many" s_goers_many ["fleet", "step"] (spGoersMany K)) (O_fixed_ones : Ok P w K mg base k "fixed_ones" s_fixed_ones ["fleet", "lot"] (spFixed K)) :
    Ok P w K mg base (k + 1) "least_in" s_least_in ["fleet", "lot"] (spLeastIn K) := by
  obtain ⟨_, g_HIGH⟩ := C.high
  refine D.ok sc_least_in b_least_in (fun vs H Q E h => ?_) (fun f cdv A outer s H vs Q E hr h => ?_)
  · obtain ⟨v, l, h, t, s, ss, kd, rfl, _⟩ := h
    rfl
  · obtain ⟨v, l, h, t, s, ss, kd, rfl, hv, l1, hlt, k1, k2⟩ := h
    obtain ⟨pl, rfl, hpl⟩ := id hlt
    refine ⟨_, (pss_cons (ps_asg (pv 1) (pg_seq rfl (pgs_cons (pg_name (i := 2) sc_least_in.nd rfl (.inl rfl)) (pgs_cons (pg_name (i := 3) sc_least_in.nd rfl (.inr rfl)) pgs_nil))))
      (pss_cons (ps_if (pt_cmpR op_eq (pv 2) (pe_glob (v := .str "high") (by rfl) g_HIGH ⟨_, rfl⟩) (nomark _))
        (pss_one (ps_ret (pe_op op_add (pv 3) pe_int)))
        pss_nil)
      (pss_cons (ps_asg (pv 0) (pg_seq rfl (pgs_cons (pg_name (i := 4) sc_least_in.nd rfl (.inr rfl)) (pgs_cons (pg_name (i := 5) sc_least_in.nd rfl (.inl rfl)) (pgs_cons (pg_name (i := 6) sc_least_in.nd rfl (.inl rfl)) pgs_nil)))))
      (pss_cons (ps_set (i := 7) sc_least_in.nd rfl (.inl rfl) (pe_op op_cat (pe_lst (pa_cons (pv 3) pa_nil)) (pe_lc (own := [("draught", 9), ("ours", 10), ("theirs", 11)]) (g := (gSeq K 3 (gCons (gName 9) (gCons (gName 10) (gCons (gName 11) gNil))))) (by rfl) sc_least_in.nd (pi_seq (pv 6)) (blkOk_by (own := [("draught", 9), ("ours", 10), ("theirs", 11)]) (N := (["fleet", "lot", "kind", "step", "here", "there", "sorts", "ends", "bounds", "draught", "ours", "theirs", "end"] : List Str)) (sc := defScope s_least_in) (by decide +kernel)) (fun _ _ _ _ _ => (pg_seq rfl (pgs_cons (pg_name (i := 9) sc_least_in.nd rfl (.inl rfl)) (pgs_cons (pg_name (i := 10) sc_least_in.nd rfl (.inl rfl)) (pgs_cons (pg_name (i := 11) sc_least_in.nd rfl (.inl rfl)) pgs_nil))))) (fun _ _ _ _ _ => (pts_one (pt_cmpR op_lt (pe_op op_sub (pv 9) (pv 4)) (pv 3) (nomark _)))) (fun _ _ _ _ _ => (pe_op op_sub (pv 9) (pv 4))))))
      (pss_cons (ps_setLc (i := 8) (own := [("end", 12)]) (g := (gName 12)) (by rfl) sc_least_in.nd rfl rfl (sw_true rfl rfl rfl (by decide +kernel)) (pi_seq (pv 7)) (blkOk_by (own := [("end", 12)]) (N := (["fleet", "lot", "kind", "step", "here", "there", "sorts", "ends", "bounds", "draught", "ours", "theirs", "end"] : List Str)) (sc := defScope s_least_in) (by decide +kernel)) (fun _ _ _ _ _ => (pg_name (i := 12) sc_least_in.nd rfl (.inl rfl))) (fun _ _ _ _ _ => (pts_one (pt_cmpR op_gt (pv 12) pe_int (nomark _)))) (fun _ _ _ _ _ => (pe_op op_sub (pv 12) (pe_fn O_goers_many (hr.mono (by omega)) (pa_cons (pv 0) (pa_cons (pe_op op_sub (pv 12) pe_int) pa_nil))))))
      (pss_one (ps_ret (pe_callB (cr_max rfl) (by rfl) T.max_ (by decide +kernel) (pa_cons (pe_lst (pa_cons (pe_callB (cr_sum rfl) (by rfl) T.sum_ (by decide +kernel) (pa_cons (pe_fn O_fixed_ones (hr.mono (by omega)) (pa_cons (pv 0) (pa_cons (pv 1) pa_nil))) pa_nil)) (StX.pa_star (pv 8) pa_nil))) pa_nil))))))))), ?_⟩
    refine ⟨_, rfl, pl, _, rfl, hpl, rfl, _, _, rfl, _, _, rfl, rfl, ?_⟩
    refine ⟨_, rfl, rfl, _, rfl, ite2 (fun c => ?_) (fun c => ?_)⟩
    · have e : kd = .high := Kd.str_inj (V.str.inj (of_decide_eq_true c))
      exact ⟨_, rfl, _, 1, rfl, rfl, k1 e H (Same.refl _)⟩
    have ne : kd ≠ .high := fun e => c (by rw [e]; exact decide_eq_true rfl)
    replace k2 := k2 ne
    obtain ⟨p, q, rs, rfl, hp, hq, hs⟩ := id hv
    refine ⟨_, rfl, p, _, rfl, hp, rfl, _, _, rfl, _, _, rfl, _, _, rfl, rfl, ?_⟩
    -- ends
    refine ⟨_, rfl, (by show 1 ≤ sizeLine; decide), fun o no => ?_⟩
    have s1 : Same H (upd H o (.lst [.int s])) := same_new no
    have e1 : upd H o (.lst [.int s]) o = some (.lst [.int s]) := upd_same
    generalize upd H o (.lst [.int s]) = H1 at s1 e1
    refine ⟨_, rfl, q, _, H1, rfl, Same.sqA s1 hq, Kp.refl _ _, fun J hJ C nC => ?_⟩
    obtain ⟨G, g, W⟩ := hJ.walk
    refine lc_it W (fun i H' => Same H1 H' ∧ H' C = some (.lst ((((ss.take i).filter fun x => decide (x.1 - h < s)).map fun x => x.1 - h).map V.int))) ⟨same_new nC, upd_same⟩ (fun i H' _ z => g H' (.ofS z.1)) ?_ ?_
    · rintro i x H2 H3 _ ⟨sm, hC⟩ ⟨rfl, gx⟩
      obtain ⟨r, hi, rfl, hr1⟩ := srt_at (hs.same (s1.trans sm)) gx
      refine ⟨r, _, rfl, hr1, rfl, _, _, rfl, _, _, rfl, _, _, rfl, rfl, rfl, ?_⟩
      refine ⟨_, rfl, _, rfl, ss[i].1, h, rfl, rfl, _, rfl, ss[i].1 - h, s, rfl, rfl, _, rfl, ite2 (fun c => ?_) (fun c => ?_)⟩
      · refine ⟨_, rfl, _, rfl, ss[i].1, h, rfl, rfl, _, hC, ?_, same_over sm nC, ?_⟩
        · rw [List.length_map, List.length_map]
          exact Nat.lt_of_lt_of_le (tf_le hi) (Nat.le_trans l1 (by decide))
        · rw [upd_same, tfm _ _ hi, if_pos c, List.map_append]
          rfl
      · refine ⟨sm, ?_⟩
        rw [hC, tfm _ _ hi, if_neg c, List.append_nil]
    rintro H2 ⟨sm2, hC⟩
    rw [List.length_map, hs.1, List.take_length] at hC
    refine ⟨o, C, _, _, rfl, rfl, sm2 _ _ e1, hC, ?_, fun ad nad => ?_⟩
    · rw [List.length_map, List.length_map]
      have := List.length_filter_le (fun x : Srt => decide (x.1 - h < s)) ss
      show 1 + _ ≤ sizeLine
      exact Nat.le_trans (show 1 + (ss.filter fun x => decide (x.1 - h < s)).length ≤ 1001 by omega) (by decide)
    have e3 : upd H2 ad (.lst ([.int s] ++ ((ss.filter fun x => decide (x.1 - h < s)).map fun x => x.1 - h).map V.int)) ad = some (.lst ((s :: (ss.filter fun x => decide (x.1 - h < s)).map fun x => x.1 - h).map V.int)) := by rw [upd_same]; rfl
    have s3 : Same H (upd H2 ad (.lst ([.int s] ++ ((ss.filter fun x => decide (x.1 - h < s)).map fun x => x.1 - h).map V.int))) := s1.trans (sm2.trans (same_new nad))
    generalize upd H2 ad (.lst ([.int s] ++ ((ss.filter fun x => decide (x.1 - h < s)).map fun x => x.1 - h).map V.int)) = H3 at e3 s3
    have hends : ∀ e : Int, e ∈ (s :: (ss.filter fun x => decide (x.1 - h < s)).map fun x => x.1 - h) ↔ (e = s ∨ ∃ x ∈ ss, e = x.1 - h ∧ e < s) := fun e => by
      rw [List.mem_cons, List.mem_map]
      constructor
      · rintro (z | ⟨x, hx, rfl⟩)
        · exact .inl z
        · obtain ⟨a, b⟩ := List.mem_filter.mp hx
          exact .inr ⟨x, a, rfl, of_decide_eq_true b⟩
      · rintro (z | ⟨x, hx, rfl, b⟩)
        · exact .inl z
        · exact .inr ⟨x, List.mem_filter.mpr ⟨hx, decide_eq_true b⟩, rfl⟩
    have lends : (s :: (ss.filter fun x => decide (x.1 - h < s)).map fun x => x.1 - h).length ≤ 1001 := by
      rw [List.length_cons, List.length_map]
      have := List.length_filter_le (fun x : Srt => decide (x.1 - h < s)) ss
      omega
    generalize (s :: (ss.filter fun x => decide (x.1 - h < s)).map fun x => x.1 - h) = ends at e3 hends lends
    -- bounds
    refine ⟨_, rfl, ad, _, H3, rfl, SqA.l e3, Kp.refl _ _, fun J2 hJ2 B nB => ?_⟩
    obtain ⟨G2, g2, W2⟩ := hJ2.walk
    refine lc_it W2 (fun i H' => Same H3 H' ∧ H' B = some (.lst ((((ends.take i).filter fun e => decide (e > 0)).map fun e => e - (gmF ss (mk h t (mny ss) (e - 1)) : Int)).map V.int))) ⟨same_new nB, upd_same⟩ (fun i H' _ z => g2 H' (.ofS z.1)) ?_ ?_
    · rintro i x H4 H5 hi ⟨sm, hB⟩ ⟨rfl, gx⟩
      rw [List.length_map] at hi
      obtain rfl : .int ends[i] = x := by
        have g3 : (ends.map V.int)[i]? = some (.int ends[i]) := by simp [hi]
        exact Option.some.inj (g3.symm.trans gx)
      refine ⟨rfl, _, rfl, _, 0, rfl, rfl, _, rfl, ite2 (fun c => ?_) (fun c => ⟨sm, ?_⟩)⟩
      · refine ⟨_, rfl, _, rfl, _, rfl, _, 1, rfl, rfl, .ref p, h, t, _, ss, rfl, hv.same (s3.trans sm), l1, fun H6 s6 => ⟨_, _, rfl, rfl, _, s6 _ _ hB, ?_, same_over (sm.trans s6) nB, ?_⟩⟩
        · rw [List.length_map, List.length_map]
          have h1 := List.length_filter_le (fun e : Int => decide (e > 0)) (ends.take i)
          rw [List.length_take] at h1
          exact Nat.lt_of_le_of_lt (show _ ≤ 1001 by omega) (by decide)
        · rw [upd_same, take_succ_get hi, List.filter_append, List.map_append, List.map_append, List.filter_cons_of_pos (p := fun e : Int => decide (e > 0)) c]
          rfl
      · rw [hB, take_succ_get hi, List.filter_append, List.map_append, List.map_append, List.filter_cons_of_neg (p := fun e : Int => decide (e > 0)) c]
        simp
    rintro H4 ⟨sm4, hB⟩
    rw [List.length_map, List.take_length] at hB
    have s4 := s3.trans sm4
    -- max
    refine ⟨_, rfl, _, rfl, .ref p, .ref pl, h, t, s, ss, kd, rfl, hv.same s4, l1, hlt.same s4, fun H5 fo s5 nfo hfo => ?_⟩
    refine ⟨fo, _, rfl, SqL.of hfo, ?_⟩
    have hB5 := s5 _ _ hB
    refine ⟨_, rfl, B, _, rfl, .inr (SqL.of hB5), ?_, fun mx nmx => ?_⟩
    · rw [List.append_nil]
      show _ + 1 ≤ sizeLine
      rw [List.length_map, List.length_map]
      have h1 := List.length_filter_le (fun e : Int => decide (e > 0)) ends
      exact Nat.le_trans (show _ ≤ 1002 by omega) (by decide)
    have e6 : upd H5 mx (.lst (.int ((fxF ss (mk h t (mny ss) s)).map fun (n : Nat) => (n : Int)).sum :: ((((ends.filter fun e => decide (e > 0)).map fun e => e - (gmF ss (mk h t (mny ss) (e - 1)) : Int)).map V.int) ++ []))) mx = some (.lst ((((fxF ss (mk h t (mny ss) s)).map fun (n : Nat) => (n : Int)).sum :: ((ends.filter fun e => decide (e > 0)).map fun e => e - (gmF ss (mk h t (mny ss) (e - 1)) : Int))).map V.int)) := by
      rw [upd_same, List.append_nil]
      rfl
    have s6 := (s4.trans s5).trans (same_new nmx (o := .lst (.int ((fxF ss (mk h t (mny ss) s)).map fun (n : Nat) => (n : Int)).sum :: ((((ends.filter fun e => decide (e > 0)).map fun e => e - (gmF ss (mk h t (mny ss) (e - 1)) : Int)).map V.int) ++ []))))
    refine ⟨mx, _, rfl, SqL.of e6, Nat.zero_lt_succ _, fun m hm hu => ?_⟩
    refine k2 _ m s6 ?_
    have efx : ((fxF ss (mk h t (mny ss) s)).map fun (n : Nat) => (n : Int)).sum = ((fxF ss (mk h t (mny ss) s)).sum : Int) := isumN _
    rw [efx] at hm hu
    refine ⟨?_, hu _ List.mem_cons_self, fun e he e0 => ?_⟩
    · rcases List.mem_cons.mp hm with z | z
      · exact .inl z
      · obtain ⟨e, he, rfl⟩ := List.mem_map.mp z
        obtain ⟨a, b⟩ := List.mem_filter.mp he
        exact .inr ⟨e, (hends e).mp a, of_decide_eq_true b, rfl⟩
    · exact hu _ (List.mem_cons_of_mem _ (List.mem_map.mpr ⟨e, List.mem_filter.mpr ⟨(hends e).mpr he, decide_eq_true e0⟩, rfl⟩))
theorem ok_most_in {k : Nat} (D : Df K mg "most_in" s_most_in) (T : Bt mg) (O_ships_many : Ok P w K mg base k "ships_many" s_ships_many ["fleet"] (spShips K)) (O_turned_fleet : Ok P w K mg base k "turned_fleet" s_turned_fleet ["fleet"] (spTurnedF K))
    (O_turned_lot : Ok P w K mg base k "turned_lot" s_turned_lot ["fleet", "lot"] (spTurnedLot K)) (O_least_in : Ok P w K mg base k "least_in" s_least_in ["fleet", "lot"] (spLeastIn K)) : Ok P w K mg base (k + 1) "most_in" s_most_in ["fleet", "lot"] (spMostIn K) := by
  refine D.ok sc_most_in b_most_in (fun vs H Q E h => ?_) (fun f cdv A outer s H vs Q E hr h => ?_)
  · obtain ⟨v, l, h, t, s, ss, kd, rfl, _⟩ := h
    rfl
  · obtain ⟨v, l, h, t, s, ss, kd, rfl, hv, l1, hlt, k1, k2⟩ := h
    refine ⟨_, (pss_one (ps_ret (pe_op op_sub (pe_fn O_ships_many (hr.mono (by omega)) (pa_cons (pv 0) pa_nil)) (pe_fn O_least_in (hr.mono (by omega)) (pa_cons (pe_fn O_turned_fleet (hr.mono (by omega)) (pa_cons (pv 0) pa_nil)) (pa_cons (pe_fn O_turned_lot (hr.mono (by omega)) (pa_cons (pv 0) (pa_cons (pv 1) pa_nil))) pa_nil)))))), ?_⟩
    refine ⟨_, rfl, v, h, t, ss, rfl, hv, l1, fun H1 s1 => ?_⟩
    refine ⟨_, rfl, v, h, t, ss, rfl, hv.same s1, l1, fun H2 z s2 hz => ?_⟩
    have s02 := s1.trans s2
    refine ⟨_, rfl, _, rfl, v, l, h, t, s, ss, kd, rfl, hv.same s02, l1, hlt.same s02, fun H3 y s3 hy => ?_⟩
    have s03 := s02.trans s3
    refine ⟨z, y, t, h, (mny ss : Int) - 1 - s, turnF ss, kd.turn, rfl, hz.same s3, ?_, hy, fun e H4 s4 => ?_, fun e H4 m s4 L => ?_⟩
    · unfold turnF
      rw [List.length_map]
      exact l1
    · have e' : kd = .low := by cases kd <;> first | rfl | cases e
      have := k1 e' H4 (s03.trans s4)
      refine ⟨_, _, rfl, rfl, ?_⟩
      show Q (.int ((mny ss : Int) - ((mny ss : Int) - 1 - s + 1))) H4
      rw [show (mny ss : Int) - ((mny ss : Int) - 1 - s + 1) = s by omega]
      exact this
    · have e' : kd ≠ .low := fun q => e (by rw [q]; rfl)
      exact ⟨_, _, rfl, rfl, k2 e' H4 m (s03.trans s4) L⟩
theorem ok_moving {k : Nat} (D : Df K mg "moving_mark" s_moving_mark) (T : Bt mg) (C : Cn mg) (O_ships_many : Ok P w K mg base k "ships_many" s_ships_many ["fleet"] (spShips K)) (O_mark_in : Ok P w K mg base k "mark_in" s_mark_in ["fleet", "step"] (spMarkIn K)) :
    Ok P w K mg base (k + 1) "moving_mark" s_moving_mark ["fleet", "lot"] (spMoving K) := by
  obtain ⟨_, g_LOW⟩ := C.low
  obtain ⟨_, g_HIGH⟩ := C.high
  refine D.ok sc_moving_mark b_moving_mark (fun vs H Q E h => ?_) (fun f cdv A outer s H vs Q E hr h => ?_)
  · obtain ⟨v, l, h, t, s, ss, kd, rfl, _⟩ := h
    rfl
  · obtain ⟨v, l, h, t, s, ss, kd, rfl, hv, l1, ⟨pl, rfl, hpl⟩, k1, k2⟩ := h
    refine ⟨_, (pss_cons (ps_asg (pv 1) (pg_seq rfl (pgs_cons (pg_name (i := 2) sc_moving_mark.nd rfl (.inl rfl)) (pgs_cons (pg_name (i := 3) sc_moving_mark.nd rfl (.inl rfl)) pgs_nil))))
      (pss_cons (ps_if (pt_cmpR op_eq (pv 2) (pe_glob (v := .str "low") (by rfl) g_LOW ⟨_, rfl⟩) (nomark _))
        (pss_one (ps_aug (i := 3) sc_moving_mark.nd rfl (.inl rfl) pe_int ip_sub))
        pss_nil)
      (pss_cons (ps_if (pt_cmpR op_eq (pv 2) (pe_glob (v := .str "high") (by rfl) g_HIGH ⟨_, rfl⟩) (nomark _))
        (pss_one (ps_aug (i := 3) sc_moving_mark.nd rfl (.inl rfl) pe_int ip_add))
        pss_nil)
      (pss_cons (ps_if (PW.pt (pw_or (pt_cmpR op_lt (pv 3) pe_int (nomark _)) (pw_or1 (pt_cmpR op_ge (pv 3) (pe_fn O_ships_many (hr.mono (by omega)) (pa_cons (pv 0) pa_nil)) (nomark _)))))
        (pss_one (ps_ret pe_non))
        pss_nil)
      (pss_one (ps_ret (pe_fn O_mark_in (hr.mono (by omega)) (pa_cons (pv 0) (pa_cons (pv 3) pa_nil))))))))), ?_⟩
    refine ⟨_, rfl, pl, _, rfl, hpl, rfl, _, _, rfl, _, _, rfl, rfl, ?_⟩
    cases kd with
    | low =>
      refine ⟨_, rfl, rfl, _, rfl, iteT ⟨_, rfl, _, 1, rfl, rfl, ?_⟩⟩
      refine ⟨_, rfl, rfl, _, rfl, iteF ?_⟩
      refine ⟨_, rfl, _, 0, rfl, rfl, _, rfl, ite2 (fun c => ?_) (fun c => ?_)⟩
      · exact k1 (.inl (of_decide_eq_true c)) H (Same.refl _)
      · have c0 : 0 ≤ nextS .low s := by have : ¬ s - 1 < 0 := fun z => c (decide_eq_true z); show 0 ≤ s - 1; omega
        refine ⟨_, rfl, _, rfl, v, h, t, ss, rfl, hv, l1, fun H1 s1 => ⟨_, _, rfl, rfl, _, rfl, ite2 (fun c2 => ?_) (fun c2 => ?_)⟩⟩
        · exact k1 (.inr (of_decide_eq_true c2)) H1 s1
        · have c3 : nextS .low s < (mny ss : Int) := by have : ¬ (s - 1 ≥ (mny ss : Int)) := fun z => c2 (decide_eq_true z); show s - 1 < _; omega
          exact ⟨_, rfl, _, rfl, v, h, t, _, ss, rfl, hv.same s1, l1, fun H2 s2 => k2 c0 c3 H2 (s1.trans s2)⟩
    | high =>
      refine ⟨_, rfl, rfl, _, rfl, iteF ?_⟩
      refine ⟨_, rfl, rfl, _, rfl, iteT ⟨_, rfl, _, 1, rfl, rfl, ?_⟩⟩
      refine ⟨_, rfl, _, 0, rfl, rfl, _, rfl, ite2 (fun c => ?_) (fun c => ?_)⟩
      · exact k1 (.inl (of_decide_eq_true c)) H (Same.refl _)
      · have c0 : 0 ≤ nextS .high s := by have : ¬ s + 1 < 0 := fun z => c (decide_eq_true z); show 0 ≤ s + 1; omega
        refine ⟨_, rfl, _, rfl, v, h, t, ss, rfl, hv, l1, fun H1 s1 => ⟨_, _, rfl, rfl, _, rfl, ite2 (fun c2 => ?_) (fun c2 => ?_)⟩⟩
        · exact k1 (.inr (of_decide_eq_true c2)) H1 s1
        · have c3 : nextS .high s < (mny ss : Int) := by have : ¬ (s + 1 ≥ (mny ss : Int)) := fun z => c2 (decide_eq_true z); show s + 1 < _; omega
          exact ⟨_, rfl, _, rfl, v, h, t, _, ss, rfl, hv.same s1, l1, fun H2 s2 => k2 c0 c3 H2 (s1.trans s2)⟩
    | top =>
      refine ⟨_, rfl, rfl, _, rfl, iteF ?_⟩
      refine ⟨_, rfl, rfl, _, rfl, iteF ?_⟩
      refine ⟨_, rfl, _, 0, rfl, rfl, _, rfl, ite2 (fun c => ?_) (fun c => ?_)⟩
      · exact k1 (.inl (of_decide_eq_true c)) H (Same.refl _)
      · have c0 : 0 ≤ nextS .top s := by have : ¬ s < 0 := fun z => c (decide_eq_true z); show 0 ≤ s; omega
        refine ⟨_, rfl, _, rfl, v, h, t, ss, rfl, hv, l1, fun H1 s1 => ⟨_, _, rfl, rfl, _, rfl, ite2 (fun c2 => ?_) (fun c2 => ?_)⟩⟩
        · exact k1 (.inr (of_decide_eq_true c2)) H1 s1
        · have c3 : nextS .top s < (mny ss : Int) := by have : ¬ (s ≥ (mny ss : Int)) := fun z => c2 (decide_eq_true z); show s < _; omega
          exact ⟨_, rfl, _, rfl, v, h, t, _, ss, rfl, hv.same s1, l1, fun H2 s2 => k2 c0 c3 H2 (s1.trans s2)⟩
end
end Sh

namespace Sh
open PySem PySem.Spec PyProof.Rows L2
/-! ### a sea's fleet -/
theorem len_os {k : Nat} {L : List Nat} (hL : Lot k L) (D : Nat → Int) (d : Int) : ((L.map D).filter fun o => decide (o = d)).length = Th.cnt k (fun i => mem L i && decide (D i = d)) := by
  rw [List.filter_map, List.length_map]
  conv => lhs; rw [hL.mem_eq]
  rw [List.filter_filter]
  unfold Th.cnt
  rw [List.countP_eq_length_filter]
  congr 1
  refine List.filter_congr fun a _ => ?_
  show (decide (D a = d) && decide (a ∈ L)) = (mem L a && decide (D a = d))
  rw [Bool.and_comm]
  rfl
theorem ds_map (ds : List Int) : ds = (List.range ds.length).map fun i => ds.getD i 0 := by
  refine List.ext_getElem (by simp) fun i h1 h2 => ?_
  simp [h1]
theorem len_ds (ds : List Int) (d : Int) : (ds.filter fun o => decide (o = d)).length = Th.cnt ds.length (fun i => decide (ds.getD i 0 = d)) := by
  conv => lhs; rw [ds_map ds]
  rw [List.filter_map, List.length_map]
  unfold Th.cnt
  rw [List.countP_eq_length_filter]
  rfl
theorem sum_if (P : Int → Bool) (x : Int) (b : Bool) : ∀ {ns : List Int}, ns.Nodup → x ∈ ns → ((ns.filter P).map fun d => if (b && decide (x = d)) = true then 1 else 0).sum = if (P x && b) = true then 1 else 0 := by
  have none : ∀ {ns : List Int}, ¬ x ∈ ns → ((ns.filter P).map fun d => if (b && decide (x = d)) = true then 1 else 0).sum = 0 := by
    intro ns
    induction ns with
    | nil => intro _; rfl
    | cons a l ih =>
      intro h
      have h1 : ¬ x = a := fun e => h (e ▸ List.mem_cons_self)
      have h2 := ih fun q => h (List.mem_cons_of_mem _ q)
      by_cases c : P a = true
      · rw [List.filter_cons_of_pos c, List.map_cons, List.sum_cons, h2, decide_eq_false h1, Bool.and_false]
        rfl
      · rw [List.filter_cons_of_neg c]
        exact h2
  intro ns
  induction ns with
  | nil => intro _ h; cases h
  | cons a l ih =>
    intro nd h
    obtain ⟨n1, n2⟩ := List.nodup_cons.mp nd
    by_cases e : x = a
    · subst e
      have h0 := none n1
      by_cases c : P x = true
      · rw [List.filter_cons_of_pos c, List.map_cons, List.sum_cons, h0, decide_eq_true rfl, Bool.and_true, c, Bool.true_and, Nat.add_zero]
      · rw [List.filter_cons_of_neg c, h0]
        have c' : P x = false := by simpa using c
        rw [c', Bool.false_and]
        rfl
    · have hx : x ∈ l := by
        rcases List.mem_cons.mp h with q | q
        · exact absurd q e
        · exact q
      have h2 := ih n2 hx
      by_cases c : P a = true
      · rw [List.filter_cons_of_pos c, List.map_cons, List.sum_cons, h2, decide_eq_false e, Bool.and_false]
        show 0 + _ = _
        rw [Nat.zero_add]
      · rw [List.filter_cons_of_neg c]
        exact h2
theorem sum_two' {α : Type} (f g : α → Nat) : ∀ l : List α, (l.map fun x => f x + g x).sum = (l.map f).sum + (l.map g).sum
  | [] => rfl
  | a :: l => by
    simp only [List.map_cons, List.sum_cons, sum_two' f g l]
    omega
theorem sum_zero {α : Type} : ∀ l : List α, (l.map fun _ => 0).sum = 0
  | [] => rfl
  | a :: l => by rw [List.map_cons, List.sum_cons, sum_zero l]
theorem sum_cnt (P : Int → Bool) (D : Nat → Int) (R : Nat → Bool) {ns : List Int} (nd : ns.Nodup) : ∀ k : Nat, (∀ i, i < k → D i ∈ ns) → ((ns.filter P).map fun d => Th.cnt k (fun i => R i && decide (D i = d))).sum = Th.cnt k (fun i => P (D i) && R i)
  | 0, _ => sum_zero _
  | k + 1, h => by
    have ih := sum_cnt P D R nd k fun i hi => h i (by omega)
    have e : ((ns.filter P).map fun d => Th.cnt (k + 1) (fun i => R i && decide (D i = d))).sum = ((ns.filter P).map fun d => Th.cnt k (fun i => R i && decide (D i = d)) + if (R k && decide (D k = d)) = true then 1 else 0).sum := by
      congr 1
      exact List.map_congr_left fun d _ => Th.cnt_succ _ _
    rw [e, sum_two', ih, sum_if P (D k) (R k) nd (h k (by omega)), Th.cnt_succ]
/-- the sorts of a sea's ships -/
def sortsOf (ds : List Int) (L : List Nat) (ns : List Int) : List Srt := ns.map fun d => (d, ((L.map fun i => ds.getD i 0).filter fun o => decide (o = d)).length, (ds.filter fun o => decide (o = d)).length - ((L.map fun i => ds.getD i 0).filter fun o => decide (o = d)).length)
theorem sorts_rp {ds : List Int} {L : List Nat} {ns : List Int} (hL : Lot ds.length L) (nd : ns.Nodup) (hm : ∀ d : Int, d ∈ ds → d ∈ ns) : Rp (sortsOf ds L ns) ds.length (fun i => ds.getD i 0) (mem L) := by
  have hD : ∀ i, i < ds.length → ds.getD i 0 ∈ ns := fun i hi => hm _ (by
    have : ds.getD i 0 = ds[i] := by simp [hi]
    rw [this]
    exact List.getElem_mem hi)
  refine ⟨fun P => ?_, fun P => ?_⟩
  · unfold sortsOf
    rw [List.filter_map, List.map_map, ← sum_cnt P (fun i => ds.getD i 0) (mem L) nd ds.length hD]
    congr 1
    exact List.map_congr_left fun d _ => len_os hL _ d
  · unfold sortsOf
    rw [List.filter_map, List.map_map, ← sum_cnt P (fun i => ds.getD i 0) (fun i => !mem L i) nd ds.length hD]
    congr 1
    refine List.map_congr_left fun d _ => ?_
    show (ds.filter fun o => decide (o = d)).length - ((L.map fun i => ds.getD i 0).filter fun o => decide (o = d)).length = _
    rw [len_os hL, len_ds]
    have e := Th.cnt_split (k := ds.length) (fun i => decide (ds.getD i 0 = d)) (mem L)
    have e1 : Th.cnt ds.length (fun i => decide (ds.getD i 0 = d) && mem L i) = Th.cnt ds.length (fun i => mem L i && decide (ds.getD i 0 = d)) := Th.cnt_congr fun i _ => Bool.and_comm _ _
    have e2 : Th.cnt ds.length (fun i => decide (ds.getD i 0 = d) && !mem L i) = Th.cnt ds.length (fun i => !mem L i && decide (ds.getD i 0 = d)) := Th.cnt_congr fun i _ => Bool.and_comm _ _
    omega
theorem lying_le {ds : List Int} {L : List Nat} (hL : Lot ds.length L) (d : Int) : ((L.map fun i => ds.getD i 0).filter fun o => decide (o = d)).length ≤ (ds.filter fun o => decide (o = d)).length := by
  rw [len_os hL, len_ds]
  exact Th.cnt_mono fun i _ h => by
    revert h
    cases mem L i <;> simp
/-! ### what a lot tells of its standings -/
section
variable {ss : List Srt} {k : Nat} {D : Nat → Int} {S : Nat → Bool} {h t : Int}
theorem low_low (r : Rp ss k D S) {N : Nat} (st : StuckF h t ss N) : Th.StuckLow k (Gd h t k D) N S := (r.stuck h t N).mp st
theorem high_high (r : Rp ss k D S) (hk : 0 < k) {N : Nat} (hN : (N : Int) ≤ (k : Int) - 1 - topI h t k) (st : StuckF t h (turnF ss) N) : Th.StuckLow k (Th.dual k (Gd h t k D)) N (Th.co S) := by
  have t0 := top_lo' h t k
  exact Th.StuckLow.congr (by omega) (fun s i hs => Gd_turn hs) ((r.turn.stuck t h N).mp st)
theorem high_back (r : Rp ss k D S) (hk : 0 < k) {N : Nat} (hN : (N : Int) ≤ (k : Int) - 1 - topI h t k) (st : Th.StuckLow k (Th.dual k (Gd h t k D)) N (Th.co S)) : StuckF t h (turnF ss) N := by
  have t0 := top_lo' h t k
  exact (r.turn.stuck t h N).mpr (Th.StuckLow.congr (by omega) (fun s i hs => (Gd_turn hs).symm) st)
/-- a lot by its kind, in terms of ships -/
def LotS (h t : Int) (k : Nat) (D : Nat → Int) (S : Nat → Bool) : Kd → Int → Prop
  | .low, s => ∃ N : Nat, s = (N : Int) ∧ N ≤ (topI h t k).toNat ∧ Th.StuckLow k (Gd h t k D) N S
  | .high, s => ∃ N : Nat, s = (k : Int) - 1 - (N : Int) ∧ N ≤ k - 1 - (topI h t k).toNat ∧ Th.StuckLow k (Th.dual k (Gd h t k D)) N (Th.co S)
  | .top, s => s = topI h t k ∧ Th.Open k (Gd h t k D) (topI h t k).toNat S
theorem LotF.ships (r : Rp ss k D S) (hk : 0 < k) {kd : Kd} {s : Int} (l : LotF h t ss kd s) : LotS h t k D S kd s := by
  have t0 := top_lo' h t k
  have t1 := top_hi' h t hk
  have tp := top_D h t D hk
  unfold LotF at l
  cases kd with
  | low =>
    obtain ⟨N, e, a, b⟩ := l
    rw [r.mny] at a
    exact ⟨N, e, by omega, low_low r b⟩
  | high =>
    obtain ⟨N, e, a, b⟩ := l
    rw [r.mny] at a e
    exact ⟨N, e, by omega, high_high r hk a b⟩
  | top =>
    obtain ⟨e, a, b⟩ := l
    rw [r.mny] at a e b
    refine ⟨e, ?_⟩
    rcases Th.sorts (S := S) tp with ⟨N, hN, sl⟩ | ⟨N, hN, sl⟩ | q
    · exact absurd ((r.stuck h t N).mpr sl) (a N (by omega))
    · exact absurd (high_back r hk (by omega) sl) (b N (by omega))
    · exact q
end
end Sh
namespace Th
section
variable {k : Nat} {G : Nat → Nat → Bool} {S U : Nat → Bool} {T : Nat}
/-- where one stops tells from the other -/
theorem low_uniq {N N' : Nat} (a : StuckLow k G N S) (b : StuckLow k G N' S) : N = N' := by
  obtain ⟨a1, a2, a3⟩ := a
  obtain ⟨b1, b2, b3⟩ := b
  by_cases z : N < N'
  · have := b2 N a1 z
    omega
  · by_cases z2 : N' < N
    · have := a2 N' b1 z2
      omega
    · omega
theorem low_high {N N' : Nat} (t : Top k G T) (hN : N ≤ T) (a : StuckLow k G N S) (hN' : N' ≤ k - 1 - T) (b : StuckLow k (Th.dual k G) N' (co S)) : False := by
  have := a.1
  have := b.1
  have := cnt_co k S
  have := t.lt
  omega
theorem low_open {N : Nat} (t : Top k G T) (hN : N ≤ T) (a : StuckLow k G N S) (b : Open k G T S) : False := by
  obtain ⟨rs, c⟩ := b
  rcases rs with q | q
  · by_cases z : N = T
    · subst z
      have := a.2.2
      omega
    · have := q.2 N a.1 (by omega)
      have := a.2.2
      omega
  · have := a.1
    have := q.1
    omega
theorem high_open {N : Nat} (t : Top k G T) (hN : N ≤ k - 1 - T) (a : StuckLow k (Th.dual k G) N (co S)) (b : Open k G T S) : False := low_open t.dual hN a (b.dual t)
theorem Reach.out (r : Reach k G S U) : ∀ i, ¬ i < k → U i = S i := reach_out r
/-- the lot of an open one is kept -/
theorem Open.same (t : Top k G T) (a : Open k G T S) (r : Reach k G S U) : Open k G T U := by
  rcases sorts (S := U) t with ⟨N, hN, sl⟩ | ⟨N, hN, sl⟩ | q
  · exact absurd a fun a => low_open t hN (sl.same t hN r.symm) a
  · exact absurd a fun a => high_open t hN (sl.same t.dual hN r.symm.dual) a
  · exact q
theorem high_iff {N : Nat} (t : Top k G T) (hN : N ≤ k - 1 - T) (h : StuckLow k (Th.dual k G) N (co S)) (ho : ∀ i, ¬ i < k → U i = S i) : Reach k G S U ↔ StuckLow k (Th.dual k G) N (co U) ∧ ∀ i, i < k → (co U i || Th.dual k G N i) = (co S i || Th.dual k G N i) := by
  rw [← h.iff (U := co U) t.dual hN fun i hi => by unfold co; rw [ho i hi]]
  exact ⟨fun r => r.dual, fun r => r.codual⟩
end
end Th
namespace Sh
open PySem PySem.Spec PyProof.Rows L2
section
variable {ss : List Srt} {k : Nat} {D : Nat → Int} {S U : Nat → Bool} {h t : Int}
/-- a lot's kind and step are kept by crossings -/
theorem LotS.same (hk : 0 < k) {kd : Kd} {s : Int} (l : LotS h t k D S kd s) (r : Th.Reach k (Gd h t k D) S U) : LotS h t k D U kd s := by
  have tp := top_D h t D hk
  cases kd with
  | low =>
    obtain ⟨N, e, a, b⟩ := l
    exact ⟨N, e, a, b.same tp a r⟩
  | high =>
    obtain ⟨N, e, a, b⟩ := l
    exact ⟨N, e, a, b.same tp.dual a r.dual⟩
  | top =>
    obtain ⟨e, a⟩ := l
    exact ⟨e, a.same tp r⟩
theorem LotS.uniq (hk : 0 < k) {kd kd' : Kd} {s s' : Int} (l : LotS h t k D S kd s) (l' : LotS h t k D S kd' s') : kd = kd' ∧ s = s' := by
  have tp := top_D h t D hk
  cases kd with
  | low =>
    obtain ⟨N, e, a, b⟩ := l
    cases kd' with
    | low =>
      obtain ⟨N', e', a', b'⟩ := l'
      have := Th.low_uniq b b'
      exact ⟨rfl, by omega⟩
    | high =>
      obtain ⟨N', e', a', b'⟩ := l'
      exact (Th.low_high tp a b a' b').elim
    | top => exact (Th.low_open tp a b l'.2).elim
  | high =>
    obtain ⟨N, e, a, b⟩ := l
    cases kd' with
    | low =>
      obtain ⟨N', e', a', b'⟩ := l'
      exact (Th.low_high tp a' b' a b).elim
    | high =>
      obtain ⟨N', e', a', b'⟩ := l'
      have := Th.low_uniq b b'
      exact ⟨rfl, by omega⟩
    | top => exact (Th.high_open tp a b l'.2).elim
  | top =>
    obtain ⟨e, a⟩ := l
    cases kd' with
    | low =>
      obtain ⟨N', e', a', b'⟩ := l'
      exact (Th.low_open tp a' b' a).elim
    | high =>
      obtain ⟨N', e', a', b'⟩ := l'
      exact (Th.high_open tp a' b' a).elim
    | top => exact ⟨rfl, by rw [e, l'.1]⟩
/-- one comes to the other just where the lots' words are the same and those that don't go lie alike -/
theorem LotS.reach (hk : 0 < k) {kd : Kd} {s : Int} (l : LotS h t k D S kd s) (l' : LotS h t k D U kd s) (ho : ∀ i, ¬ i < k → U i = S i) : Th.Reach k (Gd h t k D) S U ↔ ∀ i, i < k → ¬ D i ≤ mk h t k s → U i = S i := by
  have tp := top_D h t D hk
  have t0 := top_lo' h t k
  have t1 := top_hi' h t hk
  cases kd with
  | low =>
    obtain ⟨N, e, a, b⟩ := l
    obtain ⟨N', e', a', b'⟩ := l'
    obtain rfl : N = N' := by omega
    rw [b.iff tp a ho]
    have key : ∀ i, ((U i || Gd h t k D N i) = (S i || Gd h t k D N i)) ↔ (¬ D i ≤ mk h t k s → U i = S i) := fun i => by
      unfold Gd
      rw [← e]
      by_cases z : D i ≤ mk h t k s
      · rw [decide_eq_true z, Bool.or_true, Bool.or_true]
        exact ⟨fun _ w => absurd z w, fun _ => rfl⟩
      · rw [decide_eq_false z, Bool.or_false, Bool.or_false]
        exact ⟨fun q _ => q, fun q => q z⟩
    exact ⟨fun q i hi => (key i).mp (q.2 i hi), fun q => ⟨b', fun i hi => (key i).mpr (q i hi)⟩⟩
  | high =>
    obtain ⟨N, e, a, b⟩ := l
    obtain ⟨N', e', a', b'⟩ := l'
    obtain rfl : N = N' := by omega
    rw [Th.high_iff tp a b ho]
    have key : ∀ i, ((Th.co U i || Th.dual k (Gd h t k D) N i) = (Th.co S i || Th.dual k (Gd h t k D) N i)) ↔ (¬ D i ≤ mk h t k s → U i = S i) := fun i => by
      show ((!U i || decide (D i ≤ mk h t k ((k - 1 - N : Nat) : Int))) = (!S i || decide (D i ≤ mk h t k ((k - 1 - N : Nat) : Int)))) ↔ _
      rw [show ((k - 1 - N : Nat) : Int) = s by omega]
      by_cases z : D i ≤ mk h t k s
      · rw [decide_eq_true z, Bool.or_true, Bool.or_true]
        exact ⟨fun _ w => absurd z w, fun _ => rfl⟩
      · rw [decide_eq_false z, Bool.or_false, Bool.or_false]
        refine ⟨fun q _ => ?_, fun q => by rw [q z]⟩
        revert q
        cases U i <;> cases S i <;> simp
    exact ⟨fun q i hi => (key i).mp (q.2 i hi), fun q => ⟨b', fun i hi => (key i).mpr (q i hi)⟩⟩
  | top =>
    obtain ⟨e, a⟩ := l
    obtain ⟨_, a'⟩ := l'
    have key : ∀ i, (Gd h t k D (topI h t k).toNat i = false) ↔ ¬ D i ≤ mk h t k s := fun i => by
      unfold Gd
      rw [show (((topI h t k).toNat : Nat) : Int) = s by omega, decide_eq_false_iff_not]
    exact ⟨fun r i hi z => Th.fast_inv tp r i hi ((key i).mpr z), fun q => Th.open_reach tp a.1 a'.1 (fun i hi g => q i hi ((key i).mp g)) ho⟩
theorem LotS.comes (hk : 0 < k) {kd kd' : Kd} {s s' : Int} (l : LotS h t k D S kd s) (l' : LotS h t k D U kd' s') (ho : ∀ i, ¬ i < k → U i = S i) : Th.Reach k (Gd h t k D) S U ↔ (kd = kd' ∧ s = s') ∧ ∀ i, i < k → ¬ D i ≤ mk h t k s → U i = S i := by
  constructor
  · intro r
    obtain ⟨e1, e2⟩ := (l.same hk r).uniq hk l'
    subst e1
    subst e2
    exact ⟨⟨rfl, rfl⟩, (l.reach hk l' ho).mp r⟩
  · rintro ⟨⟨e1, e2⟩, q⟩
    subst e1
    subst e2
    exact (l.reach hk l' ho).mpr q
/-- who ever goes -/
theorem LotS.moves (hk : 0 < k) {kd : Kd} {s : Int} (l : LotS h t k D S kd s) {i : Nat} (hi : i < k) : Th.Moves k (Gd h t k D) S i ↔ 0 ≤ nextS kd s ∧ nextS kd s < (k : Int) ∧ D i ≤ mk h t k (nextS kd s) := by
  have tp := top_D h t D hk
  have t0 := top_lo' h t k
  have t1 := top_hi' h t hk
  cases kd with
  | low =>
    obtain ⟨N, e, a, b⟩ := l
    rw [Th.moves_low b tp a hi]
    show (0 < N ∧ decide (D i ≤ mk h t k ((N - 1 : Nat) : Int)) = true) ↔ 0 ≤ s - 1 ∧ s - 1 < (k : Int) ∧ D i ≤ mk h t k (s - 1)
    rw [decide_eq_true_eq]
    constructor
    · rintro ⟨n0, g⟩
      rw [show ((N - 1 : Nat) : Int) = s - 1 by omega] at g
      exact ⟨by omega, by omega, g⟩
    · rintro ⟨n0, n1, g⟩
      refine ⟨by omega, ?_⟩
      rw [show ((N - 1 : Nat) : Int) = s - 1 by omega]
      exact g
  | high =>
    obtain ⟨N, e, a, b⟩ := l
    rw [Th.moves_high b tp a hi]
    show (0 < N ∧ decide (D i ≤ mk h t k ((k - N : Nat) : Int)) = true) ↔ 0 ≤ s + 1 ∧ s + 1 < (k : Int) ∧ D i ≤ mk h t k (s + 1)
    rw [decide_eq_true_eq]
    constructor
    · rintro ⟨n0, g⟩
      rw [show ((k - N : Nat) : Int) = s + 1 by omega] at g
      exact ⟨by omega, by omega, g⟩
    · rintro ⟨n0, n1, g⟩
      refine ⟨by omega, ?_⟩
      rw [show ((k - N : Nat) : Int) = s + 1 by omega]
      exact g
  | top =>
    obtain ⟨e, a⟩ := l
    rw [Th.moves_open tp a.1 a.2 hi]
    show decide (D i ≤ mk h t k (((topI h t k).toNat : Nat) : Int)) = true ↔ 0 ≤ s ∧ s < (k : Int) ∧ D i ≤ mk h t k s
    rw [decide_eq_true_eq, show (((topI h t k).toNat : Nat) : Int) = s by omega]
    exact ⟨fun g => ⟨by omega, by omega, g⟩, fun g => g.2.2⟩
/-- how few -/
theorem LotS.min (r : Rp ss k D S) (hk : 0 < k) {kd : Kd} {s m : Int} (l : LotS h t k D S kd s) (hm : (kd = .high ∧ m = s + 1) ∨ (kd ≠ .high ∧ LeastI h t ss s m)) : ∃ n : Nat, m = (n : Int) ∧ Th.IsMin k (Gd h t k D) S n := by
  have tp := top_D h t D hk
  have t0 := top_lo' h t k
  have t1 := top_hi' h t hk
  cases kd with
  | low =>
    obtain ⟨N, e, a, b⟩ := l
    rcases hm with ⟨z, _⟩ | ⟨_, L⟩
    · cases z
    · rw [e] at L
      exact least_low r tp a b (fun m' hm' => mk_low (by omega) (by omega)) L
  | high =>
    obtain ⟨N, e, a, b⟩ := l
    rcases hm with ⟨_, z⟩ | ⟨z, _⟩
    · have mx := Th.stuck_min_high tp.dual a b
      refine ⟨k - N, by omega, ?_⟩
      obtain ⟨⟨U, rU, cU⟩, hU⟩ := mx
      refine ⟨⟨Th.co U, ?_, ?_⟩, fun W rW => ?_⟩
      · refine Th.Reach.codual ?_
        rw [Th.co_co]
        exact rU
      · have := Th.cnt_co k U
        omega
      · have := hU _ rW.dual
        have := Th.cnt_co k W
        omega
    · exact absurd rfl z
  | top =>
    obtain ⟨e, a⟩ := l
    rcases hm with ⟨z, _⟩ | ⟨_, L⟩
    · cases z
    · rw [show s = (((topI h t k).toNat : Nat) : Int) by omega] at L
      exact least_open r tp a (fun m' hm' => mk_low (by omega) (by omega)) L
/-- how many, by the turned one -/
theorem LotS.max (r : Rp ss k D S) (hk : 0 < k) {kd : Kd} {s m : Int} (l : LotS h t k D S kd s) (hm : (kd = .low ∧ m = s) ∨ (kd ≠ .low ∧ ∃ m', LeastI t h (turnF ss) ((k : Int) - 1 - s) m' ∧ m = (k : Int) - m')) : ∃ n : Nat, m = (n : Int) ∧ Th.IsMax k (Gd h t k D) S n := by
  have tp := top_D h t D hk
  have t0 := top_lo' h t k
  have t1 := top_hi' h t hk
  have gt : ∀ s i, s < k → Gd t h k D s i = Th.dual k (Gd h t k D) s i := fun s i hs => Gd_turn hs
  have gt' : ∀ s i, s < k → Th.dual k (Gd h t k D) s i = Gd t h k D s i := fun s i hs => (Gd_turn hs).symm
  have tpd : Th.Top k (Gd t h k D) (k - 1 - (topI h t k).toNat) := by
    have q := tp.dual
    refine ⟨q.lt, fun s s' i a b g => ?_, fun s s' i a b c g => ?_⟩
    · rw [gt _ _ (by omega)]
      exact q.up s s' i a b (by rw [← gt _ _ (by omega)]; exact g)
    · rw [gt _ _ (by omega)]
      exact q.dn s s' i a b c (by rw [← gt _ _ (by omega)]; exact g)
  cases kd with
  | low =>
    obtain ⟨N, e, a, b⟩ := l
    rcases hm with ⟨_, z⟩ | ⟨z, _⟩
    · exact ⟨N, by omega, Th.stuck_min_high tp a b⟩
    · exact absurd rfl z
  | high =>
    obtain ⟨N, e, a, b⟩ := l
    rcases hm with ⟨z, _⟩ | ⟨_, m', L, em⟩
    · cases z
    · rw [show (k : Int) - 1 - s = (N : Int) by omega] at L
      obtain ⟨n, en, q⟩ := least_low r.turn tpd a (b.congr (by omega) gt') (fun m' hm' => mk_high (h := h) (t := t) (k := k) (by omega) (by omega)) L
      obtain ⟨q1, q2⟩ := (q.congr gt).co
      exact ⟨k - n, by omega, q2⟩
  | top =>
    obtain ⟨e, a⟩ := l
    rcases hm with ⟨z, _⟩ | ⟨_, m', L, em⟩
    · cases z
    · rw [show (k : Int) - 1 - s = ((k - 1 - (topI h t k).toNat : Nat) : Int) by omega] at L
      have od : Th.Open k (Gd t h k D) (k - 1 - (topI h t k).toNat) (Th.co S) := (a.dual tp).congr tp.dual.lt gt'
      obtain ⟨n, en, q⟩ := least_open r.turn tpd od (fun m' hm' => mk_high (h := h) (t := t) (k := k) (by omega) (by omega)) L
      obtain ⟨q1, q2⟩ := (q.congr gt).co
      exact ⟨k - n, by omega, q2⟩
end
end Sh

namespace Sh
open PySem PySem.Spec PyProof.Rows L2
/-! ### the program: fleets of seas, reach -/
theorem eqv_ints : ∀ ns ms : List Int, PyData.eqv (.list (ns.map .int)) (.list (ms.map .int)) = decide (ns = ms)
  | [], [] => rfl
  | [], _ :: _ => rfl
  | _ :: _, [] => rfl
  | a :: l, b :: m => by
    have e := eqv_ints l m
    show (PyData.eqv (.int a) (.int b) && PyData.eqv (.list (l.map .int)) (.list (m.map .int))) = _
    rw [e]
    show ((a == b) && decide (l = m)) = _
    rw [Bool.eq_iff_iff, Bool.and_eq_true, beq_iff_eq, decide_eq_true_eq, decide_eq_true_eq, List.cons.injEq]
theorem eqv_lot (a b : Str) (i j : Int) : PyData.eqv (.tuple [.str a, .int i]) (.tuple [.str b, .int j]) = (decide (a = b) && decide (i = j)) := by
  show ((a == b) && ((i == j) && true)) = _
  rw [Bool.and_true, Bool.eq_iff_iff, Bool.and_eq_true, Bool.and_eq_true, beq_iff_eq, beq_iff_eq, decide_eq_true_eq, decide_eq_true_eq]
theorem shaped_lot (kd : Kd) (s : Int) : SeqAt.shaped (.tuple [.str kd.str, .int s]) = true := by
  have a : PyData.canLay0 (.str kd.str) = true := by cases kd <;> decide +kernel
  have b : PyData.canLay0 (.tuple [.str kd.str, .int s]) = true := by
    show (PyData.canLay0 (.str kd.str) && (PyData.canLay0 (.int s) && true)) = true
    rw [a]
    rfl
  unfold SeqAt.shaped
  rw [b]
  rfl
def spFleetOf (K : PySem.W.Frag) : Sp := fun vs H Q _ => ∃ (v l : V) (h t : Int) (ds : List Int) (L : List Nat), vs = [v, l] ∧ SeaD K H v h t ds ∧ LotA K H l L ∧ ds.length ≤ 60 ∧ Lot ds.length L ∧
  ∀ (H' : Hp) (z : V) (ss : List Srt), Same H H' → FltA K H' z h t ss → ss.length ≤ 1000 → Rp ss ds.length (fun i => ds.getD i 0) (mem L) → Q z H'
def MaxF (h t : Int) (ss : List Srt) (m : Int) : Prop := ∃ kd s, LotF h t ss kd s ∧ ((kd = .low ∧ m = s) ∨ (kd ≠ .low ∧ ∃ m', LeastI t h (turnF ss) ((mny ss : Int) - 1 - s) m' ∧ m = (mny ss : Int) - m'))
def MinF (h t : Int) (ss : List Srt) (m : Int) : Prop := ∃ kd s, LotF h t ss kd s ∧ ((kd = .high ∧ m = s + 1) ∨ (kd ≠ .high ∧ LeastI h t ss s m))
def spFleetMost (K : PySem.W.Frag) : Sp := fun vs H Q _ => ∃ (v : V) (h t : Int) (ss : List Srt), vs = [v] ∧ FltA K H v h t ss ∧ ss.length ≤ 1000 ∧ ∀ (H' : Hp) (m : Int), Same H H' → MaxF h t ss m → Q (.int m) H'
def spFleetLeast (K : PySem.W.Frag) : Sp := fun vs H Q _ => ∃ (v : V) (h t : Int) (ss : List Srt), vs = [v] ∧ FltA K H v h t ss ∧ ss.length ≤ 1000 ∧ ∀ (H' : Hp) (m : Int), Same H H' → MinF h t ss m → Q (.int m) H'
abbrev s_fleet_of : Stmt := topS 8
theorem sc_fleet_of : FnScope (["sea", "standing", "here", "there", "draughts", "ours", "sorts", "draught", "many", "lying", "ship", "other"] : List Str) (["sea", "standing"] : List Str) (defScope s_fleet_of) := ⟨rfl, rfl, rfl, by decide +kernel, rfl, by decide +kernel, by decide +kernel⟩
theorem b_fleet_of (kV doc pm : Value) (an : Option Addr) (cdv ct : Value) (us : List Value) (hl : us.length = (["sea", "standing"] : List Str).length) : bindArgs (PySem.W.fnOf "fleet_of" "fleet_of" (defArgs s_fleet_of) (defBody s_fleet_of) (defScope s_fleet_of) .none kV doc pm an cdv ct) ⟨us, []⟩ = pure ((["sea", "standing"] : List Str).zip us) :=
  match us, hl with | [_, _], _ => rfl
abbrev s_fleet_most : Stmt := topS 23
theorem sc_fleet_most : FnScope (["fleet"] : List Str) (["fleet"] : List Str) (defScope s_fleet_most) := ⟨rfl, rfl, rfl, by decide +kernel, rfl, by decide +kernel, by decide +kernel⟩
theorem b_fleet_most (kV doc pm : Value) (an : Option Addr) (cdv ct : Value) (us : List Value) (hl : us.length = (["fleet"] : List Str).length) : bindArgs (PySem.W.fnOf "fleet_most" "fleet_most" (defArgs s_fleet_most) (defBody s_fleet_most) (defScope s_fleet_most) .none kV doc pm an cdv ct) ⟨us, []⟩ = pure ((["fleet"] : List Str).zip us) :=
  match us, hl with | [_], _ => rfl
abbrev s_fleet_least : Stmt := topS 24
theorem sc_fleet_least : FnScope (["fleet"] : List Str) (["fleet"] : List Str) (defScope s_fleet_least) := ⟨rfl, rfl, rfl, by decide +kernel, rfl, by decide +kernel, by decide +kernel⟩
theorem b_fleet_least (kV doc pm : Value) (an : Option Addr) (cdv ct : Value) (us : List Value) (hl : us.length = (["fleet"] : List Str).length) : bindArgs (PySem.W.fnOf "fleet_least" "fleet_least" (defArgs s_fleet_least) (defBody s_fleet_least) (defScope s_fleet_least) .none kV doc pm an cdv ct) ⟨us, []⟩ = pure ((["fleet"] : List Str).zip us) :=
  match us, hl with | [_], _ => rfl
abbrev s_most_here : Stmt := topS 28
theorem sc_most_here : FnScope (["sea", "standing"] : List Str) (["sea", "standing"] : List Str) (defScope s_most_here) := ⟨rfl, rfl, rfl, by decide +kernel, rfl, by decide +kernel, by decide +kernel⟩
theorem b_most_here (kV doc pm : Value) (an : Option Addr) (cdv ct : Value) (us : List Value) (hl : us.length = (["sea", "standing"] : List Str).length) : bindArgs (PySem.W.fnOf "most_here" "most_here" (defArgs s_most_here) (defBody s_most_here) (defScope s_most_here) .none kV doc pm an cdv ct) ⟨us, []⟩ = pure ((["sea", "standing"] : List Str).zip us) :=
  match us, hl with | [_, _], _ => rfl
abbrev s_least_here : Stmt := topS 29
theorem sc_least_here : FnScope (["sea", "standing"] : List Str) (["sea", "standing"] : List Str) (defScope s_least_here) := ⟨rfl, rfl, rfl, by decide +kernel, rfl, by decide +kernel, by decide +kernel⟩
theorem b_least_here (kV doc pm : Value) (an : Option Addr) (cdv ct : Value) (us : List Value) (hl : us.length = (["sea", "standing"] : List Str).length) : bindArgs (PySem.W.fnOf "least_here" "least_here" (defArgs s_least_here) (defBody s_least_here) (defScope s_least_here) .none kV doc pm an cdv ct) ⟨us, []⟩ = pure ((["sea", "standing"] : List Str).zip us) :=
  match us, hl with | [_, _], _ => rfl
abbrev s_movers_of : Stmt := topS 30
theorem sc_movers_of : FnScope (["sea", "standing", "fleet", "mark", "ship", "draught"] : List Str) (["sea", "standing"] : List Str) (defScope s_movers_of) := ⟨rfl, rfl, rfl, by decide +kernel, rfl, by decide +kernel, by decide +kernel⟩
theorem b_movers_of (kV doc pm : Value) (an : Option Addr) (cdv ct : Value) (us : List Value) (hl : us.length = (["sea", "standing"] : List Str).length) : bindArgs (PySem.W.fnOf "movers_of" "movers_of" (defArgs s_movers_of) (defBody s_movers_of) (defScope s_movers_of) .none kV doc pm an cdv ct) ⟨us, []⟩ = pure ((["sea", "standing"] : List Str).zip us) :=
  match us, hl with | [_, _], _ => rfl
abbrev s_comes_to : Stmt := topS 31
theorem sc_comes_to : FnScope (["sea", "one", "other", "lot", "mark"] : List Str) (["sea", "one", "other"] : List Str) (defScope s_comes_to) := ⟨rfl, rfl, rfl, by decide +kernel, rfl, by decide +kernel, by decide +kernel⟩
theorem b_comes_to (kV doc pm : Value) (an : Option Addr) (cdv ct : Value) (us : List Value) (hl : us.length = (["sea", "one", "other"] : List Str).length) : bindArgs (PySem.W.fnOf "comes_to" "comes_to" (defArgs s_comes_to) (defBody s_comes_to) (defScope s_comes_to) .none kV doc pm an cdv ct) ⟨us, []⟩ = pure ((["sea", "one", "other"] : List Str).zip us) :=
  match us, hl with | [_, _, _], _ => rfl
abbrev s_fast_ones : Stmt := topS 32
theorem sc_fast_ones : FnScope (["sea", "standing", "mark", "draughts", "ship"] : List Str) (["sea", "standing", "mark"] : List Str) (defScope s_fast_ones) := ⟨rfl, rfl, rfl, by decide +kernel, rfl, by decide +kernel, by decide +kernel⟩
theorem b_fast_ones (kV doc pm : Value) (an : Option Addr) (cdv ct : Value) (us : List Value) (hl : us.length = (["sea", "standing", "mark"] : List Str).length) : bindArgs (PySem.W.fnOf "fast_ones" "fast_ones" (defArgs s_fast_ones) (defBody s_fast_ones) (defScope s_fast_ones) .none kV doc pm an cdv ct) ⟨us, []⟩ = pure ((["sea", "standing", "mark"] : List Str).zip us) :=
  match us, hl with | [_, _, _], _ => rfl
section
variable {P : Program} {w : World} {K : PySem.W.Frag} {mg : Str → Option Value} {base : Heap}
set_option maxHeartbeats 8000000 in
theorem ok_fleet_of {k : Nat} (D : Df K mg "fleet_of" s_fleet_of) (T : Bt mg) : Ok P w K mg base (k + 1) "fleet_of" s_fleet_of ["sea", "standing"] (spFleetOf K) := by
  refine D.ok sc_fleet_of b_fleet_of (fun vs H Q E h => ?_) (fun f cdv A outer s H vs Q E hr h => ?_)
  · obtain ⟨v, l, h, t, ds, L, rfl, _⟩ := h
    rfl
  · obtain ⟨v, l, h, t, ds, L, rfl, ⟨p, q, rfl, hp, hq⟩, ⟨pl, rfl, hl⟩, d1, hL, k⟩ := h
    have ll := hL.len
    refine ⟨_, (pss_cons (ps_asg (pv 0) (pg_seq rfl (pgs_cons (pg_name (i := 2) sc_fleet_of.nd rfl (.inl rfl)) (pgs_cons (pg_name (i := 3) sc_fleet_of.nd rfl (.inl rfl)) (pgs_cons (pg_name (i := 4) sc_fleet_of.nd rfl (.inr rfl)) pgs_nil)))))
      (pss_cons (ps_setLc (i := 5) (own := [("ship", 10)]) (g := (gName 10)) (tt := tYes) (by rfl) sc_fleet_of.nd rfl rfl (sw_true rfl rfl rfl (by decide +kernel)) (pi_seq (pv 1)) (blkOk_by (own := [("ship", 10)]) (N := (["sea", "standing", "here", "there", "draughts", "ours", "sorts", "draught", "many", "lying", "ship", "other"] : List Str)) (sc := defScope s_fleet_of) (by decide +kernel)) (fun _ _ _ _ _ => (pg_name (i := 10) sc_fleet_of.nd rfl (.inl rfl))) (fun _ _ _ _ _ => pts_nil) (fun _ _ _ _ _ => (pe_ix (ix_ltK K) (pv 4) (pv 10) (fun _ _ => rfl))))
      (pss_cons (ps_set (i := 6) sc_fleet_of.nd rfl (.inl rfl) (pe_lst pa_nil))
      (pss_cons (ps_for PassesOwn.never rfl (pi_seq (pe_callB (cr_sortedSetw w rfl) (by rfl) T.sorted_ (by decide +kernel) (pa_cons (pe_callTy (cr_setTw w rfl) (by rfl) T.set_ (by decide +kernel) (pa_cons (pv 4) pa_nil)) pa_nil))) (pg_name (i := 7) sc_fleet_of.nd rfl (.inr rfl))
        (pss_cons (ps_set (i := 8) sc_fleet_of.nd rfl (.inl rfl) (pe_callB call_len_seq (by rfl) T.len_ PySem.boot_len (pa_cons (pe_lc (own := [("other", 11)]) (g := (gName 11)) (by rfl) sc_fleet_of.nd (pi_seq (pv 4)) (blkOk_by (own := [("other", 11)]) (N := (["sea", "standing", "here", "there", "draughts", "ours", "sorts", "draught", "many", "lying", "ship", "other"] : List Str)) (sc := defScope s_fleet_of) (by decide +kernel)) (fun _ _ _ _ _ => (pg_name (i := 11) sc_fleet_of.nd rfl (.inl rfl))) (fun _ _ _ _ _ => (pts_one (pt_cmpR op_eq (pv 11) (pv 7) (nomark _)))) (fun _ _ _ _ _ => (pv 11))) pa_nil)))
          (pss_cons (ps_set (i := 9) sc_fleet_of.nd rfl (.inl rfl) (pe_callB call_len_seq (by rfl) T.len_ PySem.boot_len (pa_cons (pe_lc (own := [("other", 11)]) (g := (gName 11)) (by rfl) sc_fleet_of.nd (pi_seq (pv 5)) (blkOk_by (own := [("other", 11)]) (N := (["sea", "standing", "here", "there", "draughts", "ours", "sorts", "draught", "many", "lying", "ship", "other"] : List Str)) (sc := defScope s_fleet_of) (by decide +kernel)) (fun _ _ _ _ _ => (pg_name (i := 11) sc_fleet_of.nd rfl (.inl rfl))) (fun _ _ _ _ _ => (pts_one (pt_cmpR op_eq (pv 11) (pv 7) (nomark _)))) (fun _ _ _ _ _ => (pv 11))) pa_nil)))
          (pss_one (ps_expr (pe_bm PySem.F.plainAttrs_list PySem.F.slot_list_append PySem.F.type_list_append mt_append (pv 6) (pa_cons (pe_tup (pa_cons (pv 7) (pa_cons (pv 9) (pa_cons (pe_op op_sub (pv 8) (pv 9)) pa_nil)))) pa_nil)))))))
      (pss_one (ps_ret (pe_tup (pa_cons (pv 2) (pa_cons (pv 3) (pa_cons (pe_callTy call_tuple_of (by rfl) T.tuple_ (by decide +kernel) (pa_cons (pv 6) pa_nil)) pa_nil)))))))))), ?_⟩
    refine ⟨_, rfl, p, _, rfl, hp, rfl, _, _, rfl, _, _, rfl, _, _, rfl, rfl, ?_⟩
    -- ours
    refine ⟨_, rfl, pl, _, H, rfl, hl, Kp.refl _ _, fun J hJ C nC => ?_⟩
    obtain ⟨G, g, W⟩ := hJ.walk
    refine lc_it W (fun i H' => Same H H' ∧ H' C = some (.lst (((L.take i).map fun j => ds.getD j 0).map V.int))) ⟨same_new nC, upd_same⟩ (fun i H' _ z => g H' (.ofS z.1)) ?_ ?_
    · rintro i x H1 H2 hi ⟨sm, hC⟩ ⟨rfl, gx⟩
      rw [ni_len] at hi
      obtain rfl : .int ((L[i] : Nat) : Int) = x := Option.some.inj ((ni_get hi).symm.trans gx)
      have hlt := hL.lt L[i] (List.getElem_mem hi)
      refine ⟨rfl, tyes (iteT ⟨_, rfl, _, rfl, q, _, _, .int (ds.getD L[i] 0), rfl, rfl, .inr (Same.tup sm hq), at_nat rfl (by simp [hlt]), _, hC, ?_, same_over sm nC, ?_⟩)⟩
      · rw [List.length_map, List.length_map, List.length_take]
        exact small1000 (by omega)
      · rw [upd_same, take_succ_get hi, List.map_append, List.map_append]
        rfl
    rintro H1 ⟨s1, hC⟩
    rw [ni_len, List.take_length] at hC
    -- sorts
    refine ⟨Nat.zero_le _, fun F nF => ?_⟩
    have s2 : Same H1 (upd H1 F (.lst [])) := same_new nF
    have e2 : upd H1 F (.lst []) F = some (.lst []) := upd_same
    have nF0 : H F = none := s1.free nF
    have CF : C ≠ F := ne_of_none hC nF
    generalize upd H1 F (.lst []) = H2 at s2 e2
    have s02 := s1.trans s2
    refine ⟨_, rfl, q, ds, rfl, Same.tup s02 hq, by omega, fun a c na hc => ?_⟩
    refine ⟨a, _, c, rfl, upd_same, by omega, fun ns b up hm hlen nb => ?_⟩
    have sA : Same H2 (upd H2 a (SetO w a (fun j => decide (j ∈ ds)) c)) := same_new na
    have sB := sA.trans (same_new nb (o := .lst (ns.map V.int)))
    have eb : upd (upd H2 a (SetO w a (fun j => decide (j ∈ ds)) c)) b (.lst (ns.map V.int)) b = some (.lst (ns.map V.int)) := upd_same
    generalize upd (upd H2 a (SetO w a (fun j => decide (j ∈ ds)) c)) b (.lst (ns.map V.int)) = H3 at sB eb
    have s03 := s02.trans sB
    have hC3 := sB _ _ (s2 _ _ hC)
    have hF3 := sB _ _ e2
    have bF : b ≠ F := fun e => by
      subst e
      rw [sA _ _ e2] at nb
      cases nb
    have nn : ns.Nodup := up.imp fun z => by omega
    refine ⟨b, _, H3, rfl, SqA.l eb, Kp.refl _ _, fun J2 hJ2 => ?_⟩
    obtain ⟨G2, g2, W2⟩ := hJ2.walk
    refine for_it W2 (fun i σ H' => ∃ (y7 y8 y9 : Option V) (us : List Addr), σ = [some (.ref p), some (.ref pl), some (.int h), some (.int t), some (.ref q), some (.ref C), some (.ref F), y7, y8, y9, none, none] ∧ Same H H' ∧ H' C = some (.lst ((L.map fun j => ds.getD j 0).map V.int)) ∧ H' b = some (.lst (ns.map V.int)) ∧ H' F = some (.lst (us.map V.ref)) ∧ SrtsN H' us (sortsOf ds L (ns.take i)))
      ⟨none, none, none, [], rfl, s03, hC3, eb, hF3, rfl, fun i r x a _ => by simp at a⟩ (fun i σ H' _ ⟨_, _, _, _, _, _, _, z, _⟩ => g2 H' fun o e => by rw [eb] at e; cases e; exact z) ?_ ?_
    · rintro i x σ H5' H4 hi ⟨y7, y8, y9, us, rfl, s4, hC4, hb4, hF4, hu4⟩ ⟨rfl, gx⟩
      rw [List.length_map] at hi
      obtain rfl : .int ns[i] = x := by
        have g3 : (ns.map V.int)[i]? = some (.int ns[i]) := by simp [hi]
        exact Option.some.inj (g3.symm.trans gx)
      have f : ∀ (xs : List Int) (j : Nat) (hj : j < xs.length), ((xs.take (j + 1)).filter fun o => decide (o = ns[i])) = ((xs.take j).filter fun o => decide (o = ns[i])) ++ (if xs[j] = ns[i] then [xs[j]] else []) := fun xs j hj => by
        rw [take_succ_get hj, List.filter_append]
        congr 1
        by_cases c : xs[j] = ns[i]
        · rw [if_pos c, List.filter_cons_of_pos (by simpa using c)]; rfl
        · rw [if_neg c, List.filter_cons_of_neg (by simpa using c)]; rfl
      have fl : ∀ (xs : List Int) (j : Nat), xs.length ≤ 60 → (((xs.take j).filter fun o => decide (o = ns[i])).map V.int).length < sizeLine := fun xs j hx => by
        have h1 := List.length_filter_le (fun o => decide (o = ns[i])) (xs.take j)
        rw [List.length_take] at h1
        rw [List.length_map]
        exact small1000 (by omega)
      -- many
      refine ⟨_, rfl, q, _, H4, rfl, .inr (Same.tup s4 hq), Kp.refl _ _, fun J3 hJ3 M nM => ?_⟩
      obtain ⟨G3, g3, W3⟩ := hJ3.walk
      refine lc_it W3 (fun j H' => Same H4 H' ∧ H' M = some (.lst (((ds.take j).filter fun o => decide (o = ns[i])).map V.int))) ⟨same_new nM, upd_same⟩ (fun j H' _ z => g3 H' (.ofS z.1)) ?_ ?_
      · rintro j x H5 H6 hj ⟨sm, hM⟩ ⟨rfl, gx2⟩
        rw [List.length_map] at hj
        obtain rfl : .int ds[j] = x := by
          have g4 : (ds.map V.int)[j]? = some (.int ds[j]) := by simp [hj]
          exact Option.some.inj (g4.symm.trans gx2)
        refine ⟨rfl, _, rfl, _, rfl, rfl, _, rfl, ite2 (fun c => ?_) (fun c => ?_)⟩
        · have c0 : ds[j] = ns[i] := V.int.inj (of_decide_eq_true c)
          refine ⟨_, rfl, _, hM, fl ds j d1, same_over sm nM, ?_⟩
          rw [upd_same, f ds j hj, if_pos c0, List.map_append]
          rfl
        · have c0 : ¬ ds[j] = ns[i] := fun z => c (decide_eq_true (by rw [z]))
          refine ⟨sm, ?_⟩
          rw [hM, f ds j hj, if_neg c0, List.append_nil]
      rintro H5 ⟨s5, hM⟩
      rw [List.length_map, List.take_length] at hM
      refine ⟨M, _, rfl, .inl (SqL.of hM), ?_⟩
      -- lying
      refine ⟨_, rfl, C, _, H5, rfl, SqA.l (s5 _ _ hC4), Kp.refl _ _, fun J4 hJ4 N nN => ?_⟩
      obtain ⟨G4, g4, W4⟩ := hJ4.walk
      have lo : (L.map fun j => ds.getD j 0).length ≤ 60 := by rw [List.length_map]; omega
      refine lc_it W4 (fun j H' => Same H5 H' ∧ H' N = some (.lst ((((L.map fun j => ds.getD j 0).take j).filter fun o => decide (o = ns[i])).map V.int))) ⟨same_new nN, upd_same⟩ (fun j H' _ z => g4 H' (.ofS z.1)) ?_ ?_
      · rintro j x H6 H7 hj ⟨sm, hN⟩ ⟨rfl, gx2⟩
        rw [List.length_map] at hj
        obtain rfl : .int (L.map fun j => ds.getD j 0)[j] = x := by
          have g5 : ((L.map fun j => ds.getD j 0).map V.int)[j]? = some (.int (L.map fun j => ds.getD j 0)[j]) := by rw [List.getElem?_map, List.getElem?_eq_getElem hj]; rfl
          exact Option.some.inj (g5.symm.trans gx2)
        refine ⟨rfl, _, rfl, _, rfl, rfl, _, rfl, ite2 (fun c => ?_) (fun c => ?_)⟩
        · have c0 : (L.map fun j => ds.getD j 0)[j] = ns[i] := V.int.inj (of_decide_eq_true c)
          refine ⟨_, rfl, _, hN, fl _ j lo, same_over sm nN, ?_⟩
          rw [upd_same, f _ j hj, if_pos c0, List.map_append]
          rfl
        · have c0 : ¬ (L.map fun j => ds.getD j 0)[j] = ns[i] := fun z => c (decide_eq_true (by rw [z]))
          refine ⟨sm, ?_⟩
          rw [hN, f _ j hj, if_neg c0, List.append_nil]
      rintro H6 ⟨s6, hN⟩
      rw [List.length_map, List.take_length] at hN
      refine ⟨N, _, rfl, .inl (SqL.of hN), ?_⟩
      have s46 := s5.trans s6
      have hF6 := s46 _ _ hF4
      -- sorts.append
      refine ⟨_, rfl, .inl ⟨rfl, _, SqL.of hF6⟩, _, rfl, _, rfl, _, rfl, _, rfl, _, _, rfl, rfl, (by show 3 ≤ sizeLine; decide), fun u nu => ?_⟩
      have lu : us.length = i := by
        rw [hu4.1]
        unfold sortsOf
        rw [List.length_map, List.length_take]
        omega
      refine ⟨F, _, _, rfl, rfl, same_new nu _ _ hF6, ?_, _, _, _, us ++ [u], rfl, same_over ((s4.trans s46).trans (same_new nu)) nF0, ?_, ?_, ?_, ?_⟩
      · rw [List.length_map, lu]
        exact small1000 (by omega)
      · rw [upd_ne CF]
        exact same_new nu _ _ (s46 _ _ hC4)
      · rw [upd_ne bF]
        exact same_new nu _ _ (s46 _ _ hb4)
      · rw [upd_same, List.map_append]
        rfl
      · have e : sortsOf ds L (ns.take (i + 1)) = sortsOf ds L (ns.take i) ++ [(ns[i], ((L.map fun i => ds.getD i 0).filter fun o => decide (o = ns[i])).length, (ds.filter fun o => decide (o = ns[i])).length - ((L.map fun i => ds.getD i 0).filter fun o => decide (o = ns[i])).length)] := by
          unfold sortsOf
          rw [take_succ_get hi, List.map_append]
          rfl
        rw [e]
        refine ((hu4.same s46).push' (x := (ns[i], ((L.map fun i => ds.getD i 0).filter fun o => decide (o = ns[i])).length, (ds.filter fun o => decide (o = ns[i])).length - ((L.map fun i => ds.getD i 0).filter fun o => decide (o = ns[i])).length)) nu ?_).put (same_new nu _ _ hF6)
        have le := lying_le hL ns[i]
        unfold SrtV
        rw [List.length_map, List.length_map]
        dsimp only
        rw [show (((ds.filter fun o => decide (o = ns[i])).length - ((L.map fun i => ds.getD i 0).filter fun o => decide (o = ns[i])).length : Nat) : Int) = ((ds.filter fun o => decide (o = ns[i])).length : Int) - (((L.map fun i => ds.getD i 0).filter fun o => decide (o = ns[i])).length : Int) by omega]
    · rintro σ H4 ⟨y7, y8, y9, us, rfl, s4, hC4, hb4, hF4, hu4⟩
      rw [List.length_map, List.take_length] at hu4
      refine ⟨_, rfl, _, rfl, _, rfl, F, _, rfl, .inl ⟨SqL.of hF4, fun a2 na2 => ⟨(by show 3 ≤ sizeLine; decide), fun b2 nb2 => ?_⟩⟩⟩
      have sa2 : Same H4 (upd H4 a2 (.tup (us.map V.ref))) := same_new na2
      have sb2 := sa2.trans (same_new nb2 (o := .tup [.int h, .int t, .ref a2]))
      refine k _ _ (sortsOf ds L ns) (s4.trans sb2) ⟨b2, a2, us, rfl, SqA.t upd_same, SqA.t (same_new nb2 _ _ upd_same), (hu4.same sb2).a⟩ ?_ (sorts_rp hL nn fun d hd => (hm d).mpr (decide_eq_true hd))
      unfold sortsOf
      rw [List.length_map, hlen]
      omega
theorem ok_fleet_most {k : Nat} (D : Df K mg "fleet_most" s_fleet_most) (T : Bt mg) (O_most_in : Ok P w K mg base k "most_in" s_most_in ["fleet", "lot"] (spMostIn K)) (O_lot_of : Ok P w K mg base k "lot_of" s_lot_of ["fleet"] (spLotOf K)) : Ok P w K mg base (k + 1) "fleet_most" s_fleet_most ["fleet"] (spFleetMost K) := by
  refine D.ok sc_fleet_most b_fleet_most (fun vs H Q E h => ?_) (fun f cdv A outer s H vs Q E hr h => ?_)
  · obtain ⟨v, h, t, ss, rfl, _⟩ := h
    rfl
  · obtain ⟨v, h, t, ss, rfl, hv, l1, k⟩ := h
    refine ⟨_, (pss_one (ps_ret (pe_fn O_most_in (hr.mono (by omega)) (pa_cons (pv 0) (pa_cons (pe_fn O_lot_of (hr.mono (by omega)) (pa_cons (pv 0) pa_nil)) pa_nil))))), ?_⟩
    refine ⟨_, rfl, _, rfl, v, h, t, ss, rfl, hv, l1, fun H1 p kd s s1 np hp L => ?_⟩
    exact ⟨v, .ref p, h, t, s, ss, kd, rfl, hv.same s1, l1, ⟨p, rfl, SqA.t hp⟩, fun e H2 s2 => k H2 s (s1.trans s2) ⟨kd, s, L, .inl ⟨e, rfl⟩⟩, fun e H2 m s2 lm => k H2 _ (s1.trans s2) ⟨kd, s, L, .inr ⟨e, m, lm, rfl⟩⟩⟩
theorem ok_fleet_least {k : Nat} (D : Df K mg "fleet_least" s_fleet_least) (T : Bt mg) (O_least_in : Ok P w K mg base k "least_in" s_least_in ["fleet", "lot"] (spLeastIn K)) (O_lot_of : Ok P w K mg base k "lot_of" s_lot_of ["fleet"] (spLotOf K)) : Ok P w K mg base (k + 1) "fleet_least" s_fleet_least ["fleet"] (spFleetLeast K) := by
  refine D.ok sc_fleet_least b_fleet_least (fun vs H Q E h => ?_) (fun f cdv A outer s H vs Q E hr h => ?_)
  · obtain ⟨v, h, t, ss, rfl, _⟩ := h
    rfl
  · obtain ⟨v, h, t, ss, rfl, hv, l1, k⟩ := h
    refine ⟨_, (pss_one (ps_ret (pe_fn O_least_in (hr.mono (by omega)) (pa_cons (pv 0) (pa_cons (pe_fn O_lot_of (hr.mono (by omega)) (pa_cons (pv 0) pa_nil)) pa_nil))))), ?_⟩
    refine ⟨_, rfl, _, rfl, v, h, t, ss, rfl, hv, l1, fun H1 p kd s s1 np hp L => ?_⟩
    exact ⟨v, .ref p, h, t, s, ss, kd, rfl, hv.same s1, l1, ⟨p, rfl, SqA.t hp⟩, fun e H2 s2 => k H2 _ (s1.trans s2) ⟨kd, s, L, .inl ⟨e, rfl⟩⟩, fun e H2 m s2 lm => k H2 _ (s1.trans s2) ⟨kd, s, L, .inr ⟨e, lm⟩⟩⟩
theorem ok_most_here {k : Nat} (D : Df K mg "most_here" s_most_here) (T : Bt mg) (O_fleet_most : Ok P w K mg base k "fleet_most" s_fleet_most ["fleet"] (spFleetMost K)) (O_fleet_of : Ok P w K mg base k "fleet_of" s_fleet_of ["sea", "standing"] (spFleetOf K)) : Ok P w K mg base (k + 1) "most_here" s_most_here ["sea", "standing"] (spMost K) := by
  refine D.ok sc_most_here b_most_here (fun vs H Q E h => ?_) (fun f cdv A outer s H vs Q E hr h => ?_)
  · obtain ⟨v, l, h, t, ds, L, rfl, _⟩ := h
    rfl
  · obtain ⟨v, l, h, t, ds, L, rfl, hv, hl, d1, d0, hL, k⟩ := h
    refine ⟨_, (pss_one (ps_ret (pe_fn O_fleet_most (hr.mono (by omega)) (pa_cons (pe_fn O_fleet_of (hr.mono (by omega)) (pa_cons (pv 0) (pa_cons (pv 1) pa_nil))) pa_nil)))), ?_⟩
    refine ⟨_, rfl, _, rfl, v, l, h, t, ds, L, rfl, hv, hl, d1, hL, fun H1 z ss s1 hz l1 r => ⟨z, h, t, ss, rfl, hz, l1, fun H2 m s2 ⟨kd, s, lf, hm⟩ => ?_⟩⟩
    rw [r.mny] at hm
    obtain ⟨n, rfl, mx⟩ := (lf.ships r d0).max r d0 hm
    exact k H2 n (s1.trans s2) (isMost_of hL mx)
theorem ok_least_here {k : Nat} (D : Df K mg "least_here" s_least_here) (T : Bt mg) (O_fleet_least : Ok P w K mg base k "fleet_least" s_fleet_least ["fleet"] (spFleetLeast K)) (O_fleet_of : Ok P w K mg base k "fleet_of" s_fleet_of ["sea", "standing"] (spFleetOf K)) : Ok P w K mg base (k + 1) "least_here" s_least_here ["sea", "standing"] (spLeast K) := by
  refine D.ok sc_least_here b_least_here (fun vs H Q E h => ?_) (fun f cdv A outer s H vs Q E hr h => ?_)
  · obtain ⟨v, l, h, t, ds, L, rfl, _⟩ := h
    rfl
  · obtain ⟨v, l, h, t, ds, L, rfl, hv, hl, d1, d0, hL, k⟩ := h
    refine ⟨_, (pss_one (ps_ret (pe_fn O_fleet_least (hr.mono (by omega)) (pa_cons (pe_fn O_fleet_of (hr.mono (by omega)) (pa_cons (pv 0) (pa_cons (pv 1) pa_nil))) pa_nil)))), ?_⟩
    refine ⟨_, rfl, _, rfl, v, l, h, t, ds, L, rfl, hv, hl, d1, hL, fun H1 z ss s1 hz l1 r => ⟨z, h, t, ss, rfl, hz, l1, fun H2 m s2 ⟨kd, s, lf, hm⟩ => ?_⟩⟩
    obtain ⟨n, rfl, mn⟩ := (lf.ships r d0).min r d0 hm
    exact k H2 n (s1.trans s2) (isLeast_of hL mn)
theorem ok_movers {k : Nat} (D : Df K mg "movers_of" s_movers_of) (T : Bt mg) (O_moving_mark : Ok P w K mg base k "moving_mark" s_moving_mark ["fleet", "lot"] (spMoving K)) (O_lot_of : Ok P w K mg base k "lot_of" s_lot_of ["fleet"] (spLotOf K)) (O_fleet_of : Ok P w K mg base k "fleet_of" s_fleet_of ["sea", "standing"] (spFleetOf K)) : Ok P w K mg base (k + 1) "movers_of" s_movers_of ["sea", "standing"] (spMovers K) := by
  refine D.ok sc_movers_of b_movers_of (fun vs H Q E h => ?_) (fun f cdv A outer s H vs Q E hr h => ?_)
  · obtain ⟨v, l, h, t, ds, L, rfl, _⟩ := h
    rfl
  · obtain ⟨v, l, h, t, ds, L, rfl, hv, hl, d1, d0, hL, k⟩ := h
    refine ⟨_, (pss_cons (ps_set (i := 2) sc_movers_of.nd rfl (.inl rfl) (pe_fn O_fleet_of (hr.mono (by omega)) (pa_cons (pv 0) (pa_cons (pv 1) pa_nil))))
      (pss_cons (ps_set (i := 3) sc_movers_of.nd rfl (.inr rfl) (pe_fn O_moving_mark (hr.mono (by omega)) (pa_cons (pv 2) (pa_cons (pe_fn O_lot_of (hr.mono (by omega)) (pa_cons (pv 2) pa_nil)) pa_nil))))
      (pss_cons (ps_if (pt_cmpR op_isN (pv 3) pe_non (nomark _))
        (pss_one (ps_ret (pe_lst pa_nil)))
        pss_nil)
      (pss_one (ps_ret (pe_lc (own := [("ship", 4), ("draught", 5)]) (g := (gSeq K 2 (gCons (gName 4) (gCons (gName 5) gNil)))) (by rfl) sc_movers_of.nd (pi_enumA (by rfl) T.enumerate_ (pa_cons (pe_ix ix_lt (pv 0) pe_int (fun _ _ => rfl)) pa_nil)) (blkOk_by (own := [("ship", 4), ("draught", 5)]) (N := (["sea", "standing", "fleet", "mark", "ship", "draught"] : List Str)) (sc := defScope s_movers_of) (by decide +kernel)) (fun _ _ _ _ _ => (pg_seq rfl (pgs_cons (pg_name (i := 4) sc_movers_of.nd rfl (.inl rfl)) (pgs_cons (pg_name (i := 5) sc_movers_of.nd rfl (.inl rfl)) pgs_nil)))) (fun _ _ _ _ _ => (pts_one (pt_cmpR op_le (pv 5) (pv 3) (nomark _)))) (fun _ _ _ _ _ => (pv 4)))))))), ?_⟩
    refine ⟨_, rfl, _, rfl, v, l, h, t, ds, L, rfl, hv, hl, d1, hL, fun H1 z ss s1 hz l1 r => ?_⟩
    refine ⟨_, rfl, _, rfl, z, h, t, ss, rfl, hz, l1, fun H2 pp kd s s2 np hp lf => ?_⟩
    have ls := lf.ships r d0
    have mv : ∀ i, i < ds.length → (Th.Moves ds.length (Gof h t ds) (mem L) i ↔ _) := fun i hi => ls.moves d0 hi
    have km := r.mny
    refine ⟨z, .ref pp, h, t, s, ss, kd, rfl, hz.same s2, l1, ⟨pp, rfl, SqA.t hp⟩, fun no H3 s3 => ?_, fun n0 n1 H3 s3 => ?_⟩
    · refine ⟨_, rfl, rfl, _, rfl, iteT ⟨Nat.zero_le _, fun a na => ?_⟩⟩
      have s03 := (s1.trans s2).trans s3
      refine k _ a [] (s03.trans (same_new na)) (s03.free na) upd_same ⟨Lot.nil _, fun i hi => ?_⟩
      rw [ex_moves hL hi, mv i hi]
      rw [km] at no
      exact ⟨fun z => (by cases z), fun z => (by omega)⟩
    · have s03 := (s1.trans s2).trans s3
      refine ⟨_, rfl, rfl, _, rfl, iteF ?_⟩
      rw [km] at n1
      rw [km]
      obtain ⟨p, q, rfl, hpp, hq⟩ := hv.same s03
      generalize em : mk h t ds.length (nextS kd s) = m
      rw [em] at mv
      refine ⟨_, rfl, p, _, 2, .ref q, rfl, rfl, hpp, rfl, q, _, H3, rfl, .inr hq, Kp.refl _ _, fun J hJ C nC => ?_⟩
      obtain ⟨G, g, W⟩ := hJ.walk
      refine lc_it W (fun i H' => Same H3 H' ∧ H' C = some (.lst (ni (gs m ds i)))) ⟨same_new nC, upd_same⟩ (fun i H' _ z => g H' (.ofS z.1)) ?_ ?_
      · rintro i x H4 H5 hi ⟨sm, hC⟩ ⟨u, x1, x2, rfl, nu, rfl, g1, g2⟩
        rw [List.length_map] at hi
        obtain rfl : .int (i : Nat) = x1 := Option.some.inj g1
        obtain rfl : .int ds[i] = x2 := by
          have g3 : (ds.map V.int)[i]? = some (.int ds[i]) := by simp [hi]
          exact Option.some.inj (g3.symm.trans g2)
        have ed : ds.getD i 0 = ds[i] := by simp [hi]
        have s4 : Same H4 (upd H4 u (.tup [.int (i : Nat), .int ds[i]])) := same_new nu
        refine ⟨u, _, rfl, SqA.t upd_same, rfl, _, _, rfl, _, _, rfl, rfl, rfl, ?_⟩
        have sm2 := sm.trans s4
        have hC2 := s4 _ _ hC
        generalize upd H4 u (.tup [.int (i : Nat), .int ds[i]]) = H5 at sm2 hC2
        refine ⟨_, rfl, _, rfl, ds[i], m, rfl, rfl, _, rfl, ite2 (fun c => ?_) (fun c => ?_)⟩
        · have c0 : ds[i] ≤ m := of_decide_eq_true c
          refine ⟨_, rfl, _, hC2, ?_, same_over sm2 nC, ?_⟩
          · rw [ni_len]
            exact Nat.lt_of_le_of_lt gs_len (small1000 (by omega))
          · rw [upd_same, gs_succ, ed, if_pos c0, ni_app]
            rfl
        · have c0 : ¬ ds[i] ≤ m := fun z => c (decide_eq_true z)
          refine ⟨sm2, ?_⟩
          rw [hC2, gs_succ, ed, if_neg c0, List.append_nil]
      · rintro H4 ⟨sm, hC⟩
        rw [List.length_map] at hC
        refine k H4 C _ (s03.trans sm) (s03.free nC) hC ⟨(Lot.all _).filter _, fun i hi => ?_⟩
        rw [ex_moves hL hi, mv i hi]
        unfold gs
        rw [List.mem_filter, List.mem_range, decide_eq_true_eq]
        exact ⟨fun z => ⟨n0, n1, z.2⟩, fun z => ⟨hi, z.2.2⟩⟩
def spFast (K : PySem.W.Frag) : Sp := fun vs H Q _ => ∃ (v l : V) (h t m : Int) (ds : List Int) (L : List Nat), vs = [v, l, .int m] ∧ SeaA K H v h t ds ∧ LotA K H l L ∧ ds.length ≤ 1000 ∧ Lot ds.length L ∧ ∀ (H' : Hp) (p : Addr), Same H H' → H p = none → H' p = some (.lst (ni (L.filter fun i => decide (ds.getD i 0 > m)))) → Q (.ref p) H'
theorem ok_fast {k : Nat} (D : Df K mg "fast_ones" s_fast_ones) (T : Bt mg) : Ok P w K mg base (k + 1) "fast_ones" s_fast_ones ["sea", "standing", "mark"] (spFast K) := by
  refine D.ok sc_fast_ones b_fast_ones (fun vs H Q E h => ?_) (fun f cdv A outer s H vs Q E hr h => ?_)
  · obtain ⟨v, l, h, t, m, ds, L, rfl, _⟩ := h
    rfl
  · obtain ⟨v, l, h, t, m, ds, L, rfl, ⟨p, q, rfl, hp, hq⟩, ⟨pl, rfl, hl⟩, d1, hL, k⟩ := h
    have ll := hL.len
    refine ⟨_, (pss_cons (ps_set (i := 3) sc_fast_ones.nd rfl (.inr rfl) (pe_ix ix_lt (pv 0) pe_int (fun _ _ => rfl)))
      (pss_one (ps_ret (pe_lc (own := [("ship", 4)]) (g := (gName 4)) (by rfl) sc_fast_ones.nd (pi_seq (pv 1)) (blkOk_by (own := [("ship", 4)]) (N := (["sea", "standing", "mark", "draughts", "ship"] : List Str)) (sc := defScope s_fast_ones) (by decide +kernel)) (fun _ _ _ _ _ => (pg_name (i := 4) sc_fast_ones.nd rfl (.inl rfl))) (fun _ _ _ _ _ => (pts_one (pt_cmpR op_gt (pe_ix (ix_ltK K) (pv 3) (pv 4) (fun _ _ => rfl)) (pv 2) (nomark _)))) (fun _ _ _ _ _ => (pv 4)))))), ?_⟩
    refine ⟨_, rfl, p, _, 2, .ref q, rfl, rfl, hp, rfl, ?_⟩
    refine ⟨_, rfl, pl, _, H, rfl, hl, Kp.refl _ _, fun J hJ C nC => ?_⟩
    obtain ⟨G, g, W⟩ := hJ.walk
    refine lc_it W (fun j H' => Same H H' ∧ H' C = some (.lst (ni ((L.take j).filter fun i => decide (ds.getD i 0 > m))))) ⟨same_new nC, upd_same⟩ (fun j H' _ z => g H' (.ofS z.1)) ?_ ?_
    · rintro j x H1 H2 hj ⟨sm, hC⟩ ⟨rfl, gx⟩
      rw [ni_len] at hj
      obtain rfl : .int ((L[j] : Nat) : Int) = x := Option.some.inj ((ni_get hj).symm.trans gx)
      have hlt := hL.lt L[j] (List.getElem_mem hj)
      refine ⟨rfl, _, rfl, _, rfl, q, _, _, .int (ds.getD L[j] 0), rfl, rfl, Same.sqA sm hq, at_nat rfl (by simp [hlt]), _, rfl, _, _, rfl, rfl, _, rfl, ite2 (fun c => ?_) (fun c => ?_)⟩
      · refine ⟨_, rfl, _, hC, ?_, same_over sm nC, ?_⟩
        · rw [ni_len]
          have h1 := List.length_filter_le (fun i => decide (ds.getD i 0 > m)) (L.take j)
          rw [List.length_take] at h1
          exact small1000 (by omega)
        · rw [upd_same, take_succ_get hj, List.filter_append, ni_app, List.filter_cons_of_pos (p := fun i => decide (ds.getD i 0 > m)) c]
          rfl
      · refine ⟨sm, ?_⟩
        rw [hC, take_succ_get hj, List.filter_append, List.filter_cons_of_neg (p := fun i => decide (ds.getD i 0 > m)) c]
        simp
    · rintro H1 ⟨sm, hC⟩
      rw [ni_len, List.take_length] at hC
      exact k H1 C sm nC hC
theorem fast_eq {c : Nat} {L M : List Nat} (hL : Lot c L) (hM : Lot c M) (f : Nat → Bool) : (L.filter f).map (fun (i : Nat) => (i : Int)) = (M.filter f).map (fun (i : Nat) => (i : Int)) ↔ ∀ i, i < c → f i = true → mem M i = mem L i := by
  have fm : ∀ (X : List Nat) i, mem (X.filter f) i = (mem X i && f i) := fun X i => by
    unfold mem
    rw [Bool.eq_iff_iff, decide_eq_true_eq, List.mem_filter, Bool.and_eq_true, decide_eq_true_eq]
  constructor
  · intro e i hi hf
    have e2 := congrArg (List.map Int.toNat) e
    rw [List.map_map, List.map_map] at e2
    have e3 : (Int.toNat ∘ fun (i : Nat) => (i : Int)) = id := by
      funext i
      exact Int.toNat_natCast i
    rw [e3, List.map_id, List.map_id] at e2
    have a := fm L i
    have b := fm M i
    rw [e2, b, hf, Bool.and_true, Bool.and_true] at a
    exact a
  · intro q
    congr 1
    refine lot_ext (hL.filter _) (hM.filter _) fun i hi => ?_
    rw [fm, fm]
    cases e : f i with
    | false => rw [Bool.and_false, Bool.and_false]
    | true => rw [q i hi e]
theorem ok_comes {k : Nat} (D : Df K mg "comes_to" s_comes_to) (T : Bt mg) (O_lot_of : Ok P w K mg base k "lot_of" s_lot_of ["fleet"] (spLotOf K)) (O_fleet_of : Ok P w K mg base k "fleet_of" s_fleet_of ["sea", "standing"] (spFleetOf K))
    (O_mark_at : Ok P w K mg base k "mark_at" s_mark_at ["sea", "step"] (spMark K)) (O_fast_ones : Ok P w K mg base k "fast_ones" s_fast_ones ["sea", "standing", "mark"] (spFast K)) : Ok P w K mg base (k + 1) "comes_to" s_comes_to ["sea", "one", "other"] (spComes K) := by
  refine D.ok sc_comes_to b_comes_to (fun vs H Q E h => ?_) (fun f cdv A outer s H vs Q E hr h => ?_)
  · obtain ⟨v, l, m, h, t, ds, L, M, rfl, _⟩ := h
    rfl
  · obtain ⟨v, l, m, h, t, ds, L, M, rfl, hv, hl, hm, d1, d0, hL, hM, k⟩ := h
    have ho : ∀ i, ¬ i < ds.length → mem M i = mem L i := fun i hi => by rw [mem_out hL hi, mem_out hM hi]
    refine ⟨_, (pss_cons (ps_set (i := 3) sc_comes_to.nd rfl (.inl rfl) (pe_fn O_lot_of (hr.mono (by omega)) (pa_cons (pe_fn O_fleet_of (hr.mono (by omega)) (pa_cons (pv 0) (pa_cons (pv 1) pa_nil))) pa_nil)))
      (pss_cons (ps_if (pt_cmpR (op_neD hr.units) (pe_fn O_lot_of (hr.mono (by omega)) (pa_cons (pe_fn O_fleet_of (hr.mono (by omega)) (pa_cons (pv 0) (pa_cons (pv 2) pa_nil))) pa_nil)) (pv 3) (nomark _))
        (pss_one (ps_ret pe_bl))
        pss_nil)
      (pss_cons (ps_set (i := 4) sc_comes_to.nd rfl (.inl rfl) (pe_fn O_mark_at (hr.mono (by omega)) (pa_cons (pv 0) (pa_cons (pe_ix ix_lt (pv 3) pe_int (fun _ _ => rfl)) pa_nil))))
      (pss_one (ps_ret (pe_cmpR (op_eqD hr.units) (pe_fn O_fast_ones (hr.mono (by omega)) (pa_cons (pv 0) (pa_cons (pv 1) (pa_cons (pv 4) pa_nil)))) (pe_fn O_fast_ones (hr.mono (by omega)) (pa_cons (pv 0) (pa_cons (pv 2) (pa_cons (pv 4) pa_nil)))) (nomark _))))))), ?_⟩
    refine ⟨_, rfl, _, rfl, v, l, h, t, ds, L, rfl, hv, hl, d1, hL, fun H1 z ss s1 hz l1 r => ⟨z, h, t, ss, rfl, hz, l1, fun H2 p kd s s2 np hp lf => ?_⟩⟩
    have s02 := s1.trans s2
    have ls := lf.ships r d0
    refine ⟨_, rfl, _, rfl, v, m, h, t, ds, M, rfl, hv.same s02, hm.same s02, d1, hM, fun H3 z' ss' s3 hz' l1' r' => ⟨z', h, t, ss', rfl, hz', l1', fun H4 p' kd' s' s4 np' hp' lf' => ?_⟩⟩
    have s24 := s3.trans s4
    have s04 := s02.trans s24
    have ls' := lf'.ships r' d0
    have cm := ls.comes d0 ls' ho
    refine ⟨_, rfl, .tuple [.str kd'.str, .int s'], .tuple [.str kd.str, .int s], .tup (SqT.of hp') (.cons (.str _) (.cons (.int _) .nil)), .tup (SqT.of (s24 _ _ hp)) (.cons (.str _) (.cons (.int _) .nil)), shaped_lot _ _, shaped_lot _ _, _, rfl, ?_⟩
    rw [eqv_lot]
    by_cases e : kd = kd' ∧ s = s'
    · obtain ⟨e1, e2⟩ := e
      subst e1
      subst e2
      rw [decide_eq_true rfl, decide_eq_true rfl]
      refine iteF ?_
      refine ⟨_, rfl, _, rfl, p, _, 1, .int s, rfl, rfl, SqA.t (s24 _ _ hp), rfl, v, h, t, s, ds, rfl, (hv.same s04).a, ?_⟩
      refine ⟨_, rfl, _, rfl, _, rfl, v, l, h, t, _, ds, L, rfl, (hv.same s04).a, hl.same s04, by omega, hL, fun H5 a1 s5 na1 ha1 => ?_⟩
      have s05 := s04.trans s5
      refine ⟨_, rfl, _, rfl, _, rfl, v, m, h, t, _, ds, M, rfl, (hv.same s05).a, hm.same s05, by omega, hM, fun H6 a2 s6 na2 ha2 => ?_⟩
      refine ⟨_, _, dp_ni (s6 _ _ ha1), dp_ni ha2, shaped_ints _, shaped_ints _, ?_⟩
      rw [eqv_ints]
      refine k H6 _ (s05.trans s6) ?_
      rw [decide_eq_true_eq, fast_eq hL hM]
      refine Iff.trans ?_ cm.symm
      constructor
      · intro q
        exact ⟨⟨rfl, rfl⟩, fun i hi z => q i hi (decide_eq_true (by omega))⟩
      · rintro ⟨_, q⟩ i hi z
        have z' : ds.getD i 0 > mk h t ds.length s := of_decide_eq_true z
        exact q i hi (by show ¬ ds.getD i 0 ≤ _; omega)
    · have no : (decide (kd'.str = kd.str) && decide (s' = s)) = false := by
        rw [Bool.and_eq_false_iff, decide_eq_false_iff_not, decide_eq_false_iff_not]
        by_cases e1 : kd'.str = kd.str
        · exact .inr fun e2 => e ⟨(Kd.str_inj e1).symm, e2.symm⟩
        · exact .inl e1
      rw [no]
      refine iteT (k H4 false s04 ?_)
      exact ⟨fun z => (by cases z), fun z => absurd (cm.mp z).1 e⟩
end
end Sh

namespace Sh
open PySem PySem.Spec PyProof.Rows L2
/-! ### all that a standing comes to, layer by layer: the mathematics -/
def kL (L : List Nat) : List Key := L.map fun (i : Nat) => Sum.inl (i : Int)
theorem kL_ni (L : List Nat) : (kL L).map kV = ni L := by
  unfold kL ni
  rw [List.map_map]
  rfl
theorem kL_inj {L M : List Nat} (h : kL L = kL M) : L = M := by
  have e := congrArg (List.map fun k : Key => match k with | .inl i => i.toNat | .inr _ => 0) h
  unfold kL at e
  rw [List.map_map, List.map_map] at e
  have id' : ((fun k : Key => match k with | .inl i => i.toNat | .inr _ => 0) ∘ fun (i : Nat) => (Sum.inl (i : Int) : Key)) = id := by
    funext i
    exact Int.toNat_natCast i
  rw [id', List.map_id, List.map_id] at e
  exact e
/-- an entry: a standing, how far -/
def ent (p : List Nat × Nat) : List Key × V := (kL p.1, .int (p.2 : Int))
theorem val_none {F : List (List Nat × Nat)} {M : List Nat} : valV (F.map ent) (kL M) = none ↔ ¬ M ∈ F.map (·.1) := by
  induction F with
  | nil => exact ⟨fun _ h => (by cases h), fun _ => rfl⟩
  | cons p F ih =>
    rw [List.map_cons, List.map_cons]
    by_cases e : kL p.1 = kL M
    · rw [valV_pos e]
      exact ⟨fun h => (by cases h), fun h => absurd (by rw [kL_inj e]; exact List.mem_cons_self) h⟩
    · rw [valV_neg e, ih]
      have ne : M ≠ p.1 := fun z => e (by rw [z])
      rw [List.mem_cons]
      exact ⟨fun h z => z.elim ne h, fun h z => h (.inr z)⟩
theorem val_some {F : List (List Nat × Nat)} {M : List Nat} (h : M ∈ F.map (·.1)) : ∃ n : Nat, valV (F.map ent) (kL M) = some (.int (n : Int)) := by
  induction F with
  | nil => cases h
  | cons p F ih =>
    rw [List.map_cons]
    by_cases e : kL p.1 = kL M
    · exact ⟨p.2, by rw [valV_pos e]; rfl⟩
    · rw [valV_neg e]
      rcases List.mem_cons.mp h with z | z
      · exact absurd (by rw [z]) e
      · exact ih z
/-- all lots of so many ships -/
def allLots : Nat → List (List Nat)
  | 0 => [[]]
  | c + 1 => allLots c ++ (allLots c).map fun L => L ++ [c]
theorem allLots_len : ∀ c, (allLots c).length = 2 ^ c
  | 0 => rfl
  | c + 1 => by
    show (allLots c ++ (allLots c).map fun L => L ++ [c]).length = 2 ^ (c + 1)
    rw [List.length_append, List.length_map, allLots_len c, Nat.pow_succ]
    omega
theorem lot_all : ∀ {c : Nat} {L : List Nat}, Lot c L → L ∈ allLots c
  | 0, L, h => by
    cases L with
    | nil => exact List.mem_cons_self
    | cons a r => exact absurd (h.lt a List.mem_cons_self) (by omega)
  | c + 1, L, h => by
    show L ∈ allLots c ++ (allLots c).map fun L => L ++ [c]
    by_cases z : c ∈ L
    · refine List.mem_append.mpr (.inr (List.mem_map.mpr ⟨L.filter (fun i => decide (i < c)), lot_all ⟨h.up.filter _, fun i hi => of_decide_eq_true (List.mem_filter.mp hi).2⟩, ?_⟩))
      refine lot_ext (c := c + 1) ⟨List.pairwise_append.mpr ⟨h.up.filter _, List.pairwise_singleton _ _, fun a ha b hb => ?_⟩, fun i hi => ?_⟩ h fun i hi => ?_
      · rw [List.mem_singleton.mp hb]
        exact of_decide_eq_true (List.mem_filter.mp ha).2
      · rcases List.mem_append.mp hi with q | q
        · exact h.lt i (List.mem_filter.mp q).1
        · rw [List.mem_singleton.mp q]
          omega
      · unfold mem
        rw [decide_eq_decide, List.mem_append, List.mem_filter, List.mem_singleton, decide_eq_true_eq]
        constructor
        · rintro (q | q)
          · exact q.1
          · rw [q]; exact z
        · intro q
          by_cases e : i = c
          · exact .inr e
          · exact .inl ⟨q, by omega⟩
    · refine List.mem_append.mpr (.inl (lot_all ⟨h.up, fun i hi => ?_⟩))
      have := h.lt i hi
      have : i ≠ c := fun e => z (e ▸ hi)
      omega
theorem nodup_len {α : Type} [DecidableEq α] : ∀ {l m : List α}, l.Nodup → (∀ x ∈ l, x ∈ m) → l.length ≤ m.length
  | [], _, _, _ => Nat.zero_le _
  | a :: l, m, nd, h => by
    obtain ⟨n1, n2⟩ := List.nodup_cons.mp nd
    have ha := h a List.mem_cons_self
    have e := nodup_len (l := l) (m := m.erase a) n2 fun x hx => (List.mem_erase_of_ne (fun e : x = a => n1 (e ▸ hx))).mpr (h x (List.mem_cons_of_mem _ hx))
    rw [List.length_erase_of_mem ha] at e
    have : 0 < m.length := List.length_pos_iff.mpr (List.ne_nil_of_mem ha)
    rw [List.length_cons]
    omega
/-- what has been found so far -/
structure Lay (h t : Int) (ds : List Int) (L : List Nat) (F : List (List Nat × Nat)) : Prop where
  lot : ∀ M ∈ F.map (·.1), Lot ds.length M ∧ Rl h t ds L M
  nd : (F.map (·.1)).Nodup
  beg : L ∈ F.map (·.1)
theorem Lay.len {h t : Int} {ds : List Int} {L : List Nat} {F : List (List Nat × Nat)} (y : Lay h t ds L F) : F.length ≤ 2 ^ ds.length := by
  have := nodup_len y.nd (m := allLots ds.length) fun M hM => lot_all (y.lot M hM).1
  rw [List.length_map, allLots_len] at this
  exact this
theorem Lay.one {h t : Int} {ds : List Int} {L : List Nat} (hL : Lot ds.length L) : Lay h t ds L [(L, 0)] := ⟨fun M hM => by
  obtain rfl : M = L := List.mem_singleton.mp hM
  exact ⟨hL, .refl _⟩, by simp, List.mem_cons_self⟩
theorem Lay.add {h t : Int} {ds : List Int} {L : List Nat} {F : List (List Nat × Nat)} (y : Lay h t ds L F) {M : List Nat} {n : Nat} (a : Lot ds.length M) (b : Rl h t ds L M) (c : ¬ M ∈ F.map (·.1)) : Lay h t ds L (F ++ [(M, n)]) := by
  refine ⟨fun X hX => ?_, ?_, ?_⟩
  · rw [List.map_append] at hX
    rcases List.mem_append.mp hX with z | z
    · exact y.lot X z
    · obtain rfl : X = M := List.mem_singleton.mp z
      exact ⟨a, b⟩
  · rw [List.map_append]
    refine List.nodup_append.mpr ⟨y.nd, by simp, fun x hx z hz => ?_⟩
    have e : z = M := List.mem_singleton.mp hz
    exact fun q => c (by rw [← e, ← q]; exact hx)
  · rw [List.map_append]
    exact List.mem_append.mpr (.inl y.beg)
/-- closed under all crossings -/
def Closed (h t : Int) (ds : List Int) (X : List (List Nat)) : Prop := ∀ M ∈ X, ∀ i, i < ds.length → mayB h t ds M i = true → gone M i ∈ X
theorem Lay.all {h t : Int} {ds : List Int} {L : List Nat} {F : List (List Nat × Nat)} (y : Lay h t ds L F) (hL : Lot ds.length L) (c : Closed h t ds (F.map (·.1))) {M : List Nat} (hM : Lot ds.length M) : M ∈ F.map (·.1) ↔ Rl h t ds L M := by
  constructor
  · exact fun h => (y.lot M h).2
  · intro r
    have key : ∀ {U : Nat → Bool}, Th.Reach ds.length (Gof h t ds) (mem L) U → lotOf ds.length U ∈ F.map (·.1) := fun {U} r => by
      induction r with
      | refl =>
        rw [show lotOf ds.length (mem L) = L from lot_ext (lotOf_lot _ _) hL fun i hi => lotOf_mem hi]
        exact y.beg
      | @step B W rB st ih =>
        have eB := lotOf_eq hL rB
        have lB := lotOf_lot ds.length B
        have cB := cnt_mem lB
        rw [eB] at cB
        have fin : ∀ i, i < ds.length → Gof h t ds (if B i = true then Th.cnt ds.length B - 1 else Th.cnt ds.length B) i = true → lotOf ds.length (Th.flip B i) ∈ F.map (·.1) := fun i hi g => by
          have mb : mayB h t ds (lotOf ds.length B) i = true := by
            rw [may_May lB hi, eB]
            exact g
          have e : lotOf ds.length (Th.flip B i) = gone (lotOf ds.length B) i := lot_ext (lotOf_lot _ _) (gone_lot lB hi) fun j hj => by
            rw [lotOf_mem hj, gone_mem, eB]
          rw [e]
          exact c _ ih i hi mb
        cases st with
        | @up i hi hs hg => exact fin i hi (by rw [hs, if_neg Bool.false_ne_true]; exact hg)
        | @dn i hi hs hg => exact fin i hi (by rw [hs, if_pos rfl]; exact hg)
    have := key r
    rw [show lotOf ds.length (mem M) = M from lot_ext (lotOf_lot _ _) hM fun i hi => lotOf_mem hi] at this
    exact this
theorem shaped_lots (Ls : List (List Nat)) : SeqAt.shaped (.list (Ls.map fun M => .tuple ((M.map fun (i : Nat) => (i : Int)).map .int))) = true := by
  have a : PyData.canLayAll0 (Ls.map fun M => .tuple ((M.map fun (i : Nat) => (i : Int)).map .int)) = true ∧ PyData.depthAll (Ls.map fun M => .tuple ((M.map fun (i : Nat) => (i : Int)).map .int)) ≤ 1 := by
    induction Ls with
    | nil => exact ⟨rfl, Nat.zero_le _⟩
    | cons M Ls ih =>
      obtain ⟨l1, l2⟩ := lay_ints (M.map fun (i : Nat) => (i : Int))
      constructor
      · show (PyData.canLayAll0 ((M.map fun (i : Nat) => (i : Int)).map .int) && _) = true
        rw [l1, ih.1]
        rfl
      · show max (PyData.depthAll ((M.map fun (i : Nat) => (i : Int)).map .int) + 1) _ ≤ 1
        rw [l2]
        exact Nat.max_le.mpr ⟨Nat.le_refl _, ih.2⟩
  unfold SeqAt.shaped
  rw [show PyData.canLay0 (.list (Ls.map fun M => .tuple ((M.map fun (i : Nat) => (i : Int)).map .int))) = _ from a.1, show PyData.depth (.list (Ls.map fun M => .tuple ((M.map fun (i : Nat) => (i : Int)).map .int))) = PyData.depthAll (Ls.map fun M => .tuple ((M.map fun (i : Nat) => (i : Int)).map .int)) + 1 from rfl]
  have : PyData.depthAll (Ls.map fun M => .tuple ((M.map fun (i : Nat) => (i : Int)).map .int)) + 1 ≤ 64 := by omega
  simpa using this
theorem dp_lots {K : PySem.W.Frag} {H : Hp} : ∀ {Ls : List (Addr × List Nat)}, (∀ p ∈ Ls, H p.1 = some (.tup (ni p.2))) → DpAll K H (Ls.map fun p => V.ref p.1) ((Ls.map (·.2)).map fun M => .tuple ((M.map fun (i : Nat) => (i : Int)).map .int))
  | [], _ => .nil
  | p :: Ls, h => by
    refine .cons ?_ (dp_lots fun q hq => h q (List.mem_cons_of_mem _ hq))
    have e := h p List.mem_cons_self
    rw [ni_ints] at e
    exact .tup (SqT.of e) (DpAll.ints _)
theorem eqv_lnil (Ls : List PyData) : PyData.eqv (.list Ls) (.list []) = Ls.isEmpty := by cases Ls <;> rfl
end Sh

namespace Sh
open PySem PySem.Spec PyProof.Rows L2
/-! ### tuples put together, cut: one way out, whatever is empty -/
def rCatS (K : PySem.W.Frag) : R2 := fun x y H Q => ∃ a b xs ys, x = .ref a ∧ y = .ref b ∧ SqT K H a xs ∧ SqT K H b ys ∧ xs.length + ys.length ≤ sizeLine ∧ ∀ (r : Addr) (H' : Hp), Same H H' → SqT K H' r (xs ++ ys) → Q (.ref r) H'
theorem op_catS {X : Cx} : OpR X (binaryOp .Add) (rCatS X.K) := by
  intro pins s σ H x y v u Q I rx ry h
  obtain ⟨a, b, xs, ys, e1, e2, hx, hy, l, q⟩ := h
  refine op_catA pins s σ H x y v u Q I rx ry ⟨a, b, xs, ys, e1, e2, hx, hy, l, fun z => ?_, fun _ z => ?_, fun _ _ p np => q p _ (same_new np) (SqT.of upd_same)⟩
  · subst z
    exact q b H (Same.refl _) hy
  · subst z
    refine q a H (Same.refl _) ?_
    rw [List.append_nil]
    exact hx
theorem op_catSK (K : PySem.W.Frag) {X : Cx} (hK : X.K = K := by rfl) : OpR X (binaryOp .Add) (rCatS K) := hK ▸ op_catS
def rSlS (K : PySem.W.Frag) : V → Option Int → Option Int → Hp → VK → Prop := fun x lo hi H Q => ∃ a xs, x = .ref a ∧ SqT K H a xs ∧ ∀ (r : Addr) (H' : Hp), Same H H' → SqT K H' r (cutV xs lo hi) → Q (.ref r) H'
theorem sl_tupS {X : Cx} : SlR X (rSlS X.K) := by
  intro pins s σ H x v vl vu lo hi sl Q I rx hs pl pu h
  obtain ⟨a, xs, e, hx, q⟩ := h
  refine sl_tupA pins s σ H x v vl vu lo hi sl Q I rx hs pl pu ⟨a, xs, e, hx, fun w => q a H (Same.refl _) ?_, fun _ p np => q p _ (same_new np) (SqT.of upd_same)⟩
  unfold cutV
  rw [w.1, w.2, List.drop_zero, Nat.sub_zero, List.take_length]
  exact hx
theorem cut_drop (xs : List V) (l : Nat) : cutV xs (some (l : Int)) none = xs.drop l := by
  unfold cutV
  rw [HT.sIx_none, HT.sIx_nat]
  by_cases c : l ≤ xs.length
  · rw [Nat.min_eq_left c, List.take_of_length_le (by rw [List.length_drop]; exact Nat.le_refl _)]
  · rw [Nat.min_eq_right (by omega), List.drop_length, List.drop_of_length_le (by omega), List.take_nil]
/-- [x for x in xs if test], the test may lay new things -/
theorem lc_filterS {σ : L2.St} {H : Hp} {C : Addr} {vs : List Nat} {i : Nat} {tt : TT} {Qd : Hp → Prop} {X : List Nat} {J : It} {G : Hp → Prop} (p : Nat → Bool) (W : Walk J (ni X).length G (YAt (ni X))) (g : ∀ H', Same H H' → G H') (nC : H C = none) (lX : X.length ≤ 1000)
    (hw : ∀ v, wipe ((wipe σ vs).set i (some v)) vs = wipe σ vs) (hv : ∀ v : V, ((wipe σ vs).set i (some v))[i]? = some (some v))
    (ht : ∀ x ∈ X, ∀ H', Same H H' → ∀ Q : Bool → Hp → Prop, (∀ H2, Same H' H2 → Q (p x) H2) → tt ((wipe σ vs).set i (some (.int (x : Int)))) H' Q) (hd : ∀ H', Same H H' → H' C = some (.lst (ni (X.filter p))) → Qd H') :
    ∃ W : Nat → Nat → Hp → Prop, (∃ m, W 0 m (upd H C (.lst []))) ∧ ∀ j m H, W j m H →
      (J.stop j H ∧ Qd H) ∨ (J.go j H ∧ ∃ Nx : Hp → Prop, (∀ H', Nx H' → ∃ m', m' < m ∧ W (j + 1) m' H') ∧ ∀ x H', J.yld j H x H' → gName i x (wipe σ vs) H' fun σ2 H2 => wipe σ2 vs = wipe σ vs ∧ tt σ2 H2 fun b H3 =>
        if b = true then tVar i σ2 H3 fun y H4 => ∃ acc, H4 C = some (.lst acc) ∧ acc.length < sizeLine ∧ Nx (upd H4 C (.lst (acc ++ [y]))) else Nx H3) := by
  refine lc_it W (fun j H' => Same H H' ∧ H' C = some (.lst (ni ((X.take j).filter p)))) ⟨same_new nC, upd_same⟩ (fun j H' _ z => g H' z.1) ?_ ?_
  · rintro j x H3 H4 hj ⟨s3, hC⟩ ⟨rfl, gx⟩
    rw [ni_len] at hj
    obtain rfl : .int ((X[j] : Nat) : Int) = x := Option.some.inj ((ni_get hj).symm.trans gx)
    refine ⟨hw _, ht X[j] (List.getElem_mem hj) _ s3 _ fun H5 s5 => ?_⟩
    cases e : p X[j] with
    | true =>
      rw [if_pos rfl]
      refine ⟨_, hv _, _, s5 _ _ hC, ?_, same_over (s3.trans s5) nC, ?_⟩
      · rw [ni_len]
        have h1 := List.length_filter_le p (X.take j)
        rw [List.length_take] at h1
        exact small1000 (by omega)
      · rw [upd_same, take_succ_get hj, List.filter_append, ni_app, List.filter_cons_of_pos e]
        rfl
    | false =>
      rw [if_neg Bool.false_ne_true]
      refine ⟨s3.trans s5, ?_⟩
      rw [s5 _ _ hC, take_succ_get hj, List.filter_append, List.filter_cons_of_neg (by rw [e]; exact Bool.false_ne_true)]
      simp
  · rintro H3 ⟨s3, hC⟩
    rw [ni_len, List.take_length] at hC
    exact hd H3 s3 hC
end Sh

namespace Sh
open PySem PySem.Spec PyProof.Rows L2
/-- the two ints of a pair -/
def pairK (H : Hp) : V → Int × Int
  | .ref a => match H a with
    | some (.tup [.int u, .int v]) => (u, v)
    | _ => (0, 0)
  | _ => (0, 0)
theorem pairK_eq {H : Hp} {a : Addr} {u v : Int} (h : H a = some (.tup [.int u, .int v])) : pairK H (.ref a) = (u, v) := by
  show (match H a with
    | some (.tup [.int u, .int v]) => (u, v)
    | _ => (0, 0)) = (u, v)
  rw [h]
end Sh

namespace Sh
open PySem PySem.Spec PyProof.Rows L2
/-! ### pairs of a number and a ship, sorted -/
def PrsOf (H : Hp) (κ : Nat → Int) (ms : List Nat) (xs : List V) : Prop := xs.length = ms.length ∧ ∀ (i : Nat) (y : V), xs[i]? = some y → ∃ (a : Addr) (o : Nat), ms[i]? = some o ∧ y = .ref a ∧ H a = some (.tup [.int (κ o), .int (o : Int)])
theorem PrsOf.nil {H : Hp} {κ : Nat → Int} : PrsOf H κ [] [] := ⟨rfl, fun i y z => by simp at z⟩
theorem PrsOf.keep {H H' : Hp} {κ : Nat → Int} {ms : List Nat} {xs : List V} (h : PrsOf H κ ms xs) (e : ∀ a t, H a = some (.tup t) → H' a = some (.tup t)) : PrsOf H' κ ms xs :=
  ⟨h.1, fun i y z => let ⟨a, o, e1, e2, e3⟩ := h.2 i y z; ⟨a, o, e1, e2, e _ _ e3⟩⟩
theorem PrsOf.more {H H' : Hp} {κ : Nat → Int} {ms : List Nat} {xs : List V} {o : Nat} {tp : Addr} (h : PrsOf H κ ms xs) (e : ∀ a t, H a = some (.tup t) → H' a = some (.tup t)) (ht : H' tp = some (.tup [.int (κ o), .int (o : Int)])) : PrsOf H' κ (ms ++ [o]) (xs ++ [.ref tp]) := by
  refine ⟨by simp [h.1], fun i y z => ?_⟩
  by_cases c : i < xs.length
  · rw [List.getElem?_append_left c] at z
    obtain ⟨a, o', e1, e2, e3⟩ := h.2 i y z
    exact ⟨a, o', by rw [List.getElem?_append_left (by rw [← h.1]; exact c)]; exact e1, e2, e _ _ e3⟩
  · rw [List.getElem?_append_right (by omega)] at z
    have e0 : i - xs.length = 0 := by
      by_cases y : i - xs.length = 0
      · exact y
      · rw [List.getElem?_eq_none (by simp; omega)] at z
        cases z
    rw [e0] at z
    obtain rfl : V.ref tp = y := Option.some.inj z
    refine ⟨tp, o, ?_, rfl, ht⟩
    rw [List.getElem?_append_right (by rw [← h.1]; omega), ← h.1, e0]
    rfl
theorem PrsOf.tups {H : Hp} {κ : Nat → Int} {ms : List Nat} {xs : List V} (h : PrsOf H κ ms xs) : ∀ y ∈ xs, ∃ t, y = V.ref t ∧ H t = some (.tup [.int (pairK H y).1, .int (pairK H y).2]) := fun y hy => by
  obtain ⟨i, hi⟩ := List.getElem?_of_mem hy
  obtain ⟨a, o, _, e1, e2⟩ := h.2 i y hi
  refine ⟨a, e1, ?_⟩
  rw [e1, pairK_eq e2]
  exact e2
theorem PrsOf.sorted {H : Hp} {κ : Nat → Int} {ms : List Nat} {xs zs : List V} (h : PrsOf H κ ms xs) (srt : SrtO.Srtd (ltP (pairK H)) zs) (stb : SrtO.Stb (ltP (pairK H)) zs xs) : ∃ O : List Nat, O.Perm ms ∧ O.Pairwise (fun a o => κ a ≤ κ o) ∧ PrsOf H κ O zs := by
  have px : ∀ y ∈ xs, ∃ (a : Addr) (o : Nat), o ∈ ms ∧ y = .ref a ∧ H a = some (.tup [.int (κ o), .int (o : Int)]) := fun y hy => by
    obtain ⟨i, hi⟩ := List.getElem?_of_mem hy
    obtain ⟨a, o, e1, e2, e3⟩ := h.2 i y hi
    exact ⟨a, o, List.mem_of_getElem? e1, e2, e3⟩
  have pk : xs.map (fun y => (pairK H y).2.toNat) = ms := by
    refine List.ext_getElem? fun i => ?_
    rw [List.getElem?_map]
    have l := h.1
    cases hx : xs[i]? with
    | none =>
      have := List.getElem?_eq_none_iff.mp hx
      rw [List.getElem?_eq_none (by omega)]
      rfl
    | some y =>
      obtain ⟨a, o, e1, rfl, e3⟩ := h.2 i y hx
      show some (pairK H (.ref a)).2.toNat = _
      rw [pairK_eq e3, e1]
      rfl
  have pz : ∀ y ∈ zs, ∃ (a : Addr) (o : Nat), o ∈ ms ∧ y = .ref a ∧ H a = some (.tup [.int (κ o), .int (o : Int)]) := fun y hy => px y (stb.perm.mem_iff.mp hy)
  refine ⟨zs.map fun y => (pairK H y).2.toNat, ?_, ?_, by rw [List.length_map], fun i y z => ?_⟩
  · rw [← pk]
    exact stb.perm.map _
  · rw [List.pairwise_map]
    refine List.Pairwise.imp_of_mem (fun {x y} hx hy z => ?_) srt
    obtain ⟨a1, o1, _, rfl, e1⟩ := pz x hx
    obtain ⟨a2, o2, _, rfl, e2⟩ := pz y hy
    have := SrtO.lexB_no.mp z
    rw [pairK_eq e1, pairK_eq e2] at this ⊢
    simp only [Int.toNat_natCast]
    dsimp only at this
    omega
  · obtain ⟨a, o, _, rfl, e2⟩ := pz y (List.mem_of_getElem? z)
    refine ⟨a, o, ?_, rfl, e2⟩
    rw [List.getElem?_map, z]
    show some (pairK H (.ref a)).2.toNat = _
    rw [pairK_eq e2]
    rfl
end Sh

namespace Sh
open PySem PySem.Spec PyProof.Rows L2
/-! ### comprehensions in short -/
/-- [x for x in xs if test], xs ships: those of whom the test says p -/
theorem lc_filter {σ : L2.St} {H : Hp} {C : Addr} {vs : List Nat} {i : Nat} {tt : TT} {Qd : Hp → Prop} {X : List Nat} {J : It} {G : Hp → Prop} (p : Nat → Bool) (W : Walk J (ni X).length G (YAt (ni X))) (g : ∀ H', Same H H' → G H') (nC : H C = none) (lX : X.length ≤ 1000)
    (hw : ∀ v, wipe ((wipe σ vs).set i (some v)) vs = wipe σ vs) (hv : ∀ v : V, ((wipe σ vs).set i (some v))[i]? = some (some v))
    (ht : ∀ x ∈ X, ∀ H', Same H H' → ∀ Q : Bool → Hp → Prop, Q (p x) H' → tt ((wipe σ vs).set i (some (.int (x : Int)))) H' Q) (hd : ∀ H', Same H H' → H' C = some (.lst (ni (X.filter p))) → Qd H') :
    ∃ W : Nat → Nat → Hp → Prop, (∃ m, W 0 m (upd H C (.lst []))) ∧ ∀ j m H, W j m H →
      (J.stop j H ∧ Qd H) ∨ (J.go j H ∧ ∃ Nx : Hp → Prop, (∀ H', Nx H' → ∃ m', m' < m ∧ W (j + 1) m' H') ∧ ∀ x H', J.yld j H x H' → gName i x (wipe σ vs) H' fun σ2 H2 => wipe σ2 vs = wipe σ vs ∧ tt σ2 H2 fun b H3 =>
        if b = true then tVar i σ2 H3 fun y H4 => ∃ acc, H4 C = some (.lst acc) ∧ acc.length < sizeLine ∧ Nx (upd H4 C (.lst (acc ++ [y]))) else Nx H3) := by
  refine lc_it W (fun j H' => Same H H' ∧ H' C = some (.lst (ni ((X.take j).filter p)))) ⟨same_new nC, upd_same⟩ (fun j H' _ z => g H' z.1) ?_ ?_
  · rintro j x H3 H4 hj ⟨s3, hC⟩ ⟨rfl, gx⟩
    rw [ni_len] at hj
    obtain rfl : .int ((X[j] : Nat) : Int) = x := Option.some.inj ((ni_get hj).symm.trans gx)
    refine ⟨hw _, ht X[j] (List.getElem_mem hj) _ s3 _ ?_⟩
    cases e : p X[j] with
    | true =>
      rw [if_pos rfl]
      refine ⟨_, hv _, _, hC, ?_, same_over s3 nC, ?_⟩
      · rw [ni_len]
        have h1 := List.length_filter_le p (X.take j)
        rw [List.length_take] at h1
        exact small1000 (by omega)
      · rw [upd_same, take_succ_get hj, List.filter_append, ni_app, List.filter_cons_of_pos e]
        rfl
    | false =>
      rw [if_neg Bool.false_ne_true]
      refine ⟨s3, ?_⟩
      rw [hC, take_succ_get hj, List.filter_append, List.filter_cons_of_neg (by rw [e]; exact Bool.false_ne_true)]
      simp
  · rintro H3 ⟨s3, hC⟩
    rw [ni_len, List.take_length] at hC
    exact hd H3 s3 hC
/-- all ships below n, as range walks them -/
theorem walk_rg (n : Nat) : Walk (Itr 0 n) (ni (List.range n)).length (fun _ => True) (YAt (ni (List.range n))) := by
  have e : (ni (List.range n)).length = n := by rw [ni_len, List.length_range]
  rw [e]
  refine ⟨fun _ _ hi _ => hi, fun _ _ => Nat.le_refl _, fun i H x H' hi _ y => ⟨y.1, ?_⟩⟩
  rw [ni_get (by rw [List.length_range]; exact hi), y.2, List.getElem_range, Int.zero_add]
/-- truths, one a ship: all([..]) -/
theorem lc_truths {σ : L2.St} {H : Hp} {C : Addr} {vs : List Nat} {i : Nat} {te : TE} {Qd : Hp → Prop} {X : List Nat} {J : It} {G : Hp → Prop} (W : Walk J (ni X).length G (YAt (ni X))) (g : ∀ H', Same H H' → G H') (nC : H C = none) (lX : X.length ≤ 1000)
    (hw : ∀ v, wipe ((wipe σ vs).set i (some v)) vs = wipe σ vs)
    (ht : ∀ x ∈ X, ∀ H', Same H H' → ∀ Q : V → Hp → Prop, (∀ H2, Same H' H2 → Q (.bl true) H2) → te ((wipe σ vs).set i (some (.int (x : Int)))) H' Q) (hd : ∀ H', Same H H' → H' C = some (.lst ((List.replicate X.length true).map V.bl)) → Qd H') :
    ∃ W : Nat → Nat → Hp → Prop, (∃ m, W 0 m (upd H C (.lst []))) ∧ ∀ j m H, W j m H →
      (J.stop j H ∧ Qd H) ∨ (J.go j H ∧ ∃ Nx : Hp → Prop, (∀ H', Nx H' → ∃ m', m' < m ∧ W (j + 1) m' H') ∧ ∀ x H', J.yld j H x H' → gName i x (wipe σ vs) H' fun σ2 H2 => wipe σ2 vs = wipe σ vs ∧ tYes σ2 H2 fun b H3 =>
        if b = true then te σ2 H3 fun y H4 => ∃ acc, H4 C = some (.lst acc) ∧ acc.length < sizeLine ∧ Nx (upd H4 C (.lst (acc ++ [y]))) else Nx H3) := by
  refine lc_it W (fun j H' => Same H H' ∧ H' C = some (.lst ((List.replicate j true).map V.bl))) ⟨same_new nC, upd_same⟩ (fun j H' _ z => g H' z.1) ?_ ?_
  · rintro j x H3 H4 hj ⟨s3, hC⟩ ⟨rfl, gx⟩
    rw [ni_len] at hj
    obtain rfl : .int ((X[j] : Nat) : Int) = x := Option.some.inj ((ni_get hj).symm.trans gx)
    refine ⟨hw _, tyes (iteT (ht X[j] (List.getElem_mem hj) _ s3 _ fun H5 s5 => ?_))⟩
    refine ⟨_, s5 _ _ hC, ?_, same_over (s3.trans s5) nC, ?_⟩
    · rw [List.length_map, List.length_replicate]
      exact small1000 (by omega)
    · rw [upd_same, List.replicate_succ', List.map_append]
      rfl
  · rintro H3 ⟨s3, hC⟩
    rw [ni_len] at hC
    exact hd H3 s3 hC
theorem all_true (n : Nat) : (List.replicate n true).all id = true := by simp
end Sh

namespace Sh
open PySem PySem.Spec PyProof.Rows L2
/-! ### what is told: seas and standings -/
/-- a standing told: a tuple that is read -/
def LotT (K : PySem.W.Frag) (H : Hp) (v : V) (L : List Nat) : Prop := ∃ p, v = .ref p ∧ SqT K H p (ni L)
theorem LotT.a {K : PySem.W.Frag} {H : Hp} {v : V} {L : List Nat} (h : LotT K H v L) : LotA K H v L := let ⟨p, e, q⟩ := h; ⟨p, e, .inr q⟩
theorem LotT.same {K : PySem.W.Frag} {H H' : Hp} {v : V} {L : List Nat} (h : LotT K H v L) (s : Same H H') : LotT K H' v L := let ⟨p, e, q⟩ := h; ⟨p, e, Same.tup s q⟩
theorem tup_but {K : PySem.W.Frag} {H H' : Hp} {b p : Addr} {n : Nat} {xs : List V} (q : SqT K H p xs) (x : BoxAt H b n) (u : But b H H') : SqT K H' p xs := by
  obtain ⟨ys, hb, _⟩ := x
  rcases q with (q | ⟨o, q⟩) | q
  · exact .inl (.inl (u _ _ (ne_of q hb (by intro z; cases z)) q))
  · exact .inl (.inr ⟨o, u _ _ (ne_of q hb (by intro z; cases z)) q⟩)
  · exact .inr q
theorem LotT.but {K : PySem.W.Frag} {H H' : Hp} {b : Addr} {n : Nat} {v : V} {L : List Nat} (h : LotT K H v L) (x : BoxAt H b n) (u : But b H H') : LotT K H' v L := let ⟨p, e, q⟩ := h; ⟨p, e, tup_but q x u⟩
theorem LotT.dp {K : PySem.W.Frag} {H : Hp} {v : V} {L : List Nat} (h : LotT K H v L) : Dp K H v (.tuple ((L.map fun (i : Nat) => (i : Int)).map .int)) := by
  obtain ⟨p, e, q⟩ := h
  rw [e]
  rw [ni_ints] at q
  exact .tup q (DpAll.ints _)
/-- a sea told -/
def SeaT (K : PySem.W.Frag) (H : Hp) (v : V) (h t : Int) (ds : List Int) : Prop := ∃ p q, v = .ref p ∧ SqT K H p [.int h, .int t, .ref q] ∧ SqT K H q (ds.map V.int)
theorem SeaT.a {K : PySem.W.Frag} {H : Hp} {v : V} {h t : Int} {ds : List Int} (s : SeaT K H v h t ds) : SeaA K H v h t ds := let ⟨p, q, e, a, b⟩ := s; ⟨p, q, e, .inr a, .inr b⟩
theorem SeaT.same {K : PySem.W.Frag} {H H' : Hp} {v : V} {h t : Int} {ds : List Int} (s : SeaT K H v h t ds) (e : Same H H') : SeaT K H' v h t ds := let ⟨p, q, e1, a, b⟩ := s; ⟨p, q, e1, Same.tup e a, Same.tup e b⟩
theorem SeaT.but {K : PySem.W.Frag} {H H' : Hp} {b : Addr} {n : Nat} {v : V} {h t : Int} {ds : List Int} (s : SeaT K H v h t ds) (x : BoxAt H b n) (u : But b H H') : SeaT K H' v h t ds := let ⟨p, q, e1, a, c⟩ := s; ⟨p, q, e1, tup_but a x u, tup_but c x u⟩
theorem SeaT.dp {K : PySem.W.Frag} {H : Hp} {v : V} {h t : Int} {ds : List Int} (s : SeaT K H v h t ds) : Dp K H v (.tuple [.int h, .int t, .tuple (ds.map .int)]) := by
  obtain ⟨p, q, e, a, b⟩ := s
  rw [e]
  exact .tup a (.cons (.int _) (.cons (.int _) (.cons (.tup b (DpAll.ints _)) .nil)))
theorem lv_sea {n : Nat} {h t : Int} {ds : List Int} (l : ds.length ≤ 100000) : Lv (n + 3) (.tuple [.int h, .int t, .tuple (ds.map .int)]) := ⟨by show 3 ≤ 100000; decide, fun e he => by
  rcases List.mem_cons.mp he with z | z
  · rw [z]; exact trivial
  · rcases List.mem_cons.mp z with z | z
    · rw [z]; exact trivial
    · rw [List.mem_singleton.mp z]; exact lv_intsT _ l⟩
theorem lv_lot {n : Nat} {L : List Nat} (l : L.length ≤ 100000) : Lv (n + 2) (.tuple ((L.map fun (i : Nat) => (i : Int)).map .int)) := lv_intsT _ (by rw [List.length_map]; exact l)
end Sh

namespace Th
section
variable {k : Nat} {G : Nat → Nat → Bool} {S U : Nat → Bool}
/-- what lies beyond the ships doesn't matter -/
theorem Reach.ext (h : Reach k G S U) : ∀ {S' U' : Nat → Bool}, (∀ i, i < k → S' i = S i) → (∀ i, i < k → U' i = U i) → (∀ i, ¬ i < k → U' i = S' i) → Reach k G S' U' := by
  induction h with
  | refl =>
    intro S' U' a b c
    have : U' = S' := by
      funext i
      by_cases hi : i < k
      · rw [b i hi, a i hi]
      · exact c i hi
    rw [this]
    exact .refl _
  | @step B W r s ih =>
    intro S' U' a b c
    have r' := ih (S' := S') (U' := fun i => if i < k then B i else S' i) a (fun i hi => by show (if i < k then B i else S' i) = B i; rw [if_pos hi]) (fun i hi => by show (if i < k then B i else S' i) = S' i; rw [if_neg hi])
    refine r'.step ?_
    have cB : cnt k (fun i => if i < k then B i else S' i) = cnt k B := cnt_congr fun i hi => by show (if i < k then B i else S' i) = B i; rw [if_pos hi]
    have fl : ∀ i, i < k → W = flip B i → U' = flip (fun i => if i < k then B i else S' i) i := fun i hi e => by
      funext j
      by_cases hj : j < k
      · rw [b j hj, e]
        by_cases z : j = i
        · subst z
          rw [flip_self, flip_self]
          show _ = !(if j < k then B j else S' j)
          rw [if_pos hj]
        · rw [flip_ne _ z, flip_ne _ z]
          show _ = (if j < k then B j else S' j)
          rw [if_pos hj]
      · rw [c j hj, flip_ne _ (show j ≠ i by omega)]
        show _ = (if j < k then B j else S' j)
        rw [if_neg hj]
    cases s with
    | @up i hi hs hg =>
      rw [fl i hi rfl]
      exact .up hi (by show (if i < k then B i else S' i) = false; rw [if_pos hi]; exact hs) (by rw [cB]; exact hg)
    | @dn i hi hs hg =>
      rw [fl i hi rfl]
      exact .dn hi (by show (if i < k then B i else S' i) = true; rw [if_pos hi]; exact hs) (by rw [cB]; exact hg)
end
end Th
namespace Sh
open PySem PySem.Spec PyProof.Rows L2
theorem away_away {c : Nat} {L : List Nat} (h : Lot c L) : away c (away c L) = L := lot_ext (away_lot c _) h fun i hi => by rw [mem_away hi, mem_away hi, Bool.not_not]
theorem away_len {c : Nat} {L : List Nat} (h : Lot c L) : (away c L).length + L.length = c := by
  rw [← cnt_mem h, ← cnt_mem (away_lot c L), Th.cnt_congr (S := mem (away c L)) (U := Th.co (mem L)) fun i hi => mem_away hi]
  have := Th.cnt_co c (mem L)
  omega
theorem gof_turn {h t : Int} {ds : List Int} {s i : Nat} (hs : s < ds.length) : Th.dual ds.length (Gof h t ds) s i = Gof t h ds s i := by
  unfold Th.dual Gof
  rw [mk_turn hs]
theorem rl_turn {h t : Int} {ds : List Int} {L M : List Nat} (hL : Lot ds.length L) (hM : Lot ds.length M) (r : Rl h t ds L M) : Rl t h ds (away ds.length L) (away ds.length M) := by
  have r2 := (Th.Reach.dual r).congr (G' := Gof t h ds) fun s i hs => gof_turn hs
  exact r2.ext (fun i hi => mem_away hi) (fun i hi => mem_away hi) (fun i hi => by rw [mem_out (away_lot _ _) hi, mem_out (away_lot _ _) hi])
theorem near_away {c : Nat} {L : List Nat} (h : Lot c L) {i : Nat} (hi : i < c) : near (away c L) i = c - 1 - near L i := by
  have l1 := away_len h
  have l2 := h.len
  rw [near_cnt h hi, near_cnt (away_lot c L) hi]
  have m := mem_away (L := L) hi
  unfold mem at m
  by_cases z : i ∈ L
  · have z2 : ¬ i ∈ away c L := fun q => by rw [decide_eq_true q, decide_eq_true z] at m; cases m
    have lp : 0 < L.length := List.length_pos_iff.mpr (List.ne_nil_of_mem z)
    rw [if_pos z, if_neg z2]
    omega
  · have z2 : i ∈ away c L := by
      rw [decide_eq_false z] at m
      exact of_decide_eq_true m
    rw [if_neg z, if_pos z2]
    omega
theorem may_turn {h t : Int} {ds : List Int} {L : List Nat} (hL : Lot ds.length L) {i : Nat} (hi : i < ds.length) : mayB t h ds (away ds.length L) i = mayB h t ds L i := by
  rw [may_G, may_G, near_away hL hi]
  have hn : near L i < ds.length := by
    have l2 := hL.len
    rw [near_cnt hL hi]
    split
    · omega
    · rename_i z
      have : L.length ≠ ds.length := fun e => by
        have l1 := away_len hL
        have e0 : away ds.length L = [] := List.eq_nil_of_length_eq_zero (by omega)
        have m := mem_away (L := L) hi
        unfold mem at m
        rw [e0, decide_eq_false z] at m
        simp at m
      omega
  unfold Gof
  rw [mk_turn (h := h) (t := t) (by omega), show ds.length - 1 - (ds.length - 1 - near L i) = near L i by omega]
theorem most_turn {h t : Int} {ds : List Int} {L : List Nat} {m : Nat} (hL : Lot ds.length L) (a : IsLeast h t ds L m) : IsMost t h ds (away ds.length L) (ds.length - m) := by
  obtain ⟨⟨M, l1, r1, e1⟩, h1⟩ := a
  refine ⟨⟨away ds.length M, away_lot _ _, rl_turn hL l1 r1, ?_⟩, fun M' l2 r2 => ?_⟩
  · have := away_len l1
    omega
  · have r3 := rl_turn (away_lot _ _) l2 r2
    rw [away_away hL] at r3
    have := h1 _ (away_lot _ _) r3
    have := away_len l2
    omega
theorem least_turn {h t : Int} {ds : List Int} {L : List Nat} {m : Nat} (hL : Lot ds.length L) (a : IsMost h t ds L m) : IsLeast t h ds (away ds.length L) (ds.length - m) := by
  obtain ⟨⟨M, l1, r1, e1⟩, h1⟩ := a
  refine ⟨⟨away ds.length M, away_lot _ _, rl_turn hL l1 r1, ?_⟩, fun M' l2 r2 => ?_⟩
  · have := away_len l1
    omega
  · have r3 := rl_turn (away_lot _ _) l2 r2
    rw [away_away hL] at r3
    have := h1 _ (away_lot _ _) r3
    have := away_len l2
    omega
theorem movers_turn {h t : Int} {ds : List Int} {L ms : List Nat} (hL : Lot ds.length L) (a : IsMovers h t ds L ms) : IsMovers t h ds (away ds.length L) ms := by
  refine ⟨a.1, fun i hi => ?_⟩
  rw [a.2 i hi]
  constructor
  · rintro ⟨M, l, r, m⟩
    exact ⟨away ds.length M, away_lot _ _, rl_turn hL l r, by rw [may_turn l hi]; exact m⟩
  · rintro ⟨M, l, r, m⟩
    have r3 := rl_turn (away_lot _ _) l r
    rw [away_away hL] at r3
    exact ⟨away ds.length M, away_lot _ _, r3, by rw [may_turn l hi]; exact m⟩
/-! ### rows of crossings -/
def goes (h t : Int) (ds : List Int) : List Nat → List Nat → Option (List Nat)
  | L, [] => some L
  | L, i :: r => if i < ds.length ∧ mayB h t ds L i = true then goes h t ds (gone L i) r else none
theorem goes_app {h t : Int} {ds : List Int} : ∀ {r : List Nat} {L M : List Nat} (s : List Nat), goes h t ds L r = some M → goes h t ds L (r ++ s) = goes h t ds M s
  | [], L, M, s, e => by
    cases e
    rfl
  | i :: r, L, M, s, e => by
    unfold goes at e
    by_cases c : i < ds.length ∧ mayB h t ds L i = true
    · rw [if_pos c] at e
      show (if i < ds.length ∧ mayB h t ds L i = true then goes h t ds (gone L i) (r ++ s) else none) = _
      rw [if_pos c]
      exact goes_app s e
    · rw [if_neg c] at e
      cases e
theorem goes_rl {h t : Int} {ds : List Int} : ∀ {r : List Nat} {L M : List Nat}, Lot ds.length L → goes h t ds L r = some M → Lot ds.length M ∧ Rl h t ds L M
  | [], L, M, hL, e => by
    cases e
    exact ⟨hL, .refl _⟩
  | i :: r, L, M, hL, e => by
    unfold goes at e
    by_cases c : i < ds.length ∧ mayB h t ds L i = true
    · rw [if_pos c] at e
      obtain ⟨a, b⟩ := goes_rl (gone_lot hL c.1) e
      exact ⟨a, (rl_one hL c.1 c.2).trans b⟩
    · rw [if_neg c] at e
      cases e
theorem gone_gone {c : Nat} {L : List Nat} {i : Nat} (hL : Lot c L) (hi : i < c) : gone (gone L i) i = L := lot_ext (gone_lot (gone_lot hL hi) hi) hL fun j _ => by rw [gone_mem, gone_mem, Th.flip_flip]
theorem goes_back {h t : Int} {ds : List Int} : ∀ {r : List Nat} {L M : List Nat}, Lot ds.length L → goes h t ds L r = some M → goes h t ds M r.reverse = some L
  | [], L, M, hL, e => by
    cases e
    rfl
  | i :: r, L, M, hL, e => by
    unfold goes at e
    by_cases c : i < ds.length ∧ mayB h t ds L i = true
    · rw [if_pos c] at e
      have b := goes_back (gone_lot hL c.1) e
      rw [List.reverse_cons, goes_app [i] b]
      show (if i < ds.length ∧ mayB h t ds (gone L i) i = true then goes h t ds (gone (gone L i) i) [] else none) = _
      have m : mayB h t ds (gone L i) i = true := by rw [may_G, may_back (h := h) (t := t) hL c.1, ← may_G]; exact c.2
      rw [if_pos ⟨c.1, m⟩, gone_gone hL c.1]
      rfl
    · rw [if_neg c] at e
      cases e
theorem SeaT.d {K : PySem.W.Frag} {H : Hp} {v : V} {h t : Int} {ds : List Int} (s : SeaT K H v h t ds) : SeaD K H v h t ds := let ⟨p, q, e, a, b⟩ := s; ⟨p, q, e, .inr a, b⟩
def spOther (K : PySem.W.Frag) : Sp := fun vs H Q _ => ∃ (v l : V) (h t : Int) (ds : List Int) (L : List Nat), vs = [v, l] ∧ SeaA K H v h t ds ∧ LotA K H l L ∧ ds.length ≤ 100 ∧ Lot ds.length L ∧ ∀ (H' : Hp) (r : V), Same H H' → LotT K H' r (away ds.length L) → Q r H'
def spTurned (K : PySem.W.Frag) : Sp := fun vs H Q _ => ∃ (v : V) (h t : Int) (ds : List Int), vs = [v] ∧ SeaA K H v h t ds ∧ ds.length ≤ 100 ∧ ∀ (H' : Hp) (r : V), Same H H' → SeaT K H' r t h ds → Q r H'
/-- a row of ships is handed in: all may go -/
def spCrossedAll (K : PySem.W.Frag) : Sp := fun vs H Q _ => ∃ (v l r : V) (h t : Int) (ds : List Int) (L M row : List Nat), vs = [v, l, r] ∧ SeaA K H v h t ds ∧ LotA K H l L ∧ LotA K H r row ∧ ds.length ≤ 100 ∧ row.length ≤ 1000 ∧ Lot ds.length L ∧ goes h t ds L row = some M ∧
  ∀ (H' : Hp) (z : V), Same H H' → LotT K H' z M → Q z H'
end Sh

namespace Sh
open PySem PySem.Spec PyProof.Rows L2
/-! ### the law's own look at a sea: marks, in one row -/
def spMarks (K : PySem.W.Frag) : Sp := fun vs H Q _ => ∃ (v : V) (h t : Int) (ds : List Int), vs = [v] ∧ SeaA K H v h t ds ∧ ds.length ≤ 60 ∧ ∀ (H' : Hp) (p : Addr), Same H H' → H p = none → H' p = some (.lst ((ml h t ds.length ds.length).map V.int)) → Q (.ref p) H'
abbrev s__law_marks : Stmt := topS 41
theorem sc__law_marks : FnScope (["_law_pool", "_law_at"] : List Str) (["_law_pool"] : List Str) (defScope s__law_marks) := ⟨rfl, rfl, rfl, by decide +kernel, rfl, by decide +kernel, by decide +kernel⟩
theorem b__law_marks (kV doc pm : Value) (an : Option Addr) (cdv ct : Value) (us : List Value) (hl : us.length = (["_law_pool"] : List Str).length) : bindArgs (PySem.W.fnOf "_law_marks" "_law_marks" (defArgs s__law_marks) (defBody s__law_marks) (defScope s__law_marks) .none kV doc pm an cdv ct) ⟨us, []⟩ = pure ((["_law_pool"] : List Str).zip us) :=
  match us, hl with | [_], _ => rfl
section
variable {P : Program} {w : World} {K : PySem.W.Frag} {mg : Str → Option Value} {base : Heap}
theorem ok_lmarks {k : Nat} (D : Df K mg "_law_marks" s__law_marks) (T : Bt mg) : Ok P w K mg base (k + 1) "_law_marks" s__law_marks ["_law_pool"] (spMarks K) := by
  refine D.ok sc__law_marks b__law_marks (fun vs H Q E h => ?_) (fun f cdv A outer s H vs Q E hr h => ?_)
  · obtain ⟨v, h, t, ds, rfl, _⟩ := h
    rfl
  · obtain ⟨v, h, t, ds, rfl, ⟨p, q, rfl, hp, hq⟩, d60, k1⟩ := h
    refine ⟨_, (pss_one (ps_ret (pe_lc (own := [("_law_at", 1)]) (g := (gName 1)) (tt := tYes) (by rfl) sc__law_marks.nd (pi_range1 (by rfl) T.range_ (pa_cons (pe_callB call_len_seq (by rfl) T.len_ PySem.boot_len (pa_cons (pe_ix ix_lt (pv 0) pe_int (fun _ _ => rfl)) pa_nil)) pa_nil)) (blkOk_by (own := [("_law_at", 1)]) (N := (["_law_pool", "_law_at"] : List Str)) (sc := defScope s__law_marks) (by decide +kernel)) (fun _ _ _ _ _ => (pg_name (i := 1) sc__law_marks.nd rfl (.inl rfl))) (fun _ _ _ _ _ => pts_nil) (fun _ _ _ _ _ => (pe_callB (call_min2 rfl) (by rfl) T.min_ (by decide +kernel) (pa_cons (pe_op op_add (pe_ix (ix_ltK K) (pv 0) pe_int (fun _ _ => rfl)) (pv 1)) (pa_cons (pe_op op_sub (pe_op op_sub (pe_op op_add (pe_ix (ix_ltK K) (pv 0) pe_int (fun _ _ => rfl)) (pe_callB (call_lenK K) (by rfl) T.len_ PySem.boot_len (pa_cons (pe_ix (ix_ltK K) (pv 0) pe_int (fun _ _ => rfl)) pa_nil))) pe_int) (pv 1)) pa_nil))))))), ?_⟩
    refine ⟨_, rfl, p, _, 2, .ref q, rfl, rfl, hp, rfl, q, _, rfl, hq, ((ds.length : Nat) : Int), by rw [List.length_map], by omega, by omega, fun C nC => ?_⟩
    refine lc_range (fun j H3 => Same H H3 ∧ H3 C = some (.lst ((ml h t ds.length j).map V.int))) ⟨same_new nC, upd_same⟩ ?_ ?_
    · rintro j H3 hj ⟨sm, hC⟩
      rw [Int.toNat_natCast] at hj
      refine ⟨rfl, tyes (iteT ?_)⟩
      refine ⟨_, rfl, p, _, 0, .int h, rfl, rfl, Same.sqA sm hp, rfl, _, rfl, h, _, rfl, rfl, _, rfl, p, _, 1, .int t, rfl, rfl, Same.sqA sm hp, rfl, _, rfl, p, _, 2, .ref q, rfl, rfl, Same.sqA sm hp, rfl, q, _, rfl, Same.sqA sm hq, ?_⟩
      rw [List.length_map]
      refine ⟨t, _, rfl, rfl, _, 1, rfl, rfl, _, rfl, _, _, rfl, rfl, _, _, rfl, ?_⟩
      refine ⟨_, hC, ?_, same_over sm nC, ?_⟩
      · rw [List.length_map, ml_len]
        exact small1000 (by omega)
      · rw [upd_same, ml_succ, List.map_append]
        have e := (mk_alt h t ds.length (0 + (j : Int))).trans (congrArg (mk h t ds.length) (Int.zero_add (j : Int)))
        exact congrArg (fun z => some (HO.lst ((ml h t ds.length j).map V.int ++ [V.int z]))) e
    · rintro H3 ⟨sm, hC⟩
      rw [Int.toNat_natCast] at hC
      exact k1 H3 C sm nC hC
end
end Sh

namespace Sh
open PySem PySem.Spec PyProof.Rows L2
def spGoL (K : PySem.W.Frag) : Sp := fun vs H Q _ => ∃ (v : V) (h t s : Int) (ds : List Int), vs = [v, .int s] ∧ SeaA K H v h t ds ∧ ds.length ≤ 60 ∧ ∀ (H' : Hp) (p : Addr), Same H H' → H p = none → H' p = some (.lst (ni (gs (mk h t ds.length s) ds ds.length))) → Q (.ref p) H'
abbrev s__law_goers : Stmt := topS 42
theorem sc__law_goers : FnScope (["_law_pool", "_law_at", "_law_mark", "_law_whom", "_law_deep"] : List Str) (["_law_pool", "_law_at"] : List Str) (defScope s__law_goers) := ⟨rfl, rfl, rfl, by decide +kernel, rfl, by decide +kernel, by decide +kernel⟩
theorem b__law_goers (kV doc pm : Value) (an : Option Addr) (cdv ct : Value) (us : List Value) (hl : us.length = (["_law_pool", "_law_at"] : List Str).length) : bindArgs (PySem.W.fnOf "_law_goers" "_law_goers" (defArgs s__law_goers) (defBody s__law_goers) (defScope s__law_goers) .none kV doc pm an cdv ct) ⟨us, []⟩ = pure ((["_law_pool", "_law_at"] : List Str).zip us) :=
  match us, hl with | [_, _], _ => rfl
section
variable {P : Program} {w : World} {K : PySem.W.Frag} {mg : Str → Option Value} {base : Heap}
theorem ok_lgo {k : Nat} (D : Df K mg "_law_goers" s__law_goers) (T : Bt mg) : Ok P w K mg base (k + 1) "_law_goers" s__law_goers ["_law_pool", "_law_at"] (spGoL K) := by
  refine D.ok sc__law_goers b__law_goers (fun vs H Q E h => ?_) (fun f cdv A outer s H vs Q E hr h => ?_)
  · obtain ⟨v, h, t, s, ds, rfl, _⟩ := h
    rfl
  · obtain ⟨v, h, t, s, ds, rfl, hv, hl, k⟩ := h
    obtain ⟨p, q, rfl, hp, hq⟩ := id hv
    refine ⟨_, (pss_cons (ps_set (i := 2) sc__law_goers.nd rfl (.inr rfl) (pe_callB (call_min2 rfl) (by rfl) T.min_ (by decide +kernel) (pa_cons (pe_op op_add (pe_ix ix_lt (pv 0) pe_int (fun _ _ => rfl)) (pv 1)) (pa_cons (pe_op op_sub (pe_op op_sub (pe_op op_add (pe_ix ix_lt (pv 0) pe_int (fun _ _ => rfl)) (pe_callB call_len_seq (by rfl) T.len_ PySem.boot_len (pa_cons (pe_ix ix_lt (pv 0) pe_int (fun _ _ => rfl)) pa_nil))) pe_int) (pv 1)) pa_nil))))
      (pss_one (ps_ret (pe_lc (own := [("_law_whom", 3), ("_law_deep", 4)]) (g := (gSeq K 2 (gCons (gName 3) (gCons (gName 4) gNil)))) (by rfl) sc__law_goers.nd (pi_enumA (by rfl) T.enumerate_ (pa_cons (pe_ix ix_lt (pv 0) pe_int (fun _ _ => rfl)) pa_nil)) (blkOk_by (own := [("_law_whom", 3), ("_law_deep", 4)]) (N := (["_law_pool", "_law_at", "_law_mark", "_law_whom", "_law_deep"] : List Str)) (sc := defScope s__law_goers) (by decide +kernel)) (fun _ _ _ _ _ => (pg_seq rfl (pgs_cons (pg_name (i := 3) sc__law_goers.nd rfl (.inl rfl)) (pgs_cons (pg_name (i := 4) sc__law_goers.nd rfl (.inl rfl)) pgs_nil)))) (fun _ _ _ _ _ => (pts_one (pt_cmpR op_le (pv 4) (pv 2) (nomark _)))) (fun _ _ _ _ _ => (pv 3)))))), ?_⟩
    refine ⟨_, rfl, p, _, 0, .int h, rfl, rfl, hp, rfl, _, rfl, h, s, rfl, rfl, _, rfl, p, _, 1, .int t, rfl, rfl, hp, rfl, _, rfl, p, _, 2, .ref q, rfl, rfl, hp, rfl, q, _, rfl, hq, ?_⟩
    rw [List.length_map]
    refine ⟨t, _, rfl, rfl, _, 1, rfl, rfl, _, rfl, _, s, rfl, rfl, _, _, rfl, ?_⟩
    dsimp only
    rw [mk_alt]
    generalize mk h t ds.length s = m at k
    refine ⟨_, rfl, p, _, 2, .ref q, rfl, rfl, hp, rfl, q, _, H, rfl, hq, Kp.refl _ _, fun J hJ C nC => ?_⟩
    obtain ⟨G, g, W⟩ := hJ.walk
    refine lc_it W (fun i H' => Same H H' ∧ H' C = some (.lst (ni (gs m ds i)))) ⟨same_new nC, upd_same⟩ (fun i H' _ z => g H' (.ofS z.1)) ?_ ?_
    · rintro i x H1 H2 hi ⟨sm, hC⟩ ⟨u, x1, x2, rfl, nu, rfl, g1, g2⟩
      rw [List.length_map] at hi
      obtain rfl : .int (i : Nat) = x1 := Option.some.inj g1
      obtain rfl : .int ds[i] = x2 := by
        have g3 : (ds.map V.int)[i]? = some (.int ds[i]) := by simp [hi]
        exact Option.some.inj (g3.symm.trans g2)
      have ed : ds.getD i 0 = ds[i] := by simp [hi]
      have nuC : C ≠ u := ne_of_none hC nu
      have hC' : upd H1 u (.tup [.int (i : Nat), .int ds[i]]) C = some (.lst (ni (gs m ds i))) := by rw [upd_ne nuC]; exact hC
      refine ⟨u, _, rfl, SqA.t upd_same, rfl, _, _, rfl, _, _, rfl, rfl, rfl, ?_⟩
      refine ⟨_, rfl, _, rfl, ds[i], m, rfl, rfl, _, rfl, ite2 (fun c => ?_) (fun c => ?_)⟩
      · have c0 : ds[i] ≤ m := of_decide_eq_true c
        refine ⟨_, rfl, _, hC', ?_, fun a o e => ?_, ?_⟩
        · rw [ni_len]
          exact Nat.lt_of_le_of_lt gs_len (small1000 (by omega))
        · rw [upd_ne (ne_of_none e nC)]
          exact same_new nu _ _ (sm _ _ e)
        · rw [upd_same, gs_succ, ed, if_pos c0, ni_app]
          rfl
      · have c0 : ¬ ds[i] ≤ m := fun z => c (decide_eq_true z)
        refine ⟨fun a o e => same_new nu _ _ (sm _ _ e), ?_⟩
        rw [hC', gs_succ, ed, if_neg c0, List.append_nil]
    · rintro H1 ⟨sm, hC⟩
      rw [List.length_map] at hC
      exact k H1 C sm nC hC
end
end Sh

namespace Sh
open PySem PySem.Spec PyProof.Rows L2
/-! ### filled by draws to the top step -/
theorem cnt_nodup {c : Nat} {X : List Nat} (nd : X.Nodup) (lt : ∀ i ∈ X, i < c) : Th.cnt c (mem X) = X.length := by
  have l := lotOf_lot c (mem X)
  have e : Th.cnt c (mem X) = (lotOf c (mem X)).length := by
    rw [← cnt_mem l]
    exact Th.cnt_congr fun i hi => (lotOf_mem hi).symm
  rw [e]
  have m : ∀ i, i ∈ lotOf c (mem X) ↔ i ∈ X := fun i => by
    unfold lotOf
    rw [List.mem_filter, List.mem_range]
    show _ ∧ decide (i ∈ X) = true ↔ _
    rw [decide_eq_true_eq]
    exact ⟨fun z => z.2, fun z => ⟨lt i z, z⟩⟩
  have nd2 : (lotOf c (mem X)).Nodup := List.nodup_range.filter _
  exact ((List.perm_ext_iff_of_nodup nd2 nd).mpr m).length_eq
structure FillI (h t : Int) (ds : List Int) (L X : List Nat) : Prop where
  nd : X.Nodup
  lt : ∀ i ∈ X, i < ds.length
  rl : Th.Reach ds.length (Gof h t ds) (mem L) (mem X)
theorem FillI.start {h t : Int} {ds : List Int} {L : List Nat} (hL : Lot ds.length L) : FillI h t ds L L := ⟨hL.up.imp fun {a b} z => Nat.ne_of_lt z, hL.lt, .refl _⟩
theorem FillI.more {h t : Int} {ds : List Int} {L X : List Nat} {i : Nat} (f : FillI h t ds L X) (hi : i < ds.length) (ni : i ∉ X) (g : Gof h t ds X.length i = true) : FillI h t ds L (X ++ [i]) := by
  refine ⟨List.nodup_append.mpr ⟨f.nd, by simp, fun a ha b hb => by rw [List.mem_singleton.mp hb]; exact fun z => ni (z ▸ ha)⟩, fun j hj => ?_, ?_⟩
  · rcases List.mem_append.mp hj with z | z
    · exact f.lt j z
    · rw [List.mem_singleton.mp z]
      exact hi
  · have e : mem (X ++ [i]) = Th.flip (mem X) i := by
      funext j
      unfold mem Th.flip
      by_cases c : j = i
      · subst c
        rw [if_pos rfl, decide_eq_true (List.mem_append_right _ (List.mem_singleton.mpr rfl))]
        show true = !decide (j ∈ X)
        rw [decide_eq_false ni]
        rfl
      · rw [if_neg c, Bool.eq_iff_iff, decide_eq_true_eq, decide_eq_true_eq, List.mem_append, List.mem_singleton]
        exact ⟨fun z => z.resolve_right c, .inl⟩
    rw [e]
    exact .step f.rl (.up hi (decide_eq_false ni) (by rw [cnt_nodup f.nd f.lt]; exact g))
def spTopL (K : PySem.W.Frag) : Sp := fun vs H Q _ => ∃ (v : V) (h t : Int) (ds : List Int), vs = [v] ∧ SeaA K H v h t ds ∧ ds.length ≤ 60 ∧ 0 < ds.length ∧ ∀ H' : Hp, Same H H' → Q (.int (topI h t ds.length)) H'
abbrev s__law_top : Stmt := topS 43
theorem sc__law_top : FnScope (["_law_pool", "_law_marks_here"] : List Str) (["_law_pool"] : List Str) (defScope s__law_top) := ⟨rfl, rfl, rfl, by decide +kernel, rfl, by decide +kernel, by decide +kernel⟩
theorem b__law_top (kV doc pm : Value) (an : Option Addr) (cdv ct : Value) (us : List Value) (hl : us.length = (["_law_pool"] : List Str).length) : bindArgs (PySem.W.fnOf "_law_top" "_law_top" (defArgs s__law_top) (defBody s__law_top) (defScope s__law_top) .none kV doc pm an cdv ct) ⟨us, []⟩ = pure ((["_law_pool"] : List Str).zip us) :=
  match us, hl with | [_], _ => rfl
section
variable {P : Program} {w : World} {K : PySem.W.Frag} {mg : Str → Option Value} {base : Heap}
theorem ok_ltop {k : Nat} (D : Df K mg "_law_top" s__law_top) (T : Bt mg) (O__law_marks : Ok P w K mg base k "_law_marks" s__law_marks ["_law_pool"] (spMarks K)) : Ok P w K mg base (k + 1) "_law_top" s__law_top ["_law_pool"] (spTopL K) := by
  refine D.ok sc__law_top b__law_top (fun vs H Q E h => ?_) (fun f cdv A outer s H vs Q E hr h => ?_)
  · obtain ⟨v, h, t, ds, rfl, _⟩ := h
    rfl
  · obtain ⟨v, h, t, ds, rfl, hv, d60, k0, q⟩ := h
    refine ⟨_, (pss_cons (ps_set (i := 1) sc__law_top.nd rfl (.inl rfl) (pe_fn O__law_marks (hr.mono (by omega)) (pa_cons (pv 0) pa_nil)))
      (pss_one (ps_ret (pe_bm PySem.F.plainAttrs_list PySem.F.slot_list_index PySem.F.type_list_index mt_index (pv 1) (pa_cons (pe_callB (cr_max rfl) (by rfl) T.max_ (by decide +kernel) (pa_cons (pv 1) pa_nil)) pa_nil))))), ?_⟩
    refine ⟨_, rfl, v, h, t, ds, rfl, hv, d60, fun H1 m s1 nm hm => ?_⟩
    have lm0 : 0 < (ml h t ds.length ds.length).length := by rw [ml_len]; exact k0
    have tl := top_lo h t ds.length
    have th := top_hi h t k0
    obtain ⟨tp, etp⟩ : ∃ tp : Nat, topI h t ds.length = (tp : Int) := ⟨(topI h t ds.length).toNat, by omega⟩
    have tg : (ml h t ds.length ds.length)[tp]? = some (mk h t ds.length (topI h t ds.length)) := by
      rw [ml_get (by omega), etp]
    refine ⟨_, rfl, .inl ⟨rfl, _, SqL.of hm⟩, _, rfl, m, _, rfl, SqL.of hm, lm0, fun mx mm mle => ?_⟩
    have em : mk h t ds.length (topI h t ds.length) = mx := by
      have a1 := mle _ (List.mem_of_getElem? tg)
      obtain ⟨i0, hi0, e0⟩ := List.mem_map.mp (show mx ∈ (List.range ds.length).map fun (i : Nat) => mk h t ds.length (i : Int) from mm)
      have a2 := top_max h t (List.mem_range.mp hi0)
      omega
    refine ⟨m, _, .int mx, tp, .int mx, rfl, rfl, SqL.of hm, rfl, flat_ints _, ?_, ?_, ?_, ?_⟩
    · rw [List.getElem?_map, tg, em]
      rfl
    · exact beq_self_eq_true mx
    · intro j z' hj hz'
      rw [List.getElem?_map, ml_get (show j < ds.length by omega)] at hz'
      obtain rfl : V.int (mk h t ds.length (j : Int)) = z' := Option.some.inj hz'
      have := top_least h t (show (j : Int) < topI h t ds.length by omega)
      exact beq_eq_false_iff_ne.mpr (by omega)
    · rw [← etp]
      exact q H1 s1
end
end Sh

namespace Th
/-! ### filled beyond the top, the deepest ahead -/
section
variable {k : Nat} {G : Nat → Nat → Bool} {D : Nat → Int} {S W : Nat → Bool} {P : Nat → Bool} {O : List Nat} {a s : Nat}
/-- begun with a here; s lie here now, O are out, the deepest ahead -/
structure Gre (k : Nat) (G : Nat → Nat → Bool) (D : Nat → Int) (S P : Nat → Bool) (a s : Nat) (W : Nat → Bool) (O : List Nat) : Prop where
  le : a ≤ s
  rl : Reach k G S W
  ct : cnt k W = s
  nd : O.Nodup
  out : ∀ o ∈ O, o < k ∧ W o = false
  all : ∀ i, i < k → P i = true → W i = true ∨ i ∈ O
  srt : O.Pairwise fun x y => D y ≤ D x
  inv : ∀ o ∈ O, (∀ i, i < k → W i = true → G s i = true → D o ≤ D i) ∨ ∃ s', a ≤ s' ∧ s' ≤ s ∧ G s' o = false ∧ s' + cnt k (fun i => W i && G s' i) ≤ s
theorem cnt_add {p : Nat} (hp : p < k) (hw : W p = false) (f : Nat → Bool) : cnt k (fun i => flip W p i && f i) ≤ cnt k (fun i => W i && f i) + 1 := by
  have e1 := cnt_mono (k := k) (S := fun i => flip W p i && f i) (U := flip (fun i => W i && f i) p) fun i hi z => by
    by_cases c : i = p
    · subst c
      rw [flip_self]
      show (!(W i && f i)) = true
      rw [hw]
      rfl
    · rw [flip_ne _ c]
      have z : (flip W p i && f i) = true := z
      rw [flip_ne _ c] at z
      exact z
  have e2 := cnt_flip_up (k := k) (S := fun i => W i && f i) hp (by show (W p && f p) = false; rw [hw]; rfl)
  omega
theorem Gre.more {T p : Nat} (t : Top k G T) (ta : T ≤ a) (dn : ∀ s i j, s < k → G s i = true → D j ≤ D i → G s j = true) (g : Gre k G D S P a s W O) (sk : s < k) (hp : p ∈ O) (gp : G s p = true) (fst : ∀ o ∈ O, G s o = true → D o ≤ D p) :
    Gre k G D S P a (s + 1) (flip W p) (O.erase p) := by
  obtain ⟨pk, pw⟩ := g.out p hp
  have le := g.le
  have mE : ∀ o, o ∈ O.erase p ↔ o ≠ p ∧ o ∈ O := fun o => g.nd.mem_erase_iff
  refine ⟨by omega, .step g.rl (.up pk pw (by rw [g.ct]; exact gp)), by rw [cnt_flip_up pk pw, g.ct], g.nd.erase p, fun o ho => ?_, fun i hi pi => ?_, g.srt.sublist List.erase_sublist, fun o ho => ?_⟩
  · obtain ⟨ne, ho⟩ := (mE o).mp ho
    rw [flip_ne _ ne]
    exact g.out o ho
  · by_cases c : i = p
    · subst c
      left
      rw [flip_self, pw]
      rfl
    · rw [flip_ne _ c]
      exact (g.all i hi pi).imp id fun z => (mE i).mpr ⟨c, z⟩
  · obtain ⟨ne, hoO⟩ := (mE o).mp ho
    rcases g.inv o hoO with A | ⟨s', a1, a2, a3, a4⟩
    · cases c : G s o with
      | true =>
        left
        intro i hi wi gi
        have gs : s + 1 < k → G s i = true := fun z => t.dn s (s + 1) i (by omega) (by omega) z gi
        by_cases z : i = p
        · subst z
          exact fst o hoO c
        · rw [flip_ne _ z] at wi
          by_cases y : s + 1 < k
          · exact A i hi wi (gs y)
          · -- all ships lie here: none is out
            exfalso
            have h1 := (g.out o hoO)
            have e : cnt k W + 2 ≤ k := by
              have e1 := cnt_flip_up pk pw
              have e2 : (flip W p) o = false := by rw [flip_ne _ ne]; exact h1.2
              have e3 := cnt_flip_up h1.1 e2
              have := cnt_le k (flip (flip W p) o)
              omega
            have := g.ct
            omega
      | false =>
        right
        have e0 : cnt k (fun i => W i && G s i) = 0 := cnt_none fun i hi => by
          cases wi : W i with
          | false => rfl
          | true =>
            cases gi : G s i with
            | false => rfl
            | true =>
              have := dn s i o sk gi (A i hi wi gi)
              rw [c] at this
              cases this
        refine ⟨s, g.le, by omega, c, ?_⟩
        have := cnt_add pk pw (G s)
        omega
    · right
      refine ⟨s', a1, by omega, a3, ?_⟩
      have := cnt_add pk pw (G s')
      omega
/-- where nobody who is out may go: no room for more -/
theorem Gre.stop {T : Nat} (t : Top k G T) (ta : T ≤ a) (dn : ∀ s i j, s < k → G s i = true → D j ≤ D i → G s j = true) (pa : ∀ s i, a ≤ s → s < k → i < k → G s i = true → P i = true) (g : Gre k G D S P a s W O) (sk : s < k) (no : ∀ o ∈ O, G s o = false) :
    O = [] ∨ ∃ s', a ≤ s' ∧ s' < k ∧ s' + cnt k (G s') ≤ s := by
  by_cases z : O = []
  · exact .inl z
  right
  obtain ⟨x, hx, e⟩ : ∃ x, x ∈ O ∧ ∀ o ∈ O, D x ≤ D o := by
    have h := g.srt
    clear no
    refine ⟨O.getLast z, List.getLast_mem z, fun o ho => ?_⟩
    rw [← List.dropLast_concat_getLast z, List.pairwise_append] at h
    rw [← List.dropLast_concat_getLast z] at ho
    rcases List.mem_append.mp ho with y | y
    · exact h.2.2 o y _ (List.mem_singleton.mpr rfl)
    · rw [List.mem_singleton.mp y]
      exact Int.le_refl _
  obtain ⟨s', a1, a2, a3, a4⟩ : ∃ s', a ≤ s' ∧ s' ≤ s ∧ G s' x = false ∧ s' + cnt k (fun i => W i && G s' i) ≤ s := by
    rcases g.inv x hx with A | B
    · refine ⟨s, g.le, Nat.le_refl _, no x hx, ?_⟩
      have e0 : cnt k (fun i => W i && G s i) = 0 := cnt_none fun i hi => by
        cases wi : W i with
        | false => rfl
        | true =>
          cases gi : G s i with
          | false => rfl
          | true =>
            have := dn s i x sk gi (A i hi wi gi)
            rw [no x hx] at this
            cases this
      omega
    · exact B
  refine ⟨s', a1, by omega, ?_⟩
  have : cnt k (G s') ≤ cnt k (fun i => W i && G s' i) := cnt_mono fun i hi gi => by
    rcases g.all i hi (pa s' i a1 (by omega) hi gi) with w | o
    · show (W i && G s' i) = true
      rw [w, gi]
      rfl
    · have := dn s' i x (by omega) gi (e i o)
      rw [a3] at this
      cases this
  omega
/-- the most, where the top is passed freely -/
theorem Gre.max_open {T : Nat} (t : Top k G T) (dn : ∀ s i j, s < k → G s i = true → D j ≤ D i → G s j = true) (op : Open k G T S) (g : Gre k G D S (G T) T s W O) (no : s < k → ∀ o ∈ O, G s o = false) : IsMax k G S s := by
  refine ⟨⟨W, g.rl, g.ct⟩, fun U r => ?_⟩
  have tl := t.lt
  by_cases sk : s < k
  · by_cases c : cnt k U ≤ T
    · exact Nat.le_trans c g.le
    · have oc := (open_counts t op.1 (n := cnt k U) (by omega)).mp ⟨U, r, rfl⟩
      rcases g.stop t (Nat.le_refl _) dn (fun s i a b hi z => t.dn T s i (Nat.le_refl _) a b z) sk (no sk) with z | ⟨s', a1, a2, a3⟩
      · refine Nat.le_trans oc.1 ?_
        rw [← g.ct]
        refine cnt_mono fun i hi z => ?_
        cases gi : G T i with
        | true =>
          have := g.all i hi gi
          rw [‹O = []›] at this
          exact this.resolve_right (by simp)
        | false =>
          rw [gi, Bool.or_false] at z
          rw [fast_inv t g.rl i hi gi]
          exact z
      · have := oc.2 s' a1 a2
        omega
  · have := cnt_le k U
    omega
/-- the most, of one that's stuck above -/
theorem Gre.max_high {T N : Nat} (t : Top k G T) (dn : ∀ s i j, s < k → G s i = true → D j ≤ D i → G s j = true) (h : StuckLow k (dual k G) N (co S)) (hN : N ≤ k - 1 - T) (g : Gre k G D S (fun _ => true) (k - N) s W O) (no : s < k → ∀ o ∈ O, G s o = false) : IsMax k G S s := by
  refine ⟨⟨W, g.rl, g.ct⟩, fun U r => ?_⟩
  have tl := t.lt
  have cu := cnt_co k U
  by_cases sk : s < k
  · have lc := (low_counts h t.dual hN (n := cnt k (co U)) (h.under t.dual hN r.dual).1).mp ⟨co U, r.dual, rfl⟩
    rcases g.stop t (by omega) dn (fun _ _ _ _ _ _ => rfl) sk (no sk) with z | ⟨s', a1, a2, a3⟩
    · exfalso
      have : cnt k (fun _ => true) ≤ cnt k W := cnt_mono fun i hi _ => by
        have := g.all i hi rfl
        rw [z] at this
        exact this.resolve_right (by simp)
      have e : cnt k (fun _ => true) = k := by unfold cnt; rw [List.countP_eq_length.mpr (by simp)]; exact List.length_range
      have := g.ct
      omega
    · have := lc (k - 1 - s') (by omega)
      rw [show cnt k (dual k G (k - 1 - s')) = cnt k (G s') from cnt_congr fun i hi => dual_dual_at (G := G) a2 i] at this
      omega
  · have := cnt_le k U
    omega
/-- how it begins at the top: those who lie fast, and the deepest of the others -/
theorem Gre.top {T : Nat} (t : Top k G T) (op : Open k G T S) (rl : ∀ i, i < k → G T i = false → W i = S i) (ho : ∀ i, ¬ i < k → W i = S i) (ct : cnt k W = T) (nd : O.Nodup) (out : ∀ o ∈ O, o < k ∧ W o = false) (all : ∀ i, i < k → G T i = true → W i = true ∨ i ∈ O) (srt : O.Pairwise fun x y => D y ≤ D x)
    (deep : ∀ o ∈ O, ∀ i, i < k → G T i = true → W i = true → D o ≤ D i) : Gre k G D S (G T) T T W O :=
  ⟨Nat.le_refl _, open_reach t op.1 (.inl ⟨by omega, fun n a b => by omega⟩) rl ho, ct, nd, out, all, srt, fun o ho => .inl fun i hi wi gi => deep o ho i hi gi wi⟩
/-- how it begins where it's stuck above -/
theorem Gre.high {T N : Nat} (t : Top k G T) (hN : N ≤ k - 1 - T) (rl : Reach k G S W) (ct : cnt k W = k - N) (non : ∀ i, i < k → W i = true → G (k - N - 1) i = false) (nd : O.Nodup) (out : ∀ o, o ∈ O ↔ o < k ∧ W o = false) (srt : O.Pairwise fun x y => D y ≤ D x) : Gre k G D S (fun _ => true) (k - N) (k - N) W O := by
  have tl := t.lt
  refine ⟨Nat.le_refl _, rl, ct, nd, fun o ho => (out o).mp ho, fun i hi _ => ?_, srt, fun o ho => .inl fun i hi wi gi => ?_⟩
  · cases w : W i with
    | true => exact .inl rfl
    | false => exact .inr ((out i).mpr ⟨hi, w⟩)
  · obtain ⟨hk, hw⟩ := (out o).mp ho
    have e : cnt k W + 1 ≤ k := by
      have e1 := cnt_flip_up hk hw
      have := cnt_le k (flip W o)
      omega
    have := t.dn (k - N - 1) (k - N) i (by omega) (by omega) (by omega) gi
    rw [non i hi wi] at this
    cases this
/-- stuck above: nobody who lies here may go -/
theorem stuck_above {T : Nat} (t : Top k G T) (rl : Reach k G S W) (gt : T < cnt k W) (non : ∀ i, i < k → W i = true → G (cnt k W - 1) i = false) : StuckLow k (dual k G) (k - cnt k W) (co S) ∧ k - cnt k W ≤ k - 1 - T := by
  have ck := cnt_co k W
  have cl := cnt_le k W
  have st : StuckLow k (dual k G) (k - cnt k W) (co W) := by
    refine ⟨by omega, fun n a b => by omega, ?_⟩
    rw [cnt_congr (U := co W) fun i hi => ?_]
    · omega
    · show (!W i || dual k G (k - cnt k W) i) = !W i
      cases w : W i with
      | false => rfl
      | true =>
        show G (k - 1 - (k - cnt k W)) i = false
        rw [show k - 1 - (k - cnt k W) = cnt k W - 1 by omega]
        exact non i hi w
  exact ⟨st.same t.dual (by omega) rl.dual.symm, by omega⟩
/-- the top is passed: by one more here, or by one more ship that went from above -/
theorem open_up {T : Nat} (t : Top k G T) (rl : Reach k G S W) (ct : cnt k W = T + 1) {p : Nat} (hp : p < k) (gp : G T p = true) (wp : W p = true) : Open k G T S := by
  have r2 : Reach k G W (flip W p) := .one (.dn hp wp (by rw [ct]; exact gp))
  have c2 := cnt_flip_dn hp wp
  have o2 : Open k G T (flip W p) := by
    refine ⟨.inl ⟨by omega, fun n a b => by omega⟩, ?_⟩
    have : cnt k W ≤ cnt k (fun i => flip W p i || G T i) := cnt_mono fun i hi w => by
      by_cases c : i = p
      · subst c
        show (flip W i i || G T i) = true
        rw [gp, Bool.or_true]
      · show (flip W p i || G T i) = true
        rw [flip_ne _ c, w]
        rfl
    omega
  exact o2.same t (rl.trans r2).symm
end
end Th

namespace Sh
open PySem PySem.Spec PyProof.Rows L2
/-! ### filled and emptied -/
section
variable {h t : Int} {ds : List Int} {L X F Z O : List Nat}
theorem erase_map {α β : Type} (f : α → β) : ∀ (l : List α) (j : Nat), (l.map f).eraseIdx j = (l.eraseIdx j).map f
  | [], _ => rfl
  | _ :: _, 0 => rfl
  | a :: l, j + 1 => congrArg (f a :: ·) (erase_map f l j)
theorem gof_dn : ∀ s i j, s < ds.length → Gof h t ds s i = true → ds.getD j 0 ≤ ds.getD i 0 → Gof h t ds s j = true := fun s i j _ g le => by
  unfold Gof at g ⊢
  rw [decide_eq_true_eq] at g ⊢
  omega
theorem FillI.less {i : Nat} (f : FillI h t ds L X) (hi : i ∈ X) (g : Gof h t ds (X.length - 1) i = true) : FillI h t ds L (X.erase i) := by
  have mE : ∀ o, o ∈ X.erase i ↔ o ≠ i ∧ o ∈ X := fun o => f.nd.mem_erase_iff
  refine ⟨f.nd.erase i, fun j hj => f.lt j ((mE j).mp hj).2, ?_⟩
  have e : mem (X.erase i) = Th.flip (mem X) i := by
    funext j
    unfold mem Th.flip
    by_cases c : j = i
    · subst c
      rw [if_pos rfl, decide_eq_false fun z => ((mE j).mp z).1 rfl]
      show false = !decide (j ∈ X)
      rw [decide_eq_true hi]
      rfl
    · rw [if_neg c, Bool.eq_iff_iff, decide_eq_true_eq, decide_eq_true_eq, mE]
      exact ⟨fun z => z.2, fun z => ⟨c, z⟩⟩
  rw [e]
  exact .step f.rl (.dn (f.lt i hi) (decide_eq_true hi) (by rw [cnt_nodup f.nd f.lt]; exact g))
theorem FillI.len (f : FillI h t ds L X) : X.length ≤ ds.length := by
  have := nodup_len f.nd (m := List.range ds.length) fun j hj => List.mem_range.mpr (f.lt j hj)
  rw [List.length_range] at this
  exact this
theorem FillI.low (d0 : 0 < ds.length) (f : FillI h t ds L X) (le : X.length ≤ (topI h t ds.length).toNat) (all : ∀ i, i < ds.length → Gof h t ds X.length i = true → i ∈ X) : Th.StuckLow ds.length (Gof h t ds) X.length (mem L) := by
  have tp := top_of h t ds d0
  have cx := cnt_nodup f.nd f.lt
  have ex : ∀ i, i < ds.length → (mem X i || Gof h t ds X.length i) = mem X i := fun i hi => by
    cases c : Gof h t ds X.length i with
    | false => rw [Bool.or_false]
    | true =>
      rw [Bool.or_true]
      exact (decide_eq_true (all i hi c)).symm
  have st : Th.StuckLow ds.length (Gof h t ds) X.length (mem X) := ⟨Nat.le_of_eq cx, fun n h1 h2 => by omega, by rw [Th.cnt_congr ex]; exact Nat.le_of_eq cx⟩
  exact st.same tp le f.rl.symm
theorem beyond_start (d0 : 0 < ds.length) (hL : Lot ds.length L) (f : FillI h t ds L X) {T : Nat} (tp : Th.Top ds.length (Gof h t ds) T) (op : Th.Open ds.length (Gof h t ds) T (mem L))
    (mF : ∀ i, i ∈ F ↔ i < ds.length ∧ Gof h t ds T i = true) (nF : F.Nodup) (sF : F.Pairwise fun x y => ds.getD y 0 ≤ ds.getD x 0) (mZ : ∀ i, i ∈ Z ↔ i ∈ X ∧ i ∉ F) (nZ : Z.Nodup) :
    Z.length ≤ T ∧ ∃ W, Th.Gre ds.length (Gof h t ds) (fun i => ds.getD i 0) (mem L) (Gof h t ds T) T T W (F.drop (T - Z.length)) := by
  have fast : ∀ i, i < ds.length → Gof h t ds T i = false → mem X i = mem L i := fun i hi g => Th.fast_inv tp f.rl i hi g
  have zlt : ∀ i ∈ Z, i < ds.length := fun i hi => f.lt i ((mZ i).mp hi).1
  have flt : ∀ i ∈ F, i < ds.length := fun i hi => ((mF i).mp hi).1
  have zg : ∀ i ∈ Z, Gof h t ds T i = false := fun i hi => by
    cases g : Gof h t ds T i with
    | false => rfl
    | true => exact absurd ((mF i).mpr ⟨zlt i hi, g⟩) ((mZ i).mp hi).2
  have zT : Z.length ≤ T := by
    obtain ⟨V, rV, cV⟩ := op.1.elim (fun z => z.to tp) fun z => z.to tp
    rw [← cnt_nodup nZ zlt, ← cV]
    refine Th.cnt_mono fun i hi z => ?_
    have iz : i ∈ Z := of_decide_eq_true z
    rw [Th.fast_inv tp rV i hi (zg i iz), ← fast i hi (zg i iz)]
    exact decide_eq_true ((mZ i).mp iz).1
  have nZF : (Z ++ F).Nodup := List.nodup_append.mpr ⟨nZ, nF, fun a ha b hb e => ((mZ a).mp ha).2 (e ▸ hb)⟩
  have cT : T < Z.length + F.length := by
    refine Nat.lt_of_lt_of_le op.2 ?_
    rw [← List.length_append, ← cnt_nodup nZF fun i hi => (List.mem_append.mp hi).elim (zlt i) (flt i)]
    refine Th.cnt_mono fun i hi z => decide_eq_true ?_
    cases g : Gof h t ds T i with
    | true => exact List.mem_append_right _ ((mF i).mpr ⟨hi, g⟩)
    | false =>
      rw [g, Bool.or_false, ← fast i hi g] at z
      exact List.mem_append_left _ ((mZ i).mpr ⟨of_decide_eq_true z, fun y => by rw [((mF i).mp y).2] at g; cases g⟩)
  obtain ⟨d, ed⟩ : ∃ d, d = T - Z.length := ⟨_, rfl⟩
  rw [← ed]
  have td := List.take_append_drop d F
  have nT : (Z ++ F.take d).Nodup := nZF.sublist (List.Sublist.append_left (List.take_sublist _ _) _)
  have mW : ∀ i, mem (Z ++ F.take d) i = decide (i ∈ Z ∨ i ∈ F.take d) := fun i => by
    unfold mem
    rw [decide_eq_decide, List.mem_append]
  have nd2 : (F.take d ++ F.drop d).Nodup := by rw [td]; exact nF
  refine ⟨zT, mem (Z ++ F.take d), .top tp op (fun i hi g => ?_) (fun i hi => ?_) ?_ (nF.sublist (List.drop_sublist _ _)) (fun o ho => ?_) (fun i hi g => ?_) (sF.sublist (List.drop_sublist _ _)) fun o ho i hi g w => ?_⟩
  · rw [mW, ← fast i hi g]
    unfold mem
    rw [decide_eq_decide]
    have nf : i ∉ F := fun y => by rw [((mF i).mp y).2] at g; cases g
    constructor
    · rintro (z | z)
      · exact ((mZ i).mp z).1
      · exact absurd (List.mem_of_mem_take z) nf
    · exact fun z => .inl ((mZ i).mpr ⟨z, nf⟩)
  · rw [mW, mem_out hL hi]
    refine decide_eq_false fun z => hi ?_
    rcases z with z | z
    · exact zlt i z
    · exact flt i (List.mem_of_mem_take z)
  · rw [cnt_nodup nT fun i hi => (List.mem_append.mp hi).elim (zlt i) fun z => flt i (List.mem_of_mem_take z), List.length_append, List.length_take]
    omega
  · have oF := List.mem_of_mem_drop ho
    refine ⟨flt o oF, ?_⟩
    rw [mW]
    refine decide_eq_false fun z => ?_
    rcases z with z | z
    · exact ((mZ o).mp z).2 oF
    · exact (List.nodup_append.mp nd2).2.2 o z o ho rfl
  · have iF := (mF i).mpr ⟨hi, g⟩
    rw [← td] at iF
    rcases List.mem_append.mp iF with z | z
    · left
      rw [mW]
      exact decide_eq_true (.inr z)
    · exact .inr z
  · rw [mW] at w
    rcases of_decide_eq_true w with z | z
    · rw [zg i z] at g
      cases g
    · rw [← td, List.pairwise_append] at sF
      exact sF.2.2 i z o ho
/-- one more, the deepest of those who may -/
theorem gre_more {P : Nat → Bool} {W : Nat → Bool} {T a s p j : Nat} {r : List Nat} (tp : Th.Top ds.length (Gof h t ds) T) (ta : T ≤ a) (g : Th.Gre ds.length (Gof h t ds) (fun i => ds.getD i 0) (mem L) P a s W O) (sk : s < ds.length)
    (e : O.filter (fun o => Gof h t ds s o) = p :: r) (ej : O[j]? = some p) : Th.Gre ds.length (Gof h t ds) (fun i => ds.getD i 0) (mem L) P a (s + 1) (Th.flip W p) (O.eraseIdx j) := by
  have hp : p ∈ O.filter (fun o => Gof h t ds s o) := by rw [e]; exact List.mem_cons_self
  obtain ⟨pO, gp⟩ := List.mem_filter.mp hp
  have jl : j < O.length := by
    obtain ⟨z, _⟩ := List.getElem?_eq_some_iff.mp ej
    exact z
  have ee : O.eraseIdx j = O.erase p := by
    obtain ⟨z, y⟩ := List.getElem?_eq_some_iff.mp ej
    rw [← y]
    exact (List.erase_eq_eraseIdx_of_idxOf (List.Nodup.idxOf_getElem g.nd j jl)).symm
  rw [ee]
  refine g.more tp ta gof_dn sk pO gp fun o ho go => ?_
  have := g.srt.filter (fun o => Gof h t ds s o)
  rw [e, List.pairwise_cons] at this
  have ho2 : o ∈ p :: r := by rw [← e]; exact List.mem_filter.mpr ⟨ho, go⟩
  rcases List.mem_cons.mp ho2 with z | z
  · rw [z]
    exact Int.le_refl _
  · exact this.1 o z
theorem gre_no {s : Nat} (e : O.filter (fun o => Gof h t ds s o) = []) : ∀ o ∈ O, Gof h t ds s o = false := fun o ho => by
  cases g : Gof h t ds s o with
  | false => rfl
  | true =>
    have : o ∈ O.filter (fun o => Gof h t ds s o) := List.mem_filter.mpr ⟨ho, g⟩
    rw [e] at this
    cases this
theorem gs_lot (m : Int) : Lot ds.length (gs m ds ds.length) := (Lot.all ds.length).filter _
theorem gs_mem {m : Int} {i : Nat} : i ∈ gs m ds ds.length ↔ i < ds.length ∧ ds.getD i 0 ≤ m := by
  unfold gs
  rw [List.mem_filter, List.mem_range, decide_eq_true_eq]
theorem movers_of_set {ms : List Nat} (hL : Lot ds.length L) (lm : Lot ds.length ms) (e : ∀ i, i < ds.length → (Th.Moves ds.length (Gof h t ds) (mem L) i ↔ i ∈ ms)) : IsMovers h t ds L ms :=
  ⟨lm, fun i hi => ((ex_moves hL hi).trans (e i hi)).symm⟩
theorem movers_low {N T : Nat} (hL : Lot ds.length L) (tp : Th.Top ds.length (Gof h t ds) T) (st : Th.StuckLow ds.length (Gof h t ds) N (mem L)) (hN : N ≤ T) : IsMovers h t ds L (if 0 < N then gs (mk h t ds.length ((N - 1 : Nat) : Int)) ds ds.length else []) := by
  refine movers_of_set hL ?_ fun i hi => ?_
  · split
    · exact gs_lot _
    · exact ⟨.nil, fun i z => by cases z⟩
  · rw [Th.moves_low st tp hN hi]
    split
    · rename_i c
      rw [gs_mem]
      unfold Gof
      rw [decide_eq_true_eq]
      exact ⟨fun z => ⟨hi, z.2⟩, fun z => ⟨c, z.2⟩⟩
    · rename_i c
      exact ⟨fun z => absurd z.1 c, fun z => by cases z⟩
theorem movers_top {T : Nat} (hL : Lot ds.length L) (tp : Th.Top ds.length (Gof h t ds) T) (op : Th.Open ds.length (Gof h t ds) T (mem L)) : IsMovers h t ds L (gs (mk h t ds.length (T : Int)) ds ds.length) := by
  refine movers_of_set hL (gs_lot _) fun i hi => ?_
  rw [Th.moves_open tp op.1 op.2 hi, gs_mem]
  unfold Gof
  rw [decide_eq_true_eq]
  exact ⟨fun z => ⟨hi, z⟩, fun z => z.2⟩
theorem movers_high {N T : Nat} (hL : Lot ds.length L) (tp : Th.Top ds.length (Gof h t ds) T) (st : Th.StuckLow ds.length (Th.dual ds.length (Gof h t ds)) N (Th.co (mem L))) (hN : N ≤ ds.length - 1 - T) : IsMovers h t ds L (if ds.length - N < ds.length then gs (mk h t ds.length ((ds.length - N : Nat) : Int)) ds ds.length else []) := by
  refine movers_of_set hL ?_ fun i hi => ?_
  · split
    · exact gs_lot _
    · exact ⟨.nil, fun i z => by cases z⟩
  · rw [Th.moves_high st tp hN hi]
    split
    · rename_i c
      rw [gs_mem]
      unfold Gof
      rw [decide_eq_true_eq]
      exact ⟨fun z => ⟨hi, z.2⟩, fun z => ⟨by omega, z.2⟩⟩
    · rename_i c
      exact ⟨fun z => absurd z.1 (by omega), fun z => by cases z⟩
end
end Sh

namespace Th
/-! ### the shallowest movers' standing holds the most, the deepest movers' the least -/
section
variable {k : Nat} {G : Nat → Nat → Bool} {S U V : Nat → Bool}
theorem still {i : Nat} (hi : i < k) (nm : ¬ Moves k G S i) (r : Reach k G S U) : U i = S i := by
  induction r with
  | refl => rfl
  | @step A B r st ih =>
    cases st with
    | @up j hj hs g =>
      by_cases z : i = j
      · subst z
        refine absurd ⟨A, r, ?_⟩ nm
        unfold May
        rw [hs, if_neg Bool.false_ne_true]
        exact g
      · rw [flip_ne _ z]
        exact ih
    | @dn j hj hs g =>
      by_cases z : i = j
      · subst z
        refine absurd ⟨A, r, ?_⟩ nm
        unfold May
        rw [hs, if_pos rfl]
        exact g
      · rw [flip_ne _ z]
        exact ih
theorem low_end {N T : Nat} (h : StuckLow k G N S) (t : Top k G T) (hN : N ≤ T) (nm : ∀ i, i < k → ¬ (0 < N ∧ G (N - 1) i = true) → V i = S i) (ho : ∀ i, ¬ i < k → V i = S i)
    (ex : ∃ W, Reach k G S W ∧ cnt k W = cnt k V) (sh : ∀ a b, a < k → b < k → (0 < N ∧ G (N - 1) a = true) → (0 < N ∧ G (N - 1) b = true) → V a = true → V b = false → ∀ s, s < k → G s a = true → G s b = true) : Reach k G S V := by
  have tl := t.lt
  have go : ∀ i, 0 < N ∧ G (N - 1) i = true → G N i = true := fun i m => t.up (N - 1) N i (by omega) hN m.2
  have full : ∀ i, i < k → (V i || G N i) = (S i || G N i) := fun i hi => by
    by_cases m : 0 < N ∧ G (N - 1) i = true
    · rw [go i m, Bool.or_true, Bool.or_true]
    · rw [nm i hi m]
  have cF : cnt k (fun i => V i || G N i) = N := by
    rw [cnt_congr full]
    exact h.cnt_full t hN
  obtain ⟨W, rW, cW⟩ := ex
  have vN : cnt k V ≤ N := by
    have := (h.under t hN rW).1
    omega
  refine (h.iff t hN ho).mpr ⟨⟨vN, fun p p0 pN => ?_, by omega⟩, full⟩
  have lc := (low_counts h t hN vN).mp ⟨W, rW, cW⟩ p pN
  have mv : ∀ i, G p i = true → 0 < N ∧ G (N - 1) i = true := fun i g => ⟨by omega, t.up p (N - 1) i (by omega) (by omega) g⟩
  by_cases c : ∃ a, a < k ∧ V a = true ∧ G p a = true
  · obtain ⟨a, ha, va, ga⟩ := c
    have le : N ≤ cnt k (fun i => V i || G p i) := by
      rw [← cF]
      refine cnt_mono fun i hi z => ?_
      cases vi : V i with
      | true => rfl
      | false =>
        rw [vi, Bool.false_or] at z
        by_cases m : 0 < N ∧ G (N - 1) i = true
        · rw [sh a i ha hi (mv a ga) m va vi p (by omega) ga]
          rfl
        · obtain ⟨Z, rZ, _, eZ⟩ := h.full t hN
          have := still hi (fun y => m ((moves_low h t hN hi).mp y)) rZ
          rw [eZ i hi, ← nm i hi m, vi, z] at this
          cases this
    omega
  · have e : cnt k (fun i => G p i && !V i) = cnt k (G p) := cnt_congr fun i hi => by
      cases g : G p i with
      | false => rfl
      | true =>
        cases vi : V i with
        | false => rfl
        | true => exact absurd ⟨i, hi, vi, g⟩ c
    rw [cnt_or_not, e]
    omega
/-- U holds the shallowest of those who move -/
structure Shal (k : Nat) (G : Nat → Nat → Bool) (S U : Nat → Bool) : Prop where
  nm : ∀ i, i < k → ¬ Moves k G S i → U i = S i
  out : ∀ i, ¬ i < k → U i = S i
  sh : ∀ a b, a < k → b < k → Moves k G S a → Moves k G S b → U a = false → U b = true → ∀ s, s < k → G s a = true → G s b = true
theorem max_end {T : Nat} (t : Top k G T) (e : Shal k G S U) (ex : ∃ W, Reach k G S W ∧ cnt k W = cnt k U) (mx : ∀ W, Reach k G S W → cnt k W ≤ cnt k U) : Reach k G S U := by
  have tl := t.lt
  rcases sorts (S := S) t with ⟨N, hN, h⟩ | ⟨N, hN, h⟩ | ⟨hS, hc⟩
  · -- from below: all who move are here
    obtain ⟨F, rF, cF, eF⟩ := h.full t hN
    have cU : cnt k U = N := by
      obtain ⟨W, rW, cW⟩ := ex
      have a := (h.under t hN rW).1
      have b := mx F rF
      omega
    have sub : ∀ i, i < k → U i = true → F i = true := fun i hi u => by
      by_cases m : Moves k G S i
      · have g := (moves_low h t hN hi).mp m
        rw [eF i hi, t.up (N - 1) N i (by omega) hN g.2, Bool.or_true]
      · rw [still hi m rF, ← e.nm i hi m]
        exact u
    have eq : U = F := funext fun i => by
      by_cases hi : i < k
      · cases u : U i with
        | true => exact (sub i hi u).symm
        | false =>
          cases f : F i with
          | false => rfl
          | true =>
            have := cnt_eq sub (by omega) i hi f
            rw [u] at this
            cases this
      · rw [e.out i hi, reach_out rF i hi]
    rw [eq]
    exact rF
  · -- from above, by the dual
    refine Reach.codual (low_end h t.dual hN (fun i hi m => ?_) (fun i hi => ?_) ?_ fun a b ha hb ma mb va vb s hs g => ?_)
    · have : ¬ Moves k G S i := fun y => m ((moves_low h t.dual hN hi).mp ((moves_co hi).mpr y))
      show (!U i) = !S i
      rw [e.nm i hi this]
    · show (!U i) = !S i
      rw [e.out i hi]
    · obtain ⟨W, rW, cW⟩ := ex
      refine ⟨co W, rW.dual, ?_⟩
      have a := cnt_co k W
      have b := cnt_co k U
      omega
    · have mb' : Moves k G S b := (moves_co hb).mp ((moves_low h t.dual hN hb).mpr mb)
      have ua : U a = false := by
        have : (!U a) = true := va
        revert this
        cases U a <;> simp
      have ub : U b = true := by
        have : (!U b) = false := vb
        revert this
        cases U b <;> simp
      have ma' : Moves k G S a := (moves_co ha).mp ((moves_low h t.dual hN ha).mpr ma)
      exact e.sh a b ha hb ma' mb' ua ub (k - 1 - s) (by omega) g
  · -- open
    have mo : ∀ i, i < k → (Moves k G S i ↔ G T i = true) := fun i hi => moves_open t hS hc hi
    have fs : ∀ i, i < k → G T i = false → U i = S i := fun i hi g => e.nm i hi fun y => by
      rw [(mo i hi).mp y] at g
      cases g
    obtain ⟨W, rW, cW⟩ := hS.elim (fun h => h.to t) fun h => h.to t
    have tU : T ≤ cnt k U := by
      have := mx W rW
      omega
    refine open_reach t hS ?_ fs e.out
    by_cases c : cnt k U = T
    · exact .inl ⟨by omega, fun n a b => by omega⟩
    refine .inr ⟨by omega, fun s ts sU => ?_⟩
    have ck := cnt_le k U
    have oc := (open_counts t hS tU).mp ex
    have b1 := oc.2 s ts (by omega)
    have sp := cnt_split (k := k) U (G s)
    by_cases z : ∃ a, a < k ∧ G s a = true ∧ U a = false
    · obtain ⟨a, ha, ga, ua⟩ := z
      have ma := (mo a ha).mpr (t.all (by omega) ga)
      refine Nat.le_trans (cnt_mono (U := fun i => W i && !G T i) fun i hi y => ?_) (Nat.le_trans (cnt_mono (U := W) fun i hi y => ?_) (by omega : cnt k W ≤ s))
      · rw [Bool.and_eq_true] at y
        have ng : G T i = false := by
          cases g : G T i with
          | false => rfl
          | true =>
            have := e.sh a i ha hi ma ((mo i hi).mpr g) ua y.1 s (by omega) ga
            rw [this] at y
            cases y.2
        rw [ng, fast_inv t rW i hi ng, ← fs i hi ng, y.1]
        rfl
      · rw [Bool.and_eq_true] at y
        exact y.1
    · have : cnt k (G s) ≤ cnt k (fun i => U i && G s i) := cnt_mono fun i hi g => by
        cases u : U i with
        | true => rw [g]; rfl
        | false => exact absurd ⟨i, hi, g, u⟩ z
      omega
theorem min_end {T : Nat} (t : Top k G T) (e : Shal k (Th.dual k G) (co S) (co U)) (ex : ∃ W, Reach k G S W ∧ cnt k W = cnt k U) (mn : ∀ W, Reach k G S W → cnt k U ≤ cnt k W) : Reach k G S U := by
  refine Reach.codual (max_end t.dual e ?_ fun W r => ?_)
  · obtain ⟨W, rW, cW⟩ := ex
    refine ⟨co W, rW.dual, ?_⟩
    have a := cnt_co k W
    have b := cnt_co k U
    omega
  · have r2 : Reach k G S (co W) := Reach.codual (by rw [co_co]; exact r)
    have x := mn _ r2
    have a := cnt_co k W
    have b := cnt_co k U
    omega
end
end Th

namespace Sh
open PySem PySem.Spec PyProof.Rows L2
/-! ### k90: full, left, all numbers between -/
section
variable {h t : Int} {ds : List Int} {L M U V ms : List Nat} {m : Nat}
theorem still_mem (hL : Lot ds.length L) (im : IsMovers h t ds L ms) (r : Rl h t ds L M) {i : Nat} (hi : i < ds.length) (nm : i ∉ ms) : i ∈ M ↔ i ∈ L := by
  have := Th.still hi (fun z => nm ((movers_moves hL im hi).mpr z)) r
  unfold mem at this
  rw [decide_eq_decide] at this
  exact this
theorem fast_len (hL : Lot ds.length L) (im : IsMovers h t ds L ms) (hM : Lot ds.length M) (r : Rl h t ds L M) : (L.filter fun j => !decide (j ∈ ms)).length ≤ M.length ∧ M.length ≤ (L.filter fun j => !decide (j ∈ ms)).length + ms.length := by
  have e : (M.filter fun j => !decide (j ∈ ms)) = L.filter fun j => !decide (j ∈ ms) := lot_ext (hM.filter _) (hL.filter _) fun i hi => by
    unfold mem
    rw [decide_eq_decide, List.mem_filter, List.mem_filter]
    constructor
    · rintro ⟨a, b⟩
      exact ⟨(still_mem hL im r hi (by simpa using b)).mp a, b⟩
    · rintro ⟨a, b⟩
      exact ⟨(still_mem hL im r hi (by simpa using b)).mpr a, b⟩
  have p : ∀ X : List Nat, X.length = (X.filter fun j => !decide (j ∈ ms)).length + (X.filter fun j => !!decide (j ∈ ms)).length := fun X => by
    induction X with
    | nil => rfl
    | cons a X ih =>
      rw [List.filter_cons, List.filter_cons, List.length_cons]
      cases c : decide (a ∈ ms) with
      | true =>
        rw [if_neg (by simp), if_pos (by simp), List.length_cons]
        omega
      | false =>
        rw [if_pos (by simp), if_neg (by simp), List.length_cons]
        omega
  have p := p M
  have q : (M.filter fun j => !!decide (j ∈ ms)).length ≤ ms.length := nodup_len ((hM.up.filter _).imp Nat.ne_of_lt) fun a ha => by
    have := (List.mem_filter.mp ha).2
    simpa using this
  rw [← e]
  omega
theorem end_most (hL : Lot ds.length L) (d0 : 0 < ds.length) (im : IsMovers h t ds L ms) (mo : IsMost h t ds L m) (lU : Lot ds.length U) (eU : U.length = m) (nm : ∀ i, i < ds.length → i ∉ ms → (i ∈ U ↔ i ∈ L))
    (sh : ∀ a b, a ∈ ms → b ∈ ms → a ∉ U → b ∈ U → ds.getD b 0 ≤ ds.getD a 0) : Rl h t ds L U := by
  unfold Rl
  refine Th.max_end (top_of h t ds d0) ⟨fun i hi no => ?_, fun i hi => ?_, fun a b ha hb ma mb ua ub s hs g => ?_⟩ ?_ fun W r => ?_
  · unfold mem
    rw [decide_eq_decide]
    exact nm i hi fun z => no ((movers_moves hL im hi).mp z)
  · rw [mem_out lU hi, mem_out hL hi]
  · have := sh a b ((movers_moves hL im ha).mpr ma) ((movers_moves hL im hb).mpr mb) (of_decide_eq_false ua) (of_decide_eq_true ub)
    unfold Gof at g ⊢
    rw [decide_eq_true_eq] at g ⊢
    omega
  · obtain ⟨N, lN, rN, eN⟩ := mo.1
    exact ⟨mem N, rN, by rw [cnt_mem lN, cnt_mem lU, eN, eU]⟩
  · have e := lotOf_eq hL r
    have lo := lotOf_lot ds.length W
    have := mo.2 _ lo (by unfold Rl; rw [e]; exact r)
    rw [← e, cnt_mem lo, cnt_mem lU, eU]
    exact this
theorem end_least (hL : Lot ds.length L) (d0 : 0 < ds.length) (im : IsMovers h t ds L ms) (mo : IsLeast h t ds L m) (lU : Lot ds.length U) (eU : U.length = m) (nm : ∀ i, i < ds.length → i ∉ ms → (i ∈ U ↔ i ∈ L))
    (sh : ∀ a b, a ∈ ms → b ∈ ms → a ∉ U → b ∈ U → ds.getD a 0 ≤ ds.getD b 0) : Rl h t ds L U := by
  unfold Rl
  refine Th.min_end (top_of h t ds d0) ⟨fun i hi no => ?_, fun i hi => ?_, fun a b ha hb ma mb ua ub s hs g => ?_⟩ ?_ fun W r => ?_
  · show (!mem U i) = !mem L i
    congr 1
    unfold mem
    rw [decide_eq_decide]
    exact nm i hi fun z => no ((Th.moves_co hi).mpr ((movers_moves hL im hi).mp z))
  · show (!mem U i) = !mem L i
    rw [mem_out lU hi, mem_out hL hi]
  · have ia : a ∈ U := by
      have : (!mem U a) = false := ua
      refine of_decide_eq_true (p := a ∈ U) ?_
      revert this
      show (!mem U a) = false → mem U a = true
      cases mem U a <;> simp
    have ib : b ∉ U := by
      have : (!mem U b) = true := ub
      refine of_decide_eq_false (p := b ∈ U) ?_
      revert this
      show (!mem U b) = true → mem U b = false
      cases mem U b <;> simp
    have := sh b a ((movers_moves hL im hb).mpr ((Th.moves_co hb).mp mb)) ((movers_moves hL im ha).mpr ((Th.moves_co ha).mp ma)) ib ia
    have g : Gof h t ds (ds.length - 1 - s) a = true := g
    show Gof h t ds (ds.length - 1 - s) b = true
    unfold Gof at g ⊢
    rw [decide_eq_true_eq] at g ⊢
    omega
  · obtain ⟨N, lN, rN, eN⟩ := mo.1
    exact ⟨mem N, rN, by rw [cnt_mem lN, cnt_mem lU, eN, eU]⟩
  · have e := lotOf_eq hL r
    have lo := lotOf_lot ds.length W
    have := mo.2 _ lo (by unfold Rl; rw [e]; exact r)
    rw [← e, cnt_mem lo, cnt_mem lU, eU]
    exact this
end
end Sh

namespace Sh
open PySem PySem.Spec PyProof.Rows L2
/-! ### k66: filled, emptied, by the law's own -/
def OpenL (h t : Int) (ds : List Int) (L : List Nat) : Prop := Th.Open ds.length (Gof h t ds) (topI h t ds.length).toNat (mem L)
def spBeyond (K : PySem.W.Frag) : Sp := fun vs H Q _ => ∃ (v : V) (px : Addr) (h t : Int) (ds : List Int) (L X : List Nat), vs = [v, .ref px] ∧ SeaT K H v h t ds ∧ H px = some (.lst (ni X)) ∧ ds.length ≤ 60 ∧ 0 < ds.length ∧ Lot ds.length L ∧ FillI h t ds L X ∧ OpenL h t ds L ∧ ∀ (H' : Hp) (m : Nat), Same H H' → IsMost h t ds L m → Q (.int (m : Int)) H'
abbrev s__law_beyond : Stmt := topS 45
theorem sc__law_beyond : FnScope (["_law_pool", "_law_here", "_law_top_here", "_law_marks_here", "_law_free", "_law_fast", "_law_out", "_law_at", "_law_some", "_law_whom", "_law_deep"] : List Str) (["_law_pool", "_law_here"] : List Str) (defScope s__law_beyond) := ⟨rfl, rfl, rfl, by decide +kernel, rfl, by decide +kernel, by decide +kernel⟩
theorem b__law_beyond (kV doc pm : Value) (an : Option Addr) (cdv ct : Value) (us : List Value) (hl : us.length = (["_law_pool", "_law_here"] : List Str).length) : bindArgs (PySem.W.fnOf "_law_beyond" "_law_beyond" (defArgs s__law_beyond) (defBody s__law_beyond) (defScope s__law_beyond) .none kV doc pm an cdv ct) ⟨us, []⟩ = pure ((["_law_pool", "_law_here"] : List Str).zip us) :=
  match us, hl with | [_, _], _ => rfl
section
variable {P : Program} {w : World} {K : PySem.W.Frag} {mg : Str → Option Value} {base : Heap}
set_option maxHeartbeats 4000000 in
theorem ok_beyond {k : Nat} (D : Df K mg "_law_beyond" s__law_beyond) (T : Bt mg) (O__law_top : Ok P w K mg base k "_law_top" s__law_top ["_law_pool"] (spTopL K)) (O__law_marks : Ok P w K mg base k "_law_marks" s__law_marks ["_law_pool"] (spMarks K)) (O__law_goers : Ok P w K mg base k "_law_goers" s__law_goers ["_law_pool", "_law_at"] (spGoL K)) :
    Ok P w K mg base (k + 1) "_law_beyond" s__law_beyond ["_law_pool", "_law_here"] (spBeyond K) := by
  refine D.ok sc__law_beyond b__law_beyond (fun vs H Q E h => ?_) (fun f cdv A outer s H vs Q E hr h => ?_)
  · obtain ⟨v, px, h, t, ds, L, X, rfl, _⟩ := h
    rfl
  · obtain ⟨v, px, h, t, ds, L, X, rfl, hv, hX, d60, d0, hL, fi, op, q⟩ := h
    have t1 := top_hi h t d0
    have t0 := top_lo h t ds.length
    obtain ⟨tp, etp⟩ : ∃ tp : Nat, topI h t ds.length = (tp : Int) := ⟨(topI h t ds.length).toNat, by omega⟩
    have top := top_of h t ds d0
    have op : Th.Open ds.length (Gof h t ds) (topI h t ds.length).toNat (mem L) := op
    rw [etp, Int.toNat_natCast] at top op
    refine ⟨_, (pss_cons (ps_asg (pe_tup (pa_cons (pe_fn O__law_top (hr.mono (by omega)) (pa_cons (pv 0) pa_nil)) (pa_cons (pe_fn O__law_marks (hr.mono (by omega)) (pa_cons (pv 0) pa_nil)) pa_nil))) (pg_seq rfl (pgs_cons (pg_name (i := 2) sc__law_beyond.nd rfl (.inr rfl)) (pgs_cons (pg_name (i := 3) sc__law_beyond.nd rfl (.inr rfl)) pgs_nil))))
      (pss_cons (ps_set (i := 4) sc__law_beyond.nd rfl (.inl rfl) (pe_callB cr_sortedPO (by rfl) T.sorted_ (by decide +kernel) (pa_cons (pe_lc (own := [("_law_whom", 9)]) (g := (gName 9)) (tt := tYes) (by rfl) sc__law_beyond.nd (pi_seq (pe_fn O__law_goers (hr.mono (by omega)) (pa_cons (pv 0) (pa_cons (pv 2) pa_nil)))) (blkOk_by (own := [("_law_whom", 9)]) (N := (["_law_pool", "_law_here", "_law_top_here", "_law_marks_here", "_law_free", "_law_fast", "_law_out", "_law_at", "_law_some", "_law_whom", "_law_deep"] : List Str)) (sc := defScope s__law_beyond) (by decide +kernel)) (fun _ _ _ _ _ => (pg_name (i := 9) sc__law_beyond.nd rfl (.inl rfl))) (fun _ _ _ _ _ => pts_nil) (fun _ _ _ _ _ => (pe_tup (pa_cons (pe_op op_sub pe_int (pe_ix (ix_ltK K) (pe_ix (ix_ltK K) (pv 0) pe_int (fun _ _ => rfl)) (pv 9) (fun _ _ => rfl))) (pa_cons (pv 9) pa_nil))))) pa_nil)))
      (pss_cons (ps_setLc (i := 5) (own := [("_law_whom", 9)]) (g := (gName 9)) (by rfl) sc__law_beyond.nd rfl rfl (sw_true rfl rfl rfl (by decide +kernel)) (pi_seq (pv 1)) (blkOk_by (own := [("_law_whom", 9)]) (N := (["_law_pool", "_law_here", "_law_top_here", "_law_marks_here", "_law_free", "_law_fast", "_law_out", "_law_at", "_law_some", "_law_whom", "_law_deep"] : List Str)) (sc := defScope s__law_beyond) (by decide +kernel)) (fun _ _ _ _ _ => (pg_name (i := 9) sc__law_beyond.nd rfl (.inl rfl))) (fun _ _ _ _ _ => (pts_one (pt_cmpR (op_notInK K) (pv 9) (pe_fn O__law_goers (hr.mono (by omega)) (pa_cons (pv 0) (pa_cons (pv 2) pa_nil))) (by rfl)))) (fun _ _ _ _ _ => (pv 9)))
      (pss_cons (ps_setLc (i := 6) (own := [("_law_deep", 10), ("_law_whom", 9)]) (g := (gSeq K 2 (gCons (gName 10) (gCons (gName 9) gNil)))) (tt := tYes) (by rfl) sc__law_beyond.nd rfl rfl (sw_true rfl rfl rfl (by decide +kernel)) (pi_seq (pe_slice sl_list (pv 4) (po_some (pe_callB (call_max2 rfl) (by rfl) T.max_ (by decide +kernel) (pa_cons pe_int (pa_cons (pe_op op_sub (pv 2) (pe_callB call_len_seq (by rfl) T.len_ PySem.boot_len (pa_cons (pv 5) pa_nil))) pa_nil)))) po_none)) (blkOk_by (own := [("_law_deep", 10), ("_law_whom", 9)]) (N := (["_law_pool", "_law_here", "_law_top_here", "_law_marks_here", "_law_free", "_law_fast", "_law_out", "_law_at", "_law_some", "_law_whom", "_law_deep"] : List Str)) (sc := defScope s__law_beyond) (by decide +kernel)) (fun _ _ _ _ _ => (pg_seq rfl (pgs_cons (pg_name (i := 10) sc__law_beyond.nd rfl (.inl rfl)) (pgs_cons (pg_name (i := 9) sc__law_beyond.nd rfl (.inl rfl)) pgs_nil)))) (fun _ _ _ _ _ => pts_nil) (fun _ _ _ _ _ => (pv 9)))
      (pss_cons (ps_for PassesOwn.never rfl (pi_range2 (by rfl) T.range_ (pa_cons (pv 2) (pa_cons (pe_callB call_len_seq (by rfl) T.len_ PySem.boot_len (pa_cons (pv 3) pa_nil)) pa_nil))) (pg_name (i := 7) sc__law_beyond.nd rfl (.inr rfl))
        (pss_cons (ps_setLc (i := 8) (own := [("_law_whom", 9)]) (g := (gName 9)) (by rfl) sc__law_beyond.nd rfl rfl (sw_true rfl rfl rfl (by decide +kernel)) (pi_seq (pv 6)) (blkOk_by (own := [("_law_whom", 9)]) (N := (["_law_pool", "_law_here", "_law_top_here", "_law_marks_here", "_law_free", "_law_fast", "_law_out", "_law_at", "_law_some", "_law_whom", "_law_deep"] : List Str)) (sc := defScope s__law_beyond) (by decide +kernel)) (fun _ _ _ _ _ => (pg_name (i := 9) sc__law_beyond.nd rfl (.inl rfl))) (fun _ _ _ _ _ => (pts_one (pt_cmpR op_le (pe_ix (ix_ltK K) (pe_ix (ix_ltK K) (pv 0) pe_int (fun _ _ => rfl)) (pv 9) (fun _ _ => rfl)) (pe_ix (ix_ltK K) (pv 3) (pv 7) (fun _ _ => rfl)) (nomark _)))) (fun _ _ _ _ _ => (pv 9)))
          (pss_cons (ps_if (pt_cmpR (op_eqD hr.units) (pv 8) (pe_lst pa_nil) (nomark _))
            (pss_one (ps_ret (pv 7)))
            pss_nil)
          (pss_one (ps_expr (pe_bm PySem.F.plainAttrs_list PySem.F.slot_list_remove PySem.F.type_list_remove mt_remove (pv 6) (pa_cons (pe_ix ix_lt (pv 8) pe_int (fun _ _ => rfl)) pa_nil)))))))
      (pss_one (ps_ret (pe_callB call_len_seq (by rfl) T.len_ PySem.boot_len (pa_cons (pv 3) pa_nil))))))))), ?_⟩
    refine ⟨_, rfl, v, h, t, ds, rfl, hv.a, d60, d0, fun H1 s1 => ?_⟩
    refine ⟨_, rfl, v, h, t, ds, rfl, (hv.same s1).a, d60, fun H2 pm s2 npm hm => ?_⟩
    rw [etp]
    refine ⟨(by show 2 ≤ sizeLine; decide), fun tpa ntpa => ?_⟩
    have s3 : Same H2 (upd H2 tpa (.tup [.int (tp : Int), .ref pm])) := same_new ntpa
    have e3 : upd H2 tpa (.tup [.int (tp : Int), .ref pm]) tpa = some (.tup [.int (tp : Int), .ref pm]) := upd_same
    generalize upd H2 tpa (.tup [.int (tp : Int), .ref pm]) = H3 at s3 e3
    refine ⟨tpa, _, rfl, SqA.t e3, rfl, _, _, rfl, _, _, rfl, rfl, ?_⟩
    have hv3 := hv.same (s1.trans (s2.trans s3))
    have hm3 := s3 _ _ hm
    have s03 := s1.trans (s2.trans s3)
    clear e3 s1 s2 s3 hm npm ntpa
    obtain ⟨FS, eFS⟩ : ∃ FS : List Nat, FS = gs (mk h t ds.length (tp : Int)) ds ds.length := ⟨_, rfl⟩
    have mFS : ∀ i, i ∈ FS ↔ i < ds.length ∧ Gof h t ds tp i = true := fun i => by
      rw [eFS, gs_mem]
      unfold Gof
      rw [decide_eq_true_eq]
    have nFS : FS.Nodup := by rw [eFS]; exact (gs_lot _).up.imp Nat.ne_of_lt
    have lFS : FS.length ≤ ds.length := by rw [eFS]; exact gs_len
    refine ⟨_, rfl, _, rfl, v, h, t, (tp : Int), ds, rfl, hv3.a, d60, fun H4 pg s4 npg hg => ?_⟩
    rw [← eFS] at hg
    refine ⟨pg, _, H4, rfl, SqA.l hg, Kp.refl _ _, fun J hJ C nC => ?_⟩
    obtain ⟨G, g, W⟩ := hJ.walk
    refine lc_it W (fun j H' => ∃ xs : List V, Same H4 H' ∧ H' C = some (.lst xs) ∧ PrsOf H' (fun o => 0 - ds.getD o 0) (FS.take j) xs) ⟨[], same_new nC, upd_same, .nil⟩ (fun j H' _ z => g H' (.ofS z.choose_spec.1)) ?_ ?_
    · rintro j z H5 H6 hj ⟨xs, s5, h5, pr⟩ ⟨rfl, gz⟩
      rw [ni_len] at hj
      obtain rfl : .int ((FS[j] : Nat) : Int) = z := Option.some.inj ((ni_get hj).symm.trans gz)
      obtain ⟨p', q', ev, a1, a2⟩ := (hv3.same s4).same s5
      have ok : FS[j] < ds.length := ((mFS _).mp (List.getElem_mem hj)).1
      subst ev
      refine ⟨rfl, tyes (iteT ?_)⟩
      refine ⟨_, rfl, p', _, 2, .ref q', rfl, rfl, .inr a1, rfl, _, rfl, q', _, _, .int (ds.getD FS[j] 0), rfl, rfl, .inr a2, at_nat (j := FS[j]) rfl (by simp [ok]), _, _, rfl, rfl, _, rfl, (by show 2 ≤ sizeLine; decide), fun tq ntq => ?_⟩
      have s6 : Same H6 (upd H6 tq (.tup [.int (0 - ds.getD FS[j] 0), .int ((FS[j] : Nat) : Int)])) := same_new ntq
      have tC : C ≠ tq := ne_of_none h5 ntq
      refine ⟨_, s6 _ _ h5, ?_, xs ++ [.ref tq], same_over (s5.trans s6) nC, upd_same, ?_⟩
      · rw [pr.1, List.length_take]
        exact small1000 (by omega)
      · rw [take_succ_get hj]
        refine pr.more (fun a tt e => ?_) ?_
        · rw [upd_ne (ne_of e h5 (by intro z; cases z))]
          exact s6 _ _ e
        · rw [upd_ne tC.symm, upd_same]
    rintro H5 ⟨xs, s5, h5, pr⟩
    rw [ni_len, List.take_length] at pr
    refine ⟨C, xs, pairK H5, rfl, SqL.of h5, pr.tups, fun zs sp srt stb nsp => ?_⟩
    obtain ⟨F, pF, sF, pz⟩ := pr.sorted srt stb
    have s6 : Same H5 (upd H5 sp (.lst zs)) := same_new nsp
    have e6 : (upd H5 sp (.lst zs)) sp = some (.lst zs) := upd_same
    have pz := pz.keep (H' := upd H5 sp (.lst zs)) (fun a tt e => s6 _ _ e)
    generalize upd H5 sp (.lst zs) = H6 at s6 e6 pz
    have s36 := s4.trans (s5.trans s6)
    have hv6 := hv3.same s36
    have hm6 := s36 _ _ hm3
    have s06 := s03.trans s36
    have hX6 := s06 _ _ hX
    have mF : ∀ i, i ∈ F ↔ i < ds.length ∧ Gof h t ds tp i = true := fun i => by rw [pF.mem_iff, mFS]
    have nF : F.Nodup := pF.nodup_iff.mpr nFS
    have lF : F.length ≤ ds.length := by rw [pF.length_eq]; exact lFS
    have sF : F.Pairwise fun x y => ds.getD y 0 ≤ ds.getD x 0 := sF.imp fun z => by omega
    clear pr srt stb h5 s4 s5 s6 s36 s03 hm3 hv3 g W hJ J G nC hg npg
    have lX := fi.len
    refine ⟨_, rfl, px, _, H6, rfl, SqA.l hX6, Kp.refl _ _, fun J hJ C2 nC2 => ?_⟩
    obtain ⟨G, g, W⟩ := hJ.walk
    refine lc_filterS (fun j => !decide (j ∈ F)) W (fun H' s => g H' (.ofS s)) nC2 (by omega) (fun _ => rfl) (fun _ => rfl) (fun y _ H' s' Q' q' => ?_) (fun H7 s7 hC7 => ?_)
    · refine ⟨_, rfl, _, rfl, _, rfl, v, h, t, (tp : Int), ds, rfl, (hv6.same s').a, d60, fun H8 pg s8 npg hg => ?_⟩
      rw [← eFS] at hg
      refine ⟨pg, _, rfl, .inl (SqL.of hg), rfl, ni_flat _, _, rfl, ?_⟩
      rw [if_pos rfl, in_ni, show decide (y ∈ FS) = decide (y ∈ F) by rw [decide_eq_decide, mF, mFS]]
      exact q' _ s8
    obtain ⟨Z, eZ⟩ : ∃ Z : List Nat, Z = X.filter fun j => !decide (j ∈ F) := ⟨_, rfl⟩
    rw [← eZ] at hC7
    have mZ : ∀ i, i ∈ Z ↔ i ∈ X ∧ i ∉ F := fun i => by
      rw [eZ, List.mem_filter, Bool.not_eq_true', decide_eq_false_iff_not]
    have nZ : Z.Nodup := by rw [eZ]; exact fi.nd.sublist List.filter_sublist
    obtain ⟨zT, W0, g0⟩ := beyond_start d0 hL fi top op mF nF sF mZ nZ
    have e7 := s7 _ _ e6
    have pz7 := pz.keep (H' := H7) fun a tt e => s7 _ _ e
    have hm7 := s7 _ _ hm6
    have hv7 := hv6.same s7
    have s07 := s06.trans s7
    clear e6 pz hm6 hv6 hX6 g W hJ J G nC2
    obtain ⟨dd, edd⟩ : ∃ dd : Nat, dd = tp - Z.length := ⟨_, rfl⟩
    rw [← edd] at g0
    refine ⟨_, rfl, _, rfl, _, rfl, C2, _, rfl, .inl (SqL.of hC7), _, _, rfl, rfl, 0, _, rfl, ?_⟩
    rw [ni_len, show (if (tp : Int) - (Z.length : Int) > 0 then (tp : Int) - (Z.length : Int) else 0) = (dd : Int) by split <;> omega]
    refine ⟨_, rfl, sp, _, rfl, SqL.of e7, fun sl nsl => ?_⟩
    rw [cut_drop]
    have s8 : Same H7 (upd H7 sl (.lst (zs.drop dd))) := same_new nsl
    have e8 : upd H7 sl (.lst (zs.drop dd)) sl = some (.lst (zs.drop dd)) := upd_same
    have pz8 := pz7.keep (H' := upd H7 sl (.lst (zs.drop dd))) fun a tt e => s8 _ _ e
    generalize upd H7 sl (.lst (zs.drop dd)) = H8 at s8 e8 pz8
    refine ⟨sl, _, H8, rfl, SqA.l e8, Kp.refl _ _, fun J hJ C4 nC4 => ?_⟩
    obtain ⟨G, g, W⟩ := hJ.walk
    refine lc_it W (fun i H' => Same H8 H' ∧ H' C4 = some (.lst (ni ((F.drop dd).take i)))) ⟨same_new nC4, upd_same⟩ (fun i H' _ z => g H' (.ofS z.1)) ?_ ?_
    · rintro i y Ha Hb hi ⟨sa, ha⟩ ⟨rfl, gy⟩
      rw [List.getElem?_drop] at gy
      obtain ⟨a, o, eo, rfl, ea⟩ := pz8.2 _ y gy
      have gF : (F.drop dd)[i]? = some o := by rw [List.getElem?_drop]; exact eo
      obtain ⟨iO, eO⟩ := List.getElem?_eq_some_iff.mp gF
      refine ⟨a, _, rfl, SqA.t (sa _ _ ea), rfl, _, _, rfl, _, _, rfl, rfl, rfl, tyes (iteT ?_)⟩
      refine ⟨_, rfl, _, ha, ?_, same_over sa nC4, ?_⟩
      · rw [ni_len, List.length_take]
        exact small1000 (by rw [List.length_drop]; omega)
      · rw [upd_same, take_succ_get iO, ni_app, eO]
        rfl
    have fC4 : H C4 = none := (s07.trans s8).free nC4
    have pC4 : pm ≠ C4 := ne_of_none (s8 _ _ hm7) nC4
    rintro H9 ⟨s9, h9⟩
    rw [List.take_of_length_le (by rw [List.length_drop, List.length_drop, pz8.1]; exact Nat.le_refl _)] at h9
    have s79 := s8.trans s9
    have hv9 := hv7.same s79
    have hm9 := s79 _ _ hm7
    have s09 := s07.trans s79
    clear e7 pz7 e8 pz8 hm7 hv7 g W hJ J G nC4 hC7 s8 s9 s79
    refine ⟨_, rfl, _, rfl, pm, _, rfl, .inl (SqL.of hm9), ?_⟩
    rw [List.length_map, ml_len]
    refine ⟨_, _, rfl, ⟨by omega, by omega, by omega, by omega⟩, ?_⟩
    rw [show ((ds.length : Int) - (tp : Int)).toNat = ds.length - tp by omega]
    refine for_range (lo := (tp : Int)) (n := ds.length - tp) (fun i σ H' => ∃ (O : List Nat) (W : Nat → Bool) (y7 y8 : Option V), σ = [some v, some (.ref px), some (.int (tp : Int)), some (.ref pm), some (.ref sp), some (.ref C2), some (.ref C4), y7, y8, none, none] ∧ Same H H' ∧ SeaT K H' v h t ds ∧ H' pm = some (.lst ((ml h t ds.length ds.length).map V.int)) ∧ H' C4 = some (.lst (ni O)) ∧
      Th.Gre ds.length (Gof h t ds) (fun i => ds.getD i 0) (mem L) (Gof h t ds tp) tp (tp + i) W O) ⟨F.drop dd, W0, none, none, rfl, s09, hv9, hm9, h9, g0⟩ ?_ ?_
    · rintro i σ Ha hi ⟨O, W, y7, y8, rfl, sa, hva, hma, hoa, ga⟩
      have lO : O.length ≤ ds.length := by
        have := nodup_len ga.nd (m := List.range ds.length) fun j hj => List.mem_range.mpr (ga.out j hj).1
        rw [List.length_range] at this
        exact this
      have si : tp + i < ds.length := by omega
      refine ⟨_, rfl, C4, _, Ha, rfl, SqA.l hoa, Kp.refl _ _, fun J hJ C nC => ?_⟩
      obtain ⟨G, g, Wk⟩ := hJ.walk
      refine lc_filter (fun o => Gof h t ds (tp + i) o) Wk (fun H' s => g H' (.ofS s)) nC (by omega) (fun _ => rfl) (fun _ => rfl) (fun y hy H' s' Q' q' => ?_) (fun Hb sb hCb => ?_)
      · obtain ⟨p', q'', rfl, a1, a2⟩ := hva.same s'
        have yk : y < ds.length := (ga.out y hy).1
        refine ⟨_, rfl, p', _, 2, .ref q'', rfl, rfl, .inr a1, rfl, _, rfl, q'', _, _, .int (ds.getD y 0), rfl, rfl, .inr a2, at_nat (j := y) rfl (by simp [yk]), ?_⟩
        refine ⟨_, rfl, _, rfl, pm, _, _, .int (mk h t ds.length ((tp + i : Nat) : Int)), rfl, rfl, SqA.l (s' _ _ hma), at_nat (j := tp + i) (by omega) (by rw [List.getElem?_map, ml_get si]; rfl), _, _, rfl, rfl, _, rfl, ?_⟩
        exact q'
      obtain ⟨Y, eY⟩ : ∃ Y : List Nat, Y = O.filter fun o => Gof h t ds (tp + i) o := ⟨_, rfl⟩
      rw [← eY] at hCb
      have sab := sa.trans sb
      have hvb := hva.same sb
      have hmb := sb _ _ hma
      have hob := sb _ _ hoa
      refine ⟨_, rfl, Nat.zero_le _, fun em nem => ?_⟩
      have s5 : Same Hb (upd Hb em (.lst [])) := same_new nem
      have e5 : upd Hb em (.lst []) em = some (.lst []) := upd_same
      generalize upd Hb em (.lst []) = Hc at s5 e5
      refine ⟨_, .list [], dp_ni (s5 _ _ hCb), .lst (SqL.of e5) .nil, shaped_ints _, rfl, _, rfl, ?_⟩
      rw [eqv_nil, show (Y.map fun (i : Nat) => (i : Int)).isEmpty = Y.isEmpty by cases Y <;> rfl]
      have sac := sab.trans s5
      cases Y with
      | nil =>
        refine iteT ?_
        refine ⟨_, rfl, ?_⟩
        rw [show (tp : Int) + (i : Int) = ((tp + i : Nat) : Int) by omega]
        exact q Hc (tp + i) sac (isMost_of hL (ga.max_open top gof_dn op fun _ => gre_no eY.symm))
      | cons p0 Y =>
        refine iteF ?_
        have hoc := s5 _ _ hob
        have hCc := s5 _ _ hCb
        have pO : p0 ∈ O := (List.mem_filter.mp (by rw [← eY]; exact List.mem_cons_self)).1
        obtain ⟨j, ej⟩ := List.getElem?_of_mem pO
        obtain ⟨jl, ej'⟩ := List.getElem?_eq_some_iff.mp ej
        rw [ni_ints] at hoc
        refine ⟨_, rfl, .inl ⟨rfl, _, SqL.of hoc⟩, _, rfl, C, _, 0, .int (p0 : Int), rfl, rfl, SqA.l hCc, at_nat (j := 0) rfl rfl, ?_⟩
        refine ⟨C4, _, (p0 : Int), j, rfl, rfl, hoc, by rw [List.getElem?_map, ej]; rfl, fun m hm z => ?_, ?_⟩
        · rw [List.getElem?_map, List.getElem?_eq_getElem (by omega)] at z
          have z : ((O[m] : Nat) : Int) = (p0 : Int) := Option.some.inj z
          have := (List.getElem_inj ga.nd).mp (show O[m] = O[j] by rw [ej']; omega)
          omega
        · have s6 : Same H (upd Hc C4 (.lst (((O.map fun (i : Nat) => (i : Int)).eraseIdx j).map V.int))) := fun a o e => by
            rw [upd_ne (ne_of_none e fC4)]
            exact sac _ _ e
          refine ⟨O.eraseIdx j, Th.flip W p0, _, _, rfl, s6, hv.same s6, ?_, ?_, ?_⟩
          · rw [upd_ne pC4]
            exact s5 _ _ hmb
          · rw [upd_same, ni_ints, erase_map]
          · exact gre_more top (Nat.le_refl _) ga si eY.symm ej
    · rintro σ Ha ⟨O, W, y7, y8, rfl, sa, hva, hma, hoa, ga⟩
      refine ⟨_, rfl, pm, _, rfl, .inl (SqL.of hma), ?_⟩
      rw [List.length_map, ml_len]
      have e : tp + (ds.length - tp) = ds.length := by omega
      rw [e] at ga
      exact q Ha ds.length sa (isMost_of hL (ga.max_open top gof_dn op fun z => absurd z (Nat.lt_irrefl _)))
end
end Sh

namespace Sh
open PySem PySem.Spec PyProof.Rows L2
/-! ### k66: filled to the top, emptied to the top -/
def LowL (h t : Int) (ds : List Int) (L : List Nat) (N : Nat) : Prop := N ≤ (topI h t ds.length).toNat ∧ Th.StuckLow ds.length (Gof h t ds) N (mem L)
def spFilT (K : PySem.W.Frag) : Sp := fun vs H Q _ => ∃ (v l : V) (h t : Int) (ds : List Int) (L : List Nat), vs = [v, l] ∧ SeaT K H v h t ds ∧ LotA K H l L ∧ ds.length ≤ 60 ∧ 0 < ds.length ∧ Lot ds.length L ∧ (L.length : Int) ≤ topI h t ds.length ∧
  ∀ (H' : Hp) (p : Addr) (m : Nat) (x z : V), Same H H' → H' p = some (.tup [.int (m : Int), x, z]) → IsMost h t ds L m → ((z = .int (m : Int) ∧ LowL h t ds L m) ∨ (z = .non ∧ OpenL h t ds L)) → Q (.ref p) H'
def spAbove (K : PySem.W.Frag) : Sp := fun vs H Q _ => ∃ (v l : V) (h t : Int) (ds : List Int) (L : List Nat), vs = [v, l] ∧ SeaT K H v h t ds ∧ LotA K H l L ∧ ds.length ≤ 60 ∧ 0 < ds.length ∧ Lot ds.length L ∧ ¬ (L.length : Int) ≤ topI h t ds.length ∧
  ∀ (H' : Hp) (p px : Addr) (X : List Nat) (z : V), Same H H' → H' p = some (.tup [.ref px, z]) → H' px = some (.lst (ni X)) → FillI h t ds L X → ((z = .int ((X.length - 1 : Nat) : Int) ∧ (topI h t ds.length).toNat < X.length ∧ ∀ i ∈ X, Gof h t ds (X.length - 1) i = false) ∨ (z = .non ∧ OpenL h t ds L)) → Q (.ref p) H'
abbrev s__law_filled : Stmt := topS 44
theorem sc__law_filled : FnScope (["_law_pool", "_law_lot_here", "_law_here", "_law_top_here", "_law_some", "_law_whom"] : List Str) (["_law_pool", "_law_lot_here"] : List Str) (defScope s__law_filled) := ⟨rfl, rfl, rfl, by decide +kernel, rfl, by decide +kernel, by decide +kernel⟩
theorem b__law_filled (kV doc pm : Value) (an : Option Addr) (cdv ct : Value) (us : List Value) (hl : us.length = (["_law_pool", "_law_lot_here"] : List Str).length) : bindArgs (PySem.W.fnOf "_law_filled" "_law_filled" (defArgs s__law_filled) (defBody s__law_filled) (defScope s__law_filled) .none kV doc pm an cdv ct) ⟨us, []⟩ = pure ((["_law_pool", "_law_lot_here"] : List Str).zip us) :=
  match us, hl with | [_, _], _ => rfl
abbrev s__law_from_above : Stmt := topS 46
theorem sc__law_from_above : FnScope (["_law_pool", "_law_lot_here", "_law_here", "_law_some", "_law_whom"] : List Str) (["_law_pool", "_law_lot_here"] : List Str) (defScope s__law_from_above) := ⟨rfl, rfl, rfl, by decide +kernel, rfl, by decide +kernel, by decide +kernel⟩
theorem b__law_from_above (kV doc pm : Value) (an : Option Addr) (cdv ct : Value) (us : List Value) (hl : us.length = (["_law_pool", "_law_lot_here"] : List Str).length) : bindArgs (PySem.W.fnOf "_law_from_above" "_law_from_above" (defArgs s__law_from_above) (defBody s__law_from_above) (defScope s__law_from_above) .none kV doc pm an cdv ct) ⟨us, []⟩ = pure ((["_law_pool", "_law_lot_here"] : List Str).zip us) :=
  match us, hl with | [_, _], _ => rfl
section
variable {P : Program} {w : World} {K : PySem.W.Frag} {mg : Str → Option Value} {base : Heap}
set_option maxHeartbeats 4000000 in
theorem ok_filT {k : Nat} (D : Df K mg "_law_filled" s__law_filled) (T : Bt mg) (O__law_top : Ok P w K mg base k "_law_top" s__law_top ["_law_pool"] (spTopL K)) (O__law_goers : Ok P w K mg base k "_law_goers" s__law_goers ["_law_pool", "_law_at"] (spGoL K)) (O__law_beyond : Ok P w K mg base k "_law_beyond" s__law_beyond ["_law_pool", "_law_here"] (spBeyond K)) :
    Ok P w K mg base (k + 1) "_law_filled" s__law_filled ["_law_pool", "_law_lot_here"] (spFilT K) := by
  refine D.ok sc__law_filled b__law_filled (fun vs H Q E h => ?_) (fun f cdv A outer s H vs Q E hr h => ?_)
  · obtain ⟨v, l, h, t, ds, L, rfl, _⟩ := h
    rfl
  · obtain ⟨v, l, h, t, ds, L, rfl, hv, ⟨pl, rfl, hl⟩, d60, d0, hL, le, q⟩ := h
    have t1 := top_hi h t d0
    have t0 := top_lo h t ds.length
    have top := top_of h t ds d0
    obtain ⟨tp, etp⟩ : ∃ tp : Nat, topI h t ds.length = (tp : Int) := ⟨(topI h t ds.length).toNat, by omega⟩
    rw [etp, Int.toNat_natCast] at top
    refine ⟨_, (pss_cons (ps_asg (pe_tup (pa_cons (pe_callTy call_list_of (by rfl) T.list_ (by decide +kernel) (pa_cons (pv 1) pa_nil)) (pa_cons (pe_fn O__law_top (hr.mono (by omega)) (pa_cons (pv 0) pa_nil)) pa_nil))) (pg_seq rfl (pgs_cons (pg_name (i := 2) sc__law_filled.nd rfl (.inr rfl)) (pgs_cons (pg_name (i := 3) sc__law_filled.nd rfl (.inl rfl)) pgs_nil))))
      (pss_cons (ps_while PassesOwn.never (pt_cmpR op_le (pe_callB call_len_seq (by rfl) T.len_ PySem.boot_len (pa_cons (pv 2) pa_nil)) (pv 3) (nomark _))
        (pss_cons (ps_setLc (i := 4) (own := [("_law_whom", 5)]) (g := (gName 5)) (by rfl) sc__law_filled.nd rfl rfl (sw_true rfl rfl rfl (by decide +kernel)) (pi_seq (pe_fn O__law_goers (hr.mono (by omega)) (pa_cons (pv 0) (pa_cons (pe_callB call_len_seq (by rfl) T.len_ PySem.boot_len (pa_cons (pv 2) pa_nil)) pa_nil)))) (blkOk_by (own := [("_law_whom", 5)]) (N := (["_law_pool", "_law_lot_here", "_law_here", "_law_top_here", "_law_some", "_law_whom"] : List Str)) (sc := defScope s__law_filled) (by decide +kernel)) (fun _ _ _ _ _ => (pg_name (i := 5) sc__law_filled.nd rfl (.inl rfl))) (fun _ _ _ _ _ => (pts_one (pt_cmpR (op_notInK K) (pv 5) (pv 2) (by rfl)))) (fun _ _ _ _ _ => (pv 5)))
          (pss_cons (ps_if (pt_cmpR (op_eqD hr.units) (pv 4) (pe_lst pa_nil) (nomark _))
            (pss_one (ps_ret (pe_tup (pa_cons (pe_callB call_len_seq (by rfl) T.len_ PySem.boot_len (pa_cons (pv 2) pa_nil)) (pa_cons (pv 2) (pa_cons (pe_callB call_len_seq (by rfl) T.len_ PySem.boot_len (pa_cons (pv 2) pa_nil)) pa_nil))))))
            pss_nil)
          (pss_one (ps_expr (pe_bm PySem.F.plainAttrs_list PySem.F.slot_list_append PySem.F.type_list_append mt_append (pv 2) (pa_cons (pe_ix ix_lt (pv 4) pe_int (fun _ _ => rfl)) pa_nil)))))))
      (pss_one (ps_ret (pe_tup (pa_cons (pe_fn O__law_beyond (hr.mono (by omega)) (pa_cons (pv 0) (pa_cons (pv 2) pa_nil))) (pa_cons (pv 2) (pa_cons pe_non pa_nil)))))))), ?_⟩
    refine ⟨_, rfl, pl, _, rfl, hl, fun X0 nX0 => ?_⟩
    have s0 : Same H (upd H X0 (.lst (ni L))) := same_new nX0
    have e0 : upd H X0 (.lst (ni L)) X0 = some (.lst (ni L)) := upd_same
    generalize upd H X0 (.lst (ni L)) = Hs at s0 e0
    refine ⟨_, rfl, v, h, t, ds, rfl, (hv.same s0).a, d60, d0, fun H1 s1 => ?_⟩
    rw [etp]
    refine ⟨(by show 2 ≤ sizeLine; decide), fun tq ntq => ?_⟩
    have s2 : Same H1 (upd H1 tq (.tup [.ref X0, .int (tp : Int)])) := same_new ntq
    have e2 : upd H1 tq (.tup [.ref X0, .int (tp : Int)]) tq = some (.tup [.ref X0, .int (tp : Int)]) := upd_same
    generalize upd H1 tq (.tup [.ref X0, .int (tp : Int)]) = H2 at s2 e2
    refine ⟨tq, _, rfl, SqA.t e2, rfl, _, _, rfl, _, _, rfl, rfl, ?_⟩
    have s02 := s0.trans (s1.trans s2)
    have e02 := s2 _ _ (s1 _ _ e0)
    clear s0 e0 s1 s2 e2 ntq
    refine ⟨fun m σ H' => ∃ (X : List Nat) (y4 : Option V), σ = [some v, some (.ref pl), some (.ref X0), some (.int (tp : Int)), y4, none] ∧ Same H H' ∧ H' X0 = some (.lst (ni X)) ∧ FillI h t ds L X ∧ (X.length ≤ tp ∨ X.length = tp + 1 ∧ ∃ p, p ∈ X ∧ Gof h t ds tp p = true) ∧ m = 61 - X.length,
      ⟨_, L, none, rfl, s02, e02, .start hL, .inl (by omega), rfl⟩, ?_⟩
    rintro m σ Ha ⟨X, y4, rfl, sa, hX, fi, en, rfl⟩
    have lX := fi.len
    have hva := hv.same sa
    refine ⟨_, rfl, X0, _, rfl, .inl (SqL.of hX), _, rfl, ?_⟩
    rw [ni_len]
    refine ⟨_, _, rfl, rfl, _, rfl, ite2 (fun c => ?_) (fun c => ?_)⟩
    · have le : (X.length : Int) ≤ (tp : Int) := of_decide_eq_true c
      refine ⟨fun σ' H' => ∃ (X' : List Nat) (y4 : Option V), σ' = [some v, some (.ref pl), some (.ref X0), some (.int (tp : Int)), y4, none] ∧ Same H H' ∧ H' X0 = some (.lst (ni X')) ∧ FillI h t ds L X' ∧ (X'.length ≤ tp ∨ X'.length = tp + 1 ∧ ∃ p, p ∈ X' ∧ Gof h t ds tp p = true) ∧ X'.length = X.length + 1,
        fun σ' H' ⟨X', y4, e, u, hx, f, g, l⟩ => ⟨61 - X'.length, by omega, X', y4, e, u, hx, f, g, rfl⟩, ?_⟩
      refine ⟨_, rfl, _, rfl, X0, _, rfl, .inl (SqL.of hX), v, h, t, ((ni X).length : Int), ds, rfl, hva.a, d60, fun H3 g s3 ng hg => ?_⟩
      rw [ni_len] at hg
      have hX3 := s3 _ _ hX
      refine ⟨g, _, H3, rfl, SqA.l hg, Kp.refl _ _, fun J hJ C nC => ?_⟩
      obtain ⟨G, gg, W⟩ := hJ.walk
      have lg := gs_len (m := mk h t ds.length (X.length : Int)) (ds := ds) (n := ds.length)
      refine lc_filter (fun i => !decide (i ∈ X)) W (fun H' z => gg H' (.ofS z)) nC (by omega) (fun _ => rfl) (fun _ => rfl) (fun y hy H' s' Q' q' => ?_) (fun H4 s4 hC => ?_)
      · refine ⟨_, rfl, _, rfl, X0, _, rfl, .inl (SqL.of (s' _ _ hX3)), rfl, ni_flat _, _, rfl, ?_⟩
        rw [in_ni]
        exact q'
      obtain ⟨Y, eY⟩ : ∃ Y : List Nat, Y = (gs (mk h t ds.length (X.length : Int)) ds ds.length).filter fun i => !decide (i ∈ X) := ⟨_, rfl⟩
      rw [← eY] at hC
      have Yd : ∀ i, i ∈ Y ↔ (i < ds.length ∧ Gof h t ds X.length i = true) ∧ i ∉ X := fun i => by
        rw [eY, List.mem_filter, Bool.not_eq_true', decide_eq_false_iff_not, gs_mem]
        unfold Gof
        rw [decide_eq_true_eq]
      have s24 := s3.trans s4
      refine ⟨_, rfl, Nat.zero_le _, fun em nem => ?_⟩
      have s5 : Same H4 (upd H4 em (.lst [])) := same_new nem
      have e5 : upd H4 em (.lst []) em = some (.lst []) := upd_same
      generalize upd H4 em (.lst []) = H5 at s5 e5
      refine ⟨_, .list [], dp_ni (s5 _ _ hC), .lst (SqL.of e5) .nil, shaped_ints _, rfl, _, rfl, ?_⟩
      rw [eqv_nil, show (Y.map fun (i : Nat) => (i : Int)).isEmpty = Y.isEmpty by cases Y <;> rfl]
      have hX5 := s5 _ _ (s4 _ _ hX3)
      have sa5 := sa.trans (s24.trans s5)
      cases Y with
      | nil =>
        refine iteT ?_
        have st : Th.StuckLow ds.length (Gof h t ds) X.length (mem L) := fi.low d0 (by omega) fun i hi g => by
          refine Classical.byContradiction fun no => ?_
          have := (Yd i).mpr ⟨⟨hi, g⟩, no⟩
          cases this
        refine ⟨_, rfl, X0, _, rfl, .inl (SqL.of hX5), _, rfl, _, rfl, X0, _, rfl, .inl (SqL.of hX5), (by show 3 ≤ sizeLine; decide), fun tr ntr => ?_⟩
        rw [ni_len]
        refine q _ tr X.length _ _ (sa5.trans (same_new ntr)) upd_same (isMost_of hL (Th.stuck_min_high top (by omega) st)) (.inl ⟨rfl, by omega, st⟩)
      | cons p0 Y =>
        refine iteF ?_
        obtain ⟨⟨j1, j2⟩, j3⟩ := (Yd p0).mp List.mem_cons_self
        refine ⟨_, rfl, .inl ⟨rfl, _, SqL.of hX5⟩, _, rfl, C, _, 0, .int (p0 : Int), rfl, rfl, SqA.l (s5 _ _ hC), at_nat (j := 0) rfl rfl, ?_⟩
        have s6 : Same H (upd H5 X0 (.lst (ni X ++ [.int (p0 : Int)]))) := fun a o e => by
          rw [upd_ne (ne_of_none e nX0)]
          exact sa5 _ _ e
        refine ⟨X0, _, _, rfl, rfl, hX5, ?_, X ++ [p0], _, rfl, s6, ?_, fi.more j1 j3 j2, ?_, by rw [List.length_append]; rfl⟩
        · rw [ni_len]
          exact small1000 (by omega)
        · rw [upd_same, ni_app]
          rfl
        · rw [List.length_append, List.length_singleton]
          by_cases z : X.length + 1 ≤ tp
          · exact .inl z
          · refine .inr ⟨by omega, p0, List.mem_append_right _ (List.mem_singleton.mpr rfl), ?_⟩
            rw [show tp = X.length by omega]
            exact j2
    · have gt : ¬ (X.length : Int) ≤ (tp : Int) := fun z => c (decide_eq_true z)
      obtain ⟨eX, p, pX, gp⟩ := en.resolve_left (by omega)
      have op : OpenL h t ds L := by
        unfold OpenL
        rw [etp, Int.toNat_natCast]
        exact Th.open_up top fi.rl (by rw [cnt_nodup fi.nd fi.lt]; exact eX) (fi.lt p pX) gp (decide_eq_true pX)
      refine ⟨_, rfl, _, rfl, v, X0, h, t, ds, L, X, rfl, hva, hX, d60, d0, hL, fi, op, fun H3 m s3 im => ?_⟩
      refine ⟨_, rfl, (by show 3 ≤ sizeLine; decide), fun tr ntr => ?_⟩
      exact q _ tr m _ _ (sa.trans (s3.trans (same_new ntr))) upd_same im (.inr ⟨rfl, op⟩)
set_option maxHeartbeats 4000000 in
theorem ok_above {k : Nat} (D : Df K mg "_law_from_above" s__law_from_above) (T : Bt mg) (O__law_top : Ok P w K mg base k "_law_top" s__law_top ["_law_pool"] (spTopL K)) (O__law_goers : Ok P w K mg base k "_law_goers" s__law_goers ["_law_pool", "_law_at"] (spGoL K)) :
    Ok P w K mg base (k + 1) "_law_from_above" s__law_from_above ["_law_pool", "_law_lot_here"] (spAbove K) := by
  refine D.ok sc__law_from_above b__law_from_above (fun vs H Q E h => ?_) (fun f cdv A outer s H vs Q E hr h => ?_)
  · obtain ⟨v, l, h, t, ds, L, rfl, _⟩ := h
    rfl
  · obtain ⟨v, l, h, t, ds, L, rfl, hv, ⟨pl, rfl, hl⟩, d60, d0, hL, le, q⟩ := h
    have t1 := top_hi h t d0
    have t0 := top_lo h t ds.length
    have top := top_of h t ds d0
    obtain ⟨tp, etp⟩ : ∃ tp : Nat, topI h t ds.length = (tp : Int) := ⟨(topI h t ds.length).toNat, by omega⟩
    rw [etp, Int.toNat_natCast] at top
    refine ⟨_, (pss_cons (ps_set (i := 2) sc__law_from_above.nd rfl (.inr rfl) (pe_callTy call_list_of (by rfl) T.list_ (by decide +kernel) (pa_cons (pv 1) pa_nil)))
      (pss_cons (ps_while PassesOwn.never (pt_cmpR op_gt (pe_callB call_len_seq (by rfl) T.len_ PySem.boot_len (pa_cons (pv 2) pa_nil)) (pe_fn O__law_top (hr.mono (by omega)) (pa_cons (pv 0) pa_nil)) (nomark _))
        (pss_cons (ps_setLc (i := 3) (own := [("_law_whom", 4)]) (g := (gName 4)) (by rfl) sc__law_from_above.nd rfl rfl (sw_true rfl rfl rfl (by decide +kernel)) (pi_seq (pv 2)) (blkOk_by (own := [("_law_whom", 4)]) (N := (["_law_pool", "_law_lot_here", "_law_here", "_law_some", "_law_whom"] : List Str)) (sc := defScope s__law_from_above) (by decide +kernel)) (fun _ _ _ _ _ => (pg_name (i := 4) sc__law_from_above.nd rfl (.inl rfl))) (fun _ _ _ _ _ => (pts_one (pt_cmpR (op_inK K) (pv 4) (pe_fn O__law_goers (hr.mono (by omega)) (pa_cons (pv 0) (pa_cons (pe_op op_sub (pe_callB (call_lenK K) (by rfl) T.len_ PySem.boot_len (pa_cons (pv 2) pa_nil)) pe_int) pa_nil))) (by rfl)))) (fun _ _ _ _ _ => (pv 4)))
          (pss_cons (ps_if (pt_cmpR (op_eqD hr.units) (pv 3) (pe_lst pa_nil) (nomark _))
            (pss_one (ps_ret (pe_tup (pa_cons (pv 2) (pa_cons (pe_op op_sub (pe_callB call_len_seq (by rfl) T.len_ PySem.boot_len (pa_cons (pv 2) pa_nil)) pe_int) pa_nil)))))
            pss_nil)
          (pss_one (ps_expr (pe_bm PySem.F.plainAttrs_list PySem.F.slot_list_remove PySem.F.type_list_remove mt_remove (pv 2) (pa_cons (pe_ix ix_lt (pv 3) pe_int (fun _ _ => rfl)) pa_nil)))))))
      (pss_one (ps_ret (pe_tup (pa_cons (pv 2) (pa_cons pe_non pa_nil))))))), ?_⟩
    refine ⟨_, rfl, pl, _, rfl, hl, fun X0 nX0 => ?_⟩
    refine ⟨fun m σ H' => ∃ (X : List Nat) (y3 : Option V), σ = [some v, some (.ref pl), some (.ref X0), y3, none] ∧ Same H H' ∧ H' X0 = some (.lst (ni X)) ∧ FillI h t ds L X ∧ (tp < X.length ∨ OpenL h t ds L) ∧ m = X.length,
      ⟨_, L, none, rfl, same_new nX0, upd_same, .start hL, .inl (by omega), rfl⟩, ?_⟩
    rintro m σ Ha ⟨X, y3, rfl, sa, hX, fi, en, rfl⟩
    have lX := fi.len
    have hva := hv.same sa
    refine ⟨_, rfl, X0, _, rfl, .inl (SqL.of hX), _, rfl, v, h, t, ds, rfl, hva.a, d60, d0, fun H2 s2 => ?_⟩
    rw [ni_len, etp]
    have hX2 := s2 _ _ hX
    have sa2 := sa.trans s2
    have hv2 := hva.same s2
    refine ⟨_, _, rfl, rfl, _, rfl, ite2 (fun c => ?_) (fun c => ?_)⟩
    · have gt : (X.length : Int) > (tp : Int) := of_decide_eq_true c
      refine ⟨fun σ' H' => ∃ (X' : List Nat) (y3 : Option V), σ' = [some v, some (.ref pl), some (.ref X0), y3, none] ∧ Same H H' ∧ H' X0 = some (.lst (ni X')) ∧ FillI h t ds L X' ∧ (tp < X'.length ∨ OpenL h t ds L) ∧ X'.length + 1 = X.length,
        fun σ' H' ⟨X', y3, e, u, hx, f, g, l⟩ => ⟨X'.length, by omega, X', y3, e, u, hx, f, g, rfl⟩, ?_⟩
      refine ⟨_, rfl, X0, _, H2, rfl, SqA.l hX2, Kp.refl _ _, fun J hJ C nC => ?_⟩
      obtain ⟨G, gg, W⟩ := hJ.walk
      refine lc_filterS (fun i => Gof h t ds (X.length - 1) i) W (fun H' z => gg H' (.ofS z)) nC (by omega) (fun _ => rfl) (fun _ => rfl) (fun y hy H' s' Q' q' => ?_) (fun H4 s4 hC => ?_)
      · refine ⟨_, rfl, _, rfl, _, rfl, X0, _, rfl, .inl (SqL.of (s' _ _ hX2)), _, _, rfl, rfl, ?_⟩
        rw [ni_len]
        refine ⟨v, h, t, (X.length : Int) - 1, ds, rfl, (hv2.same s').a, d60, fun H8 pg s8 npg hg => ?_⟩
        refine ⟨pg, _, rfl, .inl (SqL.of hg), rfl, ni_flat _, _, rfl, ?_⟩
        rw [if_neg Bool.false_ne_true, in_ni]
        have e : decide (y ∈ gs (mk h t ds.length ((X.length : Int) - 1)) ds ds.length) = Gof h t ds (X.length - 1) y := by
          unfold Gof
          rw [decide_eq_decide, gs_mem, show ((X.length - 1 : Nat) : Int) = (X.length : Int) - 1 by omega]
          exact ⟨fun z => z.2, fun z => ⟨fi.lt y hy, z⟩⟩
        rw [e]
        exact q' _ s8
      obtain ⟨Y, eY⟩ : ∃ Y : List Nat, Y = X.filter fun i => Gof h t ds (X.length - 1) i := ⟨_, rfl⟩
      rw [← eY] at hC
      refine ⟨_, rfl, Nat.zero_le _, fun em nem => ?_⟩
      have s5 : Same H4 (upd H4 em (.lst [])) := same_new nem
      have e5 : upd H4 em (.lst []) em = some (.lst []) := upd_same
      generalize upd H4 em (.lst []) = H5 at s5 e5
      refine ⟨_, .list [], dp_ni (s5 _ _ hC), .lst (SqL.of e5) .nil, shaped_ints _, rfl, _, rfl, ?_⟩
      rw [eqv_nil, show (Y.map fun (i : Nat) => (i : Int)).isEmpty = Y.isEmpty by cases Y <;> rfl]
      have hX5 := s5 _ _ (s4 _ _ hX2)
      have sa5 := sa2.trans (s4.trans s5)
      cases Y with
      | nil =>
        refine iteT ?_
        refine ⟨_, rfl, _, rfl, X0, _, rfl, .inl (SqL.of hX5), _, _, rfl, rfl, ?_⟩
        refine ⟨(by show 2 ≤ sizeLine; decide), fun tr ntr => ?_⟩
        refine q _ tr X0 X _ (sa5.trans (same_new ntr)) upd_same (same_new ntr _ _ hX5) fi (.inl ⟨?_, by rw [etp]; omega, gre_no eY.symm⟩)
        rw [ni_len]
        show V.int ((X.length : Int) - 1) = _
        rw [show (X.length : Int) - 1 = ((X.length - 1 : Nat) : Int) by omega]
      | cons p0 Y =>
        refine iteF ?_
        obtain ⟨pX, gp⟩ := List.mem_filter.mp (show p0 ∈ X.filter fun i => Gof h t ds (X.length - 1) i by rw [← eY]; exact List.mem_cons_self)
        obtain ⟨j, ej⟩ := List.getElem?_of_mem pX
        obtain ⟨jl, ej'⟩ := List.getElem?_eq_some_iff.mp ej
        have ee : X.eraseIdx j = X.erase p0 := by
          rw [← ej']
          exact (List.erase_eq_eraseIdx_of_idxOf (List.Nodup.idxOf_getElem fi.nd j jl)).symm
        rw [ni_ints] at hX5
        refine ⟨_, rfl, .inl ⟨rfl, _, SqL.of hX5⟩, _, rfl, C, _, 0, .int (p0 : Int), rfl, rfl, SqA.l (s5 _ _ hC), at_nat (j := 0) rfl rfl, ?_⟩
        refine ⟨X0, _, (p0 : Int), j, rfl, rfl, hX5, by rw [List.getElem?_map, ej]; rfl, fun m hm z => ?_, ?_⟩
        · rw [List.getElem?_map, List.getElem?_eq_getElem (by omega)] at z
          have z : ((X[m] : Nat) : Int) = (p0 : Int) := Option.some.inj z
          have := (List.getElem_inj fi.nd).mp (show X[m] = X[j] by rw [ej']; omega)
          omega
        · have s6 : Same H (upd H5 X0 (.lst (((X.map fun (i : Nat) => (i : Int)).eraseIdx j).map V.int))) := fun a o e => by
            rw [upd_ne (ne_of_none e nX0)]
            exact sa5 _ _ e
          have le : (X.erase p0).length + 1 = X.length := by
            rw [List.length_erase_of_mem pX]
            omega
          refine ⟨X.erase p0, _, rfl, s6, ?_, fi.less pX gp, ?_, le⟩
          · rw [upd_same, ni_ints, erase_map, ee]
          · by_cases z : tp < (X.erase p0).length
            · exact .inl z
            · right
              unfold OpenL
              rw [etp, Int.toNat_natCast]
              refine Th.open_up top fi.rl (by rw [cnt_nodup fi.nd fi.lt]; omega) (fi.lt p0 pX) ?_ (decide_eq_true pX)
              rw [show tp = X.length - 1 by omega]
              exact gp
    · have gt : ¬ (X.length : Int) > (tp : Int) := fun z => c (decide_eq_true z)
      refine ⟨_, rfl, (by show 2 ≤ sizeLine; decide), fun tr ntr => ?_⟩
      exact q _ tr X0 X _ (sa2.trans (same_new ntr)) upd_same (same_new ntr _ _ hX2) fi (.inr ⟨rfl, en.resolve_left (by omega)⟩)
end
end Sh

namespace Sh
open PySem PySem.Spec PyProof.Rows L2
/-! ### k66: the most, who ever goes -/
def spMostL (K : PySem.W.Frag) : Sp := fun vs H Q _ => ∃ (v l : V) (h t : Int) (ds : List Int) (L : List Nat), vs = [v, l] ∧ SeaT K H v h t ds ∧ LotA K H l L ∧ ds.length ≤ 60 ∧ 0 < ds.length ∧ Lot ds.length L ∧
  ∀ (H' : Hp) (p pm : Addr) (m : Nat) (ms : List Nat), Same H H' → H' p = some (.tup [.int (m : Int), .ref pm]) → H' pm = some (.lst (ni ms)) → IsMost h t ds L m → IsMovers h t ds L ms → Q (.ref p) H'
abbrev s__law_most : Stmt := topS 47
theorem sc__law_most : FnScope (["_law_pool", "_law_lot_here", "_law_most_here", "_law_here", "_law_stuck", "_law_every", "_law_at", "_law_marks_here", "_law_out", "_law_movers", "_law_step_on", "_law_some", "_law_whom", "_law_deep"] : List Str) (["_law_pool", "_law_lot_here"] : List Str) (defScope s__law_most) := ⟨rfl, rfl, rfl, by decide +kernel, rfl, by decide +kernel, by decide +kernel⟩
theorem b__law_most (kV doc pm : Value) (an : Option Addr) (cdv ct : Value) (us : List Value) (hl : us.length = (["_law_pool", "_law_lot_here"] : List Str).length) : bindArgs (PySem.W.fnOf "_law_most" "_law_most" (defArgs s__law_most) (defBody s__law_most) (defScope s__law_most) .none kV doc pm an cdv ct) ⟨us, []⟩ = pure ((["_law_pool", "_law_lot_here"] : List Str).zip us) :=
  match us, hl with | [_, _], _ => rfl
section
variable {P : Program} {w : World} {K : PySem.W.Frag} {mg : Str → Option Value} {base : Heap}
set_option maxHeartbeats 4000000 in
theorem ok_mostL {k : Nat} (D : Df K mg "_law_most" s__law_most) (T : Bt mg) (O__law_top : Ok P w K mg base k "_law_top" s__law_top ["_law_pool"] (spTopL K)) (O__law_marks : Ok P w K mg base k "_law_marks" s__law_marks ["_law_pool"] (spMarks K)) (O__law_goers : Ok P w K mg base k "_law_goers" s__law_goers ["_law_pool", "_law_at"] (spGoL K))
    (O__law_beyond : Ok P w K mg base k "_law_beyond" s__law_beyond ["_law_pool", "_law_here"] (spBeyond K)) (O__law_filled : Ok P w K mg base k "_law_filled" s__law_filled ["_law_pool", "_law_lot_here"] (spFilT K)) (O__law_from_above : Ok P w K mg base k "_law_from_above" s__law_from_above ["_law_pool", "_law_lot_here"] (spAbove K)) :
    Ok P w K mg base (k + 1) "_law_most" s__law_most ["_law_pool", "_law_lot_here"] (spMostL K) := by
  refine D.ok sc__law_most b__law_most (fun vs H Q E h => ?_) (fun f cdv A outer s H vs Q E hr h => ?_)
  · obtain ⟨v, l, h, t, ds, L, rfl, _⟩ := h
    rfl
  · obtain ⟨v, l, h, t, ds, L, rfl, hv, hl0, d60, d0, hL, q⟩ := h
    obtain ⟨pl, rfl, hl⟩ := id hl0
    have t1 := top_hi h t d0
    have t0 := top_lo h t ds.length
    have top := top_of h t ds d0
    obtain ⟨tp, etp⟩ : ∃ tp : Nat, topI h t ds.length = (tp : Int) := ⟨(topI h t ds.length).toNat, by omega⟩
    refine ⟨_, (pss_cons (ps_if (pt_cmpR op_le (pe_callB call_len_seq (by rfl) T.len_ PySem.boot_len (pa_cons (pv 1) pa_nil)) (pe_fn O__law_top (hr.mono (by omega)) (pa_cons (pv 0) pa_nil)) (nomark _))
        (pss_cons (ps_asg (pe_fn O__law_filled (hr.mono (by omega)) (pa_cons (pv 0) (pa_cons (pv 1) pa_nil))) (pg_seq rfl (pgs_cons (pg_name (i := 2) sc__law_most.nd rfl (.inl rfl)) (pgs_cons (pg_name (i := 3) sc__law_most.nd rfl (.inr rfl)) (pgs_cons (pg_name (i := 4) sc__law_most.nd rfl (.inl rfl)) pgs_nil)))))
          (pss_cons (ps_if (pt_cmpR op_isN (pv 4) pe_non (nomark _))
            (pss_one (ps_ret (pe_tup (pa_cons (pv 2) (pa_cons (pe_fn O__law_goers (hr.mono (by omega)) (pa_cons (pv 0) (pa_cons (pe_fn O__law_top (hr.mono (by omega)) (pa_cons (pv 0) pa_nil)) pa_nil))) pa_nil)))))
            pss_nil)
          (pss_one (ps_ret (pe_tup (pa_cons (pv 2) (pa_cons (pe_ifExp (pt_cmpR op_gt (pv 4) pe_int (nomark _)) (pe_fn O__law_goers (hr.mono (by omega)) (pa_cons (pv 0) (pa_cons (pe_op op_sub (pv 4) pe_int) pa_nil))) (pe_lst pa_nil)) pa_nil)))))))
        pss_nil)
      (pss_cons (ps_asg (pe_fn O__law_from_above (hr.mono (by omega)) (pa_cons (pv 0) (pa_cons (pv 1) pa_nil))) (pg_seq rfl (pgs_cons (pg_name (i := 3) sc__law_most.nd rfl (.inr rfl)) (pgs_cons (pg_name (i := 4) sc__law_most.nd rfl (.inl rfl)) pgs_nil))))
      (pss_cons (ps_if (pt_cmpR op_isN (pv 4) pe_non (nomark _))
        (pss_one (ps_ret (pe_tup (pa_cons (pe_fn O__law_beyond (hr.mono (by omega)) (pa_cons (pv 0) (pa_cons (pv 3) pa_nil))) (pa_cons (pe_fn O__law_goers (hr.mono (by omega)) (pa_cons (pv 0) (pa_cons (pe_fn O__law_top (hr.mono (by omega)) (pa_cons (pv 0) pa_nil)) pa_nil))) pa_nil)))))
        pss_nil)
      (pss_cons (ps_par (i := 5) (j := 6) (by rfl) sc__law_most.nd rfl rfl (by decide) rfl rfl (pa_cons (pe_callB cr_sortedPO (by rfl) T.sorted_ (by decide +kernel) (pa_cons (pe_lc (own := [("_law_whom", 12), ("_law_deep", 13)]) (g := (gSeq K 2 (gCons (gName 12) (gCons (gName 13) gNil)))) (tt := tYes) (by rfl) sc__law_most.nd (pi_enumA (by rfl) T.enumerate_ (pa_cons (pe_ix ix_lt (pv 0) pe_int (fun _ _ => rfl)) pa_nil)) (blkOk_by (own := [("_law_whom", 12), ("_law_deep", 13)]) (N := (["_law_pool", "_law_lot_here", "_law_most_here", "_law_here", "_law_stuck", "_law_every", "_law_at", "_law_marks_here", "_law_out", "_law_movers", "_law_step_on", "_law_some", "_law_whom", "_law_deep"] : List Str)) (sc := defScope s__law_most) (by decide +kernel)) (fun _ _ _ _ _ => (pg_seq rfl (pgs_cons (pg_name (i := 12) sc__law_most.nd rfl (.inl rfl)) (pgs_cons (pg_name (i := 13) sc__law_most.nd rfl (.inl rfl)) pgs_nil)))) (fun _ _ _ _ _ => pts_nil) (fun _ _ _ _ _ => (pe_tup (pa_cons (pe_op op_sub pe_int (pv 13)) (pa_cons (pv 12) pa_nil))))) pa_nil)) (pa_cons (pe_callB call_len_seq (by rfl) T.len_ PySem.boot_len (pa_cons (pv 3) pa_nil)) pa_nil)) (by rfl))
      (pss_cons (ps_asg (pe_tup (pa_cons (pe_fn O__law_marks (hr.mono (by omega)) (pa_cons (pv 0) pa_nil)) (pa_cons (pe_lc (own := [("_law_deep", 13), ("_law_whom", 12)]) (g := (gSeq K 2 (gCons (gName 13) (gCons (gName 12) gNil)))) (by rfl) sc__law_most.nd (pi_seq (pv 5)) (blkOk_by (own := [("_law_deep", 13), ("_law_whom", 12)]) (N := (["_law_pool", "_law_lot_here", "_law_most_here", "_law_here", "_law_stuck", "_law_every", "_law_at", "_law_marks_here", "_law_out", "_law_movers", "_law_step_on", "_law_some", "_law_whom", "_law_deep"] : List Str)) (sc := defScope s__law_most) (by decide +kernel)) (fun _ _ _ _ _ => (pg_seq rfl (pgs_cons (pg_name (i := 13) sc__law_most.nd rfl (.inl rfl)) (pgs_cons (pg_name (i := 12) sc__law_most.nd rfl (.inl rfl)) pgs_nil)))) (fun _ _ _ _ _ => (pts_one (pt_cmpR (op_notInK K) (pv 12) (pv 3) (by rfl)))) (fun _ _ _ _ _ => (pv 12))) pa_nil))) (pg_seq rfl (pgs_cons (pg_name (i := 7) sc__law_most.nd rfl (.inr rfl)) (pgs_cons (pg_name (i := 8) sc__law_most.nd rfl (.inl rfl)) pgs_nil))))
      (pss_cons (ps_set (i := 9) sc__law_most.nd rfl (.inl rfl) (pe_ifExp (pt_cmpR op_lt (pv 6) (pe_callB call_len_seq (by rfl) T.len_ PySem.boot_len (pa_cons (pv 7) pa_nil)) (nomark _)) (pe_fn O__law_goers (hr.mono (by omega)) (pa_cons (pv 0) (pa_cons (pv 6) pa_nil))) (pe_lst pa_nil)))
      (pss_cons (ps_for PassesOwn.never rfl (pi_range2 (by rfl) T.range_ (pa_cons (pv 6) (pa_cons (pe_callB call_len_seq (by rfl) T.len_ PySem.boot_len (pa_cons (pv 7) pa_nil)) pa_nil))) (pg_name (i := 10) sc__law_most.nd rfl (.inr rfl))
        (pss_cons (ps_setLc (i := 11) (own := [("_law_whom", 12)]) (g := (gName 12)) (by rfl) sc__law_most.nd rfl rfl (sw_true rfl rfl rfl (by decide +kernel)) (pi_seq (pv 8)) (blkOk_by (own := [("_law_whom", 12)]) (N := (["_law_pool", "_law_lot_here", "_law_most_here", "_law_here", "_law_stuck", "_law_every", "_law_at", "_law_marks_here", "_law_out", "_law_movers", "_law_step_on", "_law_some", "_law_whom", "_law_deep"] : List Str)) (sc := defScope s__law_most) (by decide +kernel)) (fun _ _ _ _ _ => (pg_name (i := 12) sc__law_most.nd rfl (.inl rfl))) (fun _ _ _ _ _ => (pts_one (pt_cmpR op_le (pe_ix (ix_ltK K) (pe_ix (ix_ltK K) (pv 0) pe_int (fun _ _ => rfl)) (pv 12) (fun _ _ => rfl)) (pe_ix (ix_ltK K) (pv 7) (pv 10) (fun _ _ => rfl)) (nomark _)))) (fun _ _ _ _ _ => (pv 12)))
          (pss_cons (ps_if (pt_cmpR (op_eqD hr.units) (pv 11) (pe_lst pa_nil) (nomark _))
            (pss_one (ps_ret (pe_tup (pa_cons (pv 10) (pa_cons (pv 9) pa_nil)))))
            pss_nil)
          (pss_one (ps_expr (pe_bm PySem.F.plainAttrs_list PySem.F.slot_list_remove PySem.F.type_list_remove mt_remove (pv 8) (pa_cons (pe_ix ix_lt (pv 11) pe_int (fun _ _ => rfl)) pa_nil)))))))
      (pss_one (ps_ret (pe_tup (pa_cons (pe_callB call_len_seq (by rfl) T.len_ PySem.boot_len (pa_cons (pv 7) pa_nil)) (pa_cons (pv 9) pa_nil)))))))))))), ?_⟩
    refine ⟨_, rfl, pl, _, rfl, hl, _, rfl, v, h, t, ds, rfl, hv.a, d60, d0, fun H1 s1 => ?_⟩
    have hv1 := hv.same s1
    have hl1 := hl0.same s1
    refine ⟨_, _, rfl, rfl, _, rfl, ite2 (fun c => ?_) (fun c => ?_)⟩
    · have le : (L.length : Int) ≤ topI h t ds.length := by
        have := of_decide_eq_true c
        rw [ni_len] at this
        exact this
      refine ⟨_, rfl, _, rfl, v, .ref pl, h, t, ds, L, rfl, hv1, hl1, d60, d0, hL, le, fun H2 p m x z s2 hp im cs => ?_⟩
      have hv2 := hv1.same s2
      refine ⟨p, _, rfl, SqA.t hp, rfl, _, _, rfl, _, _, rfl, _, _, rfl, rfl, ?_⟩
      rcases cs with ⟨rfl, le2, st⟩ | ⟨rfl, op⟩
      · refine ⟨_, rfl, rfl, _, rfl, iteF ?_⟩
        have im2 := movers_low hL top st le2
        refine ⟨_, rfl, _, rfl, _, _, rfl, rfl, _, rfl, ite2 (fun c => ?_) (fun c => ?_)⟩
        · have m0 : (m : Int) > 0 := of_decide_eq_true c
          rw [if_pos (by omega)] at im2
          refine ⟨_, rfl, _, rfl, _, _, rfl, rfl, v, h, t, (m : Int) - 1, ds, rfl, hv2.a, d60, fun H3 pg s3 npg hg => ?_⟩
          rw [show (m : Int) - 1 = ((m - 1 : Nat) : Int) by omega] at hg
          refine ⟨(by show 2 ≤ sizeLine; decide), fun tr ntr => ?_⟩
          exact q _ tr pg m _ (s1.trans (s2.trans (s3.trans (same_new ntr)))) upd_same (same_new ntr _ _ hg) im im2
        · have m0 : ¬ (m : Int) > 0 := fun z => c (decide_eq_true z)
          rw [if_neg (by omega)] at im2
          refine ⟨Nat.zero_le _, fun em nem => ?_⟩
          have s3 : Same H2 (upd H2 em (.lst [])) := same_new nem
          refine ⟨(by show 2 ≤ sizeLine; decide), fun tr ntr => ?_⟩
          exact q _ tr em m [] (s1.trans (s2.trans (s3.trans (same_new ntr)))) upd_same (same_new ntr _ _ upd_same) im im2
      · refine ⟨_, rfl, rfl, _, rfl, iteT ?_⟩
        refine ⟨_, rfl, _, rfl, _, rfl, v, h, t, ds, rfl, hv2.a, d60, d0, fun H3 s3 => ?_⟩
        refine ⟨v, h, t, topI h t ds.length, ds, rfl, (hv2.same s3).a, d60, fun H4 pg s4 npg hg => ?_⟩
        refine ⟨(by show 2 ≤ sizeLine; decide), fun tr ntr => ?_⟩
        have im2 := movers_top hL top op
        rw [show (((topI h t ds.length).toNat : Nat) : Int) = topI h t ds.length by omega] at im2
        exact q _ tr pg m _ (s1.trans (s2.trans (s3.trans (s4.trans (same_new ntr))))) upd_same (same_new ntr _ _ hg) im im2
    · have gt : ¬ (L.length : Int) ≤ topI h t ds.length := fun z => c (decide_eq_true (by rw [ni_len]; exact z))
      refine ⟨_, rfl, _, rfl, v, .ref pl, h, t, ds, L, rfl, hv1, hl1, d60, d0, hL, gt, fun H2 p px X z s2 hp hX fi cs => ?_⟩
      have hv2 := hv1.same s2
      have s02 := s1.trans s2
      have lX := fi.len
      refine ⟨p, _, rfl, SqA.t hp, rfl, _, _, rfl, _, _, rfl, rfl, ?_⟩
      rcases cs with ⟨rfl, gX, no⟩ | ⟨rfl, op⟩
      · refine ⟨_, rfl, rfl, _, rfl, iteF ?_⟩
        have cX := cnt_nodup fi.nd fi.lt
        obtain ⟨st, hN⟩ := Th.stuck_above top fi.rl (by rw [cX]; exact gX) fun i hi w => by
          rw [cX]
          exact no i (of_decide_eq_true w)
        rw [cX] at st hN
        have im2 := movers_high hL top st hN
        rw [show ds.length - (ds.length - X.length) = X.length by omega] at im2
        -- all ships, the deepest ahead
        have kN : ds.length - (ds.length - X.length) = X.length := by omega
        obtain ⟨p', q', ev, a1, a2⟩ := id hv2
        subst ev
        refine ⟨_, rfl, p', _, 2, .ref q', rfl, rfl, .inr a1, rfl, q', _, _, rfl, .inr a2, Kp.refl _ _, fun J hJ C nC => ?_⟩
        obtain ⟨G, g, W⟩ := hJ.walk
        refine lc_it W (fun i H' => ∃ xs : List V, Same H2 H' ∧ H' C = some (.lst xs) ∧ PrsOf H' (fun o => 0 - ds.getD o 0) (List.range i) xs) ⟨[], same_new nC, upd_same, .nil⟩ (fun j H' _ z => g H' (.ofS z.choose_spec.1)) ?_ ?_
        · rintro i x Ha Hb hi ⟨xs, sa, ha, pr⟩ ⟨u, x1, x2, rfl, nu, rfl, g1, g2⟩
          rw [List.length_map] at hi
          obtain rfl : .int (i : Nat) = x1 := Option.some.inj g1
          obtain rfl : .int (ds.getD i 0) = x2 := by
            have g3 : (ds.map V.int)[i]? = some (.int (ds.getD i 0)) := by simp [hi]
            exact Option.some.inj (g3.symm.trans g2)
          have Cu : C ≠ u := ne_of_none ha nu
          have sb : Same Ha (upd Ha u (.tup [.int (i : Nat), .int (ds.getD i 0)])) := same_new nu
          refine ⟨u, _, rfl, SqA.t upd_same, rfl, _, _, rfl, _, _, rfl, rfl, rfl, tyes (iteT ?_)⟩
          refine ⟨_, rfl, _, _, rfl, rfl, _, rfl, (by show 2 ≤ sizeLine; decide), fun tq ntq => ?_⟩
          have hb := sb _ _ ha
          have sc := sb.trans (same_new (o := .tup [.int (0 - ds.getD i 0), .int (i : Nat)]) ntq)
          have Ctq : C ≠ tq := ne_of_none hb ntq
          refine ⟨_, sc _ _ ha, ?_, xs ++ [.ref tq], same_over (sa.trans sc) nC, upd_same, ?_⟩
          · rw [pr.1, List.length_range]
            exact small1000 (by omega)
          · rw [List.range_succ]
            refine pr.more (fun a tt e => ?_) ?_
            · rw [upd_ne (ne_of e ha (by intro z; cases z))]
              exact sc _ _ e
            · rw [upd_ne Ctq.symm, upd_same]
        rintro H3 ⟨xs, s3, h3, pr⟩
        rw [List.length_map] at pr
        refine ⟨C, xs, pairK H3, rfl, SqL.of h3, pr.tups, fun zs sp srt stb nsp => ?_⟩
        obtain ⟨F, pF, sF, pz⟩ := pr.sorted srt stb
        have s4 : Same H3 (upd H3 sp (.lst zs)) := same_new nsp
        have e4 : upd H3 sp (.lst zs) sp = some (.lst zs) := upd_same
        have pz4 := pz.keep (H' := upd H3 sp (.lst zs)) fun a tt e => s4 _ _ e
        generalize upd H3 sp (.lst zs) = H4 at s4 e4 pz4
        have s24 := s3.trans s4
        have hv4 := hv2.same s24
        have hX4 := s24 _ _ hX
        have s04 := s02.trans s24
        clear pr srt stb h3 s3 s4 s24 pz W g J hJ G nC nsp
        have lF : F.length = ds.length := by rw [pF.length_eq, List.length_range]
        refine ⟨_, rfl, px, _, rfl, .inl (SqL.of hX4), ?_⟩
        rw [ni_len]
        refine ⟨_, _, rfl, ?_⟩
        refine ⟨_, rfl, .ref p', h, t, ds, rfl, hv4.a, d60, fun H5 pm s5 npm hm => ?_⟩
        have e5 := s5 _ _ e4
        have pz5 := pz4.keep (H' := H5) fun a tt e => s5 _ _ e
        have hX5 := s5 _ _ hX4
        have s05 := s04.trans s5
        refine ⟨_, rfl, sp, _, H5, rfl, SqA.l e5, Kp.refl _ _, fun J hJ C4 nC4 => ?_⟩
        obtain ⟨G, g, W⟩ := hJ.walk
        refine lc_it W (fun i H' => Same H5 H' ∧ H' C4 = some (.lst (ni ((F.take i).filter fun o => !decide (o ∈ X))))) ⟨same_new nC4, upd_same⟩ (fun i H' _ z => g H' (.ofS z.1)) ?_ ?_
        · rintro i y Ha Hb hi ⟨sa, ha⟩ ⟨rfl, gy⟩
          obtain ⟨a, o, eo, rfl, ea⟩ := pz5.2 _ y gy
          obtain ⟨iO, eO⟩ := List.getElem?_eq_some_iff.mp eo
          refine ⟨a, _, rfl, SqA.t (sa _ _ ea), rfl, _, _, rfl, _, _, rfl, rfl, rfl, ?_⟩
          refine ⟨_, rfl, _, rfl, px, _, rfl, .inl (SqL.of (sa _ _ hX5)), rfl, ni_flat _, _, rfl, ?_⟩
          rw [if_pos rfl, in_ni]
          cases b : decide (o ∈ X) with
          | true =>
            refine iteF ⟨sa, ?_⟩
            rw [ha, take_succ_get iO, eO, List.filter_append, List.filter_cons_of_neg (by rw [b]; exact Bool.false_ne_true), List.filter_nil, List.append_nil]
          | false =>
            refine iteT ⟨_, rfl, _, ha, ?_, same_over sa nC4, ?_⟩
            · rw [ni_len]
              have := List.length_filter_le (fun o => !decide (o ∈ X)) (F.take i)
              rw [List.length_take] at this
              exact small1000 (by omega)
            · rw [upd_same, take_succ_get iO, eO, List.filter_append, ni_app, List.filter_cons_of_pos (by rw [b]; rfl)]
              rfl
        have fC4 : H C4 = none := s05.free nC4
        have pC4 : pm ≠ C4 := ne_of_none hm nC4
        rintro H6 ⟨s6, h6⟩
        rw [List.take_of_length_le (by rw [pz5.1]; exact Nat.le_refl _)] at h6
        obtain ⟨O0, eO0⟩ : ∃ O0 : List Nat, O0 = F.filter fun o => !decide (o ∈ X) := ⟨_, rfl⟩
        rw [← eO0] at h6
        have g0 : Th.Gre ds.length (Gof h t ds) (fun i => ds.getD i 0) (mem L) (fun _ => true) X.length X.length (mem X) O0 := by
          have nF : F.Nodup := pF.nodup_iff.mpr List.nodup_range
          have := Th.Gre.high (D := fun i => ds.getD i 0) (O := O0) top hN fi.rl (by rw [cX]; exact kN.symm) (fun i hi w => by rw [kN]; exact no i (of_decide_eq_true w)) (by rw [eO0]; exact nF.sublist List.filter_sublist) (fun o => by
            rw [eO0, List.mem_filter, pF.mem_iff, List.mem_range, Bool.not_eq_true']
            exact Iff.rfl) (by rw [eO0]; exact (sF.sublist List.filter_sublist).imp fun z => by omega)
          rw [kN] at this
          exact this
        have hm6 := s6 _ _ hm
        have hv6 := (hv4.same s5).same s6
        have s06 := s05.trans s6
        clear e4 e5 pz4 pz5 hX4 hX5 W g J hJ G s5 s6 s04 s05 hv4 npm hm nC4
        refine ⟨(by show 2 ≤ sizeLine; decide), fun tq ntq => ?_⟩
        have s7 : Same H6 (upd H6 tq (.tup [.ref pm, .ref C4])) := same_new ntq
        have e7 : upd H6 tq (.tup [.ref pm, .ref C4]) tq = some (.tup [.ref pm, .ref C4]) := upd_same
        generalize upd H6 tq (.tup [.ref pm, .ref C4]) = H7 at s7 e7
        refine ⟨tq, _, rfl, SqA.t e7, rfl, _, _, rfl, _, _, rfl, rfl, ?_⟩
        have hm7 := s7 _ _ hm6
        have h7 := s7 _ _ h6
        have hv7 := hv6.same s7
        have s07 := s06.trans s7
        clear e7 s7 hm6 h6 hv6 s06 ntq
        have mL : ((ml h t ds.length ds.length).map V.int).length = ds.length := by rw [List.length_map, ml_len]
        refine ⟨_, rfl, _, rfl, pm, _, rfl, .inl (SqL.of hm7), ?_⟩
        rw [mL]
        refine ⟨_, _, rfl, rfl, _, rfl, ite2 (fun c => ?_) (fun c => ?_)⟩
        · have lt : X.length < ds.length := by
            have := of_decide_eq_true c
            omega
          rw [if_pos lt] at im2
          refine ⟨_, rfl, _, rfl, .ref p', h, t, (X.length : Int), ds, rfl, hv7.a, d60, fun H8 pg s8 npg hg => ?_⟩
          have gC4 : pg ≠ C4 := (ne_of_none h7 npg).symm
          refine ⟨_, rfl, _, rfl, pm, _, rfl, .inl (SqL.of (s8 _ _ hm7)), ?_⟩
          rw [mL]
          refine ⟨_, _, rfl, ⟨by omega, by omega, by omega, by omega⟩, ?_⟩
          rw [show ((ds.length : Int) - (X.length : Int)).toNat = ds.length - X.length by omega]
          refine for_range (lo := (X.length : Int)) (n := ds.length - X.length) (fun i σ H' => ∃ (O : List Nat) (W : Nat → Bool) (y10 y11 : Option V), σ = [some (.ref p'), some (.ref pl), none, some (.ref px), some (.int ((X.length - 1 : Nat) : Int)), some (.ref sp), some (.int (X.length : Int)), some (.ref pm), some (.ref C4), some (.ref pg), y10, y11, none, none] ∧ Same H H' ∧ H' pm = some (.lst ((ml h t ds.length ds.length).map V.int)) ∧ H' pg = some (.lst (ni (gs (mk h t ds.length (X.length : Int)) ds ds.length))) ∧ H' C4 = some (.lst (ni O)) ∧
            Th.Gre ds.length (Gof h t ds) (fun i => ds.getD i 0) (mem L) (fun _ => true) X.length (X.length + i) W O) ⟨O0, mem X, none, none, rfl, s07.trans s8, s8 _ _ hm7, hg, s8 _ _ h7, g0⟩ ?_ ?_
          · rintro i σ Ha hi ⟨O, W, y10, y11, rfl, sa, hma, hga, hoa, ga⟩
            have lO : O.length ≤ ds.length := by
              have := nodup_len ga.nd (m := List.range ds.length) fun j hj => List.mem_range.mpr (ga.out j hj).1
              rw [List.length_range] at this
              exact this
            have si : X.length + i < ds.length := by omega
            have hva := hv.same sa
            refine ⟨_, rfl, C4, _, Ha, rfl, SqA.l hoa, Kp.refl _ _, fun J hJ C nC => ?_⟩
            obtain ⟨G, g, Wk⟩ := hJ.walk
            refine lc_filter (fun o => Gof h t ds (X.length + i) o) Wk (fun H' s => g H' (.ofS s)) nC (by omega) (fun _ => rfl) (fun _ => rfl) (fun y hy H' s' Q' q' => ?_) (fun Hb sb hCb => ?_)
            · obtain ⟨p'', q'', ev, a1, a2⟩ := hva.same s'
              cases ev
              have yk : y < ds.length := (ga.out y hy).1
              refine ⟨_, rfl, p', _, 2, .ref q'', rfl, rfl, .inr a1, rfl, _, rfl, q'', _, _, .int (ds.getD y 0), rfl, rfl, .inr a2, at_nat (j := y) rfl (by simp [yk]), ?_⟩
              refine ⟨_, rfl, _, rfl, pm, _, _, .int (mk h t ds.length ((X.length + i : Nat) : Int)), rfl, rfl, SqA.l (s' _ _ hma), at_nat (j := X.length + i) (by omega) (by rw [List.getElem?_map, ml_get si]; rfl), _, _, rfl, rfl, _, rfl, ?_⟩
              exact q'
            obtain ⟨Y, eY⟩ : ∃ Y : List Nat, Y = O.filter fun o => Gof h t ds (X.length + i) o := ⟨_, rfl⟩
            rw [← eY] at hCb
            have sab := sa.trans sb
            refine ⟨_, rfl, Nat.zero_le _, fun em nem => ?_⟩
            have s5 : Same Hb (upd Hb em (.lst [])) := same_new nem
            have e5 : upd Hb em (.lst []) em = some (.lst []) := upd_same
            generalize upd Hb em (.lst []) = Hc at s5 e5
            refine ⟨_, .list [], dp_ni (s5 _ _ hCb), .lst (SqL.of e5) .nil, shaped_ints _, rfl, _, rfl, ?_⟩
            rw [eqv_nil, show (Y.map fun (i : Nat) => (i : Int)).isEmpty = Y.isEmpty by cases Y <;> rfl]
            have sac := sab.trans s5
            have sbc := sb.trans s5
            cases Y with
            | nil =>
              refine iteT ?_
              refine ⟨_, rfl, _, rfl, (by show 2 ≤ sizeLine; decide), fun tr ntr => ?_⟩
              refine q _ tr pg (X.length + i) _ (sac.trans (same_new ntr)) ?_ (same_new ntr _ _ (sbc _ _ hga)) (isMost_of hL (Th.Gre.max_high top gof_dn st hN (by rw [kN]; exact ga) fun _ => gre_no eY.symm)) im2
              rw [upd_same]
              rfl
            | cons p0 Y =>
              refine iteF ?_
              have hoc := sbc _ _ hoa
              have pO : p0 ∈ O := (List.mem_filter.mp (by rw [← eY]; exact List.mem_cons_self)).1
              obtain ⟨j, ej⟩ := List.getElem?_of_mem pO
              obtain ⟨jl, ej'⟩ := List.getElem?_eq_some_iff.mp ej
              rw [ni_ints] at hoc
              refine ⟨_, rfl, .inl ⟨rfl, _, SqL.of hoc⟩, _, rfl, C, _, 0, .int (p0 : Int), rfl, rfl, SqA.l (s5 _ _ hCb), at_nat (j := 0) rfl rfl, ?_⟩
              refine ⟨C4, _, (p0 : Int), j, rfl, rfl, hoc, by rw [List.getElem?_map, ej]; rfl, fun m hm z => ?_, ?_⟩
              · rw [List.getElem?_map, List.getElem?_eq_getElem (by omega)] at z
                have z : ((O[m] : Nat) : Int) = (p0 : Int) := Option.some.inj z
                have := (List.getElem_inj ga.nd).mp (show O[m] = O[j] by rw [ej']; omega)
                omega
              · have s6 : Same H (upd Hc C4 (.lst (((O.map fun (i : Nat) => (i : Int)).eraseIdx j).map V.int))) := fun a o e => by
                  rw [upd_ne (ne_of_none e fC4)]
                  exact sac _ _ e
                refine ⟨O.eraseIdx j, Th.flip W p0, _, _, rfl, s6, ?_, ?_, ?_, ?_⟩
                · rw [upd_ne pC4]
                  exact sbc _ _ hma
                · rw [upd_ne gC4]
                  exact sbc _ _ hga
                · rw [upd_same, ni_ints, erase_map]
                · exact gre_more top (by omega) ga si eY.symm ej
          · rintro σ Ha ⟨O, W, y10, y11, rfl, sa, hma, hga, hoa, ga⟩
            rw [show X.length + (ds.length - X.length) = ds.length by omega] at ga
            refine ⟨_, rfl, pm, _, rfl, .inl (SqL.of hma), _, rfl, (by show 2 ≤ sizeLine; decide), fun tr ntr => ?_⟩
            rw [mL]
            exact q _ tr pg ds.length _ (sa.trans (same_new ntr)) upd_same (same_new ntr _ _ hga) (isMost_of hL (Th.Gre.max_high top gof_dn st hN (by rw [kN]; exact ga) fun z => absurd z (Nat.lt_irrefl _))) im2
        · have ge : ¬ X.length < ds.length := fun z => c (decide_eq_true (by omega))
          rw [if_neg ge] at im2
          refine ⟨Nat.zero_le _, fun em nem => ?_⟩
          have s8 : Same H7 (upd H7 em (.lst [])) := same_new nem
          have e8 : upd H7 em (.lst []) em = some (.lst []) := upd_same
          generalize upd H7 em (.lst []) = H8 at s8 e8
          refine ⟨_, rfl, _, rfl, pm, _, rfl, .inl (SqL.of (s8 _ _ hm7)), ?_⟩
          rw [mL]
          refine ⟨_, _, rfl, ⟨by omega, by omega, by omega, by omega⟩, ?_⟩
          rw [show ((ds.length : Int) - (X.length : Int)).toNat = 0 by omega]
          refine for_range (lo := (X.length : Int)) (n := 0) (fun i σ H' => ∃ (y10 y11 : Option V), σ = [some (.ref p'), some (.ref pl), none, some (.ref px), some (.int ((X.length - 1 : Nat) : Int)), some (.ref sp), some (.int (X.length : Int)), some (.ref pm), some (.ref C4), some (.ref em), y10, y11, none, none] ∧ Same H8 H') ⟨none, none, rfl, Same.refl _⟩ ?_ ?_
          · intro i σ Ha hi
            exact absurd hi (Nat.not_lt_zero _)
          · rintro σ Ha ⟨y10, y11, rfl, sa⟩
            refine ⟨_, rfl, pm, _, rfl, .inl (SqL.of (sa _ _ (s8 _ _ hm7))), _, rfl, (by show 2 ≤ sizeLine; decide), fun tr ntr => ?_⟩
            rw [mL]
            have ek : X.length = ds.length := by omega
            refine q _ tr em ds.length [] ((s07.trans s8).trans (sa.trans (same_new ntr))) upd_same (same_new ntr _ _ (sa _ _ e8)) (isMost_of hL (Th.Gre.max_high top gof_dn st hN (W := mem X) (O := O0) (by rw [kN, ← ek]; rw [← ek] at g0; exact g0) fun z => absurd z (Nat.lt_irrefl _))) im2
      · refine ⟨_, rfl, rfl, _, rfl, iteT ?_⟩
        refine ⟨_, rfl, _, rfl, v, px, h, t, ds, L, X, rfl, hv2, hX, d60, d0, hL, fi, op, fun H3 m s3 im => ?_⟩
        refine ⟨_, rfl, _, rfl, v, h, t, ds, rfl, (hv2.same s3).a, d60, d0, fun H4 s4 => ?_⟩
        refine ⟨v, h, t, topI h t ds.length, ds, rfl, ((hv2.same s3).same s4).a, d60, fun H5 pg s5 npg hg => ?_⟩
        refine ⟨(by show 2 ≤ sizeLine; decide), fun tr ntr => ?_⟩
        have im2 := movers_top hL top op
        rw [show (((topI h t ds.length).toNat : Nat) : Int) = topI h t ds.length by omega] at im2
        exact q _ tr pg m _ (s02.trans (s3.trans (s4.trans (s5.trans (same_new ntr))))) upd_same (same_new ntr _ _ hg) im im2
end
end Sh

namespace Sh
open PySem PySem.Spec PyProof.Rows L2
def fastE (L ms : List Nat) : List Nat := L.filter fun j => !decide (j ∈ ms)
theorem end_set {c n : Nat} {L ms O U : List Nat} {f : Nat → Int} (hL : Lot c L) (hm : Lot c ms) (pO : O.Perm ms) (so : O.Pairwise fun a b => f a ≤ f b) (l1 : (fastE L ms).length ≤ n) (l2 : n ≤ (fastE L ms).length + ms.length)
    (pU : U.Perm (fastE L ms ++ O.take (n - (fastE L ms).length))) : U.length = n ∧ (∀ i, i < c → i ∉ ms → (i ∈ U ↔ i ∈ L)) ∧ ∀ a b, a ∈ ms → b ∈ ms → a ∉ U → b ∈ U → f b ≤ f a := by
  have mU : ∀ i, i ∈ U ↔ i ∈ fastE L ms ∨ i ∈ O.take (n - (fastE L ms).length) := fun i => by rw [pU.mem_iff, List.mem_append]
  have mF : ∀ i, i ∈ fastE L ms ↔ i ∈ L ∧ i ∉ ms := fun i => by
    unfold fastE
    rw [List.mem_filter]
    simp
  refine ⟨?_, fun i hi nm => ?_, fun a b ha hb na ib => ?_⟩
  · rw [pU.length_eq, List.length_append, List.length_take, pO.length_eq]
    omega
  · rw [mU, mF]
    constructor
    · rintro (z | z)
      · exact z.1
      · exact absurd (pO.mem_iff.mp (List.mem_of_mem_take z)) nm
    · exact fun z => .inl ⟨z, nm⟩
  · have ib' : b ∈ O.take (n - (fastE L ms).length) := ((mU b).mp ib).resolve_left fun z => ((mF b).mp z).2 hb
    have ia' : a ∈ O.drop (n - (fastE L ms).length) := by
      have := pO.mem_iff.mpr ha
      rw [← List.take_append_drop (n - (fastE L ms).length) O, List.mem_append] at this
      exact this.resolve_left fun z => na ((mU a).mpr (.inr z))
    rw [← List.take_append_drop (n - (fastE L ms).length) O, List.pairwise_append] at so
    exact so.2.2 b ib' a ia'
end Sh

namespace Sh
open PySem PySem.Spec PyProof.Rows L2
/-! ### k66: the right -/
theorem lv_66 {n : Nat} {x y : Int} {ms : List Nat} (h : ms.length ≤ 100000) : Lv (n + 3) (.list [.int x, .list ((ms.map fun (i : Nat) => (i : Int)).map .int), .int y]) := ⟨by show 3 ≤ 100000; decide, fun e he => by
  rcases List.mem_cons.mp he with rfl | he
  · exact trivial
  · rcases List.mem_cons.mp he with rfl | he
    · exact lv_ints _ (by rw [List.length_map]; exact h)
    · rw [List.mem_singleton.mp he]
      exact trivial⟩
abbrev s__law_right : Stmt := topS 48
theorem sc__law_right : FnScope (["_law_box_here", "_law_turn", "_law_pool", "_law_count", "_law_lot_here", "_law_away", "_law_about", "_law_most_here", "_law_movers", "_law_least", "_law_others", "_law_told", "_law_fast", "_law_free", "_law_full", "_law_whom", "_law_deep"] : List Str) (["_law_box_here"] : List Str) (defScope s__law_right) := ⟨rfl, rfl, rfl, by decide +kernel, rfl, by decide +kernel, by decide +kernel⟩
theorem b__law_right (kV doc pm : Value) (an : Option Addr) (cdv ct : Value) (us : List Value) (hl : us.length = (["_law_box_here"] : List Str).length) : bindArgs (PySem.W.fnOf "_law_right" "_law_right" (defArgs s__law_right) (defBody s__law_right) (defScope s__law_right) .none kV doc pm an cdv ct) ⟨us, []⟩ = pure ((["_law_box_here"] : List Str).zip us) :=
  match us, hl with | [_], _ => rfl
section
variable {P : Program} {w : World} {K : PySem.W.Frag} {mg : Str → Option Value} {base : Heap}
set_option maxHeartbeats 8000000 in
theorem ok_right {k : Nat} (hk : 3 ≤ k) (D : Df K mg "_law_right" s__law_right) (T : Bt mg) (O__law_sea : Ok P w K mg base k "_law_sea" s__law_sea ["_law_box_here", "_law_most_here"] spSea) (O__law_lot : Ok P w K mg base k "_law_lot" s__law_lot ["_law_box_here", "_law_count"] spLot)
    (O__law_same : Ok P w K mg base 3 "_law_same" s__law_same ["_law_found", "_law_due"] (spSame K 3)) (O__law_most : Ok P w K mg base k "_law_most" s__law_most ["_law_pool", "_law_lot_here"] (spMostL K))
    (O_most_here : Ok P w K mg base k "most_here" s_most_here ["sea", "standing"] (spMost K)) (O_least_here : Ok P w K mg base k "least_here" s_least_here ["sea", "standing"] (spLeast K)) (O_movers_of : Ok P w K mg base k "movers_of" s_movers_of ["sea", "standing"] (spMovers K))
    (O_comes_to : Ok P w K mg base k "comes_to" s_comes_to ["sea", "one", "other"] (spComes K)) :
    Ok P w K mg base (k + 1) "_law_right" s__law_right ["_law_box_here"] spRight := by
  refine D.ok sc__law_right b__law_right (fun vs H Q E h => ?_) (fun f cdv A outer s H vs Q E hr h => ?_)
  · obtain ⟨b, rfl, _⟩ := h
    rfl
  · obtain ⟨b, rfl, hb, q⟩ := h
    refine ⟨_, (pss_cons (ps_for PassesOwn.never rfl (pi_range1 (by rfl) T.range_ (pa_cons pe_int pa_nil)) (pg_name (i := 1) sc__law_right.nd rfl (.inl rfl))
        (pss_cons (ps_set (i := 2) sc__law_right.nd rfl (.inr rfl) (pe_fn O__law_sea (hr.mono (by omega)) (pa_cons (pv 0) (pa_cons pe_int pa_nil))))
          (pss_cons (ps_set (i := 3) sc__law_right.nd rfl (.inl rfl) (pe_callB call_len_seq (by rfl) T.len_ PySem.boot_len (pa_cons (pe_ix ix_lt (pv 2) pe_int (fun _ _ => rfl)) pa_nil)))
          (pss_cons (ps_set (i := 4) sc__law_right.nd rfl (.inr rfl) (pe_fn O__law_lot (hr.mono (by omega)) (pa_cons (pv 0) (pa_cons (pv 3) pa_nil))))
          (pss_cons (ps_par (i := 5) (j := 6) (by rfl) sc__law_right.nd rfl rfl (by decide) rfl rfl (pa_cons (pe_callTy call_tuple_of (by rfl) T.tuple_ (by decide +kernel) (pa_cons (pe_lc (own := [("_law_whom", 15)]) (g := (gName 15)) (by rfl) sc__law_right.nd (pi_range1 (by rfl) T.range_ (pa_cons (pv 3) pa_nil)) (blkOk_by (own := [("_law_whom", 15)]) (N := (["_law_box_here", "_law_turn", "_law_pool", "_law_count", "_law_lot_here", "_law_away", "_law_about", "_law_most_here", "_law_movers", "_law_least", "_law_others", "_law_told", "_law_fast", "_law_free", "_law_full", "_law_whom", "_law_deep"] : List Str)) (sc := defScope s__law_right) (by decide +kernel)) (fun _ _ _ _ _ => (pg_name (i := 15) sc__law_right.nd rfl (.inl rfl))) (fun _ _ _ _ _ => (pts_one (pt_cmpR (op_notInK K) (pv 15) (pv 4) (by rfl)))) (fun _ _ _ _ _ => (pv 15))) pa_nil)) (pa_cons (pe_tup (pa_cons (pe_ix ix_lt (pv 2) pe_int (fun _ _ => rfl)) (pa_cons (pe_ix ix_lt (pv 2) pe_int (fun _ _ => rfl)) (pa_cons (pe_ix ix_lt (pv 2) pe_int (fun _ _ => rfl)) pa_nil)))) pa_nil)) (by rfl))
          (pss_cons (ps_asg (pe_fn O__law_most (hr.mono (by omega)) (pa_cons (pv 2) (pa_cons (pv 4) pa_nil))) (pg_seq rfl (pgs_cons (pg_name (i := 7) sc__law_right.nd rfl (.inl rfl)) (pgs_cons (pg_name (i := 8) sc__law_right.nd rfl (.inr rfl)) pgs_nil))))
          (pss_cons (ps_asg (pe_fn O__law_most (hr.mono (by omega)) (pa_cons (pv 6) (pa_cons (pv 5) pa_nil))) (pg_seq rfl (pgs_cons (pg_name (i := 9) sc__law_right.nd rfl (.inl rfl)) (pgs_cons (pg_name (i := 10) sc__law_right.nd rfl (.inl rfl)) pgs_nil))))
          (pss_cons (ps_set (i := 11) sc__law_right.nd rfl (.inl rfl) (pe_lst (pa_cons (pe_fn O_most_here (hr.mono (by omega)) (pa_cons (pv 2) (pa_cons (pv 4) pa_nil))) (pa_cons (pe_fn O_movers_of (hr.mono (by omega)) (pa_cons (pv 2) (pa_cons (pv 4) pa_nil))) (pa_cons (pe_fn O_least_here (hr.mono (by omega)) (pa_cons (pv 2) (pa_cons (pv 4) pa_nil))) pa_nil)))))
          (pss_cons (ps_if (PW.pt (pw_or (pt_not (pt_val (pe_fn O__law_same (hr.mono (by omega)) (pa_cons (pv 11) (pa_cons (pe_lst (pa_cons (pv 7) (pa_cons (pv 8) (pa_cons (pe_op op_sub (pv 3) (pv 9)) pa_nil)))) pa_nil))))) (pw_or1 (pt_cmpR (op_neD hr.units) (pv 10) (pv 8) (nomark _)))))
            (pss_one (ps_ret pe_bl))
            pss_nil)
          (pss_cons (ps_setLc (i := 12) (own := [("_law_whom", 15)]) (g := (gName 15)) (by rfl) sc__law_right.nd rfl rfl (sw_true rfl rfl rfl (by decide +kernel)) (pi_seq (pv 4)) (blkOk_by (own := [("_law_whom", 15)]) (N := (["_law_box_here", "_law_turn", "_law_pool", "_law_count", "_law_lot_here", "_law_away", "_law_about", "_law_most_here", "_law_movers", "_law_least", "_law_others", "_law_told", "_law_fast", "_law_free", "_law_full", "_law_whom", "_law_deep"] : List Str)) (sc := defScope s__law_right) (by decide +kernel)) (fun _ _ _ _ _ => (pg_name (i := 15) sc__law_right.nd rfl (.inl rfl))) (fun _ _ _ _ _ => (pts_one (pt_cmpR (op_notInK K) (pv 15) (pv 8) (by rfl)))) (fun _ _ _ _ _ => (pv 15)))
          (pss_cons (ps_setLc (i := 13) (own := [("_law_deep", 16), ("_law_whom", 15)]) (g := (gSeq K 2 (gCons (gName 16) (gCons (gName 15) gNil)))) (tt := tYes) (by rfl) sc__law_right.nd rfl rfl (sw_true rfl rfl rfl (by decide +kernel)) (pi_seq (pe_callB cr_sortedPO (by rfl) T.sorted_ (by decide +kernel) (pa_cons (pe_lc (own := [("_law_whom", 15)]) (g := (gName 15)) (tt := tYes) (by rfl) sc__law_right.nd (pi_seq (pv 8)) (blkOk_by (own := [("_law_whom", 15)]) (N := (["_law_box_here", "_law_turn", "_law_pool", "_law_count", "_law_lot_here", "_law_away", "_law_about", "_law_most_here", "_law_movers", "_law_least", "_law_others", "_law_told", "_law_fast", "_law_free", "_law_full", "_law_whom", "_law_deep"] : List Str)) (sc := defScope s__law_right) (by decide +kernel)) (fun _ _ _ _ _ => (pg_name (i := 15) sc__law_right.nd rfl (.inl rfl))) (fun _ _ _ _ _ => pts_nil) (fun _ _ _ _ _ => (pe_tup (pa_cons (pe_ix (ix_ltK K) (pe_ix (ix_ltK K) (pv 2) pe_int (fun _ _ => rfl)) (pv 15) (fun _ _ => rfl)) (pa_cons (pv 15) pa_nil))))) pa_nil))) (blkOk_by (own := [("_law_deep", 16), ("_law_whom", 15)]) (N := (["_law_box_here", "_law_turn", "_law_pool", "_law_count", "_law_lot_here", "_law_away", "_law_about", "_law_most_here", "_law_movers", "_law_least", "_law_others", "_law_told", "_law_fast", "_law_free", "_law_full", "_law_whom", "_law_deep"] : List Str)) (sc := defScope s__law_right) (by decide +kernel)) (fun _ _ _ _ _ => (pg_seq rfl (pgs_cons (pg_name (i := 16) sc__law_right.nd rfl (.inl rfl)) (pgs_cons (pg_name (i := 15) sc__law_right.nd rfl (.inl rfl)) pgs_nil)))) (fun _ _ _ _ _ => pts_nil) (fun _ _ _ _ _ => (pv 15)))
          (pss_cons (ps_set (i := 14) sc__law_right.nd rfl (.inl rfl) (pe_callTy call_tuple_of (by rfl) T.tuple_ (by decide +kernel) (pa_cons (pe_callB cr_sortedI (by rfl) T.sorted_ (by decide +kernel) (pa_cons (pe_op op_cat (pv 12) (pe_slice sl_list (pv 13) po_none (po_some (pe_op op_sub (pv 7) (pe_callB call_len_seq (by rfl) T.len_ PySem.boot_len (pa_cons (pv 12) pa_nil)))))) pa_nil)) pa_nil)))
          (pss_one (ps_if (PW.pt (pw_or (pt_cmpR op_ne (pe_callB call_len_seq (by rfl) T.len_ PySem.boot_len (pa_cons (pv 14) pa_nil)) (pv 7) (nomark _)) (pw_or1 (pt_not (pt_val (pe_fn O_comes_to (hr.mono (by omega)) (pa_cons (pv 2) (pa_cons (pv 4) (pa_cons (pv 14) pa_nil)))))))))
            (pss_one (ps_ret pe_bl))
            pss_nil))))))))))))))
      (pss_one (ps_ret pe_bl))), ?_⟩
    refine ⟨4, rfl, by decide, by decide, for_range (lo := 0) (n := 4) (fun i σ H' => ∃ y1 y2 y3 y4 y5 y6 y7 y8 y9 ya yb yc yd ye : Option V, σ = [some (.ref b), y1, y2, y3, y4, y5, y6, y7, y8, y9, ya, yb, yc, yd, ye, none, none] ∧ BoxAt H' b (100000 - 2000 * i) ∧ But b H H')
      ⟨none, none, none, none, none, none, none, none, none, none, none, none, none, none, rfl, hb, But.refl b H⟩ ?_ ?_⟩
    · rintro i σ Hc hi ⟨y1, y2, y3, y4, y5, y6, y7, y8, y9, ya, yb, yc, yd, ye, rfl, xc, uc⟩
      have hi2 : i < 4 := hi
      refine ⟨_, rfl, b, 100000 - 2000 * i - 500, 24, rfl, by decide, by decide, xc.mono (by omega), fun H1 p0 pq h t ds u1 x1 np nq hp hq so => ?_⟩
      have d0 := so.l0
      have d24 : ds.length ≤ 24 := so.l1
      have hv1 : SeaT K H1 (.ref p0) h t ds := ⟨p0, pq, rfl, SqT.of hp, SqT.of hq⟩
      refine ⟨_, rfl, p0, _, 2, .ref pq, rfl, rfl, SqA.t hp, rfl, pq, _, rfl, .inr (SqT.of hq), ?_⟩
      rw [List.length_map]
      refine ⟨_, rfl, _, rfl, b, 100000 - 2000 * i - 700, ds.length, rfl, by omega, x1.mono (by omega), fun H2 pl L u2 x2 npl hpl hL => ?_⟩
      have pb : p0 ≠ b := (xc.ne np).symm
      have qb : pq ≠ b := (xc.ne nq).symm
      have hv2 := hv1.but x1 u2
      have hl2 : LotT K H2 (.ref pl) L := ⟨pl, rfl, SqT.of hpl⟩
      have hp2 := u2 _ _ pb hp
      have hq2 := u2 _ _ qb hq
      have u02 := uc.trans (u1.trans u2)
      clear hv1 x1 u1 u2 xc uc np nq hp hq npl
      have lL := hL.len
      -- away
      refine ⟨_, rfl, ((ds.length : Nat) : Int), rfl, by omega, by omega, fun C nC => ?_⟩
      rw [Int.toNat_natCast]
      refine lc_range (fun j H' => Same H2 H' ∧ H' C = some (.lst (ni ((List.range j).filter fun o => !decide (o ∈ L))))) ⟨same_new nC, upd_same⟩ ?_ ?_
      · rintro j Ha hj ⟨sa, ha⟩
        refine ⟨rfl, ?_⟩
        refine ⟨_, rfl, _, rfl, pl, _, rfl, .inr (SqT.of (sa _ _ hpl)), rfl, ni_flat _, _, rfl, ?_⟩
        rw [if_pos rfl, show (0 : Int) + (j : Int) = (j : Int) from Int.zero_add _, in_ni]
        cases c : decide (j ∈ L) with
        | true =>
          refine iteF ⟨sa, ?_⟩
          rw [ha, List.range_succ, List.filter_append, List.filter_cons_of_neg (by rw [c]; exact Bool.false_ne_true), List.filter_nil, List.append_nil]
        | false =>
          refine iteT ⟨_, rfl, _, ha, ?_, same_over sa nC, ?_⟩
          · rw [ni_len]
            have := List.length_filter_le (fun o => !decide (o ∈ L)) (List.range j)
            rw [List.length_range] at this
            exact small1000 (by omega)
          · rw [upd_same, List.range_succ, List.filter_append, ni_app, List.filter_cons_of_pos (by rw [c]; rfl)]
            rfl
      rintro H3 ⟨s3, h3⟩
      replace h3 : H3 C = some (.lst (ni (away ds.length L))) := h3
      refine ⟨C, _, rfl, .inl ⟨SqL.of h3, fun aw naw => ?_⟩⟩
      have s4 : Same H3 (upd H3 aw (.tup (ni (away ds.length L)))) := same_new naw
      have e4 : upd H3 aw (.tup (ni (away ds.length L))) aw = some (.tup (ni (away ds.length L))) := upd_same
      generalize upd H3 aw (.tup (ni (away ds.length L))) = H4 at s4 e4
      have s24 := s3.trans s4
      have hp4 := s24 _ _ hp2
      refine ⟨_, rfl, p0, _, 1, .int t, rfl, rfl, SqA.t hp4, rfl, _, rfl, p0, _, 0, .int h, rfl, rfl, SqA.t hp4, rfl, _, rfl, p0, _, 2, .ref pq, rfl, rfl, SqA.t hp4, rfl, (by show 3 ≤ sizeLine; decide), fun ab nab => ?_⟩
      have s5 : Same H4 (upd H4 ab (.tup [.int t, .int h, .ref pq])) := same_new nab
      have e5 : upd H4 ab (.tup [.int t, .int h, .ref pq]) ab = some (.tup [.int t, .int h, .ref pq]) := upd_same
      generalize upd H4 ab (.tup [.int t, .int h, .ref pq]) = H5 at s5 e5
      refine ⟨_, _, rfl, ?_⟩
      have s25 := s24.trans s5
      have hv5 := hv2.same s25
      have hl5 := hl2.same s25
      have hq5 := s25 _ _ hq2
      have hp5 := s25 _ _ hp2
      have ha5 : LotT K H5 (.ref aw) (away ds.length L) := ⟨aw, rfl, SqT.of (s5 _ _ e4)⟩
      have hb5 : SeaT K H5 (.ref ab) t h ds := ⟨ab, pq, rfl, SqT.of e5, SqT.of hq5⟩
      have x5 := x2.same s25
      have u05 := u02.trans (Same.but (b := b) s25)
      have lA := away_lot ds.length L
      clear hv2 hl2 hq2 hp2 x2 u02 s3 s4 s5 s24 s25 h3 e4 hp4 naw nab nC hpl
      refine ⟨_, rfl, _, rfl, .ref p0, .ref pl, h, t, ds, L, rfl, hv5, hl5.a, by omega, d0, hL, fun H6 r1 pm m ms s6 hr1 hpm im imv => ?_⟩
      refine ⟨r1, _, rfl, SqA.t hr1, rfl, _, _, rfl, _, _, rfl, rfl, ?_⟩
      refine ⟨_, rfl, _, rfl, .ref ab, .ref aw, t, h, ds, away ds.length L, rfl, hb5.same s6, (ha5.same s6).a, by omega, d0, lA, fun H7 r2 pm2 m2 ms2 s7 hr2 hpm2 im2 imv2 => ?_⟩
      refine ⟨r2, _, rfl, SqA.t hr2, rfl, _, _, rfl, _, _, rfl, rfl, ?_⟩
      obtain rfl : ms2 = ms := IsMovers.uniq (.refl _) imv2 (movers_turn hL imv)
      have s57 := s6.trans s7
      have hv7 := hv5.same s57
      have hl7 := hl5.same s57
      have hpm7 := s7 _ _ hpm
      have x7 := x5.same s57
      have u07 := u05.trans (Same.but (b := b) s57)
      clear hv5 hl5 hpm x5 u05 s6 s7 s57 hr1 hr2 hb5 ha5 imv2
      -- told
      refine ⟨_, rfl, _, rfl, .ref p0, .ref pl, h, t, ds, L, rfl, hv7.d, hl7.a, by omega, d0, hL, fun H8 m' s8 im' => ?_⟩
      obtain rfl : m' = m := IsMost.uniq (.refl _) im' im
      refine ⟨_, rfl, _, rfl, .ref p0, .ref pl, h, t, ds, L, rfl, (hv7.same s8).d, (hl7.same s8).a, by omega, d0, hL, fun H9 pt ms' s9 npt hpt imv' => ?_⟩
      obtain rfl : ms' = ms2 := IsMovers.uniq (.refl _) imv' imv
      refine ⟨_, rfl, _, rfl, .ref p0, .ref pl, h, t, ds, L, rfl, ((hv7.same s8).same s9).d, ((hl7.same s8).same s9).a, by omega, d0, hL, fun HA n sA il => ?_⟩
      obtain rfl : m2 = ds.length - n := IsMost.uniq (.refl _) im2 (most_turn hL il)
      have n24 : n ≤ ds.length := by
        obtain ⟨N, lN, _, rfl⟩ := il.1
        exact lN.len
      refine ⟨(by show 3 ≤ sizeLine; decide), fun he nhe => ?_⟩
      have sB : Same HA (upd HA he (.lst [.int (m' : Int), .ref pt, .int (n : Int)])) := same_new nhe
      have eB : upd HA he (.lst [.int (m' : Int), .ref pt, .int (n : Int)]) he = some (.lst [.int (m' : Int), .ref pt, .int (n : Int)]) := upd_same
      generalize upd HA he (.lst [.int (m' : Int), .ref pt, .int (n : Int)]) = HB at sB eB
      have s7B := s8.trans (s9.trans (sA.trans sB))
      have hptB := sB _ _ (sA _ _ hpt)
      have hpmB := s7B _ _ hpm7
      have hpm2B := s7B _ _ hpm2
      have lms := imv.1.len
      refine ⟨_, rfl, _, rfl, _, rfl, _, rfl, _, rfl, _, _, rfl, rfl, (by show 3 ≤ sizeLine; decide), fun du ndu => ?_⟩
      have ez : (ds.length : Int) - ((ds.length - n : Nat) : Int) = (n : Int) := by omega
      have sC : Same HB (upd HB du (.lst [.int (m' : Int), .ref pm, .int ((ds.length : Int) - ((ds.length - n : Nat) : Int))])) := same_new ndu
      have eC : upd HB du (.lst [.int (m' : Int), .ref pm, .int ((ds.length : Int) - ((ds.length - n : Nat) : Int))]) du = some (.lst [.int (m' : Int), .ref pm, .int (n : Int)]) := by rw [upd_same, ez]
      generalize upd HB du (.lst [.int (m' : Int), .ref pm, .int ((ds.length : Int) - ((ds.length - n : Nat) : Int))]) = HC at sC eC
      have lv : Lv 3 (.list [.int (m' : Int), .list ((ms'.map fun (i : Nat) => (i : Int)).map .int), .int (n : Int)]) := lv_66 (by omega)
      refine ⟨.ref he, .ref du, _, rfl, .lst (SqL.of (sC _ _ eB)) (.cons (.int _) (.cons (dp_ni (sC _ _ hptB)) (.cons (.int _) .nil))), .lst (SqL.of eC) (.cons (.int _) (.cons (dp_ni (sC _ _ hpmB)) (.cons (.int _) .nil))), lv, fun HD sD => ?_⟩
      refine ⟨true, rfl, iteF ?_⟩
      refine ⟨_, rfl, _, rfl, ?_⟩
      refine ⟨_, _, dp_ni ((sC.trans sD) _ _ hpm2B), dp_ni ((sC.trans sD) _ _ hpmB), shaped_ints _, shaped_ints _, ?_⟩
      rw [eqv_ints, decide_eq_true rfl]
      refine ⟨_, rfl, iteF ?_⟩
      have s7D := s7B.trans (sC.trans sD)
      have hvD := hv7.same s7D
      have hlD := hl7.same s7D
      have hmD := (sC.trans sD) _ _ hpmB
      have xD := x7.same s7D
      have uD := u07.trans (Same.but (b := b) s7D)
      clear hv7 hl7 hpm7 x7 u07 s8 s9 sA sB sC sD s7B s7D eB eC lv hptB hpmB hpm2B hpt npt nhe ndu
      obtain ⟨pl', epl, hplD⟩ := id hlD
      cases epl
      have lm : ms'.length ≤ 24 := by omega
      have bm : (fastE L ms').length ≤ m' ∧ m' ≤ (fastE L ms').length + ms'.length := by
        obtain ⟨N, lN, rN, eN⟩ := im.1
        have := fast_len hL imv lN rN
        rw [eN] at this
        exact this
      have lF : (fastE L ms').length ≤ L.length := List.length_filter_le _ _
      -- fast
      simp only [List.set_cons_succ, List.set_cons_zero]
      refine ⟨_, rfl, pl, _, HD, rfl, .inr hplD, Kp.refl _ _, fun J hJ C nC => ?_⟩
      obtain ⟨G, g, W⟩ := hJ.walk
      refine lc_filter (fun j => !decide (j ∈ ms')) W (fun H' s => g H' (.ofS s)) nC (by omega) (fun _ => rfl) (fun _ => rfl) (fun y _ H' s' Q' q' => ?_) (fun HE sE hC => ?_)
      · refine ⟨_, rfl, _, rfl, pm, _, rfl, .inl (SqL.of (s' _ _ hmD)), rfl, ni_flat _, _, rfl, ?_⟩
        rw [if_pos rfl, in_ni]
        exact q'
      replace hC : HE C = some (.lst (ni (fastE L ms'))) := hC
      have hmE := sE _ _ hmD
      have hvE := hvD.same sE
      -- free
      refine ⟨_, rfl, pm, _, HE, rfl, SqA.l hmE, Kp.refl _ _, fun J2 hJ2 C3 nC3 => ?_⟩
      obtain ⟨G2, g2, W2⟩ := hJ2.walk
      refine lc_it W2 (fun j H' => ∃ xs : List V, Same HE H' ∧ H' C3 = some (.lst xs) ∧ PrsOf H' (fun o => ds.getD o 0) (ms'.take j) xs) ⟨[], same_new nC3, upd_same, .nil⟩ (fun j H' _ z => g2 H' (.ofS z.choose_spec.1)) ?_ ?_
      · rintro j z H5 H6 hj ⟨xs, s5, h5, pr⟩ ⟨rfl, gz⟩
        rw [ni_len] at hj
        obtain rfl : .int ((ms'[j] : Nat) : Int) = z := Option.some.inj ((ni_get hj).symm.trans gz)
        obtain ⟨p', q', ev, a1, a2⟩ := hvE.same s5
        have ok : ms'[j] < ds.length := imv.1.lt _ (List.getElem_mem hj)
        cases ev
        refine ⟨rfl, tyes (iteT ?_)⟩
        refine ⟨_, rfl, p0, _, 2, .ref q', rfl, rfl, .inr a1, rfl, _, rfl, q', _, _, .int (ds.getD ms'[j] 0), rfl, rfl, .inr a2, at_nat (j := ms'[j]) rfl (by simp [ok]), _, rfl, (by show 2 ≤ sizeLine; decide), fun tq ntq => ?_⟩
        have s6 : Same H6 (upd H6 tq (.tup [.int (ds.getD ms'[j] 0), .int ((ms'[j] : Nat) : Int)])) := same_new ntq
        have tC : C3 ≠ tq := ne_of_none h5 ntq
        refine ⟨_, s6 _ _ h5, ?_, xs ++ [.ref tq], same_over (s5.trans s6) nC3, upd_same, ?_⟩
        · rw [pr.1, List.length_take]
          exact small1000 (by omega)
        · rw [take_succ_get hj]
          refine pr.more (fun a tt e => ?_) ?_
          · rw [upd_ne (ne_of e h5 (by intro z; cases z))]
            exact s6 _ _ e
          · rw [upd_ne tC.symm, upd_same]
      rintro H5 ⟨xs, s5, h5, pr⟩
      rw [ni_len, List.take_length] at pr
      refine ⟨C3, xs, pairK H5, rfl, SqL.of h5, pr.tups, fun zs sp srt stb nsp => ?_⟩
      obtain ⟨O, pO, sO, pz⟩ := pr.sorted srt stb
      have s6 : Same H5 (upd H5 sp (.lst zs)) := same_new nsp
      have e6 : upd H5 sp (.lst zs) sp = some (.lst zs) := upd_same
      have pz6 := pz.keep (H' := upd H5 sp (.lst zs)) fun a tt e => s6 _ _ e
      generalize upd H5 sp (.lst zs) = H6 at s6 e6 pz6
      have lO := pO.length_eq
      clear pr srt stb h5 pz g W hJ J G g2 W2 hJ2 J2 G2 nC3
      refine ⟨sp, _, H6, rfl, SqA.l e6, Kp.refl _ _, fun J hJ C4 nC4 => ?_⟩
      obtain ⟨G, g, W⟩ := hJ.walk
      refine lc_it W (fun i H' => Same H6 H' ∧ H' C4 = some (.lst (ni (O.take i)))) ⟨same_new nC4, upd_same⟩ (fun i H' _ z => g H' (.ofS z.1)) ?_ ?_
      · rintro i y Ha Hb hi ⟨sa, ha⟩ ⟨rfl, gy⟩
        obtain ⟨a, o, eo, rfl, ea⟩ := pz6.2 _ y gy
        obtain ⟨iO, eO⟩ := List.getElem?_eq_some_iff.mp eo
        refine ⟨a, _, rfl, SqA.t (sa _ _ ea), rfl, _, _, rfl, _, _, rfl, rfl, rfl, tyes (iteT ?_)⟩
        refine ⟨_, rfl, _, ha, ?_, same_over sa nC4, ?_⟩
        · rw [ni_len, List.length_take]
          exact small1000 (by omega)
        · rw [upd_same, take_succ_get iO, ni_app, eO]
          rfl
      rintro H7 ⟨s7, h7⟩
      rw [List.take_of_length_le (by rw [pz6.1]; exact Nat.le_refl _)] at h7
      have sE7 := s5.trans (s6.trans s7)
      have hC7 := sE7 _ _ hC
      clear e6 pz6 g W hJ J G nC4 s5 s6 s7
      -- full
      obtain ⟨dd, edd⟩ : ∃ dd : Nat, (m' : Int) - ((fastE L ms').length : Int) = (dd : Int) := ⟨m' - (fastE L ms').length, by omega⟩
      have edd' : dd = m' - (fastE L ms').length := by omega
      refine ⟨_, rfl, _, rfl, _, rfl, _, rfl, C, _, rfl, .inl (SqL.of hC7), _, _, rfl, rfl, _, rfl, ?_⟩
      rw [ni_len, edd]
      refine ⟨C4, _, rfl, SqL.of h7, fun sl nsl => ?_⟩
      rw [cut_take, show (ni O).take dd = ni (O.take dd) by unfold ni; rw [List.map_take]]
      have s13 : Same H7 (upd H7 sl (.lst (ni (O.take dd)))) := same_new nsl
      have e13 : upd H7 sl (.lst (ni (O.take dd))) sl = _ := upd_same
      generalize upd H7 sl (.lst (ni (O.take dd))) = H13 at s13 e13
      have lXd : (O.take dd).length ≤ O.length := by rw [List.length_take]; omega
      refine ⟨C, sl, _, _, rfl, rfl, s13 _ _ hC7, e13, ?_, fun ct nct => ?_⟩
      · rw [ni_len, ni_len]
        exact Nat.le_trans (show (fastE L ms').length + (O.take dd).length ≤ 1000 by omega) (by decide)
      have s14 : Same H13 (upd H13 ct (.lst (ni (fastE L ms') ++ ni (O.take dd)))) := same_new nct
      have e14 : upd H13 ct (.lst (ni (fastE L ms') ++ ni (O.take dd))) ct = some (.lst (((fastE L ms' ++ O.take dd).map fun (i : Nat) => (i : Int)).map V.int)) := by rw [upd_same, ← ni_ints, ni_app]
      generalize upd H13 ct (.lst (ni (fastE L ms') ++ ni (O.take dd))) = H14 at s14 e14
      refine ⟨ct, _, rfl, SqL.of e14, fun ns2 p2 pm2' up2 np2 => ?_⟩
      have ndF : (fastE L ms').Nodup := (hL.up.filter _).imp Nat.ne_of_lt
      have nd : (fastE L ms' ++ O.take dd).Nodup := List.nodup_append.mpr ⟨ndF, (pO.nodup_iff.mpr (imv.1.up.imp Nat.ne_of_lt)).sublist (List.take_sublist _ _), fun a ha z hz e => by
        subst e
        have h1 := pO.mem_iff.mp (List.mem_of_mem_take hz)
        have h2 := (List.mem_filter.mp ha).2
        simp at h2
        exact h2 h1⟩
      have lt : ∀ i ∈ fastE L ms' ++ O.take dd, i < ds.length := fun i hi => by
        rcases List.mem_append.mp hi with z | z
        · exact hL.lt i (List.mem_filter.mp z).1
        · exact imv.1.lt i (pO.mem_iff.mp (List.mem_of_mem_take z))
      obtain ⟨M, rfl, pM, hM⟩ := lot_sorted (c := ds.length) pm2' up2 nd lt
      have s15 : Same H14 (upd H14 p2 (.lst ((M.map fun (i : Nat) => (i : Int)).map V.int))) := same_new np2
      have e15 : upd H14 p2 (.lst ((M.map fun (i : Nat) => (i : Int)).map V.int)) p2 = some (.lst (ni M)) := by rw [upd_same, ni_ints]
      generalize upd H14 p2 (.lst ((M.map fun (i : Nat) => (i : Int)).map V.int)) = H15 at s15 e15
      refine ⟨p2, _, rfl, .inl ⟨SqL.of e15, fun th nth => ?_⟩⟩
      have s16 : Same H15 (upd H15 th (.tup (ni M))) := same_new nth
      have e16 : upd H15 th (.tup (ni M)) th = some (.tup (ni M)) := upd_same
      generalize upd H15 th (.tup (ni M)) = H16 at s16 e16
      rw [edd'] at pM
      obtain ⟨f1, f2, f3⟩ := end_set (f := fun o => ds.getD o 0) hL imv.1 pO sO bm.1 bm.2 pM
      have rM : Rl h t ds L M := end_most hL d0 imv im hM f1 f2 f3
      have sD16 := sE.trans (sE7.trans (s13.trans (s14.trans (s15.trans s16))))
      refine ⟨_, rfl, th, _, rfl, .inr (SqT.of e16), _, rfl, ?_⟩
      rw [ni_len, f1]
      refine ⟨rfl, _, rfl, ?_⟩
      rw [decide_eq_true rfl]
      refine iteF ?_
      have hlM : LotT K H16 (.ref th) M := ⟨th, rfl, SqT.of e16⟩
      refine ⟨_, rfl, _, rfl, _, rfl, .ref p0, .ref pl, .ref th, h, t, ds, L, M, rfl, (hvD.same sD16).d, (hlD.same sD16).a, hlM.a, by omega, d0, hL, hM, fun H17 c s17 hc => ?_⟩
      obtain rfl : c = true := hc.mpr rM
      refine ⟨true, rfl, iteF ?_⟩
      exact ⟨_, _, _, _, _, _, _, _, _, _, _, _, _, _, rfl, (xD.same (sD16.trans s17)).mono (by omega), uD.trans (Same.but (b := b) (sD16.trans s17))⟩
    · rintro σ H' ⟨y1, y2, y3, y4, y5, y6, y7, y8, y9, ya, yb, yc, yd, ye, rfl, x9, u9⟩
      exact q H' u9
end
end Sh

namespace Sh
open PySem PySem.Spec PyProof.Rows L2
/-! ### the law itself -/
def spLaw (K : PySem.W.Frag) : Sp := fun vs H Q _ => ∃ (a : Addr) (ns : List Int), vs = [.ref a] ∧ SqL K H a (ns.map V.int) ∧ ns.length ≤ 63 ∧ ∀ H', Q (.bl true) H'
abbrev s_law : Stmt := topS 49
theorem sc_law : FnScope (["_law_script", "_law_k"] : List Str) (["_law_script"] : List Str) (defScope s_law) := ⟨rfl, rfl, rfl, by decide +kernel, rfl, by decide +kernel, by decide +kernel⟩
theorem b_law (kV doc pm : Value) (an : Option Addr) (cdv ct : Value) (us : List Value) (hl : us.length = (["_law_script"] : List Str).length) : bindArgs (PySem.W.fnOf "law" "law" (defArgs s_law) (defBody s_law) (defScope s_law) .none kV doc pm an cdv ct) ⟨us, []⟩ = pure ((["_law_script"] : List Str).zip us) :=
  match us, hl with | [_], _ => rfl
section
variable {P : Program} {w : World} {K : PySem.W.Frag} {mg : Str → Option Value} {base : Heap}
theorem ok_law {k : Nat} (D : Df K mg "law" s_law) (T : Bt mg) (O__law_box : Ok P w K mg base k "_law_box" s__law_box ["_law_script", "_law_k"] (spBox K)) (O__law_right : Ok P w K mg base k "_law_right" s__law_right ["_law_box_here"] spRight) :
    Ok P w K mg base (k + 1) "law" s_law ["_law_script"] (spLaw K) := by
  refine D.ok sc_law b_law (fun vs H Q E h => ?_) (fun f cdv A outer s H vs Q E hr h => ?_)
  · obtain ⟨a, ns, rfl, _⟩ := h
    rfl
  · obtain ⟨a, ns, rfl, hS, hl, q⟩ := h
    refine ⟨_, (pss_one (ps_ret (pe_callB (cr_all rfl) (by rfl) T.all_ (by decide +kernel) (pa_cons (pe_lc (own := [("_law_k", 1)]) (g := (gName 1)) (tt := tYes) (by rfl) sc_law.nd (pi_range1 (by rfl) T.range_ (pa_cons (pe_op op_add pe_int (pe_callB (call_min2 rfl) (by rfl) T.min_ (by decide +kernel) (pa_cons pe_int (pa_cons (pe_callB call_len_seq (by rfl) T.len_ PySem.boot_len (pa_cons (pv 0) pa_nil)) pa_nil)))) pa_nil)) (blkOk_by (own := [("_law_k", 1)]) (N := (["_law_script", "_law_k"] : List Str)) (sc := defScope s_law) (by decide +kernel)) (fun _ _ _ _ _ => (pg_name (i := 1) sc_law.nd rfl (.inl rfl))) (fun _ _ _ _ _ => pts_nil) (fun _ _ _ _ _ => (pe_fn O__law_right (hr.mono (by omega)) (pa_cons (pe_fn O__law_box (hr.mono (by omega)) (pa_cons (pv 0) (pa_cons (pv 1) pa_nil))) pa_nil)))) pa_nil)))), ?_⟩
    refine ⟨_, rfl, a, _, rfl, .inl hS, _, _, rfl, 1, _, rfl, rfl, _, rfl, ?_, ?_, fun C nC => ?_⟩
    · split <;> omega
    · rw [List.length_map]
      split <;> omega
    rw [List.length_map]
    generalize en : (1 + if (ns.length : Int) < 3 then (ns.length : Int) else 3).toNat = n
    have hn : n ≤ 4 := by
      rw [← en]
      split <;> omega
    refine lc_range (fun i H' => Same H H' ∧ H' C = some (.lst ((List.replicate i true).map V.bl))) ⟨same_new nC, upd_same⟩ ?_ ?_
    · rintro i H1 hi ⟨sm, hC⟩
      refine ⟨rfl, tyes (iteT ?_)⟩
      refine ⟨_, rfl, _, rfl, a, ns, i, ?_, by omega, sm.seq hS, fun b xs nb bx => ?_⟩
      · show [V.ref a, V.int (0 + (i : Int))] = _
        rw [Int.zero_add]
      refine ⟨b, rfl, (BoxAt.put bx).mono (by decide), fun H2 u2 => ?_⟩
      have nCb : C ≠ b := ne_of_none hC nb
      refine ⟨_, u2 _ _ nCb (by rw [upd_ne nCb]; exact hC), ?_, fun p o ho => ?_, ?_⟩
      · rw [List.length_map, List.length_replicate]
        exact small1000 (by omega)
      · have npb : p ≠ b := ne_of_none (sm _ _ ho) nb
        rw [upd_ne (ne_of_none ho nC)]
        exact u2 _ _ npb (by rw [upd_ne npb]; exact sm _ _ ho)
      · rw [upd_same, List.replicate_succ', List.map_append]
        rfl
    · rintro H1 ⟨sm, hC⟩
      refine ⟨C, _, rfl, SqL.of hC, ?_⟩
      have e : (List.replicate n true).all id = true := by simp
      rw [e]
      exact q _
theorem law_end {k : Nat} {fa : Addr} {sp : Sp} (D : Df K mg "law" s_law) (hfa : mg "law" = some (.ref fa)) (O : ∀ base, Ok P w K mg base k "law" s_law ["_law_script"] sp) :
    ∃ fd : FuncData, (∀ (s : Shared) (v : Value), BindsTo s fd ⟨[v], []⟩ [("_law_script", v)]) ∧ ∀ base : Heap, K.In base → base.Ns mainGlobals mg → FnOk P w K mg base CX0 k fa fd ["_law_script"] sp := by
  obtain ⟨f, fd, F, g⟩ := D.ex
  obtain rfl : fa = f := by
    have e := hfa.symm.trans g
    cases e
    rfl
  refine ⟨fd, fun s v => ?_, fun base _ _ => ?_⟩
  · obtain ⟨oc, od, kV, doc, pm, an, cdv, ct, osl, rfl, lk, hcd⟩ := F.ex
    exact .of_eq (b_law kV doc pm an cdv ct [v] rfl)
  · obtain ⟨f', fd', F', g', _, G⟩ := (O base).ex
    obtain rfl : fa = f' := by
      have e := g.symm.trans g'
      cases e
      rfl
    obtain ⟨_, _, _, _, _, _, _, _, _, _, lk, _⟩ := F.ex
    obtain ⟨_, _, _, _, _, _, _, _, _, _, lk', _⟩ := F'.ex
    have e := lk.symm.trans lk'
    cases e
    exact G
theorem df_mk {x : Str} {st : Stmt} {h : Heap} {f : Addr} {oc : Value} {od an : Option Addr} {sl : Array (Option Value)} {kV dc pm cd ct : Value} (X : K.In h) (G : h.Ns mainGlobals mg)
    (a : PySem.W.nsIn K mainGlobals x = some (some (.ref f))) (l : K.lookup f = some ⟨oc, od, .func (PySem.W.fnOf x x (defArgs st) (defBody st) (defScope st) .none kV dc pm an cd ct), sl⟩)
    (c : PySem.W.codeIn K cd x = true) (k : PySem.W.keepIn K (.ref f) = true) : Df K mg x st := ⟨f, _, fun_mk l c k, PySem.W.mg_of X G a⟩
theorem with_df {R : Prop} {x : Str} {st : Stmt} {h : Heap} {f : Addr} {oc : Value} {od an : Option Addr} {sl : Array (Option Value)} {kV dc pm cd ct : Value} (X : K.In h) (G : h.Ns mainGlobals mg)
    (a : PySem.W.nsIn K mainGlobals x = some (some (.ref f))) (l : K.lookup f = some ⟨oc, od, .func (PySem.W.fnOf x x (defArgs st) (defBody st) (defScope st) .none kV dc pm an cd ct), sl⟩)
    (c : PySem.W.codeIn K cd x = true) (k : PySem.W.keepIn K (.ref f) = true) (r : Df K mg x st → R) : R := r (df_mk X G a l c k)
end
end Sh

open PySem PySem.W PyProof.Rows
set_option maxHeartbeats 0 in
theorem PySem.Challenge.cw_shoalmates_k66_whole_filled_and_emptied_holds : PySem.Challenge.rw_shoalmates_k66_whole_filled_and_emptied.Holds := by
  w_on; o_law; k_head; (case hw => w_witness2)
  k_fill
  refine L2.walk_of (l := PySem.Challenge.rw_shoalmates_k66_whole_filled_and_emptied) (n := 63) (k := 10) (x := "_law_script") (CX := fun _ => L2.CX0) (sp := fun w => Sh.spLaw _) rfl (by decide) rfl ⟨rfl, by decide, by decide⟩ (fun w h Y => PySem.W.kIn_of Y) ?F (fun _ _ a ns hl _ hS => ⟨a, ns, rfl, hS, hl, fun _ => rfl⟩) (fun _ _ _ _ _ h => h)
  case F =>
    intro w mg fa h KX G hmg
    have T : Sh.Bt mg := by
      constructor <;> (refine PySem.W.mg_none_of KX G ?_; k_is)
    refine' Sh.with_cn KX G ?a ?b ?c fun C => ?_
    (case a => k_is); (case b => k_is); (case c => k_is)
    refine' Sh.with_ck (w := w) KX G ?a ?l ?k ?d1 ?d2 ?d3 fun Ck => ?_
    (case a => k_is); (case l => k_is); (case d1 => k_is); (case d2 => k_is); (case d3 => k_is); (case k => exact ⟨⟨_, _, rfl, rfl⟩, ⟨_, _, rfl, rfl⟩, ⟨_, _, rfl, rfl⟩, trivial⟩)
    refine' Sh.with_df (x := "mark_of") (st := Sh.s_mark_of) KX G ?a ?l ?c ?k fun D_mark_of => ?_
    (case a => k_is); (case l => k_is); (case c => k_is); (case k => k_is)
    refine' Sh.with_df (x := "top_of") (st := Sh.s_top_of) KX G ?a ?l ?c ?k fun D_top_of => ?_
    (case a => k_is); (case l => k_is); (case c => k_is); (case k => k_is)
    refine' Sh.with_df (x := "fleet_of") (st := Sh.s_fleet_of) KX G ?a ?l ?c ?k fun D_fleet_of => ?_
    (case a => k_is); (case l => k_is); (case c => k_is); (case k => k_is)
    refine' Sh.with_df (x := "turned_fleet") (st := Sh.s_turned_fleet) KX G ?a ?l ?c ?k fun D_turned_fleet => ?_
    (case a => k_is); (case l => k_is); (case c => k_is); (case k => k_is)
    refine' Sh.with_df (x := "ships_many") (st := Sh.s_ships_many) KX G ?a ?l ?c ?k fun D_ships_many => ?_
    (case a => k_is); (case l => k_is); (case c => k_is); (case k => k_is)
    refine' Sh.with_df (x := "mark_in") (st := Sh.s_mark_in) KX G ?a ?l ?c ?k fun D_mark_in => ?_
    (case a => k_is); (case l => k_is); (case c => k_is); (case k => k_is)
    refine' Sh.with_df (x := "goers_many") (st := Sh.s_goers_many) KX G ?a ?l ?c ?k fun D_goers_many => ?_
    (case a => k_is); (case l => k_is); (case c => k_is); (case k => k_is)
    refine' Sh.with_df (x := "top_in") (st := Sh.s_top_in) KX G ?a ?l ?c ?k fun D_top_in => ?_
    (case a => k_is); (case l => k_is); (case c => k_is); (case k => k_is)
    refine' Sh.with_df (x := "filled_at") (st := Sh.s_filled_at) KX G ?a ?l ?c ?k fun D_filled_at => ?_
    (case a => k_is); (case l => k_is); (case c => k_is); (case k => k_is)
    refine' Sh.with_df (x := "low_stop") (st := Sh.s_low_stop) KX G ?a ?l ?c ?k fun D_low_stop => ?_
    (case a => k_is); (case l => k_is); (case c => k_is); (case k => k_is)
    refine' Sh.with_df (x := "lot_of") (st := Sh.s_lot_of) KX G ?a ?l ?c ?k fun D_lot_of => ?_
    (case a => k_is); (case l => k_is); (case c => k_is); (case k => k_is)
    refine' Sh.with_df (x := "turned_lot") (st := Sh.s_turned_lot) KX G ?a ?l ?c ?k fun D_turned_lot => ?_
    (case a => k_is); (case l => k_is); (case c => k_is); (case k => k_is)
    refine' Sh.with_df (x := "fixed_ones") (st := Sh.s_fixed_ones) KX G ?a ?l ?c ?k fun D_fixed_ones => ?_
    (case a => k_is); (case l => k_is); (case c => k_is); (case k => k_is)
    refine' Sh.with_df (x := "least_in") (st := Sh.s_least_in) KX G ?a ?l ?c ?k fun D_least_in => ?_
    (case a => k_is); (case l => k_is); (case c => k_is); (case k => k_is)
    refine' Sh.with_df (x := "most_in") (st := Sh.s_most_in) KX G ?a ?l ?c ?k fun D_most_in => ?_
    (case a => k_is); (case l => k_is); (case c => k_is); (case k => k_is)
    refine' Sh.with_df (x := "moving_mark") (st := Sh.s_moving_mark) KX G ?a ?l ?c ?k fun D_moving_mark => ?_
    (case a => k_is); (case l => k_is); (case c => k_is); (case k => k_is)
    refine' Sh.with_df (x := "fleet_most") (st := Sh.s_fleet_most) KX G ?a ?l ?c ?k fun D_fleet_most => ?_
    (case a => k_is); (case l => k_is); (case c => k_is); (case k => k_is)
    refine' Sh.with_df (x := "fleet_least") (st := Sh.s_fleet_least) KX G ?a ?l ?c ?k fun D_fleet_least => ?_
    (case a => k_is); (case l => k_is); (case c => k_is); (case k => k_is)
    refine' Sh.with_df (x := "mark_at") (st := Sh.s_mark_at) KX G ?a ?l ?c ?k fun D_mark_at => ?_
    (case a => k_is); (case l => k_is); (case c => k_is); (case k => k_is)
    refine' Sh.with_df (x := "most_here") (st := Sh.s_most_here) KX G ?a ?l ?c ?k fun D_most_here => ?_
    (case a => k_is); (case l => k_is); (case c => k_is); (case k => k_is)
    refine' Sh.with_df (x := "least_here") (st := Sh.s_least_here) KX G ?a ?l ?c ?k fun D_least_here => ?_
    (case a => k_is); (case l => k_is); (case c => k_is); (case k => k_is)
    refine' Sh.with_df (x := "movers_of") (st := Sh.s_movers_of) KX G ?a ?l ?c ?k fun D_movers_of => ?_
    (case a => k_is); (case l => k_is); (case c => k_is); (case k => k_is)
    refine' Sh.with_df (x := "comes_to") (st := Sh.s_comes_to) KX G ?a ?l ?c ?k fun D_comes_to => ?_
    (case a => k_is); (case l => k_is); (case c => k_is); (case k => k_is)
    refine' Sh.with_df (x := "fast_ones") (st := Sh.s_fast_ones) KX G ?a ?l ?c ?k fun D_fast_ones => ?_
    (case a => k_is); (case l => k_is); (case c => k_is); (case k => k_is)
    refine' Sh.with_df (x := "_law_cell_at") (st := Sh.s__law_cell_at) KX G ?a ?l ?c ?k fun D__law_cell_at => ?_
    (case a => k_is); (case l => k_is); (case c => k_is); (case k => k_is)
    refine' Sh.with_df (x := "_law_box") (st := Sh.s__law_box) KX G ?a ?l ?c ?k fun D__law_box => ?_
    (case a => k_is); (case l => k_is); (case c => k_is); (case k => k_is)
    refine' Sh.with_df (x := "_law_take") (st := Sh.s__law_take) KX G ?a ?l ?c ?k fun D__law_take => ?_
    (case a => k_is); (case l => k_is); (case c => k_is); (case k => k_is)
    refine' Sh.with_df (x := "_law_of") (st := Sh.s__law_of) KX G ?a ?l ?c ?k fun D__law_of => ?_
    (case a => k_is); (case l => k_is); (case c => k_is); (case k => k_is)
    refine' Sh.with_df (x := "_law_same") (st := Sh.s__law_same) KX G ?a ?l ?c ?k fun D__law_same => ?_
    (case a => k_is); (case l => k_is); (case c => k_is); (case k => k_is)
    refine' Sh.with_df (x := "_law_sea") (st := Sh.s__law_sea) KX G ?a ?l ?c ?k fun D__law_sea => ?_
    (case a => k_is); (case l => k_is); (case c => k_is); (case k => k_is)
    refine' Sh.with_df (x := "_law_lot") (st := Sh.s__law_lot) KX G ?a ?l ?c ?k fun D__law_lot => ?_
    (case a => k_is); (case l => k_is); (case c => k_is); (case k => k_is)
    refine' Sh.with_df (x := "_law_marks") (st := Sh.s__law_marks) KX G ?a ?l ?c ?k fun D__law_marks => ?_
    (case a => k_is); (case l => k_is); (case c => k_is); (case k => k_is)
    refine' Sh.with_df (x := "_law_goers") (st := Sh.s__law_goers) KX G ?a ?l ?c ?k fun D__law_goers => ?_
    (case a => k_is); (case l => k_is); (case c => k_is); (case k => k_is)
    refine' Sh.with_df (x := "_law_top") (st := Sh.s__law_top) KX G ?a ?l ?c ?k fun D__law_top => ?_
    (case a => k_is); (case l => k_is); (case c => k_is); (case k => k_is)
    refine' Sh.with_df (x := "_law_filled") (st := Sh.s__law_filled) KX G ?a ?l ?c ?k fun D__law_filled => ?_
    (case a => k_is); (case l => k_is); (case c => k_is); (case k => k_is)
    refine' Sh.with_df (x := "_law_beyond") (st := Sh.s__law_beyond) KX G ?a ?l ?c ?k fun D__law_beyond => ?_
    (case a => k_is); (case l => k_is); (case c => k_is); (case k => k_is)
    refine' Sh.with_df (x := "_law_from_above") (st := Sh.s__law_from_above) KX G ?a ?l ?c ?k fun D__law_from_above => ?_
    (case a => k_is); (case l => k_is); (case c => k_is); (case k => k_is)
    refine' Sh.with_df (x := "_law_most") (st := Sh.s__law_most) KX G ?a ?l ?c ?k fun D__law_most => ?_
    (case a => k_is); (case l => k_is); (case c => k_is); (case k => k_is)
    refine' Sh.with_df (x := "_law_right") (st := Sh.s__law_right) KX G ?a ?l ?c ?k fun D__law_right => ?_
    (case a => k_is); (case l => k_is); (case c => k_is); (case k => k_is)
    refine' Sh.with_df (x := "law") (st := Sh.s_law) KX G ?a ?l ?c ?k fun D_law => ?_
    (case a => k_is); (case l => k_is); (case c => k_is); (case k => k_is)
    exact Sh.law_end D_law hmg fun base =>
      let O__law_take := Sh.ok_take (base := base) (k := 0) D__law_take T
      let O__law_cell_at := Sh.ok_cell_at (base := base) (k := 0) D__law_cell_at T
      let O__law_box := Sh.ok_box (k := 1) D__law_box T O__law_cell_at
      let O__law_of := Sh.ok_of (k := 1) D__law_of T O__law_take
      let O__law_sea := Sh.ok_sea (k := 2) D__law_sea T (O__law_take.mono (by decide)) O__law_of
      let O__law_lot := Sh.ok_lot (k := 2) D__law_lot T (O__law_take.mono (by decide)) O__law_of
      let O_mark_of := Sh.ok_mark_of (base := base) (k := 0) D_mark_of T
      let O_top_of := Sh.ok_top_of (base := base) (k := 0) D_top_of T
      let O_mark_at := Sh.ok_mark (k := 1) D_mark_at T O_mark_of
      let O_ships_many := Sh.ok_ships (base := base) (k := 0) D_ships_many T
      let O_mark_in := Sh.ok_mark_in (k := 1) D_mark_in T O_mark_of O_ships_many
      let O_top_in := Sh.ok_top_in (k := 1) D_top_in T O_top_of O_ships_many
      let O_goers_many := Sh.ok_goers_many (k := 2) D_goers_many T O_mark_in
      let O_filled_at := Sh.ok_filled (k := 2) D_filled_at T O_mark_in
      let O_low_stop := Sh.ok_low_stop (k := 3) D_low_stop T O_filled_at
      let O_turned_fleet := Sh.ok_turned_fleet (base := base) (k := 0) D_turned_fleet T
      let O_lot_of := Sh.ok_lot_of (k := 4) D_lot_of T C (O_ships_many.mono (by decide)) (O_top_in.mono (by decide)) O_low_stop (O_turned_fleet.mono (by decide))
      let O_turned_lot := Sh.ok_turned_lot (k := 1) D_turned_lot T Ck O_ships_many
      let O_fixed_ones := Sh.ok_fixed (k := 2) D_fixed_ones T O_mark_in
      let O_least_in := Sh.ok_least_in (k := 3) D_least_in T C O_goers_many O_fixed_ones
      let O_most_in := Sh.ok_most_in (k := 4) D_most_in T (O_ships_many.mono (by decide)) (O_turned_fleet.mono (by decide)) (O_turned_lot.mono (by decide)) O_least_in
      let O_moving_mark := Sh.ok_moving (k := 2) D_moving_mark T C (O_ships_many.mono (by decide)) O_mark_in
      let O_fleet_of := Sh.ok_fleet_of (base := base) (k := 0) D_fleet_of T
      let O_fleet_most := Sh.ok_fleet_most (k := 5) D_fleet_most T O_most_in O_lot_of
      let O_fleet_least := Sh.ok_fleet_least (k := 5) D_fleet_least T (O_least_in.mono (by decide)) O_lot_of
      let O_most_here := Sh.ok_most_here (k := 6) D_most_here T O_fleet_most (O_fleet_of.mono (by decide))
      let O_least_here := Sh.ok_least_here (k := 6) D_least_here T O_fleet_least (O_fleet_of.mono (by decide))
      let O_movers_of := Sh.ok_movers (k := 5) D_movers_of T (O_moving_mark.mono (by decide)) O_lot_of (O_fleet_of.mono (by decide))
      let O_fast_ones := Sh.ok_fast (base := base) (k := 0) D_fast_ones T
      let O_comes_to := Sh.ok_comes (k := 5) D_comes_to T O_lot_of (O_fleet_of.mono (by decide)) (O_mark_at.mono (by decide)) (O_fast_ones.mono (by decide))
      let Omk := Sh.ok_lmarks (base := base) (k := 0) D__law_marks T
      let Ogo := Sh.ok_lgo (base := base) (k := 0) D__law_goers T
      let Otp := Sh.ok_ltop (k := 1) D__law_top T Omk
      let Obe := Sh.ok_beyond (k := 2) D__law_beyond T Otp (Omk.mono (by decide)) (Ogo.mono (by decide))
      let Ofi := Sh.ok_filT (k := 3) D__law_filled T (Otp.mono (by decide)) (Ogo.mono (by decide)) Obe
      let Oab := Sh.ok_above (k := 3) D__law_from_above T (Otp.mono (by decide)) (Ogo.mono (by decide))
      let Omo := Sh.ok_mostL (k := 4) D__law_most T (Otp.mono (by decide)) (Omk.mono (by decide)) (Ogo.mono (by decide)) (Obe.mono (by decide)) Ofi Oab
      Sh.ok_law (k := 9) D_law T (O__law_box.mono (by decide)) (Sh.ok_right (k := 8) (by decide) D__law_right T (O__law_sea.mono (by decide)) (O__law_lot.mono (by decide)) (Sh.ok_same D__law_same T 3) (Omo.mono (by decide)) (O_most_here.mono (by decide)) (O_least_here.mono (by decide)) (O_movers_of.mono (by decide)) (O_comes_to.mono (by decide)))
