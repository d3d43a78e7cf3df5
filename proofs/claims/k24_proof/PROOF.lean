import PyProof.Rows.All
import Wide.All
import OpenK.AllK
import Wide.FinOn
import KE.GoesEnum
import HandS.ForMost
import HandS.Walk
import HandS.Zip
import HandS.IsInst
import HandS.NoneIn
import HandS.SortInts
import HandS.Evl
import HandS.Conv
import HandS.Style
import HandS.Star
import HandS.More
import HandS.Strs
import HandS.SetFor
import HandS.Wide
import PyProof.ReprRoads
import PyProof.ReprLen
import HandS.TupAny
import PyProof.CallFns
import PySem.Challenge.RW_shoalmates_k24_fleets_or_not
set_option Elab.async false
set_option linter.all false
set_option maxRecDepth 100000
set_option maxHeartbeats 1000000
/-! Own layer over the hand layer: sequences (a list or a tuple), enumerate of a tuple, defs by one fact each, what is told kept under a growing heap. -/
namespace Sh
open PySem PySem.Spec PyProof.Rows L2

/-! ### heaps -/
theorem same_new {H : Hp} {p : Addr} {o : HO} (h : H p = none) : Same H (upd H p o) := fun b x e => by
  rw [upd_ne (ne_of_none e h)]
  exact e
theorem Same.tup {K : PySem.W.Frag} {H H' : Hp} {a : Addr} {xs : List V} (e : Same H H') (h : SqT K H a xs) : SqT K H' a xs := by
  rcases h with (h | ⟨o, h⟩) | h
  · exact .inl (.inl (e _ _ h))
  · exact .inl (.inr ⟨o, e _ _ h⟩)
  · exact .inr h
/-- a list or a tuple of xs is to be read at a -/
def SqA (K : PySem.W.Frag) (H : Hp) (a : Addr) (xs : List V) : Prop := SqL K H a xs ∨ SqT K H a xs
theorem Same.sqA {K : PySem.W.Frag} {H H' : Hp} {a : Addr} {xs : List V} (e : Same H H') (h : SqA K H a xs) : SqA K H' a xs := h.elim (fun q => .inl (e.seq q)) fun q => .inr (Same.tup e q)
theorem SqA.l {K : PySem.W.Frag} {H : Hp} {a : Addr} {xs : List V} (h : H a = some (.lst xs)) : SqA K H a xs := .inl (SqL.of h)
theorem SqA.t {K : PySem.W.Frag} {H : Hp} {a : Addr} {xs : List V} (h : H a = some (.tup xs)) : SqA K H a xs := .inr (SqT.of h)
/-- nothing but b has changed of what was tracked -/
def But (b : Addr) (H H' : Hp) : Prop := ∀ a o, a ≠ b → H a = some o → H' a = some o
theorem But.refl (b : Addr) (H : Hp) : But b H H := fun _ _ _ e => e
theorem But.trans {b : Addr} {H H1 H2 : Hp} (x : But b H H1) (y : But b H1 H2) : But b H H2 := fun a o n e => y a o n (x a o n e)
theorem Same.but {b : Addr} {H H' : Hp} (e : Same H H') : But b H H' := fun a o _ h => e a o h
theorem But.ups {b : Addr} {H : Hp} {o : HO} : But b H (upd H b o) := fun a x n e => by rw [upd_ne n]; exact e
theorem But.same {b : Addr} {G H H' : Hp} (x : But b H H') (g : Same G H) (n : G b = none) : Same G H' := fun a o e => x a o (ne_of_none e n) (g a o e)

section
variable {K : PySem.W.Frag} {H H' : Hp}
mutual
theorem Dp.same (e : Same H H') : ∀ {v : V} {d : PyData}, Dp K H v d → Dp K H' v d
  | _, _, .non => .non
  | _, _, .bl b => .bl b
  | _, _, .int i => .int i
  | _, _, .str x => .str x
  | _, _, .lst h a => .lst (e.seq h) (DpAll.same e a)
  | _, _, .tup h a => .tup (Same.tup e h) (DpAll.same e a)
theorem DpAll.same (e : Same H H') : ∀ {vs : List V} {ds : List PyData}, DpAll K H vs ds → DpAll K H' vs ds
  | _, _, .nil => .nil
  | _, _, .cons h a => .cons (Dp.same e h) (DpAll.same e a)
end
theorem DpAll.ints : ∀ ns : List Int, DpAll K H (ns.map V.int) (ns.map PyData.int)
  | [] => .nil
  | n :: ns => .cons (.int n) (DpAll.ints ns)
theorem DpAll.len : ∀ {vs : List V} {ds : List PyData}, DpAll K H vs ds → vs.length = ds.length
  | _, _, .nil => rfl
  | _, _, .cons _ a => congrArg Nat.succ (DpAll.len a)
theorem DpAll.get : ∀ {vs : List V} {ds : List PyData} {i : Nat} {v : V}, DpAll K H vs ds → vs[i]? = some v → ∃ d, ds[i]? = some d ∧ Dp K H v d
  | _, _, _, _, .nil, h => by simp at h
  | _, _, 0, _, .cons x _, h => by
    cases Option.some.inj h
    exact ⟨_, rfl, x⟩
  | _, _, i + 1, _, .cons _ a, h => DpAll.get (i := i) a h
end

/-! ### rules for a list or a tuple -/
section
variable {X : Cx}
def rIxA (K : PySem.W.Frag) : R2 := fun x y H Q => ∃ p xs i v, x = .ref p ∧ y = .int i ∧ SqA K H p xs ∧ atI xs i = some v ∧ Q v H
theorem ix_lt : IxR X (rIxA X.K) := fun value slice pins s σ H x y v u Q I rx ry h hs => by
  obtain ⟨p, xs, i, z, e1, e2, hq | hq, he, q⟩ := h
  · exact ix_list value slice pins s σ H x y v u Q I rx ry ⟨p, xs, i, z, e1, e2, hq, he, q⟩ hs
  · exact ix_tup value slice pins s σ H x y v u Q I rx ry ⟨p, xs, i, z, e1, e2, hq, he, q⟩ hs
/-- a written power, its worth written -/
theorem op_powC (v : Int) : OpR X (binaryOp .Pow) (rI (fun i j => CPow i j ∧ i ^ j.toNat = v) fun _ _ => .int v) := fun pins s σ H x y u w Q I rx ry h => by
  obtain ⟨i, j, e1, e2, ⟨hc, hv⟩, q⟩ := h
  exact op_pow pins s σ H x y u w Q I rx ry ⟨i, j, e1, e2, hc, show Q (.int (i ^ j.toNat)) H by rw [hv]; exact q⟩
/-- a < b < c < d -/
def tChain3 (r r' r'' : R2) (ta tb tc td : TE) : TE := fun σ H Q => ta σ H fun x H1 => tb σ H1 fun y H2 => r x y H2 fun z H3 => ∃ k, z = .bl k ∧
  (if k = true then tc σ H3 fun y' H4 => r' y y' H4 fun z' H5 => ∃ k', z' = .bl k' ∧ (if k' = true then td σ H5 fun y'' H6 => r'' y' y'' H6 Q else Q (.bl false) H5) else Q (.bl false) H3)
theorem pe_chain3 {a b c d : Expr} {ta tb tc td : TE} {pos : Pos} {op op' op'' : CmpOp} {r r' r'' : R2} (ho : OpR X (compareOp op) r) (ho' : OpR X (compareOp op') r') (ho'' : OpR X (compareOp op'') r'') (ha : PE X a ta) (hb : PE X b tb) (hc : PE X c tc) (hd : PE X d td)
    (hm : lastMarks [op, op', op''] [b, c, d] = false := by with_unfolding_all rfl) : PE X (.Compare a [op, op', op''] [b, c, d] pos) (tChain3 r r' r'' ta tb tc td) := by
  refine ⟨fun pins s σ H Q I h => ?_⟩
  refine Compare_chain (thn (ha.run pins s σ H _ I h) fun v s1 ⟨x, H1, I1, r1, q1⟩ => chain_link (thn (hb.run pins s1 σ H1 _ I1 q1) fun u s2 ⟨y, H2, I2, r2, q2⟩ =>
    thn (ho pins s2 σ H2 x y v u _ I2 r1 r2 q2) fun e s3 ⟨z, H3, I3, r3, k, ez, q3⟩ => ?_)) hm
  subst ez
  cases r3
  refine wpAny_truthy_bool ?_
  cases k with
  | false => exact ite_ff ⟨.bl false, H3, I3, rfl, q3⟩
  | true =>
    refine ite_tt (chain_link (thn (hc.run pins s3 σ H3 _ I3 q3) fun u' s4 ⟨y', H4, I4, r4, q4⟩ => thn (ho' pins s4 σ H4 y y' u u' _ I4 r2 r4 q4) fun e s5 ⟨z', H5, I5, r5, k', ez', q5⟩ => ?_))
    subst ez'
    cases r5
    refine wpAny_truthy_bool ?_
    cases k' with
    | false => exact ite_ff ⟨.bl false, H5, I5, rfl, q5⟩
    | true => exact ite_tt (chain_last (thn (hd.run pins s5 σ H5 _ I5 q5) fun w' s6 ⟨y'', H6, I6, r6, q6⟩ => ho'' pins s6 σ H6 y' y'' u' w' Q I6 r4 r6 q6))
theorem pt_chain3 {a b c d : Expr} {ta tb tc td : TE} {pos : Pos} {op op' op'' : CmpOp} {r r' r'' : R2} (ho : OpR X (compareOp op) r) (ho' : OpR X (compareOp op') r') (ho'' : OpR X (compareOp op'') r'') (ha : PE X a ta) (hb : PE X b tb) (hc : PE X c tc) (hd : PE X d td)
    (hm : lastMarks [op, op', op''] [b, c, d] = false := by with_unfolding_all rfl) : PT X (.Compare a [op, op', op''] [b, c, d] pos) (tTest (tChain3 r r' r'' ta tb tc td)) := by
  refine ⟨fun pins s σ H Q I h => ?_⟩
  refine isTrue_chain (thn (ha.run pins s σ H _ I h) fun v s1 ⟨x, H1, I1, r1, q1⟩ => test_link (thn (hb.run pins s1 σ H1 _ I1 q1) fun u s2 ⟨y, H2, I2, r2, q2⟩ =>
    thn (ho pins s2 σ H2 x y v u _ I2 r1 r2 q2) fun e s3 ⟨z, H3, I3, r3, k, ez, q3⟩ => ?_)) hm
  subst ez
  cases r3
  refine wpAny_truthy_bool ?_
  cases k with
  | false =>
    obtain ⟨k', e', q'⟩ := q3
    cases e'
    exact ite_ff ⟨H3, I3, q'⟩
  | true =>
    refine ite_tt (test_link (thn (hc.run pins s3 σ H3 _ I3 q3) fun u' s4 ⟨y', H4, I4, r4, q4⟩ => thn (ho' pins s4 σ H4 y y' u u' _ I4 r2 r4 q4) fun e s5 ⟨z', H5, I5, r5, k', ez', q5⟩ => ?_))
    subst ez'
    cases r5
    refine wpAny_truthy_bool ?_
    cases k' with
    | false =>
      obtain ⟨k', e', q'⟩ := q5
      cases e'
      exact ite_ff ⟨H5, I5, q'⟩
    | true =>
      refine ite_tt (test_last (thn (hd.run pins s5 σ H5 _ I5 q5) fun w' s6 ⟨y'', H6, I6, r6, q6⟩ => thn (ho'' pins s6 σ H6 y' y'' u' w' _ I6 r4 r6 q6) fun e s7 ⟨z2, H7, I7, r7, k2, e2, q7⟩ => ?_))
      subst e2
      cases r7
      exact wpAny_truthy_bool ⟨H7, I7, q7⟩
/-- the same, the written part by its own name (within a comprehension) -/
theorem ix_ltK (K : PySem.W.Frag) (hK : X.K = K := by rfl) : IxR X (rIxA K) := hK ▸ ix_lt
theorem call_lenK (K : PySem.W.Frag) (hK : X.K = K := by rfl) : CallR X (.builtin "len") (fun xs H Q => ∃ p ys, xs = [.ref p] ∧ (SqL K H p ys ∨ SqT K H p ys) ∧ Q (.int ys.length) H) := hK ▸ call_len_seq
theorem op_inK (K : PySem.W.Frag) (hK : X.K = K := by rfl) : OpR X (compareOp .In) (rIn K false) := hK ▸ op_in_seq
theorem op_notInK (K : PySem.W.Frag) (hK : X.K = K := by rfl) : OpR X (compareOp .NotIn) (rIn K true) := hK ▸ op_notIn_seq
def gSeq (K : PySem.W.Frag) (n : Nat) (t : TGs) : TG := fun v σ H Q => ∃ a xs, v = .ref a ∧ SqA K H a xs ∧ xs.length = n ∧ t xs σ H Q
theorem pg_seq {es : List Expr} {k : Nat} {t : TGs} {n : Nat} {pos : Pos} (hc : X.calm = true) (h : PGs X es t)
    (hn : (assignEach es X.env).length = n := by rfl) (hst : (assignEach es X.env).findIdx? (·.1) = none := by rfl) : PG X (.Tuple es k pos) (gSeq X.K n t) := by
  refine ⟨fun pins s σ H v u Q I r hw => ?_⟩
  obtain ⟨a, xs, e1, hq | hq, hl, hw⟩ := hw
  · exact (pg_unl hc h hn hst).run pins s σ H v u Q I r ⟨a, xs, e1, hq, hl, hw⟩
  · exact (pg_tup hc h hn hst).run pins s σ H v u Q I r ⟨a, xs, e1, hq, hl, hw⟩
/-- what stands at a stands -/
def Kp (a : Addr) (H H' : Hp) : Prop := ∀ o, H a = some o → H' a = some o
theorem Kp.ofS {a : Addr} {H H' : Hp} (e : Same H H') : Kp a H H' := fun o h => e a o h
theorem Kp.ofB {a b : Addr} {H H' : Hp} (e : But b H H') (n : a ≠ b) : Kp a H H' := fun o h => e a o n h
theorem Kp.refl (a : Addr) (H : Hp) : Kp a H H := fun _ h => h
theorem Kp.sl {K : PySem.W.Frag} {a : Addr} {xs : List V} {H H' : Hp} (k : Kp a H H') (h : SqL K H a xs) : SqL K H' a xs := by
  rcases h with (h | ⟨o, h⟩) | h
  · exact .inl (.inl (k _ h))
  · exact .inl (.inr ⟨o, k _ h⟩)
  · exact .inr h
theorem Kp.st {K : PySem.W.Frag} {a : Addr} {xs : List V} {H H' : Hp} (k : Kp a H H') (h : SqT K H a xs) : SqT K H' a xs := by
  rcases h with (h | ⟨o, h⟩) | h
  · exact .inl (.inl (k _ h))
  · exact .inl (.inr ⟨o, k _ h⟩)
  · exact .inr h
theorem Kp.sa {K : PySem.W.Frag} {a : Addr} {xs : List V} {H H' : Hp} (k : Kp a H H') (h : SqA K H a xs) : SqA K H' a xs := h.elim (fun q => .inl (k.sl q)) fun q => .inr (k.st q)
/-- the walk over what stood at a in H0 -/
def ItA (K : PySem.W.Frag) (H0 : Hp) (a : Addr) (xs : List V) (J : It) : Prop := (J = Itl K a ∧ SqL K H0 a xs) ∨ (J = Itt K a ∧ SqT K H0 a xs)
def iSeq (K : PySem.W.Frag) (tl : TE) : TI := fun σ H R => tl σ H fun x H1 => ∃ (a : Addr) (xs : List V) (H0 : Hp), x = .ref a ∧ SqA K H0 a xs ∧ Kp a H0 H1 ∧ ∀ J, ItA K H0 a xs J → R J H1
theorem pi_seq {tg l : Expr} {tl : TE} (hl : PE X l tl) : PI X tg l (iSeq X.K tl) := by
  refine ⟨fun pins s σ H R I h => ?_⟩
  refine thn (hl.run pins s σ H _ I h) fun v s1 ⟨x, H1, I1, r1, q1⟩ => ?_
  obtain ⟨a, xs, H0, e, hq | hq, hk, q⟩ := q1
  · replace q := q _ (.inl ⟨rfl, hq⟩)
    replace hq := hk.sl hq
    subst e
    cases r1
    obtain ⟨its, rv, p, hz⟩ := I1.list hq
    refine wpAny_pyIter_list p.isList ?_
    refine ⟨s1.heap.objs.size, [s1.heap.objs.size], _, _, H1, rfl, I1.kept (t' := s1.toks) fun b o e => Heap.get?_push_of_some _ e, turn_list a _, ⟨_, Heap.get?_push_size _ rfl, rfl, rfl⟩, fun b hb => ?_, q⟩
    have e : b = s1.heap.objs.size := by simpa using hb
    subst e
    exact I1.fpOk (Nat.le_refl _) (I1.hok.fresh (Nat.le_refl _))
  · replace q := q _ (.inr ⟨rfl, hq⟩)
    replace hq := hk.st hq
    subst e
    cases r1
    obtain ⟨its, rv, p, hz⟩ := I1.tuple hq
    refine wpAny_pyIter_tuple (show s1.heap.IsTuple a its.toArray from p) ?_
    refine ⟨s1.heap.objs.size, [s1.heap.objs.size], _, _, H1, rfl, I1.kept (t' := s1.toks) fun b o e => Heap.get?_push_of_some _ e, turn_tuple a _, ⟨_, Heap.get?_push_size _ rfl, rfl, rfl⟩, fun b hb => ?_, q⟩
    have e : b = s1.heap.objs.size := by simpa using hb
    subst e
    exact I1.fpOk (Nat.le_refl _) (I1.hok.fresh (Nat.le_refl _))
end

theorem ItA.walk {K : PySem.W.Frag} {H0 : Hp} {a : Addr} {xs : List V} {J : It} (h : ItA K H0 a xs J) : ∃ G : Hp → Prop, (∀ H', Kp a H0 H' → G H') ∧ Walk J xs.length G (YAt xs) := by
  rcases h with ⟨rfl, q⟩ | ⟨rfl, q⟩
  · exact ⟨_, fun _ k => k.sl q, walk_list⟩
  · exact ⟨_, fun _ k => k.st q, walk_tup⟩

/-! ### enumerate of a tuple -/
set_option maxHeartbeats 1000000 in
theorem meets_enum1 {v : Value} {o : Obj} {H : Heap → Prop} (B : Begins v o H) :
    Meets (Builtin.«enumerate.__new__» ⟨[.type "enumerate", v], []⟩) (fun _ R s => H s.heap ∧
      R (.ok (.ret (.ref (s.heap.push o).objs.size))) { s with heap := (s.heap.push o).push { cls := .type "enumerate", data := .fields #[.none, .bool false, .ref s.heap.objs.size, rawInt 0, .none, .none] } }) :=
  .of_wp fun prog w A R s h => by
    obtain ⟨hp, g, d, tk, os⟩ := s; obtain ⟨h1, h⟩ := h
    have hsub := sub_enumerate
    have q1 : ∀ {A' : Around} {E : Value → Shared → Prop} {Q : Value → Shared → Prop}, Q (.ref hp.objs.size) ⟨hp.push o, g, d, tk, os⟩ → wpAny (model prog w) A' (pyIter v) Q E ⟨hp, g, d, tk, os⟩ :=
      fun q => B.iter prog w _ _ ⟨hp, g, d, tk, os⟩ _ h1 q
    wp_walk using q1
    refine wpAny_stack_any fun st => wpAny_pure ?_
    split
    · rename_i c _ _ _ _ _
      cases (c == Value.type "enumerate")
      · wp_walk using q1
        exact ⟨_, rfl, h⟩
      · wp_walk using q1
        exact ⟨_, rfl, h⟩
    · wp_walk using q1
      exact ⟨_, rfl, h⟩
section
variable {prog : Program} {w : World} {A : Around} {E : Value → Shared → Prop} {s : Shared}
theorem enum1_begins {v : Value} {o : Obj} {H : Heap → Prop} {Q : Value → Shared → Prop} (B : Begins v o H) (h1 : H s.heap)
    (h : ∀ h', IsEnum h' (s.heap.objs.size + 1) s.heap.objs.size 0 .none → h'.get? s.heap.objs.size = some o → h'.objs.size = s.heap.objs.size + 2 →
      (∀ b o, s.heap.get? b = some o → h'.get? b = some o) → Q (.ref (s.heap.objs.size + 1)) { s with heap := h' }) :
    wpAny (model prog w) A (call (.type "enumerate") [v]) Q E s := by
  refine callType_new F.called_enumerate (by decide) (F.typeCall_enumerate_1 _) (F.newCall_enumerate_1 _) (fun obj => F.args_object_init_2 obj _) F.entry_enumerate_new
    (meets_enum1 B) ⟨h1, ?_⟩
  have hz : (s.heap.push o).objs.size = s.heap.objs.size + 1 := Heap.size_push ..
  show _ ∧ _
  rw [hz]
  have he : IsEnum ((s.heap.push o).push { cls := .type "enumerate", data := .fields #[.none, .bool false, .ref s.heap.objs.size, rawInt 0, .none, .none] }) (s.heap.objs.size + 1) s.heap.objs.size 0 .none := by
    have := Heap.get?_push_size (s.heap.push o) (o := { cls := .type "enumerate", data := .fields #[.none, .bool false, .ref s.heap.objs.size, rawInt 0, .none, .none] }) rfl
    rw [hz] at this; exact this
  refine ⟨⟨_, he, rfl⟩, h _ he (Heap.get?_push_of_some _ (Heap.get?_push_size _ B.free)) (by rw [Heap.size_push, hz]) fun b o x => Heap.get?_push_of_some _ (Heap.get?_push_of_some _ x)⟩
end
/-- the tuple at a as it stands at each turn, each item in a new pair -/
def IteT (K : PySem.W.Frag) (a : Addr) : It :=
  ⟨fun i H => ∃ (xs : List V) (x : V), SqT K H a xs ∧ xs[i]? = some x, fun i H v H' => ∃ T x, v = .ref T ∧ H T = none ∧ H' = upd H T (.tup [.int (i : Nat), x]) ∧ ∀ xs, SqT K H a xs → xs[i]? = some x, fun i H => ∃ xs : List V, SqT K H a xs ∧ xs.length ≤ i⟩
end Sh

namespace Sh
open PySem PySem.Spec PyProof.Rows L2
section
variable {prog : Program} {w : World} {A : Around} {E : Value → Shared → Prop} {s : Shared}
theorem enum_endT {e it t : Addr} {n : Nat} {i : Int} {old : Value} {items : Array Value} {Q : Option Value → Shared → Prop} (hh : A.handled = none)
    (he : IsEnum s.heap e it i old) (hit : s.heap.IsTupleIter it t n) (ht : s.heap.IsTuple t items) (hx : items[n]? = none)
    (hQ : ∀ h', Heap.ExtBut it s.heap h' → Q none { s with heap := h' }) : wpAny (model prog w) A (pyNext (.ref e)) Q E s := by
  have hT : s.TypeIs (.ref e) "enumerate" := ⟨_, he, rfl⟩
  unfold pyNext
  refine wpAny_bind (wpAny_attempt (wpAny_callSpecial?_slot (name := Str.ofString "__next__") hT F.slot_enumerate_next
    (wpAny_call_entry F.slot_enumerate_next hT F.entry_enumerate_next ?_ (F.args_enumerate_next_1 _))))
  show wpAny _ _ (field (.ref e) 2 >>= _) _ _ _
  refine wpAny_bind (wpAny_field he rfl (x := .ref it) rfl ?_)
  refine wpAny_bind (wpAny_nextOf_tuple_end (show _ = none from hh) hit ht hx fun h' x he' hx' => ?_)
  obtain ⟨o, ho, hc⟩ := hx'
  refine wpAny_bind (wpAny_isInstance (T := "StopIteration") (b := true) ⟨o, ho, hc⟩ isSubtype_stop ?_)
  exact wpAny_pure (hQ _ he')
end
theorem turn_enumT {P : Program} {w : World} {K : PySem.W.Frag} {elts : List Expr} {kk : Nat} {tpos : Pos} (a e it : Addr) :
    Turn P w K (.Tuple elts kk tpos) (IteT K a) [e, it] e (fun i h => (∃ old, IsEnum h e it ((i : Nat) : Int) old) ∧ h.IsTupleIter it a i ∧ e ≠ it ∧ a ≠ it ∧ e ≠ a) where
  mem := by simp
  obj := fun i h st b hb => by
    obtain ⟨⟨old, he⟩, ⟨o, ho, hc, hd⟩, _⟩ := st
    have e' : b = e ∨ b = it := by simpa using hb
    rcases e' with z | z
    · rw [z]; exact ⟨_, he, fun v q => nomatch q⟩
    · rw [z]; exact ⟨o, ho, fun v q => by rw [hd] at q; cases q⟩
  keep := fun i h h' st k => let ⟨⟨old, he⟩, hi, hne⟩ := st; ⟨⟨old, k e (by simp) _ he⟩, hi.at fun o q => k it (by simp) o q, hne⟩
  item := by
    intro X hP hw hK hc i pins s σ H E I hf st hg
    subst hP hw hK
    obtain ⟨⟨old, he⟩, hit, hne, hai, hea⟩ := st
    obtain ⟨xs, x, hq, hx⟩ := hg
    obtain ⟨its, rv, p, hz⟩ := I.tuple hq
    obtain ⟨u, hu, ru⟩ := rv.get hx
    have hel : e < s.heap.objs.size := Heap.lt_size he
    have hil : it < s.heap.objs.size := by obtain ⟨_, q, _⟩ := hit; exact Heap.lt_size q
    have D := Draws.tuple (prog := X.prog) (w := X.w) (A := X.A.in1) (show X.A.in1.handled = none from I.ok.hd hc) it a hai its.toArray
    have hlt : i < its.toArray.size := by
      have q := (List.getElem?_eq_some_iff.mp hu).1
      simpa using q
    refine wpAny_pyNext_enum_itemC D he ⟨hit, p⟩ hlt hne (by simp [hne, hea]) fun u' h' tk hP ho hst' hT hsz hk => ?_
    have eu : u' = u := by
      have q : its.toArray[i]? = some u' := hP
      have q2 : its.toArray[i]? = some u := by simpa using hu
      exact Option.some.inj (q.symm.trans q2)
    subst eu
    obtain ⟨hit', _⟩ := hst'
    refine ⟨_, rfl, wpAny_letOwnedTupleGo_enum (s := { s with heap := h', toks := tk + 1 }) ho fun h'' he' sb => ?_⟩
    have hT2 : h''.get? s.heap.objs.size = some { cls := .type "tuple", data := .seq #[.int i tk, u'] } := (sb.2 _ (Nat.ne_of_gt hel)).trans hT
    have new : ObjOk X.prog X.w (upd H s.heap.objs.size (.tup [.int (i : Nat), x])) h'' s.heap.objs.size (.tup [.int (i : Nat), x]) :=
      ⟨by show 2 ≤ sizeLine; decide, [.int i tk, u'], .cons ⟨_, rfl⟩ (.cons ru .nil), ⟨_, hT2, rfl, _, rfl⟩⟩
    have I1 : Inv X pins σ (upd H s.heap.objs.size (.tup [.int (i : Nat), x])) { s with heap := h'', toks := tk + 1 } :=
      I.turnedNew (ch := [e, it]) (fun b ob hb q => (sb.2 b (fun z => hb (by simp [z]))).trans (hk b ob (fun z => hb (by simp [z])) (fun z => hb (by simp [z])) q)) hf (Nat.le_refl _) new
    refine ⟨.ref s.heap.objs.size, _, I1, rfl, ⟨_, x, rfl, I.hok.fresh (Nat.le_refl _), rfl, fun ys hy => by rw [I.tuple_inj hy hq]; exact hx⟩, ⟨⟨u', ?_⟩, hit'.at fun o q => (sb.2 it (Ne.symm hne)).trans q, hne, hai, hea⟩, fun b hb => ?_⟩
    · have e1 : ((i + 1 : Nat) : Int) = (i : Int) + 1 := by omega
      rw [e1]; exact he'
    · have hb' : b < s.heap.objs.size := by
        have e' : b = e ∨ b = it := by simpa using hb
        rcases e' with z | z
        · rw [z]; exact hel
        · rw [z]; exact hil
      rw [upd_ne (Nat.ne_of_lt hb')]
      exact (hf b hb).1
  done := by
    intro X hP hw hK hc i pins s σ H E I hf st hg
    subst hP hw hK
    obtain ⟨⟨old, he⟩, hit, hne, hai, hea⟩ := st
    obtain ⟨xs, hq, hx⟩ := hg
    obtain ⟨its, rv, p, hz⟩ := I.tuple hq
    obtain ⟨f0, f1, f2, f3, f4, f5⟩ := hf it (by simp)
    have hl := rv.length
    exact enum_endT (I.ok.hd hc) he hit p (by simp; omega) fun h' eb => ⟨rfl, I.turned (t' := s.toks) (fun b o hb q => eb b o hb q) f0 f1 f3 f4 f5⟩
  self := fun A i s Q E st h => let ⟨⟨_, he⟩, _⟩ := st; wpAny_pyIter_enum he h
def ItE (K : PySem.W.Frag) (H0 : Hp) (a : Addr) (xs : List V) (J : It) : Prop := (J = Ite K a ∧ SqL K H0 a xs) ∨ (J = IteT K a ∧ SqT K H0 a xs)
def iEnumA (K : PySem.W.Frag) (ta : TA) : TI := fun σ H R => ta σ H fun vs H1 => ∃ (a : Addr) (xs : List V) (H0 : Hp), vs = [.ref a] ∧ SqA K H0 a xs ∧ Kp a H0 H1 ∧ ∀ J, ItE K H0 a xs J → R J H1
theorem pi_enumA {X : Cx} {e : Expr} {ta : TA} {p pos tpos : Pos} {elts : List Expr} {kk : Nat} (hg : Gl X "enumerate") (hm : X.mg "enumerate" = none) (ha : PA X [e] ta) (hs : starEach [e] X.env = [(false, eval e X.env)] := by rfl) :
    PI X (.Tuple elts kk tpos) (.Call (.Name "enumerate" p) [e] [] pos) (iEnumA X.K ta) := by
  refine ⟨fun pins s σ H R I h => ?_⟩
  refine Call_ (ld_blt I hg hm boot_enumerate (PyProof.Rows.callWith_type1 (thn (ha.run pos pins s σ H _ I h) fun us s1 ⟨vs, H1, I1, r1, q1⟩ => ?_) hs rfl))
  obtain ⟨a, xs, H0, ex, hs0, hk, q1⟩ := q1
  subst ex
  cases r1 with
  | cons r rr =>
    cases rr
    cases r
    have fr : ∀ b ∈ [s1.heap.objs.size + 1, s1.heap.objs.size], FpOk X pins H1 b := fun b hb => by
      have e' : b = s1.heap.objs.size + 1 ∨ b = s1.heap.objs.size := by simpa using hb
      have hle : s1.heap.objs.size ≤ b := by
        rcases e' with z | z
        · rw [z]; exact Nat.le_add_right _ _
        · rw [z]; exact Nat.le_refl _
      exact I1.fpOk hle (I1.hok.fresh hle)
    rcases hs0 with hq | hq
    · have q := q1 _ (.inl ⟨rfl, hq⟩)
      replace hq := hk.sl hq
      obtain ⟨its, rv, p', hz⟩ := I1.list hq
      refine call_enumerate_list p'.isList fun h' he hit hsz hk => wpAny_pyIter_enum he ?_
      have I2 : Inv X pins σ H1 { s1 with heap := h' } := I1.kept (t' := s1.toks) hk
      exact ⟨s1.heap.objs.size + 1, [s1.heap.objs.size + 1, s1.heap.objs.size], _, _, H1, rfl, I2, turn_enum a (s1.heap.objs.size + 1) s1.heap.objs.size, ⟨⟨.none, he⟩, hit, Nat.succ_ne_self _⟩, fr, q⟩
    · have q := q1 _ (.inr ⟨rfl, hq⟩)
      replace hq := hk.st hq
      obtain ⟨its, rv, p', hz⟩ := I1.tuple hq
      have al : a < s1.heap.objs.size := by obtain ⟨_, q, _⟩ := id p'; exact Heap.lt_size q
      refine enum1_begins (begins_tuple a its.toArray) p' fun h' he hit hsz hk => wpAny_pyIter_enum he ?_
      have I2 : Inv X pins σ H1 { s1 with heap := h' } := I1.kept (t' := s1.toks) hk
      exact ⟨s1.heap.objs.size + 1, [s1.heap.objs.size + 1, s1.heap.objs.size], _, _, H1, rfl, I2, turn_enumT a (s1.heap.objs.size + 1) s1.heap.objs.size, ⟨⟨.none, he⟩, ⟨_, hit, rfl, rfl⟩, Nat.succ_ne_self _, Nat.ne_of_lt al, Nat.ne_of_gt (Nat.lt_succ_of_lt al)⟩, fr, q⟩
theorem walk_enumT {K : PySem.W.Frag} {a : Addr} {xs : List V} : Walk (IteT K a) xs.length (fun H => SqT K H a xs) (YPair (fun i => some (.int (i : Nat))) (fun i => xs[i]?)) := by
  refine ⟨fun i _ hi q => ⟨xs, xs[i], q, by simp [hi]⟩, fun _ q => ⟨xs, q, Nat.le_refl _⟩, fun i H v H' _ q y => ?_⟩
  obtain ⟨T, x, h1, h2, h3, h4⟩ := y
  exact ⟨T, .int (i : Nat), x, h1, h2, h3, rfl, h4 xs q⟩
theorem ItE.walk {K : PySem.W.Frag} {H0 : Hp} {a : Addr} {xs : List V} {J : It} (h : ItE K H0 a xs J) : ∃ G : Hp → Prop, (∀ H', Kp a H0 H' → G H') ∧ Walk J xs.length G (YPair (fun i => some (.int (i : Nat))) (fun i => xs[i]?)) := by
  rcases h with ⟨rfl, q⟩ | ⟨rfl, q⟩
  · exact ⟨_, fun _ k => k.sl q, walk_enum⟩
  · exact ⟨_, fun _ k => k.st q, walk_enumT⟩
theorem walk_zipT {K : PySem.W.Frag} {a b : Addr} {xs ys : List V} {n : Nat} (hn : n = min xs.length ys.length) : Walk (RZ.ItzT K a b) n (fun H => SqT K H a xs ∧ SqT K H b ys) (YPair (fun i => xs[i]?) (fun i => ys[i]?)) := by
  subst hn
  refine ⟨fun i _ hi q => ?_, fun _ q => ⟨xs, ys, q.1, q.2, by omega⟩, fun i H v H' _ q y => ?_⟩
  · have h1 : i < xs.length := by omega
    have h2 : i < ys.length := by omega
    exact ⟨xs, ys, xs[i], ys[i], q.1, q.2, by simp [h1], by simp [h2]⟩
  · obtain ⟨T, x, z, h1, h2, h3, h4, h5⟩ := y
    exact ⟨T, x, z, h1, h2, h3, h4 xs q.1, h5 ys q.2⟩
end Sh

namespace Sh
open PySem PySem.Spec PyProof.Rows L2
/-- a def of the top: where it stands, and the global name -/
structure Df (K : PySem.W.Frag) (mg : Str → Option Value) (x : Str) (st : Stmt) : Prop where
  ex : ∃ (f : Addr) (fd : FuncData), Fun K x x st f fd ∧ mg x = some (.ref f)
/-- it keeps its promise -/
structure Ok (P : Program) (w : World) (K : PySem.W.Frag) (mg : Str → Option Value) (base : Heap) (k : Nat) (x : Str) (st : Stmt) (ps : List Str) (sp : Sp) : Prop where
  ex : ∃ (f : Addr) (fd : FuncData), Fun K x x st f fd ∧ mg x = some (.ref f) ∧ Binds K fd ps [] ∧ FnOk P w K mg base CX0 k f fd ps sp
section
variable {P : Program} {w : World} {K : PySem.W.Frag} {mg : Str → Option Value} {base : Heap}
theorem Df.ok {x : Str} {st : Stmt} {N ps : List Str} {k : Nat} {sp : Sp} (D : Df K mg x st) (S : FnScope N ps (defScope st))
    (hb : ∀ (kV doc pm : Value) (an : Option Addr) (cdv ct : Value) (us : List Value), us.length = ps.length → bindArgs (PySem.W.fnOf x x (defArgs st) (defBody st) (defScope st) .none kV doc pm an cdv ct) ⟨us, []⟩ = pure (ps.zip us))
    (len : ∀ vs H Q E, sp vs H Q E → vs.length = ps.length)
    (hbody : ∀ (f : Addr) (cdv : Value) (A : Around) (outer : List Env) (s : Shared) (H : Hp) (vs : List V) (Q : VK) (E : XK), Room k (A.deeper (envOfC x (defScope st) s.heap.objs.size f cdv)) → sp vs H Q E →
      ∃ t, PSs (cxOf CX0 P w K mg base N x (defScope st) f cdv A outer s H E).nox (defBody st) t ∧ t { nx := fun _ H' => Q .non H', rt := Q } (start N vs) H) : Ok P w K mg base (k + 1) x st ps sp := by
  obtain ⟨f, fd, F, g⟩ := D.ex
  exact ⟨f, fd, F, g, F.binds hb, F.ok S len (fun cdv A outer s H vs Q E hr h => hbody f cdv A outer s H vs Q E hr h)⟩
theorem Ok.mono {x : Str} {st : Stmt} {ps : List Str} {j k : Nat} {sp : Sp} (O : Ok P w K mg base j x st ps sp) (h : j ≤ k) : Ok P w K mg base k x st ps sp := by
  obtain ⟨f, fd, F, g, b, G⟩ := O.ex
  exact ⟨f, fd, F, g, b, G.mono h⟩
theorem Ok.imp {x : Str} {st : Stmt} {ps : List Str} {k : Nat} {sp sp' : Sp} (O : Ok P w K mg base k x st ps sp) (h : ∀ vs H Q E, sp' vs H Q E → sp vs H Q E) : Ok P w K mg base k x st ps sp' := by
  obtain ⟨f, fd, F, g, b, G⟩ := O.ex
  exact ⟨f, fd, F, g, b, G.imp h⟩
end
/-- the values at the places js -/
def pk {α : Type} (js : List Nat) (l : List α) : List α := js.filterMap fun j => l[j]?
theorem vals_get : ∀ {vs : List V} {us : List Value} (j : Nat), Vals vs us → (vs[j]? = none ∧ us[j]? = none) ∨ ∃ v u, vs[j]? = some v ∧ us[j]? = some u ∧ RelV v u
  | _, _, _, .nil => .inl ⟨by simp, by simp⟩
  | _, _, 0, .cons r _ => .inr ⟨_, _, rfl, rfl, r⟩
  | _, _, j + 1, .cons _ t => by simpa using vals_get j t
theorem vals_app : ∀ {vs zs : List V} {us ws : List Value}, Vals vs us → Vals zs ws → Vals (vs ++ zs) (us ++ ws)
  | _, _, _, _, .nil, h => h
  | _, _, _, _, .cons r t, h => .cons r (vals_app t h)
theorem vals_pk {vs : List V} {us : List Value} (h : Vals vs us) : ∀ js : List Nat, Vals (pk js vs) (pk js us)
  | [] => .nil
  | j :: js => by
    unfold pk
    rcases vals_get j h with ⟨a, b⟩ | ⟨v, u, a, b, r⟩
    · rw [List.filterMap_cons_none a, List.filterMap_cons_none b]
      exact vals_pk h js
    · rw [List.filterMap_cons_some a, List.filterMap_cons_some b]
      exact .cons r (vals_pk h js)
section
variable {X : Cx} {k : Nat} {x : Str} {st : Stmt} {ps : List Str} {sp : Sp} {e : Expr} {es : List Expr} {t tk : TA} {p pos : Pos} {kws : List Keyword} {ks : List Str}
/-- f(e, ..) -/
theorem pe_fn (O : Ok X.prog X.w X.K X.mg X.base k x st ps sp) (hr : Room k X.A) (ha : PA X (e :: es) t) (hg : Gl X x := by rfl)
    (hdb : (x == ("__debug__" : Str)) = false := by decide) (he : starEach (e :: es) X.env = (false, eval e X.env) :: starEach es X.env := by rfl) (hpl : (backTo pos (starEach es X.env)).any (·.1) = false := by rfl) :
    PE X (.Call (.Name x p) (e :: es) [] pos) (tCall sp [] E0 t) := by
  obtain ⟨f, fd, F, g, b, G⟩ := O.ex
  exact pe_call G hr hg g F.kp b .nil pass0 ha hdb he hpl
/-- f(e, .., k = v, ..): the parameters are the places js of all that is handed in -/
def tCallJ (js : List Nat) (n : Nat) (sp : Sp) (t tk : TA) : TE := fun σ H Q => t σ H fun vs H1 => tk σ H1 fun zs H2 => (vs.length + zs.length = n ∧ zs.length = n - vs.length) ∧ sp (pk js (vs ++ zs)) H2 Q E0
theorem run_fnJ {pins : List (Addr × Obj)} {σ : L2.St} {H : Hp} {s : Shared} {Q : VK} {us ws : List Value} {vs zs : List V} {js : List Nat} {f : Addr} {fd : FuncData} (F : Fun X.K x x st f fd) (G : FnOk X.prog X.w X.K X.mg X.base CX0 k f fd ps sp) (hr : Room k X.A)
    (hb : ∀ (kV doc pm : Value) (an : Option Addr) (cdv ct : Value), bindArgs (PySem.W.fnOf x x (defArgs st) (defBody st) (defScope st) .none kV doc pm an cdv ct) ⟨us, ks.zip ws⟩ = pure (ps.zip (pk js (us ++ ws))))
    (I : Inv X pins σ H s) (r : Vals vs us) (rz : Vals zs ws) (h : sp (pk js (vs ++ zs)) H Q E0) : wpAny (model X.prog X.w) X.A (call (.ref f) us (ks.zip ws)) (EP X pins σ Q) X.xe s := by
  obtain ⟨oc, od, kV, doc, pm, an, cdv, ct, osl, rfl, lk, hcd⟩ := F.ex
  refine wpAny_call (codeAny_mono (G.run X.A X.stack s H ⟨us, ks.zip ws⟩ (pk js (us ++ ws)) (pk js (vs ++ zs)) Q E0 hr I.env0 (.of_eq (hb kV doc pm an cdv ct)) (vals_pk (vals_app r rz) js) h) fun r s' hq => ?_)
  cases r with
  | error e => exact pass0 pins σ H s e s' I hq
  | ok fl =>
    cases fl with
    | ret u => exact I.after hq
    | next => exact False.elim hq
    | brk => exact False.elim hq
    | cont => exact False.elim hq
/-- f(k = v, ..) -/
theorem pe_fnK0 (js : List Nat) (O : Ok X.prog X.w X.K X.mg X.base k x st ps sp) (hr : Room k X.A)
    (hb : ∀ (kV doc pm : Value) (an : Option Addr) (cdv ct : Value) (ws : List Value), ws.length = ks.length → bindArgs (PySem.W.fnOf x x (defArgs st) (defBody st) (defScope st) .none kV doc pm an cdv ct) ⟨[], ks.zip ws⟩ = pure (ps.zip (pk js ws)))
    (hkw : PK X kws tk) (hg : Gl X x := by rfl) (hall : (backToKw pos (keywordEach kws X.env)).all (·.1.isSome) = true := by rfl) (hks : (backToKw pos (keywordEach kws X.env)).filterMap (·.1) = ks := by rfl) (hdb : (x == ("__debug__" : Str)) = false := by decide)
    (hpl : ((backTo pos (starEach [] X.env)).any (·.1) || (backToKw pos (keywordEach kws X.env)).any (·.1.isNone)) = false := by rfl) :
    PE X (.Call (.Name x p) [] kws pos) (tCallJ js ks.length sp tNil tk) := by
  obtain ⟨f, fd, F, g, b, G⟩ := O.ex
  refine ⟨fun pins s σ H Q I h => ?_⟩
  refine wpAny_Call_Name_kw (ld_glob I hg g ?_ hdb)
  refine PySem.W.callWith_KW0 (h₀ := X.base) I.ok.mod.kin F.kp hall ?_ hpl
  refine thn (hkw.run pos pins s σ H _ I h) fun ws s2 ⟨zs, H2, I2, rz, l2, q2⟩ => ⟨I2.kIn, ?_⟩
  rw [hks]
  exact run_fnJ (us := []) (vs := []) (js := js) F G hr (fun kV doc pm an cdv ct => hb kV doc pm an cdv ct ws (rz.length.symm.trans l2.2)) I2 .nil rz q2
/-- f(e, .., k = v, ..), n positional ones -/
theorem pe_fnK (js : List Nat) (n : Nat) (O : Ok X.prog X.w X.K X.mg X.base k x st ps sp) (hr : Room k X.A)
    (hb : ∀ (kV doc pm : Value) (an : Option Addr) (cdv ct : Value) (us ws : List Value), us.length = n → ws.length = ks.length → bindArgs (PySem.W.fnOf x x (defArgs st) (defBody st) (defScope st) .none kV doc pm an cdv ct) ⟨us, ks.zip ws⟩ = pure (ps.zip (pk js (us ++ ws))))
    (ha : PA X (e :: es) t) (hkw : PK X kws tk) (hg : Gl X x := by rfl) (hall : (backToKw pos (keywordEach kws X.env)).all (·.1.isSome) = true := by rfl) (hks : (backToKw pos (keywordEach kws X.env)).filterMap (·.1) = ks := by rfl)
    (hdb : (x == ("__debug__" : Str)) = false := by decide) (he : starEach (e :: es) X.env = (false, eval e X.env) :: starEach es X.env := by rfl)
    (hpl : ((backTo pos (starEach (e :: es) X.env)).any (·.1) || (backToKw pos (keywordEach kws X.env)).any (·.1.isNone)) = false := by rfl) :
    PE X (.Call (.Name x p) (e :: es) kws pos) (fun σ H Q => t σ H fun vs H1 => tk σ H1 fun zs H2 => (vs.length = n ∧ zs.length = ks.length) ∧ sp (pk js (vs ++ zs)) H2 Q E0) := by
  obtain ⟨f, fd, F, g, b, G⟩ := O.ex
  refine ⟨fun pins s σ H Q I h => ?_⟩
  refine wpAny_Call_Name_kw (ld_glob I hg g ?_ hdb)
  refine PySem.W.callWith_KW (h₀ := X.base) I.ok.mod.kin F.kp hall (thn (ha.run pos pins s σ H _ I h) fun us s1 ⟨vs, H1, I1, r, q⟩ => ?_) hpl he
  refine thn (hkw.run pos pins s1 σ H1 _ I1 q) fun ws s2 ⟨zs, H2, I2, rz, ⟨l1, l2⟩, q2⟩ => ⟨I2.kIn, ?_⟩
  rw [hks]
  exact run_fnJ (js := js) F G hr (fun kV doc pm an cdv ct => hb kV doc pm an cdv ct us ws (r.length.symm.trans l1) (rz.length.symm.trans l2)) I2 r rz q2
end
theorem tyes {σ : L2.St} {H : Hp} {Q : Bool → Hp → Prop} (h : Q true H) : tYes σ H Q := h
/-! ### xs[a:b:c] -/
def pickV (xs : List V) (lo hi st : Option Int) : List V := pk (sliceRange (sliceBounds lo hi st xs.length).1 (sliceBounds lo hi st xs.length).2.1 (sliceBounds lo hi st xs.length).2.2) xs
theorem pick_vals {xs : List V} {us : List Value} (r : Vals xs us) (lo hi st : Option Int) : Vals (pickV xs lo hi st) (slicePick us.toArray lo hi st).toList := by
  have e := vals_pk r (sliceRange (sliceBounds lo hi st xs.length).1 (sliceBounds lo hi st xs.length).2.1 (sliceBounds lo hi st xs.length).2.2)
  have e2 : (slicePick us.toArray lo hi st).toList = pk (sliceRange (sliceBounds lo hi st xs.length).1 (sliceBounds lo hi st xs.length).2.1 (sliceBounds lo hi st xs.length).2.2) us := by
    unfold slicePick pk
    rw [List.size_toArray, ← r.length]
    simp
  rw [e2]
  exact e
section
variable {X : Cx}
def tStep (K : PySem.W.Frag) (te : TE) (tl th ts : TO) : TE := fun σ H Q => te σ H fun x H1 => tl σ H1 fun l H2 => th σ H2 fun u H3 => ts σ H3 fun o H4 => ∃ a xs, x = .ref a ∧ SqL K H4 a xs ∧ o ≠ some 0 ∧ (pickV xs l u o).length ≤ sizeLine ∧ ∀ p, H4 p = none → Q (.ref p) (upd H4 p (.lst (pickV xs l u o)))
theorem pe_step {e st : Expr} {lo hi : Option Expr} {te : TE} {tl th ts : TO} {p3 pos : Pos} (he : PE X e te) (hlo : PO X lo tl) (hhi : PO X hi th) (hst : PO X (some st) ts) : PE X (.Subscript e (.Slice lo hi (some st) p3) pos) (tStep X.K te tl th ts) := by
  refine ⟨fun pins s σ H Q I h => ?_⟩
  refine Subscript_ (thn (he.run pins s σ H _ I h) fun v s1 ⟨x, H1, I1, r1, q1⟩ => ?_)
  refine wpAny_Slice (thn (hlo.run pins s1 σ H1 _ I1 q1) fun vl s2 ⟨l, H2, I2, pl, q2⟩ => ?_)
  refine thn (hhi.run pins s2 σ H2 _ I2 q2) fun vu s3 ⟨u, H3, I3, pu, q3⟩ => ?_
  refine thn (hst.run pins s3 σ H3 _ I3 q3) fun vs s4 ⟨o, H4, I4, ps, q4⟩ => ?_
  obtain ⟨a, xs, ex, hx, h0, hz2, q⟩ := q4
  subst ex
  cases r1
  have I5 : Inv X pins σ H4 { s4 with heap := s4.heap.push { cls := .type "slice", data := .fields #[vl, vu, vs] } } := I4.kept (t' := s4.toks) fun b ob q => Heap.get?_push_of_some _ q
  obtain ⟨its, r, ht, hz⟩ := I5.list hx
  have hlen := r.length
  show wpAny (model X.prog X.w) X.A (subscriptTail e (.Slice lo hi (some st) p3) (.ref a) (.ref s4.heap.objs.size)) (EP X pins σ Q) X.xe { s4 with heap := s4.heap.push { cls := .type "slice", data := .fields #[vl, vu, vs] } }
  refine tail_any (ops := [.ref a, .ref s4.heap.objs.size]) ht.isList.typeIs (PySem.slot_list_getitem.lookup) ?_ (by with_unfolding_all rfl)
  refine wpAny_getItem_list_slice ht.isList (Heap.IsSliceOf.new _ vl vu vs) pl pu ps h0 ?_ (by rw [List.size_toArray]; omega)
  refine ⟨.ref _, _, I5.laid (t' := s4.toks) (o := .lst (pickV xs l u o)) (fun b ob q => Heap.get?_push_of_some _ q) (Nat.le_refl _) ?_, rfl, q _ (I5.hok.fresh (Nat.le_refl _))⟩
  exact ⟨hz2, (slicePick its.toArray l u o).toList, 0, pick_vals r l u o, Heap.get?_push_size _ rfl⟩
end
/-! ### set(t) of a tuple of ints, as a thing that stands -/
def rSetT (K : PySem.W.Frag) (w : World) : List V → Hp → VK → Prop := fun xs H Q => ∃ (q : Addr) (ns : List Int), xs = [.ref q] ∧ SqT K H q (ns.map V.int) ∧ ns.length ≤ 1000 ∧ ∀ (a : Addr) (c : Nat), H a = none → c ≤ ns.length → Q (.ref a) (upd H a (SetO w a (fun j => decide (j ∈ ns)) c))
theorem cr_setT {X : Cx} (hc : X.calm = true) : CallR X (.type "set") (rSetT X.K X.w) := by
  intro pins s σ H xs us Q I r h
  obtain ⟨q, ns, rfl, hq, hl, k⟩ := h
  rw [Vals.ref1 r]
  obtain ⟨its, rv, pt, hz⟩ := I.tuple hq
  have hi : IntsAre its.toArray.toList ns := ints_of_vals rv
  refine call_set_tupI ns (I.ok.hd hc) (show s.heap.IsTuple q its.toArray from pt) hi (by unfold scanBound; omega) fun h' tk c R1 hcn kk => ?_
  exact ⟨.ref _, upd H s.heap.objs.size (SetO X.w s.heap.objs.size _ c), I.laid (t' := tk) kk (Nat.le_refl _) (setO_new R1), rfl, k _ _ (I.hok.fresh (Nat.le_refl _)) hcn⟩
theorem cr_setTw {X : Cx} (w : World) (hc : X.calm = true) (hw : X.w = w := by rfl) : CallR X (.type "set") (rSetT X.K w) := hw ▸ cr_setT hc
theorem cr_sortedSetw {X : Cx} (w : World) (hc : X.calm = true) (hw : X.w = w := by rfl) : CallR X (.builtin "sorted") (rSortedSet w) := hw ▸ cr_sortedSet hc
/-- names of Python's own that the top leaves alone -/
structure Bt (mg : Str → Option Value) : Prop where
  len_ : mg "len" = none
  range_ : mg "range" = none
  abs_ : mg "abs" = none
  int_ : mg "int" = none
  min_ : mg "min" = none
  max_ : mg "max" = none
  list_ : mg "list" = none
  tuple_ : mg "tuple" = none
  all_ : mg "all" = none
  any_ : mg "any" = none
  sorted_ : mg "sorted" = none
  sum_ : mg "sum" = none
  repr_ : mg "repr" = none
  zip_ : mg "zip" = none
  enumerate_ : mg "enumerate" = none
  isinstance_ : mg "isinstance" = none
  reversed_ : mg "reversed" = none
  str_ : mg "str" = none
  bool_ : mg "bool" = none
  set_ : mg "set" = none
end Sh

/-! calls where no text of a list is under way: then repr(..) is known -/
namespace Sh
open PySem PySem.Spec PyProof.Rows L2
/-- a def's promise, kept where no repr is under way -/
structure FnG (P : Program) (w : World) (K : PySem.W.Frag) (mg : Str → Option Value) (bs : Heap) (k : Nat) (f : Addr) (fd : FuncData) (ps : List Str) (sp : Sp) : Prop where
  many : ∀ vs H Q E, sp vs H Q E → vs.length = ps.length
  go : ∀ (B : Around) (fr : List Env) (s : Shared) (H : Hp) (gs : Args) (us : List Value) (vs : List V) (Q : VK) (E : XK), Room k B → B.guards = some [] → Env0 P w K mg bs B fr s H → BindsTo s fd gs (ps.zip us) → Vals vs us → sp vs H Q E → codeAny (model P w) B (.call (.ref f) gs) (CR CX0 fr P w H s Q E) s
structure OkG (P : Program) (w : World) (K : PySem.W.Frag) (mg : Str → Option Value) (bs : Heap) (k : Nat) (x : Str) (st : Stmt) (ps : List Str) (sp : Sp) : Prop where
  ex : ∃ (f : Addr) (fd : FuncData), Fun K x x st f fd ∧ mg x = some (.ref f) ∧ Binds K fd ps [] ∧ FnG P w K mg bs k f fd ps sp
section
variable {P : Program} {w : World} {K : PySem.W.Frag} {mg : Str → Option Value} {bs : Heap}
theorem FnG.mono {j k : Nat} {f : Addr} {fd : FuncData} {ps : List Str} {sp : Sp} (G : FnG P w K mg bs j f fd ps sp) (h : j ≤ k) : FnG P w K mg bs k f fd ps sp := ⟨G.many, fun B fr s H gs us vs Q E hr => G.go B fr s H gs us vs Q E (hr.mono h)⟩
theorem OkG.mono {x : Str} {st : Stmt} {ps : List Str} {j k : Nat} {sp : Sp} (O : OkG P w K mg bs j x st ps sp) (h : j ≤ k) : OkG P w K mg bs k x st ps sp := by
  obtain ⟨f, fd, F, g, b, G⟩ := O.ex
  exact ⟨f, fd, F, g, b, G.mono h⟩
theorem Df.okG {x : Str} {st : Stmt} {N ps : List Str} {k : Nat} {sp : Sp} (D : Df K mg x st) (S : FnScope N ps (defScope st))
    (hb : ∀ (kV dc pm : Value) (an : Option Addr) (cdv ct : Value) (us : List Value), us.length = ps.length → bindArgs (PySem.W.fnOf x x (defArgs st) (defBody st) (defScope st) .none kV dc pm an cdv ct) ⟨us, []⟩ = pure (ps.zip us))
    (many : ∀ vs H Q E, sp vs H Q E → vs.length = ps.length)
    (bd : ∀ (f : Addr) (cdv : Value) (B : Around) (fr : List Env) (s : Shared) (H : Hp) (vs : List V) (Q : VK) (E : XK), Room k (B.deeper (envOfC x (defScope st) s.heap.objs.size f cdv)) → (B.deeper (envOfC x (defScope st) s.heap.objs.size f cdv)).guards = some [] → sp vs H Q E →
      ∃ t, PSs (cxOf CX0 P w K mg bs N x (defScope st) f cdv B fr s H E).nox (defBody st) t ∧ t { nx := fun _ J => Q .non J, rt := Q } (start N vs) H) : OkG P w K mg bs (k + 1) x st ps sp := by
  obtain ⟨f, fd, F, g⟩ := D.ex
  have F0 := F
  obtain ⟨oc, od, kV, dc, pm, an, cdv, ct, osl, rfl, lk, hcd⟩ := F.ex
  refine ⟨f, _, F0, g, F0.binds hb, many, fun B fr s H gs us vs Q E rm gd e0 bnd r wish => ?_⟩
  have nm := many _ _ _ _ wish
  have kin : K.In s.heap := e0.mod.kin.keeps fun a o e => (e0.bs a o e).1
  have nol : s.heap.NoLimit := e0.mod.nolimit.keeps fun a o e => (e0.bs a o e).1
  have kinds : ∀ y ∈ ps.zip us, (defScope st).names.lookup y.1 = some .local ∨ ((defScope st).names.lookup y.1 = some .cell ∧ ((cellsFrom (s.heap.objs.size + 1) (defScope st).names []).lookup y.1).isSome = true) := by
    rintro ⟨n, v⟩ hy
    cases S.par n (List.of_mem_zip hy).1 with
    | inl q => exact .inl q
    | inr q => exact .inr ⟨q, PySem.W.cellsFrom_some _ _ _ (.inl q)⟩
  refine codeAny_call_function rm.depth (kin _ _ lk) rfl S.co S.gen rfl (PySem.W.codeRec_of kin hcd) (bnd _ _ _ _ ?_)
  refine wpAny_newFunctionEnv_cells S.kind kinds fun env ee s1 z => ?_
  subst ee
  refine ⟨nol.keeps z.toInCall.keep, codeAny_func ?_⟩
  obtain ⟨t, ht, hq⟩ := bd f cdv B fr s H vs Q E (rm.deeper _) gd wish
  have ht' := ht.nox
  have I : Inv (cxOf CX0 P w K mg bs N x (defScope st) f cdv B fr s H E) [] (start N vs) H s1 := inv_start S rm.hd e0 nm r z
  refine wpAny_mono (ht'.run [] s1 (start N vs) H _ I hq) (fun fl s2 hs => ?_) fun e s2 hs => hs
  cases fl with
  | ret u =>
    obtain ⟨v, σ2, H2, J, rv, q⟩ := hs
    exact ⟨v, H2, J.os, J.bare, J.base, J.hok, rv, q⟩
  | next =>
    obtain ⟨σ2, H2, J, q⟩ := hs
    exact ⟨V.non, H2, J.os, J.bare, J.base, J.hok, rfl, q⟩
  | brk =>
    obtain ⟨_, _, _, q⟩ := hs
    exact q.elim
  | cont =>
    obtain ⟨_, _, _, q⟩ := hs
    exact q.elim
end
section
variable {X : Cx} {k : Nat} {x : Str} {st : Stmt} {ps : List Str} {sp : Sp} {e : Expr} {es : List Expr} {t : TA} {p pos : Pos}
/-- f(e, ..) -/
theorem pe_fnG (O : OkG X.prog X.w X.K X.mg X.base k x st ps sp) (hr : Room k X.A) (gd : X.A.guards = some []) (ha : PA X (e :: es) t) (hg : Gl X x := by rfl)
    (hdb : (x == ("__debug__" : Str)) = false := by decide) (he : starEach (e :: es) X.env = (false, eval e X.env) :: starEach es X.env := by rfl) (hpl : (backTo pos (starEach es X.env)).any (·.1) = false := by rfl) :
    PE X (.Call (.Name x p) (e :: es) [] pos) (tCall sp [] E0 t) := by
  obtain ⟨f, fd, F, g, b, G⟩ := O.ex
  refine ⟨fun pins s σ H Q I h => ?_⟩
  refine wpAny_Call_Name_kw (ld_glob I hg g ?_ hdb)
  refine PySem.W.callWith_K (h₀ := X.base) I.ok.mod.kin F.kp (thn (ha.run pos pins s σ H _ I h) fun us s1 ⟨vs, H1, I1, r, q⟩ => ⟨I1.kIn, ?_⟩) he hpl
  have q' : sp vs H1 Q E0 := by
    have z : sp (vs ++ []) H1 Q E0 := q
    rw [List.append_nil] at z
    exact z
  have nm : us.length = ps.length := by
    rw [← r.length]
    exact G.many _ _ _ _ q'
  have bd : BindsTo s1 fd ⟨us, []⟩ (ps.zip us) := by
    have z := b s1 us I1.kIn (by rw [List.append_nil]; exact nm)
    rw [List.append_nil] at z
    exact z
  refine wpAny_call (codeAny_mono (G.go X.A X.stack s1 H1 ⟨us, []⟩ us vs Q E0 hr gd I1.env0 bd r q') fun y s2 hq => ?_)
  cases y with
  | error e => exact pass0 pins σ H1 s1 e s2 I1 hq
  | ok fl =>
    cases fl with
    | ret u => exact I1.after hq
    | next => exact hq.elim
    | brk => exact hq.elim
    | cont => exact hq.elim
theorem reprU {A : Around} (r : Room k A) : A.units + 66 < cLine := by
  have := r.un
  omega
/-- repr(x) of a list or a tuple of data -/
def rRepr (K : PySem.W.Frag) : List V → Hp → VK → Prop := fun xs H Q => ∃ (a : Addr) (d : PyData), xs = [.ref a] ∧ Dp K H (.ref a) d ∧ SeqAt.shaped d = true ∧ d.showable = true ∧ d.shown.length ≤ sizeLine ∧ Q (.str d.shown) H
theorem cr_repr (gd : X.A.guards = some []) (hu : X.A.units + 66 < cLine) : CallR X (.builtin "repr") (rRepr X.K) := by
  intro pins s σ H xs us Q I r h
  obtain ⟨a, d, rfl, hd, sd, sh, sz, q⟩ := h
  rw [Vals.ref1 r]
  obtain ⟨as, r1⟩ := Dp.reads I d (.ref a) (.ref a) hd rfl
  have lay := SeqAt.canLay_of_shaped sd
  have dp : d.depth ≤ 64 := by
    have z := sd
    unfold SeqAt.shaped at z
    rw [Bool.and_eq_true] at z
    exact of_decide_eq_true z.2
  exact repr_of_reads' r1 sh (PyData.noDict_hsm (PyData.hasDict_of_canLay _ lay)) gd (by omega) (fun _ _ e => e) (fun h' u tk hk => ⟨.str d.shown, H, I.kept hk, ⟨u, rfl⟩, q⟩) sz
end
/-! ### the law's call, where nothing is under way -/
section
theorem script_call {P : Program} {w : World} {K : PySem.W.Frag} {mg mb : Str → Option Value} {k : Nat} {fa a : Addr} {fd : FuncData} {x : Str} {sp : Sp} {s1 : Shared} {vs : List Value} {ns : List Int}
    (kin : K.In s1.heap) (hns : s1.heap.Ns mainGlobals mg) (hbn : s1.heap.Ns builtinsNs mb) (hbb : ∀ y : Str, y ≠ "__name__" → mb y = bootBuiltins y) (nol : s1.heap.NoLimit) (hgn : s1.gens = #[])
    (hla : s1.heap.get? a = some { cls := .type "list", data := .seq vs.toArray }) (hit : IntsAre vs ns) (hsz : ns.length ≤ sizeLine) (rm : Room k callerA)
    (F : ∀ bs : Heap, K.In bs → bs.Ns mainGlobals mg → FnG P w K mg bs k fa fd [x] sp) (bnd : ∀ (s : Shared) (u : Value), BindsTo s fd ⟨[u], []⟩ [(x, u)])
    (wish : ∀ H : Hp, Only H → SqL K H a (ns.map V.int) → sp [.ref a] H (fun v _ => v = .bl true) fun _ _ _ => False) :
    codeAny (model P w) callerA (.call (.ref fa) ⟨[.ref a], []⟩) (fun y s2 => y = .ok (.ret (.bool true)) ∧ OldK s1.heap s2.heap ∧ s2.os = s1.os ∧ AllBare s2.gens) s1 := by
  have rv := vals_ints hit
  have many := hit.length
  have step : ∀ H : Hp, Only H → SqL K H a (ns.map V.int) → HOk P w H s1.heap → (∀ b, H b ≠ none → b = a) → (H a ≠ none → K.lookup a = none) →
      codeAny (model P w) callerA (.call (.ref fa) ⟨[.ref a], []⟩) (fun y s2 => y = .ok (.ret (.bool true)) ∧ OldK s1.heap s2.heap ∧ s2.os = s1.os ∧ AllBare s2.gens) s1 := by
    intro H only sq hok sole apart
    have hid : ∀ {b : Addr} {o : Obj}, s1.heap.get? b = some o → H b = none → (hidT s1.heap H).get? b = some o := fun e n => hidT_get e n
    have isa : ∀ {b : Addr} {u : HO}, H b = some u → b = a := fun {b u} q => sole b (by rw [q]; exact fun z => nomatch z)
    have bare : ∀ {b : Addr} {o : Obj} {es : Array DictEntry} {ep : Nat}, s1.heap.get? b = some o → o.data = .dict es ep → H b = none := by
      intro b o es ep e d
      cases q : H b with
      | none => rfl
      | some u =>
        obtain rfl := isa q
        rw [hla] at e
        cases e
        cases (show Data.seq vs.toArray _ = Data.dict es ep from d)
    have spaces : ∀ {b : Addr} {m : Str → Option Value}, s1.heap.Ns b m → (hidT s1.heap H).Ns b m := by
      rintro b m ⟨o, es, ep, e, d, r⟩
      exact ⟨o, es, ep, hid e (bare e d), d, r⟩
    have kin0 : K.In (hidT s1.heap H) := by
      intro b o e
      refine hid (kin b o e) ?_
      cases q : H b with
      | none => rfl
      | some u =>
        obtain rfl := isa q
        rw [apart (by rw [q]; exact fun z => nomatch z)] at e
        cases e
    have md : Mod K mg (hidT s1.heap H) := by
      obtain ⟨mc, n1, n2⟩ := nol
      exact ⟨kin0, spaces hns, ⟨mb, spaces hbn, hbb⟩, ⟨mc, spaces n1, n2⟩⟩
    have at0 : Env0 P w K mg (hidT s1.heap H) callerA [] s1 H := by
      refine ⟨rfl, md, fun b o e => of_hidT e, Nat.le_of_eq (hidT_size _ _), trivial, fun b hb => ?_, hok, .of_eq hgn⟩
      exact absurd (show b ∈ ([] : List Addr) from hb) List.not_mem_nil
    refine codeAny_mono ((F _ kin0 (spaces hns)).go callerA [] s1 H ⟨[.ref a], []⟩ [.ref a] [.ref a] _ _ rm rfl at0 (bnd s1 (.ref a)) (.cons rfl .nil) (wish H only sq)) fun y s2 h => ?_
    cases y with
    | error e => exact False.elim (show False from h)
    | ok fl =>
      cases fl with
      | next => exact h.elim
      | brk => exact h.elim
      | cont => exact h.elim
      | ret u =>
        obtain ⟨v, H2, os, br, un, hok2, r2, q⟩ := h
        obtain rfl : v = .bl true := q
        obtain rfl : u = Value.bool true := r2
        refine ⟨rfl, OldK.of_keep fun b o e => ?_, os, br⟩
        cases q : H b with
        | none => exact un.keep b o e q (fun z => absurd (show b ∈ ([] : List Addr) from z) List.not_mem_nil) (by simp)
        | some u =>
          cases only b with
          | inl z =>
            rw [q] at z
            cases z
          | inr z =>
            obtain ⟨ob, xs, z⟩ := z
            have z2 := un.frzs b ob _ z
            obtain ⟨e1, _⟩ := hok b _ z
            obtain ⟨e2, _⟩ := hok2 b _ z2
            rw [e] at e1
            cases e1
            exact e2
  cases hk : K.lookup a with
  | some o =>
    have e := kin a o hk
    rw [hla] at e
    cases e
    refine step (fun _ => none) (fun _ => .inl rfl) (.inr ⟨_, vs.toArray, _, hk, rfl, rfl, rfl, by rw [List.size_toArray, many]; exact hsz, by simpa using rv⟩) ?_ (fun b z => absurd rfl z) fun z => absurd rfl z
    intro b u z
    cases (show (none : Option HO) = some u from z)
  | none =>
    refine step (fun b => if b = a then some (.frz { cls := .type "list", data := .seq vs.toArray } (.lst (ns.map V.int))) else none) ?_ (.inl (.inr ⟨{ cls := .type "list", data := .seq vs.toArray }, if_pos rfl⟩)) ?_ ?_ fun _ => hk
    · intro b
      by_cases c : b = a
      · exact .inr ⟨_, _, if_pos c⟩
      · exact .inl (if_neg c)
    · intro b u z
      by_cases c : b = a
      · cases (if_pos c).symm.trans z
        subst c
        exact ⟨hla, by rw [List.length_map]; exact hsz, vs, _, rv, hla⟩
      · cases (if_neg c).symm.trans z
    · intro b z
      by_cases c : b = a
      · exact c
      · exact absurd (if_neg c) z
theorem walk_ofG {l : PySem.W.OpenLaw} {n k : Nat} {q : Program} {loose : List Str} {XP : (Str → Option Value) → Heap → Prop} {YP : World → Heap → Prop} {d : DefRec} {K : Params → PySem.W.Frag} {sp : World → Sp} {x : Str}
    (hn : l.most = some n) (hz : n ≤ sizeLine) (hdf : d.params.defaults = []) (rm : Room k callerA) (hY : ∀ (w : World) (h : Heap), YP w h → (K w.params).In h)
    (F : ∀ (w : World) (mg : Str → Option Value) (fa : Addr) (h : Heap), (K w.params).In h → h.Ns mainGlobals mg → mg d.name = some (.ref fa) → ∃ fd : FuncData, (∀ (s : Shared) (u : Value), BindsTo s fd ⟨[u], []⟩ [(x, u)]) ∧ ∀ bs : Heap, (K w.params).In bs → bs.Ns mainGlobals mg → FnG l.prog w (K w.params) mg bs k fa fd [x] (sp w))
    (wish : ∀ (w : World) (H : Hp) (a : Addr) (ns : List Int), ns.length ≤ n → Only H → SqL (K w.params) H a (ns.map V.int) → sp w [.ref a] H (fun v _ => v = .bl true) fun _ _ _ => False) :
    PySem.W.WalkO q loose XP YP l.row.toRowW d [] (fun f vs => PySem.call f vs) := by
  refine Att.attach_call hn hdf fun w s0 s1 mg mb fa o pm cd dc a vs ns G Y ho hd hcd hmg hobj hints hlen hg => ?_
  obtain ⟨fd, bnd, hF⟩ := F w mg fa _ (hY w _ Y) G.T.g hmg
  exact script_call (hY w _ Y) G.T.g G.T.b G.T.builtins G.T.nolimit hg hobj hints (Nat.le_trans hlen hz) rm hF bnd fun H hO hS => wish w H a ns hlen hO hS
end
end Sh

/-! repr(x) of any data -/
namespace Sh
open PySem PySem.Spec PyProof.Rows L2
section
variable {X : Cx}
def rReprD (K : PySem.W.Frag) : List V → Hp → VK → Prop := fun xs H Q => ∃ (v : V) (d : PyData), xs = [v] ∧ Dp K H v d ∧ SeqAt.shaped d = true ∧ d.showable = true ∧ d.shown.length ≤ sizeLine ∧ Q (.str d.shown) H
theorem cr_reprD (gd : X.A.guards = some []) (hu : X.A.units + 66 < cLine) : CallR X (.builtin "repr") (rReprD X.K) := by
  intro pins s σ H xs us Q I r h
  obtain ⟨v, d, rfl, hd, sd, sh, sz, q⟩ := h
  cases hd with
  | non =>
    obtain ⟨u, rfl, r1⟩ := vals1 r
    cases r1
    exact PySem.P.repr_of_none ⟨.str _, H, I.tok _, ⟨_, rfl⟩, q⟩
  | bl b =>
    obtain ⟨u, rfl, r1⟩ := vals1 r
    cases r1
    exact PySem.P.repr_of_bool ⟨.str _, H, I.tok _, ⟨_, rfl⟩, q⟩
  | int i =>
    obtain ⟨u, rfl, t, rfl⟩ := vals1 r
    exact PySem.P.repr_of_int (of_decide_eq_true sh) ⟨.str _, H, I.tok _, ⟨_, rfl⟩, q⟩
  | str x =>
    obtain ⟨u, rfl, t, rfl⟩ := vals1 r
    exact PySem.P.repr_of_str ⟨.str _, H, I.tok _, ⟨_, rfl⟩, q⟩ sz
  | lst h a => exact cr_repr gd hu pins s σ H _ us Q I r ⟨_, _, rfl, .lst h a, sd, sh, sz, q⟩
  | tup h a => exact cr_repr gd hu pins s σ H _ us Q I r ⟨_, _, rfl, .tup h a, sd, sh, sz, q⟩
end
end Sh

namespace Sh
open PySem PySem.Spec PyProof.Rows L2
/-! ### the text by places -/
def topS (i : Nat) : Stmt := PySem.Challenge.pw_shoalmates_k24_fleets_or_not.main.body.getD i (.Pass ⟨0, 0, 0, 0⟩)
end Sh

namespace Sh
open PySem PySem.Spec PyProof.Rows L2
/-! ### what is drawn from -/
def BoxOk (xs : List V) (n : Nat) : Prop := ∃ b0 b1 b2 : Int, xs = [.int b0, .int b1, .int b2] ∧ 0 ≤ b0 ∧ 0 ≤ b1 ∧ b1 < 4611686018427387904 ∧ 0 ≤ b2 ∧ b2 + (n : Int) ≤ 1099511627776
def BoxAt (H : Hp) (b : Addr) (n : Nat) : Prop := ∃ xs, H b = some (.lst xs) ∧ BoxOk xs n
theorem BoxOk.mono {xs : List V} {n m : Nat} (h : BoxOk xs n) (l : m ≤ n) : BoxOk xs m := by
  obtain ⟨b0, b1, b2, e, h0, h1, h2, h3, h4⟩ := h
  exact ⟨b0, b1, b2, e, h0, h1, h2, h3, by omega⟩
theorem BoxAt.mono {H : Hp} {b : Addr} {n m : Nat} (h : BoxAt H b n) (l : m ≤ n) : BoxAt H b m := let ⟨xs, e, k⟩ := h; ⟨xs, e, k.mono l⟩
theorem BoxAt.same {H H' : Hp} {b : Addr} {n : Nat} (h : BoxAt H b n) (s : Same H H') : BoxAt H' b n := let ⟨xs, e, k⟩ := h; ⟨xs, s _ _ e, k⟩
theorem BoxAt.some {H : Hp} {b : Addr} {n : Nat} (h : BoxAt H b n) : H b ≠ none := fun z => by
  obtain ⟨xs, e, _⟩ := h
  rw [e] at z
  cases z
/-- a new place is not the box -/
theorem BoxAt.ne {H : Hp} {b p : Addr} {n : Nat} (h : BoxAt H b n) (z : H p = none) : b ≠ p := let ⟨_, e, _⟩ := h; ne_of_none e z
def spTake : Sp := fun vs H Q _ => ∃ (b : Addr) (n : Nat) (span : Int), vs = [.ref b, .int span] ∧ 0 < span ∧ span < 1152921504606846976 ∧ BoxAt H b (n + 1) ∧ ∀ (v : Int) (xs : List V), 0 ≤ v → v < span → BoxOk xs n → Q (.int v) (upd H b (.lst xs))
abbrev s__law_take : Stmt := topS 15
theorem sc__law_take : FnScope (["_law_box_here", "_law_span", "_law_found", "_law_once", "_law_twice"] : List Str) (["_law_box_here", "_law_span"] : List Str) (defScope s__law_take) := ⟨rfl, rfl, rfl, by decide +kernel, rfl, by decide +kernel, by decide +kernel⟩
theorem b__law_take (kV doc pm : Value) (an : Option Addr) (cdv ct : Value) (us : List Value) (hl : us.length = (["_law_box_here", "_law_span"] : List Str).length) : bindArgs (PySem.W.fnOf "_law_take" "_law_take" (defArgs s__law_take) (defBody s__law_take) (defScope s__law_take) .none kV doc pm an cdv ct) ⟨us, []⟩ = pure ((["_law_box_here", "_law_span"] : List Str).zip us) :=
  match us, hl with | [_, _], _ => rfl
section
variable {P : Program} {w : World} {K : PySem.W.Frag} {mg : Str → Option Value} {base : Heap}
theorem ok_take {k : Nat} (D : Df K mg "_law_take" s__law_take) (T : Bt mg) : Ok P w K mg base (k + 1) "_law_take" s__law_take ["_law_box_here", "_law_span"] spTake := by
  refine D.ok sc__law_take b__law_take (fun vs H Q E h => ?_) (fun f cdv A outer s H vs Q E hr h => ?_)
  · obtain ⟨b, n, span, rfl, _⟩ := h
    rfl
  · obtain ⟨b, n, span, rfl, s0, s1, ⟨xs, hb, b0, b1, b2, rfl, h0, h1, h1', h2, h3⟩, q⟩ := h
    refine ⟨_, (pss_cons (ps_if (pt_cmpR op_gt (pe_ix ix_lt (pv 0) pe_int (fun _ _ => rfl)) pe_int (nomark _))
        (pss_cons (ps_set (i := 2) sc__law_take.nd rfl (.inl rfl) (pe_op op_mod (pe_ix ix_lt (pv 0) pe_int (fun _ _ => rfl)) (pv 1)))
          (pss_cons (ps_asg (pe_op op_fdivW (pe_ix ix_lt (pv 0) pe_int (fun _ _ => rfl)) (pv 1)) (pg_sub (pv 0) pe_int set_list))
          (pss_one (ps_ret (pv 2)))))
        pss_nil)
      (pss_cons (ps_asg (pe_op op_add (pe_ix ix_lt (pv 0) pe_int (fun _ _ => rfl)) pe_int) (pg_sub (pv 0) pe_int set_list))
      (pss_cons (ps_set (i := 3) sc__law_take.nd rfl (.inl rfl) (pe_op op_mod (pe_op op_mul (pe_op op_add (pe_ix ix_lt (pv 0) pe_int (fun _ _ => rfl)) (pe_op op_mul pe_int (pe_ix ix_lt (pv 0) pe_int (fun _ _ => rfl)))) (pe_op op_add pe_int (pe_ix ix_lt (pv 0) pe_int (fun _ _ => rfl)))) pe_int))
      (pss_cons (ps_set (i := 4) sc__law_take.nd rfl (.inl rfl) (pe_op op_mod (pe_op op_mul (pe_op op_add (pe_op op_add (pv 3) (pe_ix ix_lt (pv 0) pe_int (fun _ _ => rfl))) (pe_op op_fdiv (pe_ix ix_lt (pv 0) pe_int (fun _ _ => rfl)) pe_int)) (pe_op op_add (pe_op op_mod (pv 3) pe_int) pe_int)) pe_int))
      (pss_one (ps_ret (pe_op op_mod (pe_op op_fdiv (pe_op op_mod (pe_op op_add (pe_op op_mul (pv 4) pe_int) (pv 3)) pe_int) pe_int) (pv 1)))))))), ?_⟩
    have hq : SqA K H b [.int b0, .int b1, .int b2] := SqA.l hb
    refine ⟨_, rfl, b, _, 0, .int b0, rfl, rfl, hq, rfl, b0, 0, rfl, rfl, _, rfl, ite2 (fun c => ?_) (fun c => ?_)⟩
    · have c0 : 0 < b0 := of_decide_eq_true c
      refine ⟨_, rfl, b, _, 0, .int b0, rfl, rfl, hq, rfl, _, rfl, b0, span, rfl, rfl, s0, ?_⟩
      refine ⟨_, rfl, b, _, 0, .int b0, rfl, rfl, hq, rfl, _, rfl, b0, span, rfl, rfl, wide_div (b := 60) s0 (show span.natAbs < 1152921504606846976 by omega) (by decide) (by decide), ?_⟩
      refine ⟨_, rfl, b, _, 0, 0, rfl, rfl, hb, rfl, ?_⟩
      refine ⟨_, rfl, ?_⟩
      exact q _ _ (Int.emod_nonneg _ (by omega)) (Int.emod_lt_of_pos _ s0) ⟨b0 / span, b1, b2, rfl, Int.ediv_nonneg h0 (by omega), h1, h1', h2, by omega⟩
    · refine ⟨_, rfl, b, _, 2, .int b2, rfl, rfl, hq, rfl, b2, 1, rfl, rfl, ?_⟩
      refine ⟨_, rfl, b, _, 2, 2, rfl, rfl, hb, rfl, ?_⟩
      have hq2 : SqA K (upd H b (.lst [.int b0, .int b1, .int (b2 + 1)])) b [.int b0, .int b1, .int (b2 + 1)] := SqA.l upd_same
      have m1 : 0 ≤ (b1 + 48271 * (b2 + 1)) * (39373 + (b2 + 1)) % 2147483647 := Int.emod_nonneg _ (by decide)
      have m2 : (b1 + 48271 * (b2 + 1)) * (39373 + (b2 + 1)) % 2147483647 < 2147483647 := Int.emod_lt_of_pos _ (by decide)
      refine ⟨_, rfl, b, _, 1, .int b1, rfl, rfl, hq2, rfl, _, rfl, b, _, 2, .int (b2 + 1), rfl, rfl, hq2, rfl, 48271, b2 + 1, rfl, rfl, .inl ⟨by decide, by decide⟩, b1, _, rfl, rfl, ?_⟩
      refine ⟨_, rfl, b, _, 2, .int (b2 + 1), rfl, rfl, hq2, rfl, 39373, b2 + 1, rfl, rfl, _, _, rfl, rfl, .inr ⟨by omega, by omega⟩, _, 2147483647, rfl, rfl, (show (0 : Int) < 2147483647 by decide), ?_⟩
      dsimp only
      generalize (b1 + 48271 * (b2 + 1)) * (39373 + (b2 + 1)) % 2147483647 = once at m1 m2
      have o1 : 0 ≤ once % 40009 := Int.emod_nonneg _ (by decide)
      have o2 : once % 40009 < 40009 := Int.emod_lt_of_pos _ (by decide)
      refine ⟨_, rfl, _, rfl, b, _, 2, .int (b2 + 1), rfl, rfl, hq2, rfl, once, b2 + 1, rfl, rfl, _, rfl, b, _, 1, .int b1, rfl, rfl, hq2, rfl, b1, 1000003, rfl, rfl, ⟨by decide, by decide⟩, _, _, rfl, rfl, ?_⟩
      refine ⟨_, rfl, once, 40009, rfl, rfl, (show (0 : Int) < 40009 by decide), _, 7, rfl, rfl, _, _, rfl, rfl, .inr ⟨by omega, by omega⟩, _, 2147483629, rfl, rfl, (show (0 : Int) < 2147483629 by decide), ?_⟩
      dsimp only
      have t1 : 0 ≤ (once + (b2 + 1) + b1 / 1000003) * (once % 40009 + 7) % 2147483629 := Int.emod_nonneg _ (by decide)
      have t2 : (once + (b2 + 1) + b1 / 1000003) * (once % 40009 + 7) % 2147483629 < 2147483629 := Int.emod_lt_of_pos _ (by decide)
      generalize (once + (b2 + 1) + b1 / 1000003) * (once % 40009 + 7) % 2147483629 = twice at t1 t2
      refine ⟨_, rfl, twice, 48271, rfl, rfl, .inl ⟨by omega, by omega⟩, _, rfl, _, once, rfl, rfl, _, 2147483587, rfl, rfl, (show (0 : Int) < 2147483587 by decide), _, 64, rfl, rfl, ⟨by decide, by decide⟩, _, rfl, _, span, rfl, rfl, s0, ?_⟩
      exact q _ _ (Int.emod_nonneg _ (by omega)) (Int.emod_lt_of_pos _ s0) ⟨b0, b1, b2 + 1, rfl, h0, h1, h1', by omega, by omega⟩
end
end Sh

namespace Sh
open PySem PySem.Spec PyProof.Rows L2
theorem SqA.at {K : PySem.W.Frag} {H : Hp} {b l : Addr} {o : HO} {xs : List V} (n : l ≠ b) (h : SqA K H l xs) : SqA K (upd H b o) l xs := by
  rcases h with ((h | ⟨z, h⟩) | h) | ((h | ⟨z, h⟩) | h)
  · exact .inl (.inl (.inl (by rw [upd_ne n]; exact h)))
  · exact .inl (.inl (.inr ⟨z, by rw [upd_ne n]; exact h⟩))
  · exact .inl (.inr h)
  · exact .inr (.inl (.inl (by rw [upd_ne n]; exact h)))
  · exact .inr (.inl (.inr ⟨z, by rw [upd_ne n]; exact h⟩))
  · exact .inr (.inr h)
theorem at_nat {xs : List V} {i : Int} {j : Nat} {v : V} (e : i = (j : Int)) (h : xs[j]? = some v) : atI xs i = some v := L2.at_of e h
theorem b01 (c : Bool) : (0 : Int) ≤ if c = true then 1 else 0 := by cases c <;> decide
theorem b01' (c : Bool) : (-(2 ^ 64) : Int) < (if c = true then 1 else 0) ∧ (if c = true then 1 else 0) < (2 ^ 64 : Int) := by cases c <;> decide
/-- a cell of the script: some int -/
def spCellAt (K : PySem.W.Frag) : Sp := fun vs H Q _ => ∃ (l : Addr) (ns : List Int) (j : Nat), vs = [.ref l, .int (j : Int)] ∧ SqL K H l (ns.map V.int) ∧ ∀ z : Int, Q (.int z) H
abbrev s__law_cell_at : Stmt := topS 13
theorem sc__law_cell_at : FnScope (["_law_script", "_law_k"] : List Str) (["_law_script", "_law_k"] : List Str) (defScope s__law_cell_at) := ⟨rfl, rfl, rfl, by decide +kernel, rfl, by decide +kernel, by decide +kernel⟩
theorem b__law_cell_at (kV doc pm : Value) (an : Option Addr) (cdv ct : Value) (us : List Value) (hl : us.length = (["_law_script", "_law_k"] : List Str).length) : bindArgs (PySem.W.fnOf "_law_cell_at" "_law_cell_at" (defArgs s__law_cell_at) (defBody s__law_cell_at) (defScope s__law_cell_at) .none kV doc pm an cdv ct) ⟨us, []⟩ = pure ((["_law_script", "_law_k"] : List Str).zip us) :=
  match us, hl with | [_, _], _ => rfl
def spBox (K : PySem.W.Frag) : Sp := fun vs H Q _ => ∃ (l : Addr) (ns : List Int) (j : Nat), vs = [.ref l, .int (j : Int)] ∧ j ≤ 100 ∧ SqL K H l (ns.map V.int) ∧ ∀ (p : Addr) (xs : List V), H p = none → BoxOk xs 549755813888 → Q (.ref p) (upd H p (.lst xs))
abbrev s__law_box : Stmt := topS 14
theorem sc__law_box : FnScope (["_law_script", "_law_k", "_law_core"] : List Str) (["_law_script", "_law_k"] : List Str) (defScope s__law_box) := ⟨rfl, rfl, rfl, by decide +kernel, rfl, by decide +kernel, by decide +kernel⟩
theorem b__law_box (kV doc pm : Value) (an : Option Addr) (cdv ct : Value) (us : List Value) (hl : us.length = (["_law_script", "_law_k"] : List Str).length) : bindArgs (PySem.W.fnOf "_law_box" "_law_box" (defArgs s__law_box) (defBody s__law_box) (defScope s__law_box) .none kV doc pm an cdv ct) ⟨us, []⟩ = pure ((["_law_script", "_law_k"] : List Str).zip us) :=
  match us, hl with | [_, _], _ => rfl
section
variable {P : Program} {w : World} {K : PySem.W.Frag} {mg : Str → Option Value} {base : Heap}
theorem ok_cell_at {k : Nat} (D : Df K mg "_law_cell_at" s__law_cell_at) (T : Bt mg) : Ok P w K mg base (k + 1) "_law_cell_at" s__law_cell_at ["_law_script", "_law_k"] (spCellAt K) := by
  refine D.ok sc__law_cell_at b__law_cell_at (fun vs H Q E h => ?_) (fun f cdv A outer s H vs Q E hr h => ?_)
  · obtain ⟨l, ns, j, rfl, _⟩ := h
    rfl
  · obtain ⟨l, ns, j, rfl, hs, q⟩ := h
    refine ⟨_, (pss_cons (ps_if (pt_cmpR op_lt (pv 1) (pe_callB call_len_seq (by rfl) T.len_ PySem.boot_len (pa_cons (pv 0) pa_nil)) (nomark _))
        (pss_one (ps_ret (pe_ix ix_lt (pv 0) (pv 1) (fun _ _ => rfl))))
        pss_nil)
      (pss_one (ps_ret pe_int))), ?_⟩
    refine ⟨_, rfl, _, rfl, l, _, rfl, .inl hs, _, _, rfl, rfl, _, rfl, ite2 (fun c => ?_) (fun c => ?_)⟩
    · have c0 : (j : Int) < ((ns.map V.int).length : Int) := of_decide_eq_true c
      rw [List.length_map] at c0
      have c1 : j < ns.length := by omega
      refine ⟨_, rfl, _, rfl, l, _, _, .int ns[j], rfl, rfl, .inl hs, at_nat rfl (by simp [c1]), q _⟩
    · exact q 0
theorem ok_box {k : Nat} (D : Df K mg "_law_box" s__law_box) (T : Bt mg) (O__law_cell_at : Ok P w K mg base k "_law_cell_at" s__law_cell_at ["_law_script", "_law_k"] (spCellAt K)) : Ok P w K mg base (k + 1) "_law_box" s__law_box ["_law_script", "_law_k"] (spBox K) := by
  refine D.ok sc__law_box b__law_box (fun vs H Q E h => ?_) (fun f cdv A outer s H vs Q E hr h => ?_)
  · obtain ⟨l, ns, j, rfl, _⟩ := h
    rfl
  · obtain ⟨l, ns, j, rfl, hj, hs, q⟩ := h
    refine ⟨_, (pss_cons (ps_set (i := 2) sc__law_box.nd rfl (.inl rfl) (pe_fn O__law_cell_at (hr.mono (by omega)) (pa_cons (pv 0) (pa_cons (pv 1) pa_nil))))
      (pss_one (ps_ret (pe_lst (pa_cons (pe_op op_mul (pe_callB call_abs (by rfl) T.abs_ (by decide +kernel) (pa_cons (pv 2) pa_nil)) (pe_callTy call_int1 (by rfl) T.int_ (by decide +kernel) (pa_cons (pe_cmpR op_ge (pe_callB call_abs (by rfl) T.abs_ (by decide +kernel) (pa_cons (pv 2) pa_nil)) (pe_op (op_powC 1000000000000000000) pe_int pe_int) (nomark _)) pa_nil))) (pa_cons (pe_op op_add (pe_op op_add (pe_op op_mod (pv 2) pe_int) (pe_op op_mul pe_int (pv 1))) pe_int) (pa_cons pe_int pa_nil))))))), ?_⟩
    refine ⟨_, rfl, _, rfl, l, ns, j, rfl, hs, fun z => ?_⟩
    have z1 : 0 ≤ z % 2305843009213693951 := Int.emod_nonneg _ (by decide)
    have z2 : z % 2305843009213693951 < 2305843009213693951 := Int.emod_lt_of_pos _ (by decide)
    have za : 0 ≤ (if z < 0 then -z else z) := by split <;> omega
    refine ⟨_, rfl, z, rfl, _, rfl, z, rfl, 10, 18, rfl, rfl, ⟨⟨by decide, by decide, by decide⟩, by decide⟩, _, _, rfl, rfl, .inr ⟨_, rfl, ?_⟩⟩
    refine ⟨_, _, rfl, rfl, .inr (b01' _), ?_⟩
    refine ⟨_, rfl, z, _, rfl, rfl, (show (0 : Int) < 2305843009213693951 by decide), _, rfl, 39373, (j : Int), rfl, rfl, .inl ⟨by decide, by decide⟩, _, _, rfl, rfl, _, 17, rfl, rfl, ?_⟩
    refine ⟨(by show 3 ≤ sizeLine; decide), fun p np => ?_⟩
    refine q p _ np ⟨_, _, 0, rfl, ?_, by omega, by omega, by omega, by omega⟩
    exact Int.mul_nonneg za (b01 _)
end
/-! ### one of some -/
def spOf (K : PySem.W.Frag) : Sp := fun vs H Q _ => ∃ (b l : Addr) (n : Nat) (xs : List V), vs = [.ref b, .ref l] ∧ SqA K H l xs ∧ l ≠ b ∧ 0 < xs.length ∧ xs.length < 1000000 ∧ BoxAt H b (n + 1) ∧ ∀ (v : V) (ys : List V), v ∈ xs → BoxOk ys n → Q v (upd H b (.lst ys))
abbrev s__law_of : Stmt := topS 16
theorem sc__law_of : FnScope (["_law_box_here", "_law_some"] : List Str) (["_law_box_here", "_law_some"] : List Str) (defScope s__law_of) := ⟨rfl, rfl, rfl, by decide +kernel, rfl, by decide +kernel, by decide +kernel⟩
theorem b__law_of (kV doc pm : Value) (an : Option Addr) (cdv ct : Value) (us : List Value) (hl : us.length = (["_law_box_here", "_law_some"] : List Str).length) : bindArgs (PySem.W.fnOf "_law_of" "_law_of" (defArgs s__law_of) (defBody s__law_of) (defScope s__law_of) .none kV doc pm an cdv ct) ⟨us, []⟩ = pure ((["_law_box_here", "_law_some"] : List Str).zip us) :=
  match us, hl with | [_, _], _ => rfl
section
variable {P : Program} {w : World} {K : PySem.W.Frag} {mg : Str → Option Value} {base : Heap}
theorem ok_of {k : Nat} (D : Df K mg "_law_of" s__law_of) (T : Bt mg) (O__law_take : Ok P w K mg base k "_law_take" s__law_take ["_law_box_here", "_law_span"] spTake) : Ok P w K mg base (k + 1) "_law_of" s__law_of ["_law_box_here", "_law_some"] (spOf K) := by
  refine D.ok sc__law_of b__law_of (fun vs H Q E h => ?_) (fun f cdv A outer s H vs Q E hr h => ?_)
  · obtain ⟨b, l, n, xs, rfl, _⟩ := h
    rfl
  · obtain ⟨b, l, n, xs, rfl, hl, hne, l0, l1, hb, q⟩ := h
    refine ⟨_, (pss_one (ps_ret (pe_ix ix_lt (pv 1) (pe_fn O__law_take (hr.mono (by omega)) (pa_cons (pv 0) (pa_cons (pe_callB call_len_seq (by rfl) T.len_ PySem.boot_len (pa_cons (pv 1) pa_nil)) pa_nil))) (fun _ _ => rfl)))), ?_⟩
    refine ⟨_, rfl, _, rfl, _, rfl, l, xs, rfl, hl, b, n, _, rfl, by omega, by omega, hb, fun v ys v0 v1 hy => ?_⟩
    have hi : v.toNat < xs.length := by omega
    refine ⟨l, xs, v, xs[v.toNat], rfl, rfl, SqA.at hne hl, at_nat (j := v.toNat) (by omega) (by simp [hi]), ?_⟩
    exact q _ _ (List.getElem_mem hi) hy
end
end Sh

namespace Sh
open PySem PySem.Spec PyProof.Rows L2
/-! ### what is told is what is due -/
def tyS : PyData → String
  | .none => "NoneType" | .bool _ => "bool" | .int _ => "int" | .str _ => "str" | .list _ => "list" | .tuple _ => "tuple" | .dict _ => "dict"
/-- at most so deep, no longer than a hundred thousand -/
def Lv : Nat → PyData → Prop
  | 0, _ => False
  | _ + 1, .none => True
  | _ + 1, .bool _ => True
  | _ + 1, .int _ => True
  | _ + 1, .str _ => True
  | n + 1, .list ds => ds.length ≤ 100000 ∧ ∀ e ∈ ds, Lv n e
  | n + 1, .tuple ds => ds.length ≤ 100000 ∧ ∀ e ∈ ds, Lv n e
  | _ + 1, .dict _ => False
theorem lv_ints {n : Nat} (ns : List Int) (h : ns.length ≤ 100000) : Lv (n + 2) (.list (ns.map .int)) := ⟨by rw [List.length_map]; exact h, fun e he => by
  obtain ⟨i, _, rfl⟩ := List.mem_map.mp he
  exact trivial⟩
theorem lv_intsT {n : Nat} (ns : List Int) (h : ns.length ≤ 100000) : Lv (n + 2) (.tuple (ns.map .int)) := ⟨by rw [List.length_map]; exact h, fun e he => by
  obtain ⟨i, _, rfl⟩ := List.mem_map.mp he
  exact trivial⟩
section
variable {K : PySem.W.Frag} {H : Hp}
theorem ty_list {a : Addr} {xs : List V} (h : SqL K H a xs) : TyX K H (.ref a) (.type "list") := by
  rcases h with (h | ⟨o, h⟩) | ⟨o, its, n, h, c, _⟩
  · exact .base (.lst h)
  · exact .base (.frz h)
  · exact .kList h c
theorem ty_tup {a : Addr} {xs : List V} (h : SqT K H a xs) : TyX K H (.ref a) (.type "tuple") := by
  rcases h with (h | ⟨o, h⟩) | ⟨o, its, n, h, c, _⟩
  · exact .base (.tup h)
  · exact .fTuple h
  · exact .kTuple h c
theorem ty_of {v : V} {d : PyData} (h : Dp K H v d) : TyX K H v (.type (tyS d)) := by
  cases h with
  | non => exact .base .non
  | bl b => exact .base (.bl b)
  | int i => exact .base (.int i)
  | str x => exact .base (.str x)
  | lst h _ => exact ty_list h
  | tup h _ => exact ty_tup h
theorem kit2 {t a b : String} {r1 r2 r : Bool} (h1 : kitB t a = some r1) (h2 : kitB t b = some r2) (hr : (r1 || r2) = r) : PySem.W.kitAny K (.type t) [.type a, .type b] = some r := by
  refine kitAny_cons (b := r1) (kit_ty h1) (fun e => ?_) (fun e => ?_)
  · refine kitAny_cons (b := r2) (kit_ty h2) (fun e2 => ?_) (fun e2 => ?_)
    · rw [← hr, e, e2]
      exact kitAny_nil
    · rw [← hr, e, e2]
      all_goals rfl
  · rw [← hr, e]
    all_goals rfl
end
def spSame (K : PySem.W.Frag) (n : Nat) : Sp := fun vs H Q _ => ∃ (x y : V) (d : PyData), vs = [x, y] ∧ Dp K H x d ∧ Dp K H y d ∧ Lv n d ∧ ∀ H', Same H H' → Q (.bl true) H'
abbrev s__law_same : Stmt := topS 17
theorem sc__law_same : FnScope (["_law_found", "_law_due", "_law_a", "_law_b"] : List Str) (["_law_found", "_law_due"] : List Str) (defScope s__law_same) := ⟨rfl, rfl, rfl, by decide +kernel, rfl, by decide +kernel, by decide +kernel⟩
theorem b__law_same (kV doc pm : Value) (an : Option Addr) (cdv ct : Value) (us : List Value) (hl : us.length = (["_law_found", "_law_due"] : List Str).length) : bindArgs (PySem.W.fnOf "_law_same" "_law_same" (defArgs s__law_same) (defBody s__law_same) (defScope s__law_same) .none kV doc pm an cdv ct) ⟨us, []⟩ = pure ((["_law_found", "_law_due"] : List Str).zip us) :=
  match us, hl with | [_, _], _ => rfl
section
variable {P : Program} {w : World} {K : PySem.W.Frag} {mg : Str → Option Value} {base : Heap}
theorem same0 (D : Df K mg "_law_same" s__law_same) : Ok P w K mg base 0 "_law_same" s__law_same ["_law_found", "_law_due"] (spSame K 0) := by
  obtain ⟨f, fd, F, g⟩ := D.ex
  refine ⟨f, fd, F, g, F.binds b__law_same, ⟨fun vs H Q E h => ?_, fun A outer s H args us vs Q E hr he hb hv h => ?_⟩⟩
  · obtain ⟨x, y, d, _, _, _, lv, _⟩ := h
    cases d <;> exact lv.elim
  · obtain ⟨x, y, d, _, _, _, lv, _⟩ := h
    cases d <;> exact lv.elim
set_option maxHeartbeats 4000000 in
theorem same1 {m : Nat} (D : Df K mg "_law_same" s__law_same) (T : Bt mg) (O__law_same : Ok P w K mg base m "_law_same" s__law_same ["_law_found", "_law_due"] (spSame K m)) : Ok P w K mg base (m + 1) "_law_same" s__law_same ["_law_found", "_law_due"] (spSame K (m + 1)) := by
  refine D.ok sc__law_same b__law_same (fun vs H Q E h => ?_) (fun f cdv A outer s H vs Q E hr h => ?_)
  · obtain ⟨x, y, d, rfl, _⟩ := h
    rfl
  · obtain ⟨x, y, d, rfl, hx, hy, lv, q⟩ := h
    refine ⟨_, (pss_cons (ps_if (pt_val (pe_callB call_isiT (by rfl) T.isinstance_ (by decide +kernel) (pa_cons (pv 1) (pa_cons (pe_tup (pa_cons (pe_bltn (v := .ty "list") (by rfl) T.list_ (by decide +kernel) rfl) (pa_cons (pe_bltn (v := .ty "tuple") (by rfl) T.tuple_ (by decide +kernel) rfl) pa_nil))) pa_nil))))
        (pss_cons (ps_if (PW.pt (pw_or (pt_cmpR op_ne (pe_callB call_isi (by rfl) T.isinstance_ (by decide +kernel) (pa_cons (pv 0) (pa_cons (pe_bltn (v := .ty "list") (by rfl) T.list_ (by decide +kernel) rfl) pa_nil))) (pe_callB call_isi (by rfl) T.isinstance_ (by decide +kernel) (pa_cons (pv 1) (pa_cons (pe_bltn (v := .ty "list") (by rfl) T.list_ (by decide +kernel) rfl) pa_nil))) (nomark _)) (pw_or1 (pt_cmpR op_ne (pe_callB call_isi (by rfl) T.isinstance_ (by decide +kernel) (pa_cons (pv 0) (pa_cons (pe_bltn (v := .ty "tuple") (by rfl) T.tuple_ (by decide +kernel) rfl) pa_nil))) (pe_callB call_isi (by rfl) T.isinstance_ (by decide +kernel) (pa_cons (pv 1) (pa_cons (pe_bltn (v := .ty "tuple") (by rfl) T.tuple_ (by decide +kernel) rfl) pa_nil))) (nomark _)))))
            (pss_one (ps_ret pe_bl))
            pss_nil)
          (pss_one (ps_ret (pe_and (pe_cmpR op_eq (pe_callB call_len_seq (by rfl) T.len_ PySem.boot_len (pa_cons (pv 0) pa_nil)) (pe_callB call_len_seq (by rfl) T.len_ PySem.boot_len (pa_cons (pv 1) pa_nil)) (nomark _)) (pe_one (pe_callB (cr_all rfl) (by rfl) T.all_ (by decide +kernel) (pa_cons (pe_lc (own := [("_law_a", 2), ("_law_b", 3)]) (g := (gSeq K 2 (gCons (gName 2) (gCons (gName 3) gNil)))) (tt := tYes) (by rfl) sc__law_same.nd (RZ.pi_zipA (by rfl) T.zip_ (pa_cons (pv 0) (pa_cons (pv 1) pa_nil))) (blkOk_by (own := [("_law_a", 2), ("_law_b", 3)]) (N := (["_law_found", "_law_due", "_law_a", "_law_b"] : List Str)) (sc := defScope s__law_same) (by decide +kernel)) (fun _ _ _ _ _ => (pg_seq rfl (pgs_cons (pg_name (i := 2) sc__law_same.nd rfl (.inl rfl)) (pgs_cons (pg_name (i := 3) sc__law_same.nd rfl (.inl rfl)) pgs_nil)))) (fun _ _ _ _ _ => pts_nil) (fun _ _ _ _ _ => (pe_fn O__law_same (hr.mono (by omega)) (pa_cons (pv 2) (pa_cons (pv 3) pa_nil))))) pa_nil)))))))
        pss_nil)
      (pss_cons (ps_if (PW.pt (pw_or (pt_cmpR op_isN (pv 1) pe_non (nomark _)) (pw_or1 (pt_val (pe_callB call_isiT (by rfl) T.isinstance_ (by decide +kernel) (pa_cons (pv 1) (pa_cons (pe_tup (pa_cons (pe_bltn (v := .ty "bool") (by rfl) T.bool_ (by decide +kernel) rfl) (pa_cons (pe_bltn (v := .ty "str") (by rfl) T.str_ (by decide +kernel) rfl) pa_nil))) pa_nil)))))))
        (pss_one (ps_ret (pe_and (pe_cmpR op_eq (pv 0) (pv 1) (nomark _)) (pe_and (pe_cmpR op_eq (pe_callB call_isi (by rfl) T.isinstance_ (by decide +kernel) (pa_cons (pv 0) (pa_cons (pe_bltn (v := .ty "bool") (by rfl) T.bool_ (by decide +kernel) rfl) pa_nil))) (pe_callB call_isi (by rfl) T.isinstance_ (by decide +kernel) (pa_cons (pv 1) (pa_cons (pe_bltn (v := .ty "bool") (by rfl) T.bool_ (by decide +kernel) rfl) pa_nil))) (nomark _)) (pe_one (pe_cmpR op_eq (pe_cmpR op_isN (pv 0) pe_non (nomark _)) (pe_cmpR op_isN (pv 1) pe_non (nomark _)) (nomark _)))))))
        pss_nil)
      (pss_one (ps_ret (pe_and (pe_callB call_isi (by rfl) T.isinstance_ (by decide +kernel) (pa_cons (pv 0) (pa_cons (pe_bltn (v := .ty "int") (by rfl) T.int_ (by decide +kernel) rfl) pa_nil))) (pe_and (pe_not (pe_callB call_isi (by rfl) T.isinstance_ (by decide +kernel) (pa_cons (pv 0) (pa_cons (pe_bltn (v := .ty "bool") (by rfl) T.bool_ (by decide +kernel) rfl) pa_nil)))) (pe_one (pe_cmpR op_eq (pv 0) (pv 1) (nomark _))))))))), ?_⟩
    refine ⟨_, rfl, (by show 2 ≤ sizeLine; decide), fun tp ntp => ?_⟩
    have s1 : Same H (upd H tp (.tup [.ty "list", .ty "tuple"])) := same_new ntp
    generalize eH1 : upd H tp (.tup [.ty "list", .ty "tuple"]) = H1 at s1
    have htp : H1 tp = some (.tup [.ty "list", .ty "tuple"]) := by rw [← eH1, upd_same]
    clear eH1 ntp
    cases d with
    | dict kvs => exact lv.elim
    | list ds =>
      obtain ⟨a, xs, hsx, hax⟩ : ∃ a xs, SqL K H1 a xs ∧ DpAll K H1 xs ds ∧ x = .ref a := by cases hx with | lst h a => exact ⟨_, _, s1.seq h, DpAll.same s1 a, rfl⟩
      obtain ⟨b, ys, hsy, hay⟩ : ∃ a xs, SqL K H1 a xs ∧ DpAll K H1 xs ds ∧ y = .ref a := by cases hy with | lst h a => exact ⟨_, _, s1.seq h, DpAll.same s1 a, rfl⟩
      obtain ⟨hax, rfl⟩ := hax
      obtain ⟨hay, rfl⟩ := hay
      have lx : xs.length = ds.length := DpAll.len hax
      have ly : ys.length = ds.length := DpAll.len hay
      refine ⟨.ref b, tp, [.ty "list", .ty "tuple"], .type "list", [.type "list", .type "tuple"], true, rfl, htp, .cons (.ty _) (.cons (.ty _) .nil), ty_list hsy, kit2 (r1 := true) (r2 := false) (by decide +kernel) (by decide +kernel) rfl, _, rfl, iteT ?_⟩
      refine ⟨_, rfl, .ref a, .ty "list", .type "list", .type "list", true, rfl, .ty _, ty_list hsx, kit_ty (by decide +kernel), _, rfl, .ref b, .ty "list", .type "list", .type "list", true, rfl, .ty _, ty_list hsy, kit_ty (by decide +kernel), rfl, _, rfl, iteNS rfl ?_⟩
      refine ⟨_, rfl, .ref a, .ty "tuple", .type "list", .type "tuple", false, rfl, .ty _, ty_list hsx, kit_ty (by decide +kernel), _, rfl, .ref b, .ty "tuple", .type "list", .type "tuple", false, rfl, .ty _, ty_list hsy, kit_ty (by decide +kernel), rfl, _, rfl, iteNS rfl ?_⟩
      refine ⟨_, rfl, a, xs, rfl, .inl hsx, _, rfl, b, ys, rfl, .inl hsy, rfl, _, rfl, ?_⟩
      rw [if_pos (decide_eq_true (by rw [lx, ly]))]
      refine ⟨_, rfl, _, rfl, a, b, xs, ys, rfl, .inl ⟨hsx, hsy, fun C nC => ?_⟩⟩
      refine lc_it (walk_zip (n := ds.length) (by rw [lx, ly]; exact (Nat.min_self _).symm)) (fun i H' => Same H1 H' ∧ H' C = some (.lst ((List.replicate i true).map V.bl))) ⟨same_new nC, upd_same⟩ (fun i H' _ p => ⟨p.1.seq hsx, p.1.seq hsy⟩) ?_ ?_
      · rintro i z H2 H3 hi ⟨sm, hC⟩ ⟨t, u, v, rfl, nt, rfl, gu, gv⟩
        have sm2 : Same H1 (upd H2 t (.tup [u, v])) := sm.trans (same_new nt)
        obtain ⟨e, ge, he⟩ := DpAll.get (DpAll.same sm2 hax) gu
        obtain ⟨e', ge', he'⟩ := DpAll.get (DpAll.same sm2 hay) gv
        obtain rfl : e = e' := Option.some.inj (ge.symm.trans ge')
        refine ⟨t, [u, v], rfl, SqA.t upd_same, rfl, u, [v], rfl, v, [], rfl, rfl, rfl, tyes (iteT ?_)⟩
        refine ⟨_, rfl, _, rfl, u, v, e, rfl, he, he', lv.2 e (List.mem_of_getElem? ge), fun H4 s4 => ?_⟩
        refine ⟨_, s4 _ _ (by rw [upd_ne (ne_of_none hC nt)]; exact hC), ?_, fun p o ho => ?_, ?_⟩
        · have h1 := lv.1
          rw [List.length_map, List.length_replicate]
          exact Nat.lt_of_lt_of_le hi (Nat.le_trans h1 (by decide))
        · have np : p ≠ C := ne_of_none ho nC
          rw [upd_ne np]
          exact s4 _ _ (sm2 _ _ ho)
        · rw [upd_same, List.replicate_succ', List.map_append]
          rfl
      · rintro H2 ⟨sm, hC⟩
        refine ⟨C, _, rfl, SqL.of hC, ?_⟩
        have e : (List.replicate ds.length true).all id = true := by simp
        rw [e]
        exact q _ (s1.trans sm)
    | tuple ds =>
      obtain ⟨a, xs, hsx, hax⟩ : ∃ a xs, SqT K H1 a xs ∧ DpAll K H1 xs ds ∧ x = .ref a := by cases hx with | tup h a => exact ⟨_, _, Same.tup s1 h, DpAll.same s1 a, rfl⟩
      obtain ⟨b, ys, hsy, hay⟩ : ∃ a xs, SqT K H1 a xs ∧ DpAll K H1 xs ds ∧ y = .ref a := by cases hy with | tup h a => exact ⟨_, _, Same.tup s1 h, DpAll.same s1 a, rfl⟩
      obtain ⟨hax, rfl⟩ := hax
      obtain ⟨hay, rfl⟩ := hay
      have lx : xs.length = ds.length := DpAll.len hax
      have ly : ys.length = ds.length := DpAll.len hay
      refine ⟨.ref b, tp, [.ty "list", .ty "tuple"], .type "tuple", [.type "list", .type "tuple"], true, rfl, htp, .cons (.ty _) (.cons (.ty _) .nil), ty_tup hsy, kit2 (r1 := false) (r2 := true) (by decide +kernel) (by decide +kernel) rfl, _, rfl, iteT ?_⟩
      refine ⟨_, rfl, .ref a, .ty "list", .type "tuple", .type "list", false, rfl, .ty _, ty_tup hsx, kit_ty (by decide +kernel), _, rfl, .ref b, .ty "list", .type "tuple", .type "list", false, rfl, .ty _, ty_tup hsy, kit_ty (by decide +kernel), rfl, _, rfl, iteNS rfl ?_⟩
      refine ⟨_, rfl, .ref a, .ty "tuple", .type "tuple", .type "tuple", true, rfl, .ty _, ty_tup hsx, kit_ty (by decide +kernel), _, rfl, .ref b, .ty "tuple", .type "tuple", .type "tuple", true, rfl, .ty _, ty_tup hsy, kit_ty (by decide +kernel), rfl, _, rfl, iteNS rfl ?_⟩
      refine ⟨_, rfl, a, xs, rfl, .inr hsx, _, rfl, b, ys, rfl, .inr hsy, rfl, _, rfl, ?_⟩
      rw [if_pos (decide_eq_true (by rw [lx, ly]))]
      refine ⟨_, rfl, _, rfl, a, b, xs, ys, rfl, .inr ⟨hsx, hsy, fun C nC => ?_⟩⟩
      refine lc_it (walk_zipT (n := ds.length) (by rw [lx, ly]; exact (Nat.min_self _).symm)) (fun i H' => Same H1 H' ∧ H' C = some (.lst ((List.replicate i true).map V.bl))) ⟨same_new nC, upd_same⟩ (fun i H' _ p => ⟨Same.tup p.1 hsx, Same.tup p.1 hsy⟩) ?_ ?_
      · rintro i z H2 H3 hi ⟨sm, hC⟩ ⟨t, u, v, rfl, nt, rfl, gu, gv⟩
        have sm2 : Same H1 (upd H2 t (.tup [u, v])) := sm.trans (same_new nt)
        obtain ⟨e, ge, he⟩ := DpAll.get (DpAll.same sm2 hax) gu
        obtain ⟨e', ge', he'⟩ := DpAll.get (DpAll.same sm2 hay) gv
        obtain rfl : e = e' := Option.some.inj (ge.symm.trans ge')
        refine ⟨t, [u, v], rfl, SqA.t upd_same, rfl, u, [v], rfl, v, [], rfl, rfl, rfl, tyes (iteT ?_)⟩
        refine ⟨_, rfl, _, rfl, u, v, e, rfl, he, he', lv.2 e (List.mem_of_getElem? ge), fun H4 s4 => ?_⟩
        refine ⟨_, s4 _ _ (by rw [upd_ne (ne_of_none hC nt)]; exact hC), ?_, fun p o ho => ?_, ?_⟩
        · have h1 := lv.1
          rw [List.length_map, List.length_replicate]
          exact Nat.lt_of_lt_of_le hi (Nat.le_trans h1 (by decide))
        · have np : p ≠ C := ne_of_none ho nC
          rw [upd_ne np]
          exact s4 _ _ (sm2 _ _ ho)
        · rw [upd_same, List.replicate_succ', List.map_append]
          rfl
      · rintro H2 ⟨sm, hC⟩
        refine ⟨C, _, rfl, SqL.of hC, ?_⟩
        have e : (List.replicate ds.length true).all id = true := by simp
        rw [e]
        exact q _ (s1.trans sm)
    | int i =>
      cases hx; cases hy
      refine ⟨.int i, tp, [.ty "list", .ty "tuple"], .type "int", [.type "list", .type "tuple"], false, rfl, htp, .cons (.ty _) (.cons (.ty _) .nil), .base (.int i), kit2 (r1 := false) (r2 := false) (by decide +kernel) (by decide +kernel) rfl, _, rfl, iteF ?_⟩
      refine ⟨_, rfl, rfl, _, rfl, iteF ?_⟩
      refine ⟨_, rfl, (by show 2 ≤ sizeLine; decide), fun tq ntq => ?_⟩
      refine ⟨.int i, tq, [.ty "bool", .ty "str"], .type "int", [.type "bool", .type "str"], false, rfl, upd_same, .cons (.ty _) (.cons (.ty _) .nil), .base (.int i), kit2 (r1 := false) (r2 := false) (by decide +kernel) (by decide +kernel) rfl, _, rfl, iteF ?_⟩
      refine ⟨_, rfl, .int i, .ty "int", .type "int", .type "int", true, rfl, .ty _, .base (.int i), kit_ty (by decide +kernel), _, rfl, iteT ?_⟩
      refine ⟨_, rfl, .int i, .ty "bool", .type "int", .type "bool", false, rfl, .ty _, .base (.int i), kit_ty (by decide +kernel), _, rfl, _, rfl, iteT ?_⟩
      refine ⟨_, rfl, _, rfl, rfl, ?_⟩
      rw [decide_eq_true rfl]
      exact q _ (s1.trans (same_new ntq))
    | none =>
      cases hx; cases hy
      refine ⟨.non, tp, [.ty "list", .ty "tuple"], .type "NoneType", [.type "list", .type "tuple"], false, rfl, htp, .cons (.ty _) (.cons (.ty _) .nil), .base .non, kit2 (r1 := false) (r2 := false) (by decide +kernel) (by decide +kernel) rfl, _, rfl, iteF ?_⟩
      refine ⟨_, rfl, rfl, _, rfl, iteT (iteT ?_)⟩
      refine ⟨_, rfl, _, rfl, rfl, _, rfl, iteT ?_⟩
      refine ⟨_, rfl, .non, .ty "bool", .type "NoneType", .type "bool", false, rfl, .ty _, .base .non, kit_ty (by decide +kernel), _, rfl, .non, .ty "bool", .type "NoneType", .type "bool", false, rfl, .ty _, .base .non, kit_ty (by decide +kernel), rfl, _, rfl, iteT ?_⟩
      refine ⟨_, rfl, rfl, _, rfl, rfl, rfl, ?_⟩
      exact q _ s1
    | bool c =>
      cases hx; cases hy
      refine ⟨.bl c, tp, [.ty "list", .ty "tuple"], .type "bool", [.type "list", .type "tuple"], false, rfl, htp, .cons (.ty _) (.cons (.ty _) .nil), .base (.bl c), kit2 (r1 := false) (r2 := false) (by decide +kernel) (by decide +kernel) rfl, _, rfl, iteF ?_⟩
      refine ⟨_, rfl, rfl, _, rfl, iteF ?_⟩
      refine ⟨_, rfl, (by show 2 ≤ sizeLine; decide), fun tq ntq => ?_⟩
      refine ⟨.bl c, tq, [.ty "bool", .ty "str"], .type "bool", [.type "bool", .type "str"], true, rfl, upd_same, .cons (.ty _) (.cons (.ty _) .nil), .base (.bl c), kit2 (r1 := true) (r2 := false) (by decide +kernel) (by decide +kernel) rfl, _, rfl, iteT ?_⟩
      refine ⟨_, rfl, _, rfl, rfl, _, rfl, ?_⟩
      rw [if_pos (decide_eq_true rfl)]
      refine ⟨_, rfl, .bl c, .ty "bool", .type "bool", .type "bool", true, rfl, .ty _, .base (.bl c), kit_ty (by decide +kernel), _, rfl, .bl c, .ty "bool", .type "bool", .type "bool", true, rfl, .ty _, .base (.bl c), kit_ty (by decide +kernel), rfl, _, rfl, iteT ?_⟩
      refine ⟨_, rfl, rfl, _, rfl, rfl, rfl, ?_⟩
      exact q _ (s1.trans (same_new ntq))
    | str c =>
      cases hx; cases hy
      refine ⟨.str c, tp, [.ty "list", .ty "tuple"], .type "str", [.type "list", .type "tuple"], false, rfl, htp, .cons (.ty _) (.cons (.ty _) .nil), .base (.str c), kit2 (r1 := false) (r2 := false) (by decide +kernel) (by decide +kernel) rfl, _, rfl, iteF ?_⟩
      refine ⟨_, rfl, rfl, _, rfl, iteF ?_⟩
      refine ⟨_, rfl, (by show 2 ≤ sizeLine; decide), fun tq ntq => ?_⟩
      refine ⟨.str c, tq, [.ty "bool", .ty "str"], .type "str", [.type "bool", .type "str"], true, rfl, upd_same, .cons (.ty _) (.cons (.ty _) .nil), .base (.str c), kit2 (r1 := false) (r2 := true) (by decide +kernel) (by decide +kernel) rfl, _, rfl, iteT ?_⟩
      refine ⟨_, rfl, _, rfl, rfl, _, rfl, ?_⟩
      rw [if_pos (decide_eq_true rfl)]
      refine ⟨_, rfl, .str c, .ty "bool", .type "str", .type "bool", false, rfl, .ty _, .base (.str c), kit_ty (by decide +kernel), _, rfl, .str c, .ty "bool", .type "str", .type "bool", false, rfl, .ty _, .base (.str c), kit_ty (by decide +kernel), rfl, _, rfl, iteT ?_⟩
      refine ⟨_, rfl, rfl, _, rfl, rfl, rfl, ?_⟩
      exact q _ (s1.trans (same_new ntq))
theorem ok_same (D : Df K mg "_law_same" s__law_same) (T : Bt mg) : ∀ m : Nat, Ok P w K mg base m "_law_same" s__law_same ["_law_found", "_law_due"] (spSame K m)
  | 0 => same0 D
  | m + 1 => same1 D T (ok_same D T m)
end
end Sh

namespace Sh
open PySem PySem.Spec PyProof.Rows L2
/-! ### a drawn sea -/
theorem But.put {b p : Addr} {H H' : Hp} {o : HO} (h : But b H H') (n : H p = none) : But b H (upd H' p o) := fun a x na e => by
  rw [upd_ne (ne_of_none e n)]
  exact h a x na e
theorem But.box {b : Addr} {H H' : Hp} {o : HO} (h : But b H H') : But b H (upd H' b o) := fun a x na e => by
  rw [upd_ne na]
  exact h a x na e
theorem BoxAt.put {H : Hp} {b : Addr} {n : Nat} {xs : List V} (h : BoxOk xs n) : BoxAt (upd H b (.lst xs)) b n := ⟨xs, upd_same, h⟩
theorem BoxAt.at {H : Hp} {b p : Addr} {n : Nat} {o : HO} (h : BoxAt H b n) (ne : b ≠ p) : BoxAt (upd H p o) b n := let ⟨xs, e, k⟩ := h; ⟨xs, by rw [upd_ne ne]; exact e, k⟩
structure SeaOk (most : Nat) (h t : Int) (ds : List Int) : Prop where
  h0 : 0 ≤ h
  h1 : h ≤ 1000000000000
  t0 : 0 ≤ t
  t1 : t ≤ 1000000000000
  l0 : 0 < ds.length
  l1 : ds.length ≤ most
  d0 : ∀ d ∈ ds, 0 ≤ d ∧ d ≤ 1000000000000
def spSea : Sp := fun vs H Q _ => ∃ (b : Addr) (n most : Nat), vs = [.ref b, .int (most : Int)] ∧ 0 < most ∧ most ≤ 60 ∧ BoxAt H b (n + 200) ∧
  ∀ (H' : Hp) (p q : Addr) (h t : Int) (ds : List Int), But b H H' → BoxAt H' b n → H p = none → H q = none → H' p = some (.tup [.int h, .int t, .ref q]) → H' q = some (.tup (ds.map V.int)) → SeaOk most h t ds → Q (.ref p) H'
section
variable {P : Program} {w : World} {K : PySem.W.Frag} {mg : Str → Option Value} {base : Heap}
/-- a new object, a draw: what stands, stands -/
theorem al {b p : Addr} {H Hc : Hp} {n : Nat} {o : HO} (u : But b H Hc) (x : BoxAt Hc b n) (np : Hc p = none) : But b H (upd Hc p o) ∧ BoxAt (upd Hc p o) b n ∧ upd Hc p o p = some o ∧ p ≠ b :=
  ⟨fun a z na e => by rw [upd_ne (ne_of_none (u a z na e) np)]; exact u a z na e, x.at (x.ne np), upd_same, (x.ne np).symm⟩
theorem tk {b : Addr} {H Hc : Hp} {n : Nat} {ys : List V} (u : But b H Hc) (y : BoxOk ys n) : But b H (upd Hc b (.lst ys)) ∧ BoxAt (upd Hc b (.lst ys)) b n := ⟨u.box, .put y⟩
theorem But.free {b p : Addr} {H H' : Hp} (u : But b H H') (n : p ≠ b) (h : H' p = none) : H p = none := by
  cases e : H p with
  | none => rfl
  | some o =>
    rw [u p o n e] at h
    cases h
theorem two_of {ns : List Int} (h : ns.length = 2) : ∃ a b, ns = [a, b] := by
  match ns, h with
  | [a, b], _ => exact ⟨a, b, rfl⟩
theorem ints_mem {v : V} {ns : List Int} (h : v ∈ ns.map V.int) : ∃ i ∈ ns, v = .int i := by
  obtain ⟨i, hi, e⟩ := List.mem_map.mp h
  exact ⟨i, hi, e.symm⟩
theorem ne_box {H : Hp} {b p : Addr} {n : Nat} (h : BoxAt H b n) (z : H p = none) : p ≠ b := (h.ne z).symm
end
end Sh

namespace Sh
open PySem PySem.Spec PyProof.Rows L2
/-! ### what many laws ask -/
/-- a sea (list or tuple) is handed in -/
def SeaA (K : PySem.W.Frag) (H : Hp) (v : V) (h t : Int) (ds : List Int) : Prop := ∃ p q, v = .ref p ∧ SqA K H p [.int h, .int t, .ref q] ∧ SqA K H q (ds.map V.int)
theorem SeaA.same {K : PySem.W.Frag} {H H' : Hp} {v : V} {h t : Int} {ds : List Int} (s : SeaA K H v h t ds) (e : Same H H') : SeaA K H' v h t ds := let ⟨p, q, a, b, c⟩ := s; ⟨p, q, a, Same.sqA e b, Same.sqA e c⟩
theorem lay_ints : ∀ ns : List Int, PyData.canLayAll0 (ns.map .int) = true ∧ PyData.depthAll (ns.map .int) = 0
  | [] => ⟨rfl, rfl⟩
  | n :: ns => by
    obtain ⟨a, b⟩ := lay_ints ns
    constructor
    · show (PyData.canLay0 (.int n) && PyData.canLayAll0 (ns.map .int)) = true
      rw [a]
      rfl
    · show max (PyData.depth (.int n)) (PyData.depthAll (ns.map .int)) = 0
      rw [b]
      rfl
theorem shaped_ints (ns : List Int) : SeqAt.shaped (.list (ns.map .int)) = true := by
  obtain ⟨a, b⟩ := lay_ints ns
  unfold SeqAt.shaped
  rw [show PyData.canLay0 (.list (ns.map .int)) = PyData.canLayAll0 (ns.map .int) from rfl, show PyData.depth (.list (ns.map .int)) = PyData.depthAll (ns.map .int) + 1 from rfl, a, b]
  rfl
theorem flat_ints (ns : List Int) : (ns.map V.int).all flatV = true := by
  rw [List.all_map]
  exact List.all_eq_true.mpr fun _ _ => rfl
theorem same_over {H H1 : Hp} {p : Addr} {o : HO} (s : Same H H1) (n : H p = none) : Same H (upd H1 p o) := fun a x e => by
  rw [upd_ne (ne_of_none e n)]
  exact s _ _ e
end Sh

namespace Sh
open PySem PySem.Spec PyProof.Rows L2
/-! ### standings as lists of ships -/
def ni (L : List Nat) : List V := L.map fun (i : Nat) => V.int (i : Int)
theorem ni_len (L : List Nat) : (ni L).length = L.length := by unfold ni; simp
theorem ni_get {L : List Nat} {i : Nat} (h : i < L.length) : (ni L)[i]? = some (.int ((L[i] : Nat) : Int)) := by unfold ni; simp [h]
theorem ni_app (L M : List Nat) : ni (L ++ M) = ni L ++ ni M := by unfold ni; simp
theorem ni_ints (L : List Nat) : ni L = (L.map fun (i : Nat) => (i : Int)).map V.int := by unfold ni; simp
theorem ni_flat (L : List Nat) : (ni L).all flatV = true := by unfold ni; rw [List.all_map]; exact List.all_eq_true.mpr fun _ _ => rfl
/-- a rising lot of ships below c -/
structure Lot (c : Nat) (L : List Nat) : Prop where
  up : L.Pairwise (· < ·)
  lt : ∀ i ∈ L, i < c
theorem up_len : ∀ {L : List Nat} {lo c : Nat}, L.Pairwise (· < ·) → (∀ i ∈ L, lo ≤ i ∧ i < c) → L.length ≤ c - lo
  | [], _, _, _, _ => Nat.zero_le _
  | a :: r, lo, c, h, hb => by
    obtain ⟨h1, h2⟩ := List.pairwise_cons.mp h
    have ha := hb a List.mem_cons_self
    have := up_len (lo := a + 1) (c := c) h2 fun i hi => ⟨h1 i hi, (hb i (List.mem_cons_of_mem _ hi)).2⟩
    rw [List.length_cons]
    omega
theorem Lot.len {c : Nat} {L : List Nat} (h : Lot c L) : L.length ≤ c := up_len (lo := 0) h.up fun i hi => ⟨Nat.zero_le _, h.lt i hi⟩
theorem Lot.nil (c : Nat) : Lot c [] := ⟨.nil, fun _ h => by cases h⟩
theorem Lot.all (c : Nat) : Lot c (List.range c) := ⟨List.pairwise_lt_range, fun _ h => List.mem_range.mp h⟩
theorem Lot.filter {c : Nat} {L : List Nat} (h : Lot c L) (p : Nat → Bool) : Lot c (L.filter p) := ⟨h.up.filter p, fun i hi => h.lt i (List.mem_filter.mp hi).1⟩
theorem rgV_ni (n : Nat) : rgV 0 (n : Int) = ni (List.range n) := by
  unfold rgV ni
  rw [show ((n : Int) - 0).toNat = n by omega]
  refine List.map_congr_left fun i _ => ?_
  rw [Int.zero_add]
theorem dp_ni {K : PySem.W.Frag} {H : Hp} {a : Addr} {L : List Nat} (h : H a = some (.lst (ni L))) : Dp K H (.ref a) (.list ((L.map fun (i : Nat) => (i : Int)).map .int)) := by
  rw [ni_ints] at h
  exact .lst (SqL.of h) (DpAll.ints _)
end Sh

namespace Sh
open PySem PySem.Spec PyProof.Rows L2
/-! ### who may go -/
/-- how many others lie here -/
def near (L : List Nat) (i : Nat) : Nat := (L.filter fun j => !decide (j = i)).length
def mayB (h t : Int) (ds : List Int) (L : List Nat) (i : Nat) : Bool := decide (ds.getD i 0 ≤ h + (near L i : Int)) && decide (ds.getD i 0 ≤ t + (ds.length : Int) - 1 - (near L i : Int))
def lets (h t : Int) (ds : List Int) (L : List Nat) (n : Nat) : List Nat := (List.range n).filter (mayB h t ds L)
theorem filter_succ (p : Nat → Bool) (n : Nat) : (List.range (n + 1)).filter p = (List.range n).filter p ++ (if p n = true then [n] else []) := by
  rw [List.range_succ, List.filter_append]
  congr 1
  by_cases h : p n = true
  · rw [if_pos h, List.filter_cons_of_pos h]
    rfl
  · rw [if_neg h, List.filter_cons_of_neg h]
    rfl
theorem filter_len (p : Nat → Bool) (n : Nat) : ((List.range n).filter p).length ≤ n := Nat.le_trans (List.length_filter_le _ _) (by simp)
theorem take_succ_get {α : Type} {L : List α} {i : Nat} (h : i < L.length) : L.take (i + 1) = L.take i ++ [L[i]] := by rw [List.take_add_one, List.getElem?_eq_getElem h]; rfl
/-- a standing is handed in -/
def LotA (K : PySem.W.Frag) (H : Hp) (v : V) (L : List Nat) : Prop := ∃ p, v = .ref p ∧ SqA K H p (ni L)
theorem LotA.same {K : PySem.W.Frag} {H H' : Hp} {v : V} {L : List Nat} (s : LotA K H v L) (e : Same H H') : LotA K H' v L := let ⟨p, a, b⟩ := s; ⟨p, a, Same.sqA e b⟩
end Sh

namespace Sh
open PySem PySem.Spec PyProof.Rows L2
/-! ### who is afloat -/
theorem Lot.mem_eq {c : Nat} {L : List Nat} (h : Lot c L) : L = (List.range c).filter fun j => decide (j ∈ L) := by
  have h2 : Lot c ((List.range c).filter fun j => decide (j ∈ L)) := (Lot.all c).filter _
  refine List.Perm.eq_of_pairwise (le := (· < ·)) (fun a b _ _ h1 h2 => absurd (Nat.lt_trans h1 h2) (Nat.lt_irrefl _)) h.up h2.up ?_
  refine (List.perm_ext_iff_of_nodup (h.up.imp Nat.ne_of_lt) (h2.up.imp Nat.ne_of_lt)).mpr fun a => ?_
  rw [List.mem_filter, List.mem_range, decide_eq_true_eq]
  exact ⟨fun q => ⟨h.lt a q, q⟩, fun q => q.2⟩
theorem filter_filter_len (p q : Nat → Bool) : ∀ l : List Nat, (l.filter p).length = (l.filter fun j => p j && q j).length + (l.filter fun j => p j && !q j).length
  | [] => rfl
  | a :: l => by
    have ih := filter_filter_len p q l
    cases hp : p a <;> cases hq : q a <;> simp [List.filter_cons, hp, hq, ih] <;> omega
/-- how many mates: here, or there -/
def mates (c : Nat) (L : List Nat) (i : Nat) : List Nat := (List.range c).filter fun j => !decide (j = i) && (decide (j ∈ L) == decide (i ∈ L))
theorem near_in {c : Nat} {L : List Nat} (h : Lot c L) (i : Nat) : near L i = ((List.range c).filter fun j => decide (j ∈ L) && !decide (j = i)).length := by
  unfold near
  conv => lhs; rw [h.mem_eq]
  rw [List.filter_filter]
  congr 1
  refine List.filter_congr fun a _ => ?_
  cases decide (a ∈ L) <;> cases decide (a = i) <;> rfl
theorem mates_here {c : Nat} {L : List Nat} (h : Lot c L) {i : Nat} (hi : i ∈ L) : (mates c L i).length = near L i := by
  rw [near_in h, mates]
  congr 1
  refine List.filter_congr fun a _ => ?_
  rw [decide_eq_true hi]
  cases decide (a ∈ L) <;> cases decide (a = i) <;> rfl
theorem one_of {c i : Nat} (hi : i < c) : ((List.range c).filter fun j => decide (j = i)).length = 1 := by
  have e : ((List.range c).filter fun j => decide (j = i)) = [i] := by
    refine List.Perm.eq_of_pairwise (le := (· < ·)) (fun a b _ _ h1 h2 => absurd (Nat.lt_trans h1 h2) (Nat.lt_irrefl _)) (List.pairwise_lt_range.filter _) (List.pairwise_singleton _ _) ?_
    refine (List.perm_ext_iff_of_nodup ((List.pairwise_lt_range.filter _).imp Nat.ne_of_lt) (by simp)).mpr fun a => ?_
    rw [List.mem_filter, List.mem_range, decide_eq_true_eq, List.mem_singleton]
    exact ⟨fun q => q.2, fun q => ⟨q ▸ hi, q⟩⟩
  rw [e]
  rfl
theorem mates_there {c : Nat} {L : List Nat} (h : Lot c L) {i : Nat} (hc : i < c) (hi : i ∉ L) : ((mates c L i).length : Int) = (c : Int) - 1 - (near L i : Int) := by
  have e1 := filter_filter_len (fun j => !decide (j = i)) (fun j => decide (j ∈ L)) (List.range c)
  have e2 := filter_filter_len (fun _ => true) (fun j => decide (j = i)) (List.range c)
  have e3 : ((List.range c).filter fun j => true && decide (j = i)).length = 1 := one_of hc
  have e4 : ((List.range c).filter fun _ => true).length = c := by rw [List.filter_eq_self.mpr fun _ _ => rfl, List.length_range]
  have e5 : ((List.range c).filter fun j => !decide (j = i) && decide (j ∈ L)).length = near L i := by
    rw [near_in h]
    congr 1
    exact List.filter_congr fun a _ => Bool.and_comm _ _
  have e6 : ((List.range c).filter fun j => !decide (j = i) && !decide (j ∈ L)).length = (mates c L i).length := by
    unfold mates
    congr 1
    refine List.filter_congr fun a _ => ?_
    rw [decide_eq_false hi]
    cases decide (a ∈ L) <;> cases decide (a = i) <;> rfl
  have e7 : ((List.range c).filter fun j => true && !decide (j = i)).length = ((List.range c).filter fun j => !decide (j = i)).length := rfl
  rw [e5, e6] at e1
  rw [e3, e4, e7] at e2
  omega
/-- afloat where it lies -/
def aflB (h t : Int) (ds : List Int) (L : List Nat) (i : Nat) : Bool := if i ∈ L then decide (ds.getD i 0 ≤ h + (near L i : Int)) else decide (ds.getD i 0 ≤ t + ((ds.length : Int) - 1 - (near L i : Int)))
def afl (h t : Int) (ds : List Int) (L : List Nat) (n : Nat) : List Nat := (List.range n).filter (aflB h t ds L)
theorem aflB_mates {h t : Int} {ds : List Int} {L : List Nat} {i : Nat} (hL : Lot ds.length L) (hi : i < ds.length) :
    aflB h t ds L i = decide (ds.getD i 0 ≤ (if i ∈ L then h else t) + ((mates ds.length L i).length : Int)) := by
  unfold aflB
  by_cases z : i ∈ L
  · rw [if_pos z, if_pos z, mates_here hL z]
  · rw [if_neg z, if_neg z, mates_there hL hi z]
theorem in_ni {i : Nat} {L : List Nat} : inV (.int (i : Int)) (ni L) = decide (i ∈ L) := by
  unfold inV ni
  rw [List.any_map, Bool.eq_iff_iff, List.any_eq_true, decide_eq_true_eq]
  constructor
  · rintro ⟨x, hx, e⟩
    have e' : ((x : Int) == (i : Int)) = true := e
    have : x = i := by have := beq_iff_eq.mp e'; omega
    rw [← this]
    exact hx
  · intro hx
    exact ⟨i, hx, beq_self_eq_true (i : Int)⟩
def spAfl (K : PySem.W.Frag) : Sp := fun vs H Q _ => ∃ (v l : V) (h t : Int) (ds : List Int) (L : List Nat), vs = [v, l] ∧ SeaA K H v h t ds ∧ LotA K H l L ∧ ds.length ≤ 1000 ∧ Lot ds.length L ∧
  ∀ (H' : Hp) (p : Addr), Same H H' → H p = none → H' p = some (.lst (ni (afl h t ds L ds.length))) → Q (.ref p) H'
/-- the same of who may go: of a standing -/
def spMay (K : PySem.W.Frag) : Sp := fun vs H Q _ => ∃ (v l : V) (h t : Int) (ds : List Int) (L : List Nat), vs = [v, l] ∧ SeaA K H v h t ds ∧ LotA K H l L ∧ ds.length ≤ 1000 ∧ Lot ds.length L ∧
  ∀ (H' : Hp) (p : Addr), Same H H' → H p = none → H' p = some (.lst (ni (lets h t ds L ds.length))) → Q (.ref p) H'
end Sh

namespace Sh
open PySem PySem.Spec PyProof.Rows L2
theorem eqv_nil (ns : List Int) : PyData.eqv (.list (ns.map .int)) (.list []) = ns.isEmpty := by cases ns <;> rfl
end Sh

namespace Sh
open PySem PySem.Spec PyProof.Rows L2
/-! ### what is told: seas and standings -/
/-- a standing told: a tuple that is read -/
def LotT (K : PySem.W.Frag) (H : Hp) (v : V) (L : List Nat) : Prop := ∃ p, v = .ref p ∧ SqT K H p (ni L)
theorem LotT.a {K : PySem.W.Frag} {H : Hp} {v : V} {L : List Nat} (h : LotT K H v L) : LotA K H v L := let ⟨p, e, q⟩ := h; ⟨p, e, .inr q⟩
theorem LotT.same {K : PySem.W.Frag} {H H' : Hp} {v : V} {L : List Nat} (h : LotT K H v L) (s : Same H H') : LotT K H' v L := let ⟨p, e, q⟩ := h; ⟨p, e, Same.tup s q⟩
theorem tup_but {K : PySem.W.Frag} {H H' : Hp} {b p : Addr} {n : Nat} {xs : List V} (q : SqT K H p xs) (x : BoxAt H b n) (u : But b H H') : SqT K H' p xs := by
  obtain ⟨ys, hb, _⟩ := x
  rcases q with (q | ⟨o, q⟩) | q
  · exact .inl (.inl (u _ _ (ne_of q hb (by intro z; cases z)) q))
  · exact .inl (.inr ⟨o, u _ _ (ne_of q hb (by intro z; cases z)) q⟩)
  · exact .inr q
theorem LotT.but {K : PySem.W.Frag} {H H' : Hp} {b : Addr} {n : Nat} {v : V} {L : List Nat} (h : LotT K H v L) (x : BoxAt H b n) (u : But b H H') : LotT K H' v L := let ⟨p, e, q⟩ := h; ⟨p, e, tup_but q x u⟩
theorem LotT.dp {K : PySem.W.Frag} {H : Hp} {v : V} {L : List Nat} (h : LotT K H v L) : Dp K H v (.tuple ((L.map fun (i : Nat) => (i : Int)).map .int)) := by
  obtain ⟨p, e, q⟩ := h
  rw [e]
  rw [ni_ints] at q
  exact .tup q (DpAll.ints _)
/-- a sea told -/
def SeaT (K : PySem.W.Frag) (H : Hp) (v : V) (h t : Int) (ds : List Int) : Prop := ∃ p q, v = .ref p ∧ SqT K H p [.int h, .int t, .ref q] ∧ SqT K H q (ds.map V.int)
theorem SeaT.a {K : PySem.W.Frag} {H : Hp} {v : V} {h t : Int} {ds : List Int} (s : SeaT K H v h t ds) : SeaA K H v h t ds := let ⟨p, q, e, a, b⟩ := s; ⟨p, q, e, .inr a, .inr b⟩
theorem SeaT.same {K : PySem.W.Frag} {H H' : Hp} {v : V} {h t : Int} {ds : List Int} (s : SeaT K H v h t ds) (e : Same H H') : SeaT K H' v h t ds := let ⟨p, q, e1, a, b⟩ := s; ⟨p, q, e1, Same.tup e a, Same.tup e b⟩
theorem SeaT.but {K : PySem.W.Frag} {H H' : Hp} {b : Addr} {n : Nat} {v : V} {h t : Int} {ds : List Int} (s : SeaT K H v h t ds) (x : BoxAt H b n) (u : But b H H') : SeaT K H' v h t ds := let ⟨p, q, e1, a, c⟩ := s; ⟨p, q, e1, tup_but a x u, tup_but c x u⟩
theorem SeaT.dp {K : PySem.W.Frag} {H : Hp} {v : V} {h t : Int} {ds : List Int} (s : SeaT K H v h t ds) : Dp K H v (.tuple [.int h, .int t, .tuple (ds.map .int)]) := by
  obtain ⟨p, q, e, a, b⟩ := s
  rw [e]
  exact .tup a (.cons (.int _) (.cons (.int _) (.cons (.tup b (DpAll.ints _)) .nil)))
theorem lv_sea {n : Nat} {h t : Int} {ds : List Int} (l : ds.length ≤ 100000) : Lv (n + 3) (.tuple [.int h, .int t, .tuple (ds.map .int)]) := ⟨by show 3 ≤ 100000; decide, fun e he => by
  rcases List.mem_cons.mp he with z | z
  · rw [z]; exact trivial
  · rcases List.mem_cons.mp z with z | z
    · rw [z]; exact trivial
    · rw [List.mem_singleton.mp z]; exact lv_intsT _ l⟩
theorem lv_lot {n : Nat} {L : List Nat} (l : L.length ≤ 100000) : Lv (n + 2) (.tuple ((L.map fun (i : Nat) => (i : Int)).map .int)) := lv_intsT _ (by rw [List.length_map]; exact l)
end Sh

namespace Sh
open PySem PySem.Spec PyProof.Rows L2
/-! ### texts of data: no longer than so much -/
structure Fit (n m : Nat) (d : PyData) : Prop where
  len : d.shown.length ≤ n
  sh : d.showable = true
  lay : d.canLay0 = true
  dp : d.depth ≤ m
structure FitAll (n m : Nat) (ds : List PyData) : Prop where
  len : ((PyData.shownAll ds).map (·.length)).sum + 2 * ds.length ≤ n
  sh : PyData.showableAll ds = true
  lay : PyData.canLayAll0 ds = true
  dp : PyData.depthAll ds ≤ m
theorem shownAll_len : ∀ ds : List PyData, (PyData.shownAll ds).length = ds.length
  | [] => rfl
  | d :: ds => by
    show (PyData.shown d :: PyData.shownAll ds).length = _
    rw [List.length_cons, List.length_cons, shownAll_len ds]
theorem Fit.mono {n m n' m' : Nat} {d : PyData} (f : Fit n m d) (h : n ≤ n') (h' : m ≤ m') : Fit n' m' d := ⟨Nat.le_trans f.len h, f.sh, f.lay, Nat.le_trans f.dp h'⟩
theorem FitAll.mono {n m n' m' : Nat} {ds : List PyData} (f : FitAll n m ds) (h : n ≤ n') (h' : m ≤ m') : FitAll n' m' ds := ⟨Nat.le_trans f.len h, f.sh, f.lay, Nat.le_trans f.dp h'⟩
theorem fit_int {i : Int} (h : i.natAbs < 10 ^ 14) : Fit 15 0 (.int i) := by
  refine ⟨?_, ?_, rfl, Nat.le_refl 0⟩
  · show (Str.ofString (toString i)).length ≤ 15
    rw [PySem.ofString_length]
    exact int_text_length_le10 (k := 14) (by decide) h
  · show decide (i.natAbs.log2 < 1920) = true
    refine decide_eq_true ?_
    by_cases z : i.natAbs = 0
    · rw [z]
      decide
    · exact (Nat.log2_lt z).mpr (Nat.lt_trans h (by decide +kernel))
theorem FitAll.nil (m : Nat) : FitAll 0 m [] := ⟨Nat.le_refl 0, rfl, rfl, Nat.zero_le m⟩
theorem FitAll.cons {a b m : Nat} {d : PyData} {ds : List PyData} (f : Fit a m d) (g : FitAll b m ds) : FitAll (a + 2 + b) m (d :: ds) := by
  refine ⟨?_, ?_, ?_, ?_⟩
  · show ((PyData.shown d :: PyData.shownAll ds).map (·.length)).sum + 2 * (d :: ds).length ≤ _
    rw [List.map_cons, List.sum_cons, List.length_cons]
    have := f.len
    have := g.len
    omega
  · show (PyData.showable d && PyData.showableAll ds) = true
    rw [f.sh, g.sh]
    rfl
  · show (PyData.canLay0 d && PyData.canLayAll0 ds) = true
    rw [f.lay, g.lay]
    rfl
  · show max (PyData.depth d) (PyData.depthAll ds) ≤ m
    exact Nat.max_le.mpr ⟨f.dp, g.dp⟩
theorem FitAll.ints : ∀ {ns : List Int}, (∀ i ∈ ns, i.natAbs < 10 ^ 14) → FitAll (17 * ns.length) 0 (ns.map .int)
  | [], _ => FitAll.nil 0
  | i :: ns, h => by
    have g := FitAll.ints (ns := ns) fun j hj => h j (List.mem_cons_of_mem _ hj)
    have f := fit_int (h i List.mem_cons_self)
    refine (FitAll.cons f g).mono ?_ (Nat.le_refl 0)
    rw [List.length_cons]
    omega
theorem Fit.list {n m : Nat} {ds : List PyData} (f : FitAll n m ds) : Fit (n + 3) (m + 1) (.list ds) := by
  refine ⟨?_, f.sh, f.lay, ?_⟩
  · show (listText (PyData.shownAll ds)).length ≤ _
    have a := listText_len_le (PyData.shownAll ds)
    rw [shownAll_len] at a
    have := f.len
    omega
  · show PyData.depthAll ds + 1 ≤ m + 1
    exact Nat.succ_le_succ f.dp
theorem Fit.tup {n m : Nat} {ds : List PyData} (f : FitAll n m ds) : Fit (n + 3) (m + 1) (.tuple ds) := by
  refine ⟨?_, f.sh, f.lay, ?_⟩
  · show (tupleText (PyData.shownAll ds)).length ≤ _
    have a := tupleText_len_le (PyData.shownAll ds)
    rw [shownAll_len] at a
    have := f.len
    omega
  · show PyData.depthAll ds + 1 ≤ m + 1
    exact Nat.succ_le_succ f.dp
theorem Fit.shaped {n m : Nat} {d : PyData} (f : Fit n m d) (h : m ≤ 64) : SeqAt.shaped d = true := by
  unfold SeqAt.shaped
  rw [f.lay, decide_eq_true (Nat.le_trans f.dp h)]
  rfl
theorem Fit.sz {n m : Nat} {d : PyData} (f : Fit n m d) (h : n ≤ 1000000) : d.shown.length ≤ sizeLine := by
  rw [sizeLine_eq]
  have := f.len
  omega
/-- a sea, a standing -/
theorem fit_lot {L : List Nat} (c : L.length ≤ 100) (h : ∀ i ∈ L, i < 100000) : FitAll 1700 0 ((L.map fun (i : Nat) => (i : Int)).map .int) := by
  refine (FitAll.ints fun i hi => ?_).mono (by rw [List.length_map]; omega) (Nat.le_refl 0)
  obtain ⟨j, hj, rfl⟩ := List.mem_map.mp hi
  have := h j hj
  show ((j : Int)).natAbs < 100000000000000
  omega
theorem fit_sea {h t : Int} {ds : List Int} {m : Nat} (so : SeaOk m h t ds) (c : m ≤ 100) : Fit 2000 2 (.tuple [.int h, .int t, .tuple (ds.map .int)]) := by
  have f : FitAll 1700 0 (ds.map .int) := by
    refine (FitAll.ints fun i hi => ?_).mono (by have := so.l1; omega) (Nat.le_refl 0)
    have := so.d0 i hi
    show i.natAbs < 100000000000000
    omega
  have fh : h.natAbs < 10 ^ 14 := by
    have := so.h0
    have := so.h1
    show h.natAbs < 100000000000000
    omega
  have ft : t.natAbs < 10 ^ 14 := by
    have := so.t0
    have := so.t1
    show t.natAbs < 100000000000000
    omega
  exact (Fit.tup (.cons ((fit_int fh).mono (Nat.le_refl _) (Nat.zero_le 1)) (.cons ((fit_int ft).mono (Nat.le_refl _) (Nat.zero_le 1)) (.cons (Fit.tup f) (.nil 1))))).mono (by omega) (Nat.le_refl 2)
end Sh

namespace Sh
open PySem PySem.Spec PyProof.Rows L2
/-! ### the program: kinds of things, of any data -/
def isNumD : PyData → Bool
  | .int i => decide (0 ≤ i)
  | _ => false
def isTupD (n : Nat) : PyData → Bool
  | .tuple ds => decide (ds.length = n)
  | _ => false
def spIsNum (K : PySem.W.Frag) : Sp := fun vs H Q _ => ∃ (v : V) (d : PyData), vs = [v] ∧ Dp K H v d ∧ Q (.bl (isNumD d)) H
def spIsTup (K : PySem.W.Frag) : Sp := fun vs H Q _ => ∃ (v : V) (d : PyData) (n : Nat), vs = [v, .int (n : Int)] ∧ Dp K H v d ∧ Q (.bl (isTupD n d)) H
theorem dec_int (a b : Nat) : decide (V.int (a : Int) = V.int (b : Int)) = decide (a = b) := by
  by_cases z : a = b
  · rw [z, decide_eq_true rfl, decide_eq_true rfl]
  · rw [decide_eq_false z, decide_eq_false fun e => z (by have := V.int.inj e; omega)]
abbrev s_is_number : Stmt := topS 1
theorem sc_is_number : FnScope (["thing"] : List Str) (["thing"] : List Str) (defScope s_is_number) := ⟨rfl, rfl, rfl, by decide +kernel, rfl, by decide +kernel, by decide +kernel⟩
theorem b_is_number (kV doc pm : Value) (an : Option Addr) (cdv ct : Value) (us : List Value) (hl : us.length = (["thing"] : List Str).length) : bindArgs (PySem.W.fnOf "is_number" "is_number" (defArgs s_is_number) (defBody s_is_number) (defScope s_is_number) .none kV doc pm an cdv ct) ⟨us, []⟩ = pure ((["thing"] : List Str).zip us) :=
  match us, hl with | [_], _ => rfl
abbrev s_is_tuple_of : Stmt := topS 2
theorem sc_is_tuple_of : FnScope (["thing", "many"] : List Str) (["thing", "many"] : List Str) (defScope s_is_tuple_of) := ⟨rfl, rfl, rfl, by decide +kernel, rfl, by decide +kernel, by decide +kernel⟩
theorem b_is_tuple_of (kV doc pm : Value) (an : Option Addr) (cdv ct : Value) (us : List Value) (hl : us.length = (["thing", "many"] : List Str).length) : bindArgs (PySem.W.fnOf "is_tuple_of" "is_tuple_of" (defArgs s_is_tuple_of) (defBody s_is_tuple_of) (defScope s_is_tuple_of) .none kV doc pm an cdv ct) ⟨us, []⟩ = pure ((["thing", "many"] : List Str).zip us) :=
  match us, hl with | [_, _], _ => rfl
section
variable {P : Program} {w : World} {K : PySem.W.Frag} {mg : Str → Option Value} {base : Heap}
theorem ok_is_number {k : Nat} (D : Df K mg "is_number" s_is_number) (T : Bt mg) : Ok P w K mg base (k + 1) "is_number" s_is_number ["thing"] (spIsNum K) := by
  refine D.ok sc_is_number b_is_number (fun vs H Q E h => ?_) (fun f cdv A outer s H vs Q E hr h => ?_)
  · obtain ⟨v, d, rfl, _⟩ := h
    rfl
  · obtain ⟨v, d, rfl, hv, q⟩ := h
    refine ⟨_, (pss_one (ps_ret (pe_and (pe_callB call_isi (by rfl) T.isinstance_ (by decide +kernel) (pa_cons (pv 0) (pa_cons (pe_bltn (v := .ty "int") (by rfl) T.int_ (by decide +kernel) rfl) pa_nil))) (pe_and (pe_not (pe_callB call_isi (by rfl) T.isinstance_ (by decide +kernel) (pa_cons (pv 0) (pa_cons (pe_bltn (v := .ty "bool") (by rfl) T.bool_ (by decide +kernel) rfl) pa_nil)))) (pe_one (pe_cmpR op_ge (pv 0) pe_int (nomark _))))))), ?_⟩
    have ht := ty_of hv
    cases hv with
    | non => exact ⟨_, rfl, _, .ty "int", .type "NoneType", .type "int", false, rfl, .ty _, ht, kit_ty (by decide +kernel), _, rfl, q⟩
    | bl b =>
      refine ⟨_, rfl, _, .ty "int", .type "bool", .type "int", true, rfl, .ty _, ht, kit_ty (by decide +kernel), _, rfl, ?_⟩
      refine ⟨_, rfl, _, .ty "bool", .type "bool", .type "bool", true, rfl, .ty _, ht, kit_ty (by decide +kernel), _, rfl, _, rfl, ?_⟩
      exact q
    | int i =>
      refine ⟨_, rfl, _, .ty "int", .type "int", .type "int", true, rfl, .ty _, ht, kit_ty (by decide +kernel), _, rfl, ?_⟩
      refine ⟨_, rfl, _, .ty "bool", .type "int", .type "bool", false, rfl, .ty _, ht, kit_ty (by decide +kernel), _, rfl, _, rfl, ?_⟩
      exact ⟨_, rfl, i, 0, rfl, rfl, q⟩
    | str x => exact ⟨_, rfl, _, .ty "int", .type "str", .type "int", false, rfl, .ty _, ht, kit_ty (by decide +kernel), _, rfl, q⟩
    | lst h a => exact ⟨_, rfl, _, .ty "int", .type "list", .type "int", false, rfl, .ty _, ht, kit_ty (by decide +kernel), _, rfl, q⟩
    | tup h a => exact ⟨_, rfl, _, .ty "int", .type "tuple", .type "int", false, rfl, .ty _, ht, kit_ty (by decide +kernel), _, rfl, q⟩
theorem ok_is_tuple {k : Nat} (D : Df K mg "is_tuple_of" s_is_tuple_of) (T : Bt mg) : Ok P w K mg base (k + 1) "is_tuple_of" s_is_tuple_of ["thing", "many"] (spIsTup K) := by
  refine D.ok sc_is_tuple_of b_is_tuple_of (fun vs H Q E h => ?_) (fun f cdv A outer s H vs Q E hr h => ?_)
  · obtain ⟨v, d, n, rfl, _⟩ := h
    rfl
  · obtain ⟨v, d, n, rfl, hv, q⟩ := h
    refine ⟨_, (pss_one (ps_ret (pe_and (pe_callB call_isi (by rfl) T.isinstance_ (by decide +kernel) (pa_cons (pv 0) (pa_cons (pe_bltn (v := .ty "tuple") (by rfl) T.tuple_ (by decide +kernel) rfl) pa_nil))) (pe_one (pe_cmpR op_eq (pe_callB call_len_seq (by rfl) T.len_ PySem.boot_len (pa_cons (pv 0) pa_nil)) (pv 1) (nomark _)))))), ?_⟩
    have ht := ty_of hv
    cases hv with
    | non => exact ⟨_, rfl, _, .ty "tuple", .type "NoneType", .type "tuple", false, rfl, .ty _, ht, kit_ty (by decide +kernel), _, rfl, q⟩
    | bl b => exact ⟨_, rfl, _, .ty "tuple", .type "bool", .type "tuple", false, rfl, .ty _, ht, kit_ty (by decide +kernel), _, rfl, q⟩
    | int i => exact ⟨_, rfl, _, .ty "tuple", .type "int", .type "tuple", false, rfl, .ty _, ht, kit_ty (by decide +kernel), _, rfl, q⟩
    | str x => exact ⟨_, rfl, _, .ty "tuple", .type "str", .type "tuple", false, rfl, .ty _, ht, kit_ty (by decide +kernel), _, rfl, q⟩
    | lst h a => exact ⟨_, rfl, _, .ty "tuple", .type "list", .type "tuple", false, rfl, .ty _, ht, kit_ty (by decide +kernel), _, rfl, q⟩
    | tup h a =>
      refine ⟨_, rfl, _, .ty "tuple", .type "tuple", .type "tuple", true, rfl, .ty _, ht, kit_ty (by decide +kernel), _, rfl, ?_⟩
      refine ⟨_, rfl, _, _, rfl, .inr h, _, rfl, rfl, ?_⟩
      have l := DpAll.len a
      rw [dec_int, l]
      exact q
end
end Sh

namespace Sh
open PySem PySem.Spec PyProof.Rows L2
/-! ### rising numbers, seas, places, standings: of any data -/
def risesAt (ns : List Int) (i : Nat) : Bool := decide (ns.getD i 0 < ns.getD (i + 1) 0)
theorem getD_ix {ns : List Int} {i : Nat} (h : i < ns.length) : ns.getD i 0 = ns[i] := by
  rw [List.getD_eq_getElem?_getD, List.getElem?_eq_getElem h]
  rfl
theorem rises_lt {ns : List Int} {i : Nat} (h : i + 1 < ns.length) : risesAt ns i = decide (ns[i] < ns[i + 1]) := by
  unfold risesAt
  rw [getD_ix h, getD_ix (Nat.lt_of_succ_lt h)]
theorem rises_step : ∀ (ns : List Int), (∀ i, i + 1 < ns.length → risesAt ns i = true) ↔ ns.Pairwise (· < ·)
  | [] => ⟨fun _ => List.Pairwise.nil, fun _ i hi => absurd hi (Nat.not_lt_zero _)⟩
  | [a] => ⟨fun _ => List.pairwise_singleton _ _, fun _ i hi => by simp at hi⟩
  | a :: b :: ns => by
    have ih := rises_step (b :: ns)
    constructor
    · intro h
      have h2 : (b :: ns).Pairwise (· < ·) := ih.mp fun i hi => h (i + 1) (by simpa using hi)
      refine List.pairwise_cons.mpr ⟨fun x hx => ?_, h2⟩
      have ab : a < b := of_decide_eq_true (h 0 (by simp))
      rcases List.mem_cons.mp hx with z | z
      · rw [z]; exact ab
      · exact Int.lt_trans ab ((List.pairwise_cons.mp h2).1 x z)
    · intro h i hi
      obtain ⟨h1, h2⟩ := List.pairwise_cons.mp h
      cases i with
      | zero => exact decide_eq_true (h1 b List.mem_cons_self)
      | succ i => exact ih.mpr h2 i (by simpa using hi)
def risingB (ns : List Int) : Bool := decide (ns.Pairwise (· < ·))
theorem rises_all {ns : List Int} : ((List.range (ns.length - 1)).map (risesAt ns)).all id = risingB ns := by
  unfold risingB
  rw [Bool.eq_iff_iff, List.all_eq_true, decide_eq_true_eq, ← rises_step]
  constructor
  · intro h i hi
    exact h _ (List.mem_map.mpr ⟨i, List.mem_range.mpr (by omega), rfl⟩)
  · intro h x hx
    obtain ⟨i, hi, rfl⟩ := List.mem_map.mp hx
    exact h i (by have := List.mem_range.mp hi; omega)
theorem cut_one (ns : List Int) : cutV (ns.map V.int) (some 1) none = (ns.drop 1).map V.int := by
  unfold cutV
  rw [HT.sIx_none, show (1 : Int) = ((1 : Nat) : Int) from rfl, HT.sIx_nat, List.length_map]
  by_cases c : 1 ≤ ns.length
  · rw [Nat.min_eq_left c, List.map_drop, List.take_of_length_le]
    rw [List.length_drop, List.length_map]
    exact Nat.le_refl _
  · have e : ns = [] := List.length_eq_zero_iff.mp (by omega)
    subst e
    rfl
def spRising (K : PySem.W.Frag) : Sp := fun vs H Q _ => ∃ (p : Addr) (ns : List Int), vs = [.ref p] ∧ SqA K H p (ns.map V.int) ∧ ns.length ≤ 100000 ∧ ∀ H' : Hp, Same H H' → Q (.bl (risingB ns)) H'
abbrev s_are_rising : Stmt := topS 3
theorem sc_are_rising : FnScope (["numbers", "low", "high"] : List Str) (["numbers"] : List Str) (defScope s_are_rising) := ⟨rfl, rfl, rfl, by decide +kernel, rfl, by decide +kernel, by decide +kernel⟩
theorem b_are_rising (kV doc pm : Value) (an : Option Addr) (cdv ct : Value) (us : List Value) (hl : us.length = (["numbers"] : List Str).length) : bindArgs (PySem.W.fnOf "are_rising" "are_rising" (defArgs s_are_rising) (defBody s_are_rising) (defScope s_are_rising) .none kV doc pm an cdv ct) ⟨us, []⟩ = pure ((["numbers"] : List Str).zip us) :=
  match us, hl with | [_], _ => rfl
section
variable {P : Program} {w : World} {K : PySem.W.Frag} {mg : Str → Option Value} {base : Heap}
set_option maxHeartbeats 4000000 in
theorem ok_rising {k : Nat} (D : Df K mg "are_rising" s_are_rising) (T : Bt mg) : Ok P w K mg base (k + 1) "are_rising" s_are_rising ["numbers"] (spRising K) := by
  refine D.ok sc_are_rising b_are_rising (fun vs H Q E h => ?_) (fun f cdv A outer s H vs Q E hr h => ?_)
  · obtain ⟨p, ns, rfl, _⟩ := h
    rfl
  · obtain ⟨p, ns, rfl, hp, l0, q⟩ := h
    refine ⟨_, (pss_one (ps_ret (pe_callB (cr_all rfl) (by rfl) T.all_ (by decide +kernel) (pa_cons (pe_lc (own := [("low", 1), ("high", 2)]) (g := (gSeq K 2 (gCons (gName 1) (gCons (gName 2) gNil)))) (tt := tYes) (by rfl) sc_are_rising.nd (RZ.pi_zipA (by rfl) T.zip_ (pa_cons (pv 0) (pa_cons (pe_slice (SlR.or sl_list sl_tupA) (pv 0) (po_some pe_int) po_none) pa_nil))) (blkOk_by (own := [("low", 1), ("high", 2)]) (N := (["numbers", "low", "high"] : List Str)) (sc := defScope s_are_rising) (by decide +kernel)) (fun _ _ _ _ _ => (pg_seq rfl (pgs_cons (pg_name (i := 1) sc_are_rising.nd rfl (.inl rfl)) (pgs_cons (pg_name (i := 2) sc_are_rising.nd rfl (.inl rfl)) pgs_nil)))) (fun _ _ _ _ _ => pts_nil) (fun _ _ _ _ _ => (pe_cmpR op_lt (pv 1) (pv 2) (nomark _)))) pa_nil)))), ?_⟩
    rcases hp with hp | hp
    · refine ⟨_, rfl, _, rfl, 1, rfl, .inl ⟨p, _, rfl, hp, fun b nb => ?_⟩⟩
      rw [cut_one]
      have s1 : Same H (upd H b (.lst ((ns.drop 1).map V.int))) := same_new nb
      have e1 : upd H b (.lst ((ns.drop 1).map V.int)) b = some (.lst ((ns.drop 1).map V.int)) := upd_same
      generalize upd H b (.lst ((ns.drop 1).map V.int)) = H1 at s1 e1
      replace hp := s1.seq hp
      refine ⟨p, b, _, _, rfl, .inl ⟨hp, SqL.of e1, fun C nC => ?_⟩⟩
      refine lc_it (walk_zip (n := ns.length - 1) (by rw [List.length_map, List.length_map, List.length_drop]; omega)) (fun i H' => Same H1 H' ∧ H' C = some (.lst (((List.range i).map (risesAt ns)).map V.bl))) ⟨same_new nC, upd_same⟩ (fun i H' _ p => ⟨p.1.seq hp, SqL.of (p.1 _ _ e1)⟩) ?_ ?_
      · rintro i z H2 H3 hi ⟨sm, hC⟩ ⟨t, u, v, rfl, nt, rfl, gu, gv⟩
        obtain ⟨a1, rfl⟩ : ∃ a1, u = .int ns[i] := ⟨0, by
          have g3 : (ns.map V.int)[i]? = some (.int ns[i]) := by rw [List.getElem?_map, List.getElem?_eq_getElem (by omega)]; rfl
          exact Option.some.inj (gu.symm.trans g3)⟩
        obtain ⟨a2, rfl⟩ : ∃ a2, v = .int ns[i + 1] := ⟨0, by
          have g3 : ((ns.drop 1).map V.int)[i]? = some (.int ns[i + 1]) := by
            rw [List.getElem?_map, List.getElem?_drop, Nat.add_comm 1 i, List.getElem?_eq_getElem (by omega)]
            rfl
          exact Option.some.inj (gv.symm.trans g3)⟩
        have sm2 : Same H1 (upd H2 t (.tup [.int ns[i], .int ns[i + 1]])) := sm.trans (same_new nt)
        have hC2 : upd H2 t (.tup [.int ns[i], .int ns[i + 1]]) C = _ := same_new nt _ _ hC
        refine ⟨t, _, rfl, SqA.t upd_same, rfl, _, _, rfl, _, _, rfl, rfl, rfl, tyes (iteT ?_)⟩
        refine ⟨_, rfl, _, rfl, _, _, rfl, rfl, _, hC2, ?_, same_over sm2 nC, ?_⟩
        · rw [List.length_map, List.length_map, List.length_range]
          exact Nat.lt_of_lt_of_le (show i < 100000 by omega) (by decide)
        · rw [upd_same, List.range_succ, List.map_append, List.map_append]
          show _ = some (HO.lst (_ ++ [V.bl (risesAt ns i)]))
          rw [rises_lt (by omega)]
      · rintro H2 ⟨sm, hC⟩
        refine ⟨C, _, rfl, SqL.of hC, ?_⟩
        rw [rises_all]
        exact q _ (s1.trans sm)
    · refine ⟨_, rfl, _, rfl, 1, rfl, .inr ⟨p, _, rfl, hp, fun whole => ?_, fun _ b nb => ?_⟩⟩
      · have e : ns = [] := by
          have := whole.1
          rw [show (some (1 : Int)) = some ((1 : Nat) : Int) from rfl, HT.sIx_nat, List.length_map] at this
          exact List.length_eq_zero_iff.mp (by omega)
        subst e
        refine ⟨p, p, _, _, rfl, .inr ⟨hp, hp, fun C nC => ?_⟩⟩
        refine lc_it (walk_zipT (n := 0) rfl) (fun i H' => Same H H' ∧ H' C = some (.lst [])) ⟨same_new nC, upd_same⟩ (fun i H' _ p => ⟨Same.tup p.1 hp, Same.tup p.1 hp⟩) ?_ ?_
        · intro i z H2 H3 hi
          exact absurd hi (Nat.not_lt_zero _)
        · rintro H2 ⟨sm, hC⟩
          refine ⟨C, [], rfl, SqL.of hC, ?_⟩
          exact q _ sm
      rw [cut_one]
      have s1 : Same H (upd H b (.tup ((ns.drop 1).map V.int))) := same_new nb
      have e1 : upd H b (.tup ((ns.drop 1).map V.int)) b = some (.tup ((ns.drop 1).map V.int)) := upd_same
      generalize upd H b (.tup ((ns.drop 1).map V.int)) = H1 at s1 e1
      replace hp := Same.tup s1 hp
      refine ⟨p, b, _, _, rfl, .inr ⟨hp, SqT.of e1, fun C nC => ?_⟩⟩
      refine lc_it (walk_zipT (n := ns.length - 1) (by rw [List.length_map, List.length_map, List.length_drop]; omega)) (fun i H' => Same H1 H' ∧ H' C = some (.lst (((List.range i).map (risesAt ns)).map V.bl))) ⟨same_new nC, upd_same⟩ (fun i H' _ p => ⟨Same.tup p.1 hp, SqT.of (p.1 _ _ e1)⟩) ?_ ?_
      · rintro i z H2 H3 hi ⟨sm, hC⟩ ⟨t, u, v, rfl, nt, rfl, gu, gv⟩
        obtain ⟨a1, rfl⟩ : ∃ a1, u = .int ns[i] := ⟨0, by
          have g3 : (ns.map V.int)[i]? = some (.int ns[i]) := by rw [List.getElem?_map, List.getElem?_eq_getElem (by omega)]; rfl
          exact Option.some.inj (gu.symm.trans g3)⟩
        obtain ⟨a2, rfl⟩ : ∃ a2, v = .int ns[i + 1] := ⟨0, by
          have g3 : ((ns.drop 1).map V.int)[i]? = some (.int ns[i + 1]) := by
            rw [List.getElem?_map, List.getElem?_drop, Nat.add_comm 1 i, List.getElem?_eq_getElem (by omega)]
            rfl
          exact Option.some.inj (gv.symm.trans g3)⟩
        have sm2 : Same H1 (upd H2 t (.tup [.int ns[i], .int ns[i + 1]])) := sm.trans (same_new nt)
        have hC2 : upd H2 t (.tup [.int ns[i], .int ns[i + 1]]) C = _ := same_new nt _ _ hC
        refine ⟨t, _, rfl, SqA.t upd_same, rfl, _, _, rfl, _, _, rfl, rfl, rfl, tyes (iteT ?_)⟩
        refine ⟨_, rfl, _, rfl, _, _, rfl, rfl, _, hC2, ?_, same_over sm2 nC, ?_⟩
        · rw [List.length_map, List.length_map, List.length_range]
          exact Nat.lt_of_lt_of_le (show i < 100000 by omega) (by decide)
        · rw [upd_same, List.range_succ, List.map_append, List.map_append]
          show _ = some (HO.lst (_ ++ [V.bl (risesAt ns i)]))
          rw [rises_lt (by omega)]
      · rintro H2 ⟨sm, hC⟩
        refine ⟨C, _, rfl, SqL.of hC, ?_⟩
        rw [rises_all]
        exact q _ (s1.trans sm)
end
end Sh

namespace Sh
open PySem PySem.Spec PyProof.Rows L2
/-! ### places, seas, standings: of any data -/
def isPlD (c : Nat) : PyData → Bool
  | .int i => decide (0 ≤ i) && decide (i < (c : Int))
  | _ => false
def isTuD : PyData → Bool
  | .tuple _ => true
  | _ => false
def drD : PyData → Bool
  | .tuple ds => decide (0 < ds.length) && ds.all isNumD
  | _ => false
def isSea3 : List PyData → Bool
  | [a, b, c] => isNumD a && (isNumD b && (isTuD c && drD c))
  | _ => false
def isSeaD : PyData → Bool
  | .tuple ds => isSea3 ds
  | _ => false
def intD : PyData → Int
  | .int i => i
  | _ => 0
def isStD (c : Nat) : PyData → Bool
  | .tuple ds => ds.all (isPlD c) && risingB (ds.map intD)
  | _ => false
theorem dp_num {K : PySem.W.Frag} {H : Hp} {v : V} {d : PyData} (h : Dp K H v d) (n : isNumD d = true) : ∃ i : Int, v = .int i ∧ d = .int i ∧ 0 ≤ i := by
  cases h with
  | int i => exact ⟨i, rfl, rfl, of_decide_eq_true n⟩
  | _ => cases n
theorem pl_num {c : Nat} {d : PyData} (n : isNumD d = false) : isPlD c d = false := by
  cases d with
  | int i =>
    show (decide (0 ≤ i) && _) = false
    rw [show decide (0 ≤ i) = false from n, Bool.false_and]
  | _ => rfl
theorem dps_ints {K : PySem.W.Frag} {H : Hp} {c : Nat} : ∀ {vs : List V} {ds : List PyData}, DpAll K H vs ds → ds.all (isPlD c) = true → vs = (ds.map intD).map V.int
  | _, _, .nil, _ => rfl
  | _, _, .cons x a, h => by
    rw [List.all_cons, Bool.and_eq_true] at h
    have ih := dps_ints a h.2
    cases x with
    | int i => rw [List.map_cons, List.map_cons, ← ih]; rfl
    | _ => cases h.1
theorem three_of {α : Type} {l : List α} (h : l.length = 3) : ∃ a b c, l = [a, b, c] := by
  match l, h with
  | [a, b, c], _ => exact ⟨a, b, c, rfl⟩
theorem sea_tup {d : PyData} (n : isTupD 3 d = false) : isSeaD d = false := by
  cases d with
  | tuple ds =>
    have h : ds.length ≠ 3 := of_decide_eq_false n
    show isSea3 ds = false
    match ds, h with
    | [], _ => rfl
    | [_], _ => rfl
    | [_, _], _ => rfl
    | [_, _, _], h => exact absurd rfl h
    | _ :: _ :: _ :: _ :: _, _ => rfl
  | _ => rfl
theorem dp_three {K : PySem.W.Frag} {H : Hp} {v : V} {d : PyData} (h : Dp K H v d) (n : isTupD 3 d = true) : ∃ (p : Addr) (x y z : V) (a b c : PyData), v = .ref p ∧ d = .tuple [a, b, c] ∧ SqT K H p [x, y, z] ∧ Dp K H x a ∧ Dp K H y b ∧ Dp K H z c := by
  cases h with
  | tup h all =>
    rename_i p xs ds
    have l : ds.length = 3 := of_decide_eq_true n
    obtain ⟨a, b, c, rfl⟩ := three_of l
    cases all with
    | cons x all =>
      cases all with
      | cons y all =>
        cases all with
        | cons z all =>
          cases all
          exact ⟨p, _, _, _, a, b, c, rfl, rfl, h, x, y, z⟩
  | non => cases n
  | bl b => cases n
  | int i => cases n
  | str x => cases n
  | lst h a => cases n
theorem dp_tup {K : PySem.W.Frag} {H : Hp} {v : V} {d : PyData} (h : Dp K H v d) (n : isTuD d = true) : ∃ (p : Addr) (xs : List V) (ds : List PyData), v = .ref p ∧ d = .tuple ds ∧ SqT K H p xs ∧ DpAll K H xs ds := by
  cases h with
  | tup h all => exact ⟨_, _, _, rfl, rfl, h, all⟩
  | _ => cases n
theorem kit_tup {d : PyData} : kitB (tyS d) "tuple" = some (isTuD d) := by
  cases d with
  | none => exact (by decide +kernel : kitB "NoneType" "tuple" = some false)
  | bool b => exact (by decide +kernel : kitB "bool" "tuple" = some false)
  | int i => exact (by decide +kernel : kitB "int" "tuple" = some false)
  | str s => exact (by decide +kernel : kitB "str" "tuple" = some false)
  | list xs => exact (by decide +kernel : kitB "list" "tuple" = some false)
  | tuple xs => exact (by decide +kernel : kitB "tuple" "tuple" = some true)
  | dict kvs => exact (by decide +kernel : kitB "dict" "tuple" = some false)
theorem sea_three (a b c : PyData) : isSeaD (.tuple [a, b, c]) = (isNumD a && (isNumD b && (isTuD c && drD c))) := rfl
def spIsPlace (K : PySem.W.Frag) : Sp := fun vs H Q _ => ∃ (v z : V) (h t : Int) (ds : List Int) (d : PyData), vs = [v, z] ∧ SeaA K H v h t ds ∧ Dp K H z d ∧ Q (.bl (isPlD ds.length d)) H
def spIsSea (K : PySem.W.Frag) : Sp := fun vs H Q _ => ∃ (n : Nat) (v : V) (d : PyData), vs = [v] ∧ Dp K H v d ∧ Lv n d ∧ ∀ H', Same H H' → Q (.bl (isSeaD d)) H'
def spIsStand (K : PySem.W.Frag) : Sp := fun vs H Q _ => ∃ (n : Nat) (v z : V) (h t : Int) (ds : List Int) (d : PyData), vs = [v, z] ∧ SeaA K H v h t ds ∧ Dp K H z d ∧ Lv n d ∧ ∀ H', Same H H' → Q (.bl (isStD ds.length d)) H'
abbrev s_is_place : Stmt := topS 10
theorem sc_is_place : FnScope (["sea", "thing"] : List Str) (["sea", "thing"] : List Str) (defScope s_is_place) := ⟨rfl, rfl, rfl, by decide +kernel, rfl, by decide +kernel, by decide +kernel⟩
theorem b_is_place (kV doc pm : Value) (an : Option Addr) (cdv ct : Value) (us : List Value) (hl : us.length = (["sea", "thing"] : List Str).length) : bindArgs (PySem.W.fnOf "is_place" "is_place" (defArgs s_is_place) (defBody s_is_place) (defScope s_is_place) .none kV doc pm an cdv ct) ⟨us, []⟩ = pure ((["sea", "thing"] : List Str).zip us) :=
  match us, hl with | [_, _], _ => rfl
abbrev s_is_sea : Stmt := topS 9
theorem sc_is_sea : FnScope (["thing", "here", "there", "draughts", "draught"] : List Str) (["thing"] : List Str) (defScope s_is_sea) := ⟨rfl, rfl, rfl, by decide +kernel, rfl, by decide +kernel, by decide +kernel⟩
theorem b_is_sea (kV doc pm : Value) (an : Option Addr) (cdv ct : Value) (us : List Value) (hl : us.length = (["thing"] : List Str).length) : bindArgs (PySem.W.fnOf "is_sea" "is_sea" (defArgs s_is_sea) (defBody s_is_sea) (defScope s_is_sea) .none kV doc pm an cdv ct) ⟨us, []⟩ = pure ((["thing"] : List Str).zip us) :=
  match us, hl with | [_], _ => rfl
abbrev s_is_standing : Stmt := topS 11
theorem sc_is_standing : FnScope (["sea", "thing", "ship"] : List Str) (["sea", "thing"] : List Str) (defScope s_is_standing) := ⟨rfl, rfl, rfl, by decide +kernel, rfl, by decide +kernel, by decide +kernel⟩
theorem b_is_standing (kV doc pm : Value) (an : Option Addr) (cdv ct : Value) (us : List Value) (hl : us.length = (["sea", "thing"] : List Str).length) : bindArgs (PySem.W.fnOf "is_standing" "is_standing" (defArgs s_is_standing) (defBody s_is_standing) (defScope s_is_standing) .none kV doc pm an cdv ct) ⟨us, []⟩ = pure ((["sea", "thing"] : List Str).zip us) :=
  match us, hl with | [_, _], _ => rfl
section
variable {P : Program} {w : World} {K : PySem.W.Frag} {mg : Str → Option Value} {base : Heap}
theorem ok_is_place {k : Nat} (D : Df K mg "is_place" s_is_place) (T : Bt mg) (O_is_number : Ok P w K mg base k "is_number" s_is_number ["thing"] (spIsNum K)) : Ok P w K mg base (k + 1) "is_place" s_is_place ["sea", "thing"] (spIsPlace K) := by
  refine D.ok sc_is_place b_is_place (fun vs H Q E h => ?_) (fun f cdv A outer s H vs Q E hr h => ?_)
  · obtain ⟨v, z, h, t, ds, d, rfl, _⟩ := h
    rfl
  · obtain ⟨v, z, h, t, ds, d, rfl, ⟨p, q', rfl, hp, hq⟩, hz, q⟩ := h
    refine ⟨_, (pss_one (ps_ret (pe_and (pe_fn O_is_number (hr.mono (by omega)) (pa_cons (pv 1) pa_nil)) (pe_one (pe_cmpR op_lt (pv 1) (pe_callB call_len_seq (by rfl) T.len_ PySem.boot_len (pa_cons (pe_ix ix_lt (pv 0) pe_int (fun _ _ => rfl)) pa_nil)) (nomark _)))))), ?_⟩
    refine ⟨_, rfl, z, d, rfl, hz, _, rfl, ?_⟩
    cases e : isNumD d with
    | false =>
      rw [pl_num e] at q
      exact q
    | true =>
      obtain ⟨i, rfl, rfl, i0⟩ := dp_num hz e
      refine ⟨_, rfl, _, rfl, p, _, 2, .ref q', rfl, rfl, hp, rfl, q', _, rfl, hq, _, _, rfl, rfl, ?_⟩
      rw [List.length_map]
      have : isPlD ds.length (.int i) = decide (i < (ds.length : Int)) := by
        show (decide (0 ≤ i) && _) = _
        rw [decide_eq_true i0, Bool.true_and]
      rw [this] at q
      exact q
set_option maxHeartbeats 4000000 in
theorem ok_is_sea {k : Nat} (D : Df K mg "is_sea" s_is_sea) (T : Bt mg) (O_is_number : Ok P w K mg base k "is_number" s_is_number ["thing"] (spIsNum K)) (O_is_tuple_of : Ok P w K mg base k "is_tuple_of" s_is_tuple_of ["thing", "many"] (spIsTup K)) : Ok P w K mg base (k + 1) "is_sea" s_is_sea ["thing"] (spIsSea K) := by
  refine D.ok sc_is_sea b_is_sea (fun vs H Q E h => ?_) (fun f cdv A outer s H vs Q E hr h => ?_)
  · obtain ⟨n, v, d, rfl, _⟩ := h
    rfl
  · obtain ⟨n, v, d, rfl, hv, lv, q⟩ := h
    refine ⟨_, (pss_cons (ps_if (pt_not (pt_val (pe_fn O_is_tuple_of (hr.mono (by omega)) (pa_cons (pv 0) (pa_cons pe_int pa_nil)))))
        (pss_one (ps_ret pe_bl))
        pss_nil)
      (pss_cons (ps_asg (pv 0) (pg_seq rfl (pgs_cons (pg_name (i := 1) sc_is_sea.nd rfl (.inl rfl)) (pgs_cons (pg_name (i := 2) sc_is_sea.nd rfl (.inl rfl)) (pgs_cons (pg_name (i := 3) sc_is_sea.nd rfl (.inl rfl)) pgs_nil)))))
      (pss_cons (ps_if (pt_not (PW.pt (pw_and (pt_val (pe_fn O_is_number (hr.mono (by omega)) (pa_cons (pv 1) pa_nil))) (pw_and (pt_val (pe_fn O_is_number (hr.mono (by omega)) (pa_cons (pv 2) pa_nil))) (pw_and1 (pt_val (pe_callB call_isi (by rfl) T.isinstance_ (by decide +kernel) (pa_cons (pv 3) (pa_cons (pe_bltn (v := .ty "tuple") (by rfl) T.tuple_ (by decide +kernel) rfl) pa_nil)))))))))
        (pss_one (ps_ret pe_bl))
        pss_nil)
      (pss_one (ps_ret (pe_and (pe_cmpR op_gt (pe_callB call_len_seq (by rfl) T.len_ PySem.boot_len (pa_cons (pv 3) pa_nil)) pe_int (nomark _)) (pe_one (pe_callB (cr_all rfl) (by rfl) T.all_ (by decide +kernel) (pa_cons (pe_lc (own := [("draught", 4)]) (g := (gName 4)) (tt := tYes) (by rfl) sc_is_sea.nd (pi_seq (pv 3)) (blkOk_by (own := [("draught", 4)]) (N := (["thing", "here", "there", "draughts", "draught"] : List Str)) (sc := defScope s_is_sea) (by decide +kernel)) (fun _ _ _ _ _ => (pg_name (i := 4) sc_is_sea.nd rfl (.inl rfl))) (fun _ _ _ _ _ => pts_nil) (fun _ _ _ _ _ => (pe_fn O_is_number (hr.mono (by omega)) (pa_cons (pv 4) pa_nil)))) pa_nil))))))))), ?_⟩
    refine ⟨_, rfl, v, d, 3, rfl, hv, _, rfl, ?_⟩
    cases e : isTupD 3 d with
    | false =>
      rw [sea_tup e] at q
      exact iteT (q _ (Same.refl _))
    | true =>
      obtain ⟨p, x, y, z, a, b, c, rfl, rfl, hp, hx, hy, hz⟩ := dp_three hv e
      refine iteF ?_
      rw [sea_three] at q
      refine ⟨_, rfl, p, _, rfl, .inr hp, rfl, _, _, rfl, _, _, rfl, _, _, rfl, rfl, ?_⟩
      refine ⟨_, rfl, x, a, rfl, hx, _, rfl, ?_⟩
      cases ea : isNumD a with
      | false =>
        rw [ea] at q
        exact iteF (iteT (q _ (Same.refl _)))
      | true =>
        rw [ea, Bool.true_and] at q
        refine ⟨_, rfl, y, b, rfl, hy, _, rfl, ?_⟩
        cases eb : isNumD b with
        | false =>
          rw [eb] at q
          exact iteF (iteT (q _ (Same.refl _)))
        | true =>
          rw [eb, Bool.true_and] at q
          refine ⟨_, rfl, z, .ty "tuple", _, .type "tuple", isTuD c, rfl, .ty _, ty_of hz, kit_ty kit_tup, _, rfl, ?_⟩
          cases ec : isTuD c with
          | false =>
            rw [ec] at q
            exact iteT (q _ (Same.refl _))
          | true =>
            rw [ec, Bool.true_and] at q
            obtain ⟨pc, xs, cs, rfl, rfl, hc, al⟩ := dp_tup hz ec
            have lx := DpAll.len al
            have lc : cs.length ≤ 100000 := by
              cases n with
              | zero => exact lv.elim
              | succ n =>
                have := lv.2 _ (show PyData.tuple cs ∈ [a, b, PyData.tuple cs] by simp)
                cases n with
                | zero => exact this.elim
                | succ n => exact this.1
            refine iteF ?_
            have eq : drD (.tuple cs) = (decide (0 < cs.length) && cs.all isNumD) := rfl
            rw [eq] at q
            refine ⟨_, rfl, pc, _, rfl, .inr hc, _, 0, rfl, rfl, _, rfl, ?_⟩
            rw [lx]
            by_cases l0 : 0 < cs.length
            · rw [decide_eq_true l0, Bool.true_and] at q
              have l1 : decide ((cs.length : Int) > 0) = true := decide_eq_true (by omega)
              rw [l1]
              refine iteT ?_
              refine ⟨_, rfl, pc, _, H, rfl, .inr hc, Kp.refl _ _, fun J hJ C nC => ?_⟩
              obtain ⟨G, g, W⟩ := hJ.walk
              refine lc_it W (fun i H' => Same H H' ∧ H' C = some (.lst (((cs.take i).map isNumD).map V.bl))) ⟨same_new nC, upd_same⟩ (fun i H' _ z => g H' (.ofS z.1)) ?_ ?_
              · rintro i x' Ha Hb hi ⟨sm, hC⟩ ⟨rfl, gx⟩
                rw [lx] at hi
                obtain ⟨d, gd, hd⟩ := DpAll.get al gx
                obtain rfl : cs[i] = d := by
                  rw [List.getElem?_eq_getElem hi] at gd
                  exact Option.some.inj gd
                refine ⟨rfl, tyes (iteT ?_)⟩
                refine ⟨_, rfl, x', cs[i], rfl, Dp.same sm hd, _, hC, ?_, same_over sm nC, ?_⟩
                · rw [List.length_map, List.length_map, List.length_take]
                  exact Nat.lt_of_lt_of_le (show min i cs.length < 100000 by omega) (by decide)
                · rw [upd_same, take_succ_get hi, List.map_append, List.map_append]
                  rfl
              · rintro Ha ⟨sm, hC⟩
                rw [lx, List.take_length] at hC
                refine ⟨C, _, rfl, SqL.of hC, ?_⟩
                have : (cs.map isNumD).all id = cs.all isNumD := by rw [List.all_map]; rfl
                rw [this]
                exact q _ sm
            · rw [decide_eq_false l0, Bool.false_and] at q
              have l1 : decide ((cs.length : Int) > 0) = false := decide_eq_false (by omega)
              rw [l1]
              exact iteF (q _ (Same.refl _))
set_option maxHeartbeats 4000000 in
theorem ok_is_stand {k : Nat} (D : Df K mg "is_standing" s_is_standing) (T : Bt mg) (O_is_place : Ok P w K mg base k "is_place" s_is_place ["sea", "thing"] (spIsPlace K)) (O_are_rising : Ok P w K mg base k "are_rising" s_are_rising ["numbers"] (spRising K)) : Ok P w K mg base (k + 1) "is_standing" s_is_standing ["sea", "thing"] (spIsStand K) := by
  refine D.ok sc_is_standing b_is_standing (fun vs H Q E h => ?_) (fun f cdv A outer s H vs Q E hr h => ?_)
  · obtain ⟨n, v, z, h, t, ds, d, rfl, _⟩ := h
    rfl
  · obtain ⟨n, v, z, h, t, ds, d, rfl, hv, hz, lv, q⟩ := h
    refine ⟨_, (pss_cons (ps_if (pt_not (pt_val (pe_callB call_isi (by rfl) T.isinstance_ (by decide +kernel) (pa_cons (pv 1) (pa_cons (pe_bltn (v := .ty "tuple") (by rfl) T.tuple_ (by decide +kernel) rfl) pa_nil)))))
        (pss_one (ps_ret pe_bl))
        pss_nil)
      (pss_one (ps_ret (pe_and (pe_callB (cr_all rfl) (by rfl) T.all_ (by decide +kernel) (pa_cons (pe_lc (own := [("ship", 2)]) (g := (gName 2)) (tt := tYes) (by rfl) sc_is_standing.nd (pi_seq (pv 1)) (blkOk_by (own := [("ship", 2)]) (N := (["sea", "thing", "ship"] : List Str)) (sc := defScope s_is_standing) (by decide +kernel)) (fun _ _ _ _ _ => (pg_name (i := 2) sc_is_standing.nd rfl (.inl rfl))) (fun _ _ _ _ _ => pts_nil) (fun _ _ _ _ _ => (pe_fn O_is_place (hr.mono (by omega)) (pa_cons (pv 0) (pa_cons (pv 2) pa_nil))))) pa_nil)) (pe_one (pe_fn O_are_rising (hr.mono (by omega)) (pa_cons (pv 1) pa_nil))))))), ?_⟩
    refine ⟨_, rfl, z, .ty "tuple", _, .type "tuple", isTuD d, rfl, .ty _, ty_of hz, kit_ty kit_tup, _, rfl, ?_⟩
    cases ec : isTuD d with
    | false =>
      have : isStD ds.length d = false := by cases d <;> first | rfl | cases ec
      rw [this] at q
      exact iteT (q _ (Same.refl _))
    | true =>
      obtain ⟨pc, xs, cs, rfl, rfl, hc, al⟩ := dp_tup hz ec
      have lx := DpAll.len al
      have lc : cs.length ≤ 100000 := by
        cases n with
        | zero => exact lv.elim
        | succ n => exact lv.1
      refine iteF ?_
      refine ⟨_, rfl, pc, _, H, rfl, .inr hc, Kp.refl _ _, fun J hJ C nC => ?_⟩
      obtain ⟨G, g, W⟩ := hJ.walk
      refine lc_it W (fun i H' => Same H H' ∧ H' C = some (.lst (((cs.take i).map (isPlD ds.length)).map V.bl))) ⟨same_new nC, upd_same⟩ (fun i H' _ z => g H' (.ofS z.1)) ?_ ?_
      · rintro i x' Ha Hb hi ⟨sm, hC⟩ ⟨rfl, gx⟩
        rw [lx] at hi
        obtain ⟨d, gd, hd⟩ := DpAll.get al gx
        obtain rfl : cs[i] = d := by
          rw [List.getElem?_eq_getElem hi] at gd
          exact Option.some.inj gd
        refine ⟨rfl, tyes (iteT ?_)⟩
        refine ⟨_, rfl, _, rfl, v, x', h, t, ds, cs[i], rfl, hv.same sm, Dp.same sm hd, _, hC, ?_, same_over sm nC, ?_⟩
        · rw [List.length_map, List.length_map, List.length_take]
          exact Nat.lt_of_lt_of_le (show min i cs.length < 100000 by omega) (by decide)
        · rw [upd_same, take_succ_get hi, List.map_append, List.map_append]
          rfl
      · rintro Ha ⟨sm, hC⟩
        rw [lx, List.take_length] at hC
        refine ⟨C, _, rfl, SqL.of hC, _, rfl, ?_⟩
        have : (cs.map (isPlD ds.length)).all id = cs.all (isPlD ds.length) := by rw [List.all_map]; rfl
        rw [this]
        have eq : isStD ds.length (.tuple cs) = (cs.all (isPlD ds.length) && risingB (cs.map intD)) := rfl
        rw [eq] at q
        cases ea : cs.all (isPlD ds.length) with
        | false =>
          rw [ea] at q
          exact q _ sm
        | true =>
          rw [ea, Bool.true_and] at q
          have xe := dps_ints al ea
          rw [xe] at hc
          exact ⟨_, rfl, pc, cs.map intD, rfl, .inr (Same.tup sm hc), by rw [List.length_map]; exact lc, fun H' s' => q _ (sm.trans s')⟩
end
end Sh

namespace Sh
open PySem PySem.Spec PyProof.Rows L2
/-! ### tuples put together, cut: one way out, whatever is empty -/
def rCatS (K : PySem.W.Frag) : R2 := fun x y H Q => ∃ a b xs ys, x = .ref a ∧ y = .ref b ∧ SqT K H a xs ∧ SqT K H b ys ∧ xs.length + ys.length ≤ sizeLine ∧ ∀ (r : Addr) (H' : Hp), Same H H' → SqT K H' r (xs ++ ys) → Q (.ref r) H'
theorem op_catS {X : Cx} : OpR X (binaryOp .Add) (rCatS X.K) := by
  intro pins s σ H x y v u Q I rx ry h
  obtain ⟨a, b, xs, ys, e1, e2, hx, hy, l, q⟩ := h
  refine op_catA pins s σ H x y v u Q I rx ry ⟨a, b, xs, ys, e1, e2, hx, hy, l, fun z => ?_, fun _ z => ?_, fun _ _ p np => q p _ (same_new np) (SqT.of upd_same)⟩
  · subst z
    exact q b H (Same.refl _) hy
  · subst z
    refine q a H (Same.refl _) ?_
    rw [List.append_nil]
    exact hx
def rSlS (K : PySem.W.Frag) : V → Option Int → Option Int → Hp → VK → Prop := fun x lo hi H Q => ∃ a xs, x = .ref a ∧ SqT K H a xs ∧ ∀ (r : Addr) (H' : Hp), Same H H' → SqT K H' r (cutV xs lo hi) → Q (.ref r) H'
theorem sl_tupS {X : Cx} : SlR X (rSlS X.K) := by
  intro pins s σ H x v vl vu lo hi sl Q I rx hs pl pu h
  obtain ⟨a, xs, e, hx, q⟩ := h
  refine sl_tupA pins s σ H x v vl vu lo hi sl Q I rx hs pl pu ⟨a, xs, e, hx, fun w => q a H (Same.refl _) ?_, fun _ p np => q p _ (same_new np) (SqT.of upd_same)⟩
  unfold cutV
  rw [w.1, w.2, List.drop_zero, Nat.sub_zero, List.take_length]
  exact hx
theorem cut_drop (xs : List V) (l : Nat) : cutV xs (some (l : Int)) none = xs.drop l := by
  unfold cutV
  rw [HT.sIx_none, HT.sIx_nat]
  by_cases c : l ≤ xs.length
  · rw [Nat.min_eq_left c, List.take_of_length_le (by rw [List.length_drop]; exact Nat.le_refl _)]
  · rw [Nat.min_eq_right (by omega), List.drop_length, List.drop_of_length_le (by omega), List.take_nil]
/-- [x for x in xs if test], the test may lay new things -/
theorem lc_filterS {σ : L2.St} {H : Hp} {C : Addr} {vs : List Nat} {i : Nat} {tt : TT} {Qd : Hp → Prop} {X : List Nat} {J : It} {G : Hp → Prop} (p : Nat → Bool) (W : Walk J (ni X).length G (YAt (ni X))) (g : ∀ H', Same H H' → G H') (nC : H C = none) (lX : X.length ≤ 1000)
    (hw : ∀ v, wipe ((wipe σ vs).set i (some v)) vs = wipe σ vs) (hv : ∀ v : V, ((wipe σ vs).set i (some v))[i]? = some (some v))
    (ht : ∀ x ∈ X, ∀ H', Same H H' → ∀ Q : Bool → Hp → Prop, (∀ H2, Same H' H2 → Q (p x) H2) → tt ((wipe σ vs).set i (some (.int (x : Int)))) H' Q) (hd : ∀ H', Same H H' → H' C = some (.lst (ni (X.filter p))) → Qd H') :
    ∃ W : Nat → Nat → Hp → Prop, (∃ m, W 0 m (upd H C (.lst []))) ∧ ∀ j m H, W j m H →
      (J.stop j H ∧ Qd H) ∨ (J.go j H ∧ ∃ Nx : Hp → Prop, (∀ H', Nx H' → ∃ m', m' < m ∧ W (j + 1) m' H') ∧ ∀ x H', J.yld j H x H' → gName i x (wipe σ vs) H' fun σ2 H2 => wipe σ2 vs = wipe σ vs ∧ tt σ2 H2 fun b H3 =>
        if b = true then tVar i σ2 H3 fun y H4 => ∃ acc, H4 C = some (.lst acc) ∧ acc.length < sizeLine ∧ Nx (upd H4 C (.lst (acc ++ [y]))) else Nx H3) := by
  refine lc_it W (fun j H' => Same H H' ∧ H' C = some (.lst (ni ((X.take j).filter p)))) ⟨same_new nC, upd_same⟩ (fun j H' _ z => g H' z.1) ?_ ?_
  · rintro j x H3 H4 hj ⟨s3, hC⟩ ⟨rfl, gx⟩
    rw [ni_len] at hj
    obtain rfl : .int ((X[j] : Nat) : Int) = x := Option.some.inj ((ni_get hj).symm.trans gx)
    refine ⟨hw _, ht X[j] (List.getElem_mem hj) _ s3 _ fun H5 s5 => ?_⟩
    cases e : p X[j] with
    | true =>
      rw [if_pos rfl]
      refine ⟨_, hv _, _, s5 _ _ hC, ?_, same_over (s3.trans s5) nC, ?_⟩
      · rw [ni_len]
        have h1 := List.length_filter_le p (X.take j)
        rw [List.length_take] at h1
        exact small1000 (by omega)
      · rw [upd_same, take_succ_get hj, List.filter_append, ni_app, List.filter_cons_of_pos e]
        rfl
    | false =>
      rw [if_neg Bool.false_ne_true]
      refine ⟨s3.trans s5, ?_⟩
      rw [s5 _ _ hC, take_succ_get hj, List.filter_append, List.filter_cons_of_neg (by rw [e]; exact Bool.false_ne_true)]
      simp
  · rintro H3 ⟨s3, hC⟩
    rw [ni_len, List.take_length] at hC
    exact hd H3 s3 hC
end Sh

namespace Sh
open PySem PySem.Spec PyProof.Rows L2
/-! ### the program: steps -/
def mk (h t : Int) (k : Nat) (s : Int) : Int := if t + ((k : Int) - 1 - s) < h + s then t + ((k : Int) - 1 - s) else h + s
def gs (m : Int) (ds : List Int) (n : Nat) : List Nat := (List.range n).filter fun i => decide (ds.getD i 0 ≤ m)
def topI (h t : Int) (k : Nat) : Int := if (if (t + ((k : Int) - 1) - h) / 2 < (k : Int) - 1 then (t + ((k : Int) - 1) - h) / 2 else (k : Int) - 1) > 0 then (if (t + ((k : Int) - 1) - h) / 2 < (k : Int) - 1 then (t + ((k : Int) - 1) - h) / 2 else (k : Int) - 1) else 0
def lowI (h d : Int) : Int := if d - h > 0 then d - h else 0
def highI (t : Int) (k : Nat) (d : Int) : Int := if t + ((k : Int) - 1) - d < (k : Int) - 1 then t + ((k : Int) - 1) - d else (k : Int) - 1
def spMark (K : PySem.W.Frag) : Sp := fun vs H Q _ => ∃ (v : V) (h t s : Int) (ds : List Int), vs = [v, .int s] ∧ SeaA K H v h t ds ∧ Q (.int (mk h t ds.length s)) H
def spGoers (K : PySem.W.Frag) : Sp := fun vs H Q _ => ∃ (v : V) (h t s : Int) (ds : List Int), vs = [v, .int s] ∧ SeaA K H v h t ds ∧ ds.length ≤ 1000 ∧
  ∀ (H' : Hp) (p : Addr), Same H H' → H p = none → H' p = some (.lst (((gs (mk h t ds.length s) ds ds.length).map fun (i : Nat) => (i : Int)).map V.int)) → Q (.ref p) H'
def spTop (K : PySem.W.Frag) : Sp := fun vs H Q _ => ∃ (v : V) (h t : Int) (ds : List Int), vs = [v] ∧ SeaA K H v h t ds ∧ Q (.int (topI h t ds.length)) H
def spWindow (K : PySem.W.Frag) : Sp := fun vs H Q _ => ∃ (v : V) (h t d : Int) (j : Nat) (ds : List Int), vs = [v, .int (j : Int)] ∧ SeaA K H v h t ds ∧ ds[j]? = some d ∧
  (lowI h d > highI t ds.length d → Q .non H) ∧ (¬ lowI h d > highI t ds.length d → ∀ p, H p = none → Q (.ref p) (upd H p (.tup [.int (lowI h d), .int (highI t ds.length d)])))
theorem gs_succ {m : Int} {ds : List Int} {n : Nat} : gs m ds (n + 1) = gs m ds n ++ (if ds.getD n 0 ≤ m then [n] else []) := by
  unfold gs
  rw [List.range_succ, List.filter_append]
  congr 1
  by_cases h : ds.getD n 0 ≤ m
  · rw [if_pos h, List.filter_cons_of_pos (by simpa using h)]
    rfl
  · rw [if_neg h, List.filter_cons_of_neg (by simpa using h)]
    rfl
theorem gs_len {m : Int} {ds : List Int} {n : Nat} : (gs m ds n).length ≤ n := by
  unfold gs
  exact Nat.le_trans (List.length_filter_le _ _) (by simp)
theorem mk_alt (h t : Int) (k : Nat) (s : Int) : (if t + (k : Int) - 1 - s < h + s then t + (k : Int) - 1 - s else h + s) = mk h t k s := by
  unfold mk
  rw [show t + (k : Int) - 1 - s = t + ((k : Int) - 1 - s) by omega]
end Sh

namespace Sh
open PySem PySem.Spec PyProof.Rows L2
/-! ### steps: the mathematics -/
def ml (h t : Int) (k n : Nat) : List Int := (List.range n).map fun (i : Nat) => mk h t k (i : Int)
theorem ml_succ (h t : Int) (k n : Nat) : ml h t k (n + 1) = ml h t k n ++ [mk h t k (n : Int)] := by
  unfold ml
  rw [List.range_succ, List.map_append]
  rfl
theorem ml_len (h t : Int) (k n : Nat) : (ml h t k n).length = n := by
  unfold ml
  simp
theorem ml_get {h t : Int} {k n i : Nat} (hi : i < n) : (ml h t k n)[i]? = some (mk h t k (i : Int)) := by
  unfold ml
  simp [hi]
theorem top_lo (h t : Int) (k : Nat) : 0 ≤ topI h t k := by
  unfold topI
  split <;> omega
theorem top_hi (h t : Int) {k : Nat} (hk : 0 < k) : topI h t k < (k : Int) := by
  unfold topI
  repeat' split
  all_goals omega
theorem top_max (h t : Int) {k i : Nat} (hi : i < k) : mk h t k (i : Int) ≤ mk h t k (topI h t k) := by
  unfold mk topI
  repeat' split
  all_goals omega
theorem top_least (h t : Int) {k i : Nat} (hi : (i : Int) < topI h t k) : mk h t k (i : Int) < mk h t k (topI h t k) := by
  unfold mk topI at *
  repeat' split
  all_goals (repeat' split at hi)
  all_goals omega
theorem win_iff (h t d : Int) {k i : Nat} (hi : i < k) : d ≤ mk h t k (i : Int) ↔ lowI h d ≤ (i : Int) ∧ (i : Int) ≤ highI t k d := by
  unfold mk lowI highI
  constructor
  · intro z
    split at z <;> (constructor <;> split <;> omega)
  · intro z
    split <;> (obtain ⟨z1, z2⟩ := z; split at z1 <;> split at z2 <;> omega)
/-- the steps at which it may go -/
def fl (h t d : Int) (k n : Nat) : List Nat := (List.range n).filter fun (i : Nat) => decide (d ≤ mk h t k (i : Int))
theorem fl_succ {h t d : Int} {k n : Nat} : fl h t d k (n + 1) = fl h t d k n ++ (if d ≤ mk h t k (n : Int) then [n] else []) := by
  unfold fl
  rw [List.range_succ, List.filter_append]
  congr 1
  by_cases z : d ≤ mk h t k (n : Int)
  · rw [if_pos z, List.filter_cons_of_pos (by simpa using z)]
    rfl
  · rw [if_neg z, List.filter_cons_of_neg (by simpa using z)]
    rfl
theorem fl_len {h t d : Int} {k n : Nat} : (fl h t d k n).length ≤ n := by
  unfold fl
  exact Nat.le_trans (List.length_filter_le _ _) (by simp)
theorem fl_mem {h t d : Int} {k i : Nat} : i ∈ fl h t d k k ↔ i < k ∧ lowI h d ≤ (i : Int) ∧ (i : Int) ≤ highI t k d := by
  unfold fl
  rw [List.mem_filter, List.mem_range, decide_eq_true_eq]
  constructor
  · rintro ⟨a, b⟩
    exact ⟨a, (win_iff h t d a).mp b⟩
  · rintro ⟨a, b⟩
    exact ⟨a, (win_iff h t d a).mpr b⟩
theorem fl_sorted (h t d : Int) (k : Nat) : (fl h t d k k).Pairwise (· < ·) := by
  unfold fl
  exact List.Pairwise.filter _ List.pairwise_lt_range
theorem high_lt (t d : Int) {k : Nat} (hk : 0 < k) : highI t k d < (k : Int) := by
  unfold highI
  split <;> omega
theorem low_nn (h d : Int) : 0 ≤ lowI h d := by
  unfold lowI
  split <;> omega
theorem fl_nil {h t d : Int} {k : Nat} (z : lowI h d > highI t k d) : fl h t d k k = [] := by
  cases e : fl h t d k k with
  | nil => rfl
  | cons x r =>
    have m : x ∈ fl h t d k k := by rw [e]; exact List.mem_cons_self
    obtain ⟨_, a, b⟩ := fl_mem.mp m
    omega
/-- a rising list has its least first, its greatest last -/
theorem fl_ends {h t d : Int} {k : Nat} (hk : 0 < k) (z : ¬ lowI h d > highI t k d) : ∃ (l : List Nat) (r : List Nat) (a b : Nat), fl h t d k k = a :: r ∧ fl h t d k k = l ++ [b] ∧ (a : Int) = lowI h d ∧ (b : Int) = highI t k d := by
  have hh := high_lt t d hk
  have hl := low_nn h d
  have ml' : (lowI h d).toNat ∈ fl h t d k k := fl_mem.mpr ⟨by omega, by omega, by omega⟩
  have mh : (highI t k d).toNat ∈ fl h t d k k := fl_mem.mpr ⟨by omega, by omega, by omega⟩
  have ne : fl h t d k k ≠ [] := List.ne_nil_of_mem ml'
  have st := fl_sorted h t d k
  obtain ⟨a, r, e1⟩ : ∃ a r, fl h t d k k = a :: r := by
    cases e : fl h t d k k with
    | nil => exact absurd e ne
    | cons x r => exact ⟨x, r, rfl⟩
  have e2 : fl h t d k k = (fl h t d k k).dropLast ++ [(fl h t d k k).getLast ne] := (List.dropLast_concat_getLast ne).symm
  refine ⟨_, r, a, _, e1, e2, ?_, ?_⟩
  · have ma : a ∈ fl h t d k k := by rw [e1]; exact List.mem_cons_self
    obtain ⟨_, g1, g2⟩ := fl_mem.mp ma
    have le : a ≤ (lowI h d).toNat := by
      rw [e1] at ml' st
      rcases List.mem_cons.mp ml' with q | q
      · omega
      · have := (List.pairwise_cons.mp st).1 _ q
        omega
    omega
  · have mb := List.getLast_mem ne
    obtain ⟨_, g1, g2⟩ := fl_mem.mp mb
    have le : (highI t k d).toNat ≤ (fl h t d k k).getLast ne := by
      have st2 := st
      rw [e2] at mh st2
      rcases List.mem_append.mp mh with q | q
      · have := (List.pairwise_append.mp st2).2.2 _ q _ List.mem_cons_self
        omega
      · have : (highI t k d).toNat = (fl h t d k k).getLast ne := by simpa using q
        omega
    omega
end Sh

namespace Sh
open PySem PySem.Spec PyProof.Rows L2
/-! ### sorted lists of ships -/
theorem nat_list {c : Nat} : ∀ {ns : List Int}, (∀ z ∈ ns, 0 ≤ z ∧ z < (c : Int)) → ∃ L : List Nat, ns = L.map (fun (i : Nat) => (i : Int)) ∧ ∀ i ∈ L, i < c
  | [], _ => ⟨[], rfl, fun _ h => by cases h⟩
  | z :: ns, h => by
    obtain ⟨L, e, hL⟩ := nat_list (ns := ns) fun y hy => h y (List.mem_cons_of_mem _ hy)
    have hz := h z List.mem_cons_self
    refine ⟨z.toNat :: L, ?_, fun i hi => ?_⟩
    · rw [List.map_cons, ← e]
      congr 1
      omega
    · rcases List.mem_cons.mp hi with q | q
      · omega
      · exact hL i q
theorem map_inj {L M : List Nat} (h : (L.map fun (i : Nat) => (i : Int)).Perm (M.map fun (i : Nat) => (i : Int))) : L.Perm M := by
  have h2 := h.map Int.toNat
  rw [List.map_map, List.map_map] at h2
  have e : (Int.toNat ∘ fun (i : Nat) => (i : Int)) = id := by
    funext i
    exact Int.toNat_natCast i
  rw [e, List.map_id, List.map_id] at h2
  exact h2
/-- sorted ints that are a rearrangement of different ships: a lot -/
theorem lot_sorted {c : Nat} {ns : List Int} {M : List Nat} (pm : ns.Perm (M.map fun (i : Nat) => (i : Int))) (up : ns.Pairwise (· ≤ ·)) (nd : M.Nodup) (lt : ∀ i ∈ M, i < c) :
    ∃ L : List Nat, ns = L.map (fun (i : Nat) => (i : Int)) ∧ L.Perm M ∧ Lot c L := by
  obtain ⟨L, rfl, hL⟩ := nat_list (c := c) (ns := ns) fun z hz => by
    obtain ⟨i, hi, rfl⟩ := List.mem_map.mp (pm.mem_iff.mp hz)
    have := lt i hi
    omega
  have p2 := map_inj pm
  refine ⟨L, rfl, p2, ?_, hL⟩
  have ndL : L.Nodup := p2.nodup_iff.mpr nd
  have up2 : L.Pairwise (· ≤ ·) := by
    rw [List.pairwise_map] at up
    exact up.imp fun h => by omega
  exact (up2.and ndL).imp fun h => Nat.lt_of_le_of_ne h.1 h.2
theorem cut_take (xs : List V) (l : Nat) : cutV xs none (some (l : Int)) = xs.take l := by
  unfold cutV
  rw [HT.sIx_none, HT.sIx_nat]
  show (xs.drop 0).take (min l xs.length - 0) = xs.take l
  rw [List.drop_zero, Nat.sub_zero]
  by_cases h : l ≤ xs.length
  · rw [Nat.min_eq_left h]
  · rw [Nat.min_eq_right (by omega), List.take_length, List.take_of_length_le (by omega)]
theorem near_out {L : List Nat} {i : Nat} (h : i ∉ L) : near L i = L.length := by
  unfold near
  rw [List.filter_eq_self.mpr fun a ha => ?_]
  have : ¬ a = i := fun e => h (e ▸ ha)
  simpa using this
theorem near_perm {L M : List Nat} (i : Nat) (h : L.Perm M) : near L i = near M i := (h.filter _).length_eq
theorem near_add {L : List Nat} {i : Nat} (h : i ∉ L) : near (L ++ [i]) i = L.length := by
  rw [← near_out h]
  unfold near
  rw [List.filter_append]
  simp
end Sh

namespace Th
/-! ### counting ships below k -/
def cnt (k : Nat) (S : Nat → Bool) : Nat := (List.range k).countP S
theorem cnt_zero (S : Nat → Bool) : cnt 0 S = 0 := rfl
theorem cnt_succ (k : Nat) (S : Nat → Bool) : cnt (k + 1) S = cnt k S + (if S k = true then 1 else 0) := by
  unfold cnt
  rw [List.range_succ, List.countP_append]
  congr 1
  cases h : S k <;> simp [h]
theorem cnt_le (k : Nat) (S : Nat → Bool) : cnt k S ≤ k := by
  induction k with
  | zero => exact Nat.le_refl _
  | succ k ih => rw [cnt_succ]; split <;> omega
theorem cnt_congr {k : Nat} {S U : Nat → Bool} (h : ∀ i, i < k → S i = U i) : cnt k S = cnt k U := by
  induction k with
  | zero => rfl
  | succ k ih => rw [cnt_succ, cnt_succ, ih fun i hi => h i (by omega), h k (by omega)]
theorem cnt_mono {k : Nat} {S U : Nat → Bool} (h : ∀ i, i < k → S i = true → U i = true) : cnt k S ≤ cnt k U := by
  induction k with
  | zero => exact Nat.le_refl _
  | succ k ih =>
    have := ih fun i hi => h i (by omega)
    rw [cnt_succ, cnt_succ]
    by_cases e : S k = true
    · rw [if_pos e, if_pos (h k (by omega) e)]
      omega
    · rw [if_neg e]
      omega
/-- as many, and all of the one among the other: the same -/
theorem cnt_eq {k : Nat} {S U : Nat → Bool} (h : ∀ i, i < k → S i = true → U i = true) (e : cnt k U ≤ cnt k S) : ∀ i, i < k → U i = true → S i = true := by
  induction k with
  | zero => intro i hi; omega
  | succ k ih =>
    have hm := cnt_mono (k := k) fun i hi => h i (by omega)
    rw [cnt_succ, cnt_succ] at e
    intro i hi hu
    by_cases ek : S k = true
    · have uk := h k (by omega) ek
      rw [if_pos ek, if_pos uk] at e
      by_cases z : i = k
      · rw [z]; exact ek
      · exact ih (fun i hi => h i (by omega)) (by omega) i (by omega) hu
    · rw [if_neg ek] at e
      by_cases uk : U k = true
      · rw [if_pos uk] at e
        omega
      · rw [if_neg uk] at e
        by_cases z : i = k
        · rw [z] at hu; exact absurd hu uk
        · exact ih (fun i hi => h i (by omega)) (by omega) i (by omega) hu
theorem cnt_ex {k : Nat} {S U : Nat → Bool} (e : cnt k S < cnt k U) : ∃ i, i < k ∧ U i = true ∧ S i = false := by
  induction k with
  | zero => rw [cnt_zero, cnt_zero] at e; omega
  | succ k ih =>
    rw [cnt_succ, cnt_succ] at e
    by_cases uk : U k = true
    · by_cases sk : S k = true
      · rw [if_pos uk, if_pos sk] at e
        obtain ⟨i, h1, h2⟩ := ih (by omega)
        exact ⟨i, by omega, h2⟩
      · exact ⟨k, by omega, uk, by simpa using sk⟩
    · rw [if_neg uk] at e
      obtain ⟨i, h1, h2⟩ := ih (by omega)
      exact ⟨i, by omega, h2⟩
theorem cnt_pos_ex {k : Nat} {S : Nat → Bool} (e : 0 < cnt k S) : ∃ i, i < k ∧ S i = true := by
  induction k with
  | zero => rw [cnt_zero] at e; omega
  | succ k ih =>
    by_cases sk : S k = true
    · exact ⟨k, by omega, sk⟩
    · rw [cnt_succ, if_neg sk] at e
      obtain ⟨i, h1, h2⟩ := ih (by omega)
      exact ⟨i, by omega, h2⟩
def flip (S : Nat → Bool) (i : Nat) : Nat → Bool := fun j => if j = i then !S j else S j
theorem flip_self (S : Nat → Bool) (i : Nat) : flip S i i = !S i := by unfold flip; rw [if_pos rfl]
theorem flip_ne (S : Nat → Bool) {i j : Nat} (h : j ≠ i) : flip S i j = S j := by unfold flip; rw [if_neg h]
theorem flip_flip (S : Nat → Bool) (i : Nat) : flip (flip S i) i = S := by
  funext j
  by_cases h : j = i
  · subst h
    rw [flip_self, flip_self, Bool.not_not]
  · rw [flip_ne _ h, flip_ne _ h]
theorem cnt_flip_up {k : Nat} {S : Nat → Bool} {i : Nat} (hi : i < k) (h : S i = false) : cnt k (flip S i) = cnt k S + 1 := by
  induction k with
  | zero => omega
  | succ k ih =>
    rw [cnt_succ, cnt_succ]
    by_cases z : i = k
    · subst z
      rw [flip_self, h]
      rw [cnt_congr (k := i) (S := flip S i) (U := S) fun j hj => flip_ne S (by omega)]
      simp
    · rw [ih (by omega), flip_ne S (show k ≠ i by omega)]
      omega
theorem cnt_flip_dn {k : Nat} {S : Nat → Bool} {i : Nat} (hi : i < k) (h : S i = true) : cnt k (flip S i) + 1 = cnt k S := by
  have e : flip S i i = false := by rw [flip_self, h]; rfl
  have := cnt_flip_up hi e
  rw [flip_flip] at this
  omega
theorem cnt_pos {k : Nat} {S : Nat → Bool} {i : Nat} (hi : i < k) (h : S i = true) : 0 < cnt k S := by
  have := cnt_flip_dn hi h
  omega
theorem cnt_or_not {k : Nat} (S U : Nat → Bool) : cnt k (fun i => S i || U i) = cnt k S + cnt k (fun i => U i && !S i) := by
  induction k with
  | zero => rfl
  | succ k ih =>
    rw [cnt_succ, cnt_succ, cnt_succ, ih]
    cases S k <;> cases U k <;> simp <;> omega
theorem cnt_split {k : Nat} (S U : Nat → Bool) : cnt k S = cnt k (fun i => S i && U i) + cnt k (fun i => S i && !U i) := by
  induction k with
  | zero => rfl
  | succ k ih =>
    rw [cnt_succ, cnt_succ, cnt_succ, ih]
    cases S k <;> cases U k <;> simp <;> omega
theorem cnt_not {k : Nat} (S : Nat → Bool) : cnt k S + cnt k (fun i => !S i) = k := by
  induction k with
  | zero => rfl
  | succ k ih =>
    rw [cnt_succ, cnt_succ]
    cases S k <;> simp <;> omega

/-! ### crossings -/
section
variable (k : Nat) (G : Nat → Nat → Bool)
inductive Step : (Nat → Bool) → (Nat → Bool) → Prop
  | up {S : Nat → Bool} {i : Nat} (hi : i < k) (hs : S i = false) (hg : G (cnt k S) i = true) : Step S (flip S i)
  | dn {S : Nat → Bool} {i : Nat} (hi : i < k) (hs : S i = true) (hg : G (cnt k S - 1) i = true) : Step S (flip S i)
inductive Reach : (Nat → Bool) → (Nat → Bool) → Prop
  | refl (S : Nat → Bool) : Reach S S
  | step {S U W : Nat → Bool} : Reach S U → Step k G U W → Reach S W
end
section
variable {k : Nat} {G : Nat → Nat → Bool} {S U W : Nat → Bool}
theorem Step.symm (h : Step k G S U) : Step k G U S := by
  cases h with
  | @up i hi hs hg =>
    have e : Step k G (flip S i) (flip (flip S i) i) := .dn hi (by rw [flip_self, hs]; rfl) (by rw [cnt_flip_up hi hs, Nat.add_sub_cancel]; exact hg)
    rwa [flip_flip] at e
  | @dn i hi hs hg =>
    have e : Step k G (flip S i) (flip (flip S i) i) := .up hi (by rw [flip_self, hs]; rfl) (by have := cnt_flip_dn hi hs; rw [show cnt k (flip S i) = cnt k S - 1 by omega]; exact hg)
    rwa [flip_flip] at e
theorem Reach.trans (a : Reach k G S U) (b : Reach k G U W) : Reach k G S W := by
  induction b with
  | refl => exact a
  | step _ s ih => exact .step ih s
theorem Reach.one (s : Step k G S U) : Reach k G S U := .step (.refl _) s
theorem Reach.symm (a : Reach k G S U) : Reach k G U S := by
  induction a with
  | refl => exact .refl _
  | step _ s ih => exact (Reach.one s.symm).trans ih
/-- whatever every crossing keeps -/
theorem Reach.inv {P : (Nat → Bool) → Prop} (hp : ∀ S U, P S → Step k G S U → P U) (a : Reach k G S U) (h : P S) : P U := by
  induction a with
  | refl => exact h
  | step _ s ih => exact hp _ _ ih s
/-! ### filled from below -/
/-- between a and b goers grow -/
def Grow (G : Nat → Nat → Bool) (b : Nat) : Prop := ∀ s s' i, s ≤ s' → s' ≤ b → G s i = true → G s' i = true
/-- S can be filled to N, if at each number on the way somebody lacks -/
theorem fill {T : Nat} (gr : Grow G T) (N : Nat) (hN : N ≤ T + 1) (h0 : cnt k S ≤ N) (hl : ∀ n, cnt k S ≤ n → n < N → n < cnt k (fun i => S i || G n i)) :
    ∃ U, Reach k G S U ∧ cnt k U = N ∧ (∀ i, S i = true → U i = true) ∧ ∀ i, i < k → U i = true → S i = true ∨ (0 < N ∧ G (N - 1) i = true) := by
  induction N with
  | zero => exact ⟨S, .refl _, by omega, fun _ h => h, fun _ _ h => .inl h⟩
  | succ N ih =>
    by_cases e : cnt k S = N + 1
    · exact ⟨S, .refl _, e, fun _ h => h, fun _ _ h => .inl h⟩
    · obtain ⟨U, r, c, h1, h2⟩ := ih (by omega) (by omega) fun n a b => hl n a (by omega)
      have hlt := hl N (by omega) (by omega)
      obtain ⟨i, hi, g, u⟩ := cnt_ex (k := k) (S := U) (U := fun i => S i || G N i) (by omega)
      have gi : G N i = true := by
        cases hs : S i with
        | true => rw [h1 i hs] at u; cases u
        | false => rw [hs] at g; exact g
      refine ⟨flip U i, r.step (.up hi u (by rw [c]; exact gi)), by rw [cnt_flip_up hi u, c], fun j hj => ?_, fun j hj hf => ?_⟩
      · by_cases z : j = i
        · subst z
          rw [h1 j hj] at u
          cases u
        · rw [flip_ne _ z]
          exact h1 j hj
      · by_cases z : j = i
        · exact .inr ⟨by omega, by rw [z]; exact gi⟩
        · rw [flip_ne _ z] at hf
          rcases h2 j hj hf with q | ⟨q, g2⟩
          · exact .inl q
          · exact .inr ⟨by omega, gr _ _ _ (by omega) (by omega) g2⟩
/-- stuck at N: the fullest one is S with all goers at N -/
theorem stuck {T N : Nat} (gr : Grow G T) (hN : N ≤ T) (h0 : cnt k S ≤ N) (hl : ∀ n, cnt k S ≤ n → n < N → n < cnt k (fun i => S i || G n i)) (hs : cnt k (fun i => S i || G N i) ≤ N) :
    ∃ U, Reach k G S U ∧ cnt k U = N ∧ ∀ i, i < k → U i = (S i || G N i) := by
  obtain ⟨U, r, c, h1, h2⟩ := fill gr N (by omega) h0 hl
  have hm : ∀ i, i < k → U i = true → (S i || G N i) = true := fun i hi hu => by
    rcases h2 i hi hu with q | ⟨_, q⟩
    · rw [q]; rfl
    · rw [gr _ _ _ (by omega) hN q, Bool.or_true]
  have he := cnt_eq (k := k) (S := U) (U := fun i => S i || G N i) hm (by omega)
  refine ⟨U, r, c, fun i hi => ?_⟩
  cases hu : U i with
  | true => exact (hm i hi hu).symm
  | false =>
    cases hq : (S i || G N i) with
    | false => rfl
    | true => rw [he i hi hq] at hu; cases hu
/-- under a low bar at N nobody gets out -/
theorem low_inv {T N : Nat} (gr : Grow G T) (hN : N ≤ T) {F : Nat → Bool} (hF : cnt k F = N) (hG : ∀ i, i < k → G N i = true → F i = true) :
    ∀ S U, (cnt k S ≤ N ∧ ∀ i, i < k → (S i || G N i) = F i) → Step k G S U → (cnt k U ≤ N ∧ ∀ i, i < k → (U i || G N i) = F i) := by
  rintro S U ⟨c, h⟩ s
  have sub : ∀ i, i < k → S i = true → F i = true := fun i hi hs => by rw [← h i hi, hs]; rfl
  cases s with
  | @up i hi hs hg =>
    by_cases z : cnt k S = N
    · exfalso
      rw [z] at hg
      have := cnt_eq sub (by omega) i hi (hG i hi hg)
      rw [hs] at this
      cases this
    · refine ⟨by rw [cnt_flip_up hi hs]; omega, fun j hj => ?_⟩
      by_cases e : j = i
      · subst e
        have gN := gr _ _ _ (by omega) hN hg
        rw [gN, Bool.or_true, hG j hj gN]
      · rw [flip_ne _ e]
        exact h j hj
  | @dn i hi hs hg =>
    have := cnt_flip_dn hi hs
    refine ⟨by omega, fun j hj => ?_⟩
    by_cases e : j = i
    · subst e
      have gN := gr _ _ _ (by omega) hN hg
      rw [gN, Bool.or_true, hG j hj gN]
    · rw [flip_ne _ e]
      exact h j hj
end
end Th
namespace Th
section
variable {k : Nat} {G : Nat → Nat → Bool} {S U W : Nat → Bool}
/-! ### met from the other basin -/
def co (S : Nat → Bool) : Nat → Bool := fun i => !S i
def dual (k : Nat) (G : Nat → Nat → Bool) : Nat → Nat → Bool := fun s i => G (k - 1 - s) i
theorem co_co (S : Nat → Bool) : co (co S) = S := by funext i; exact Bool.not_not _
theorem cnt_co (k : Nat) (S : Nat → Bool) : cnt k S + cnt k (co S) = k := cnt_not S
theorem flip_co (S : Nat → Bool) (i : Nat) : flip (co S) i = co (flip S i) := by
  funext j
  unfold co flip
  split <;> rfl
theorem Step.dual (h : Step k G S U) : Step k (dual k G) (co S) (co U) := by
  cases h with
  | @up i hi hs hg =>
    rw [← flip_co]
    have c1 := cnt_co k S
    have c2 := cnt_le k (flip S i)
    rw [cnt_flip_up hi hs] at c2
    refine .dn hi (by unfold co; rw [hs]; rfl) ?_
    unfold Th.dual
    rw [show k - 1 - (cnt k (co S) - 1) = cnt k S by omega]
    exact hg
  | @dn i hi hs hg =>
    rw [← flip_co]
    have c1 := cnt_co k S
    have c2 := cnt_pos hi hs
    refine .up hi (by unfold co; rw [hs]; rfl) ?_
    unfold Th.dual
    rw [show k - 1 - cnt k (co S) = cnt k S - 1 by omega]
    exact hg
theorem dual_dual_at {s : Nat} (hs : s < k) (i : Nat) : Th.dual k (Th.dual k G) s i = G s i := by
  unfold Th.dual
  rw [show k - 1 - (k - 1 - s) = s by omega]
theorem Reach.dual (h : Reach k G S U) : Reach k (Th.dual k G) (co S) (co U) := by
  induction h with
  | refl => exact .refl _
  | step _ s ih => exact .step ih s.dual
theorem Step.congr {G' : Nat → Nat → Bool} (hg : ∀ s i, s < k → G s i = G' s i) (h : Step k G S U) : Step k G' S U := by
  cases h with
  | @up i hi hs g =>
    have := cnt_le k (flip S i)
    rw [cnt_flip_up hi hs] at this
    exact .up hi hs (by rw [← hg _ _ (by omega)]; exact g)
  | @dn i hi hs g =>
    have := cnt_le k S
    have := cnt_pos hi hs
    exact .dn hi hs (by rw [← hg _ _ (by omega)]; exact g)
theorem Reach.congr {G' : Nat → Nat → Bool} (hg : ∀ s i, s < k → G s i = G' s i) (h : Reach k G S U) : Reach k G' S U := by
  induction h with
  | refl => exact .refl _
  | step _ s ih => exact .step ih (s.congr hg)
theorem Reach.codual (h : Reach k (Th.dual k G) (co S) (co U)) : Reach k G S U := by
  have h2 := h.dual
  rw [co_co, co_co] at h2
  exact h2.congr fun s i hs => dual_dual_at hs i
/-! ### at the top -/
structure Top (k : Nat) (G : Nat → Nat → Bool) (T : Nat) : Prop where
  lt : T < k
  up : Grow G T
  dn : ∀ s s' i, T ≤ s → s ≤ s' → s' < k → G s' i = true → G s i = true
theorem Top.all {T : Nat} (t : Top k G T) {s i : Nat} (hs : s < k) (h : G s i = true) : G T i = true := by
  by_cases z : s ≤ T
  · exact t.up s T i z (Nat.le_refl _) h
  · exact t.dn T s i (Nat.le_refl _) (by omega) hs h
theorem Top.dual {T : Nat} (t : Top k G T) : Top k (Th.dual k G) (k - 1 - T) := by
  have := t.lt
  refine ⟨by omega, fun s s' i a b g => ?_, fun s s' i a b c g => ?_⟩
  · exact t.dn (k - 1 - s') (k - 1 - s) i (by omega) (by omega) (by omega) g
  · exact t.up (k - 1 - s') (k - 1 - s) i (by omega) (by omega) g
/-- who isn't a goer at the top never goes -/
theorem fast_inv {T : Nat} (t : Top k G T) (h : Reach k G S U) : ∀ i, i < k → G T i = false → U i = S i := by
  intro i hi hg
  refine Reach.inv (P := fun W => W i = S i) (fun A B e s => ?_) h rfl
  cases s with
  | @up j hj hs g =>
    have c := cnt_le k (flip A j)
    rw [cnt_flip_up hj hs] at c
    have : i ≠ j := fun z => by
      subst z
      rw [t.all (by omega) g] at hg
      cases hg
    rw [flip_ne _ this]
    exact e
  | @dn j hj hs g =>
    have c := cnt_le k A
    have c2 := cnt_pos hj hs
    have : i ≠ j := fun z => by
      subst z
      rw [t.all (by omega) g] at hg
      cases hg
    rw [flip_ne _ this]
    exact e
def diff (k : Nat) (S U : Nat → Bool) : Nat := cnt k (fun i => S i && !U i)
theorem reach_out (h : Reach k G S U) : ∀ i, ¬ i < k → U i = S i := by
  intro i hi
  refine Reach.inv (P := fun W => W i = S i) (fun A B e s => ?_) h rfl
  cases s with
  | @up j hj hs g =>
    rw [flip_ne _ (show i ≠ j by omega)]
    exact e
  | @dn j hj hs g =>
    rw [flip_ne _ (show i ≠ j by omega)]
    exact e
/-- at the top's own number goers can be exchanged -/
theorem swap {T : Nat} (t : Top k G T) : ∀ (n : Nat) (S U : Nat → Bool), diff k S U ≤ n → cnt k S = T → cnt k U = T → (∀ i, i < k → G T i = false → U i = S i) → (∀ i, ¬ i < k → U i = S i) → Reach k G S U := by
  intro n
  induction n with
  | zero =>
    intro S U hd cs cu hf ho
    have hsub : ∀ i, i < k → S i = true → U i = true := fun i hi hs => by
      cases hu : U i with
      | true => rfl
      | false =>
        have := cnt_pos (k := k) (S := fun i => S i && !U i) hi (by show (S i && !U i) = true; rw [hs, hu]; rfl)
        unfold diff at hd
        omega
    have heq := cnt_eq hsub (by omega)
    have : U = S := by
      funext i
      by_cases hi : i < k
      · cases hs : S i with
        | true => exact hsub i hi hs
        | false =>
          cases hu : U i with
          | false => rfl
          | true => rw [heq i hi hu] at hs; cases hs
      · exact ho i hi
    rw [this]
    exact .refl _
  | succ n ih =>
    intro S U hd cs cu hf ho
    by_cases z : diff k S U = 0
    · exact ih S U (by omega) cs cu hf ho
    · obtain ⟨i, hi, h1⟩ := cnt_pos_ex (k := k) (S := fun i => S i && !U i) (by unfold diff at z; omega)
      have si : S i = true := by revert h1; cases S i <;> simp
      have ui : U i = false := by revert h1; cases U i <;> simp
      have e1 := cnt_split (k := k) S U
      have e2 := cnt_split (k := k) U S
      have e3 : cnt k (fun i => S i && U i) = cnt k (fun i => U i && S i) := cnt_congr fun i _ => Bool.and_comm _ _
      obtain ⟨j, hj, h2⟩ := cnt_pos_ex (k := k) (S := fun i => U i && !S i) (by unfold diff at z; omega)
      have uj : U j = true := by revert h2; cases U j <;> simp
      have sj : S j = false := by revert h2; cases S j <;> simp
      have gi : G T i = true := by
        cases g : G T i with
        | true => rfl
        | false => rw [hf i hi g, si] at ui; cases ui
      have gj : G T j = true := by
        cases g : G T j with
        | true => rfl
        | false => rw [hf j hj g, sj] at uj; cases uj
      have ij : i ≠ j := fun e => by rw [e, sj] at si; cases si
      have s1 : Step k G S (flip S j) := .up hj sj (by rw [cs]; exact gj)
      have c1 : cnt k (flip S j) = T + 1 := by rw [cnt_flip_up hj sj, cs]
      have s2 : Step k G (flip S j) (flip (flip S j) i) := .dn hi (by rw [flip_ne _ ij]; exact si) (by rw [c1, Nat.add_sub_cancel]; exact gi)
      have c2 := cnt_flip_dn (k := k) (S := flip S j) hi (by rw [flip_ne _ ij]; exact si)
      refine ((Reach.one s1).trans (Reach.one s2)).trans (ih _ U ?_ (by omega) cu (fun l hl g => ?_) (fun l hl => ?_))
      · have e : (fun l => flip (flip S j) i l && !U l) = flip (fun l => S l && !U l) i := by
          funext l
          by_cases li : l = i
          · subst li
            rw [flip_self, flip_self, flip_ne _ ij, si, ui]
            rfl
          · rw [flip_ne _ li, flip_ne _ li]
            by_cases lj : l = j
            · subst lj
              rw [flip_self, sj, uj]
              rfl
            · rw [flip_ne _ lj]
        unfold diff
        rw [e]
        have := cnt_flip_dn (k := k) (S := fun l => S l && !U l) hi h1
        unfold diff at hd
        omega
      · have li : l ≠ i := fun e => by rw [e, gi] at g; cases g
        have lj : l ≠ j := fun e => by rw [e, gj] at g; cases g
        rw [flip_ne _ li, flip_ne _ lj]
        exact hf l hl g
      · rw [flip_ne _ (show l ≠ i by omega), flip_ne _ (show l ≠ j by omega)]
        exact ho l hl
/-! ### which lot a standing is in -/
/-- from below it gets to the top's number -/
def Rises (k : Nat) (G : Nat → Nat → Bool) (T : Nat) (S : Nat → Bool) : Prop := cnt k S ≤ T ∧ ∀ n, cnt k S ≤ n → n < T → n < cnt k (fun i => S i || G n i)
/-- from above -/
def Sinks (k : Nat) (G : Nat → Nat → Bool) (T : Nat) (S : Nat → Bool) : Prop := T < cnt k S ∧ ∀ s, T ≤ s → s < cnt k S → cnt k (fun i => S i && !G s i) ≤ s
theorem Rises.to {T : Nat} (t : Top k G T) (h : Rises k G T S) : ∃ U, Reach k G S U ∧ cnt k U = T := by
  obtain ⟨U, r, c, _⟩ := fill t.up T (by omega) h.1 h.2
  exact ⟨U, r, c⟩
theorem co_or (S : Nat → Bool) (f : Nat → Bool) : (fun i => co S i || f i) = co (fun i => S i && !f i) := by
  funext i
  show (!S i || f i) = !(S i && !f i)
  cases S i <;> cases f i <;> rfl
theorem Sinks.to {T : Nat} (t : Top k G T) (h : Sinks k G T S) : ∃ U, Reach k G S U ∧ cnt k U = T := by
  have tl := t.lt
  have c0 := cnt_co k S
  have cle := cnt_le k S
  obtain ⟨h1, h2⟩ := h
  obtain ⟨U, r, c, _⟩ := fill (k := k) (G := Th.dual k G) (S := co S) t.dual.up (k - 1 - T + 1) (by omega) (by omega) fun n a b => by
    have e : (fun i => co S i || Th.dual k G n i) = co (fun i => S i && !G (k - 1 - n) i) := co_or S _
    rw [e]
    have q := h2 (k - 1 - n) (by omega) (by omega)
    have c1 := cnt_co k (fun i => S i && !G (k - 1 - n) i)
    omega
  refine ⟨co U, ?_, ?_⟩
  · refine Reach.codual ?_
    rw [co_co]
    exact r
  · have := cnt_co k U
    omega
/-- two that get to the top's number and have the same fast ones here come to one another -/
theorem open_reach {T : Nat} (t : Top k G T) (hS : Rises k G T S ∨ Sinks k G T S) (hU : Rises k G T U ∨ Sinks k G T U) (hf : ∀ i, i < k → G T i = false → U i = S i) (ho : ∀ i, ¬ i < k → U i = S i) : Reach k G S U := by
  obtain ⟨S', rS, cS⟩ := hS.elim (fun h => h.to t) (fun h => h.to t)
  obtain ⟨U', rU, cU⟩ := hU.elim (fun h => h.to t) (fun h => h.to t)
  refine rS.trans (Reach.trans ?_ rU.symm)
  refine swap t _ S' U' (Nat.le_refl _) cS cU (fun i hi g => ?_) (fun i hi => ?_)
  · rw [fast_inv t rS i hi g, fast_inv t rU i hi g, hf i hi g]
  · rw [reach_out rS i hi, reach_out rU i hi, ho i hi]
/-- the first number at which filling is stuck -/
def StuckLow (k : Nat) (G : Nat → Nat → Bool) (N : Nat) (S : Nat → Bool) : Prop := cnt k S ≤ N ∧ (∀ n, cnt k S ≤ n → n < N → n < cnt k (fun i => S i || G n i)) ∧ cnt k (fun i => S i || G N i) ≤ N
theorem StuckLow.full {N : Nat} (h : StuckLow k G N S) {T : Nat} (t : Top k G T) (hN : N ≤ T) : ∃ U, Reach k G S U ∧ cnt k U = N ∧ ∀ i, i < k → U i = (S i || G N i) := stuck t.up hN h.1 h.2.1 h.2.2
theorem StuckLow.cnt_full {N : Nat} (h : StuckLow k G N S) {T : Nat} (t : Top k G T) (hN : N ≤ T) : cnt k (fun i => S i || G N i) = N := by
  obtain ⟨U, _, c, e⟩ := h.full t hN
  exact (cnt_congr e).symm.trans c
/-- nobody leaves the lot under it -/
theorem StuckLow.under {N T : Nat} (h : StuckLow k G N S) (t : Top k G T) (hN : N ≤ T) (r : Reach k G S U) : cnt k U ≤ N ∧ ∀ i, i < k → (U i || G N i) = (S i || G N i) := by
  refine Reach.inv (P := fun W => cnt k W ≤ N ∧ ∀ i, i < k → (W i || G N i) = (S i || G N i)) (low_inv t.up hN (h.cnt_full t hN) fun i _ g => by rw [g, Bool.or_true]) r ⟨h.1, fun _ _ => rfl⟩
/-- all of a lot are stuck alike -/
theorem StuckLow.same {N T : Nat} (h : StuckLow k G N S) (t : Top k G T) (hN : N ≤ T) (r : Reach k G S U) : StuckLow k G N U := by
  obtain ⟨c, e⟩ := h.under t hN r
  have ce : cnt k (fun i => U i || G N i) = N := by
    rw [cnt_congr e]
    exact h.cnt_full t hN
  refine ⟨c, fun n a b => ?_, by omega⟩
  -- stuck earlier it would never get to S's fullest one
  by_cases z : n < cnt k (fun i => U i || G n i)
  · exact z
  · exfalso
    -- the first such number
    have ex : ∃ m, cnt k U ≤ m ∧ m < N ∧ ¬ m < cnt k (fun i => U i || G m i) ∧ ∀ m', cnt k U ≤ m' → m' < m → m' < cnt k (fun i => U i || G m' i) := by
      clear ce e
      induction n using Nat.strongRecOn with
      | _ n ih =>
        by_cases q : ∀ m', cnt k U ≤ m' → m' < n → m' < cnt k (fun i => U i || G m' i)
        · exact ⟨n, a, b, z, q⟩
        · have : ∃ m', cnt k U ≤ m' ∧ m' < n ∧ ¬ m' < cnt k (fun i => U i || G m' i) := by
            refine Classical.byContradiction fun w => q fun m' x y => ?_
            refine Classical.byContradiction fun v => w ⟨m', x, y, v⟩
          obtain ⟨m', x, y, v⟩ := this
          exact ih m' y x (by omega) v
    obtain ⟨m, x, y, v, u⟩ := ex
    have sl : StuckLow k G m U := ⟨x, u, by omega⟩
    obtain ⟨F, rF, cF, _⟩ := h.full t hN
    have := (sl.under t (by omega) (r.symm.trans rF)).1
    omega
theorem StuckLow.iff {N T : Nat} (h : StuckLow k G N S) (t : Top k G T) (hN : N ≤ T) (ho : ∀ i, ¬ i < k → U i = S i) : Reach k G S U ↔ StuckLow k G N U ∧ ∀ i, i < k → (U i || G N i) = (S i || G N i) := by
  constructor
  · intro r
    exact ⟨h.same t hN r, (h.under t hN r).2⟩
  · rintro ⟨hu, e⟩
    obtain ⟨A, rA, _, eA⟩ := h.full t hN
    obtain ⟨B, rB, _, eB⟩ := hu.full t hN
    have : A = B := by
      funext i
      by_cases hi : i < k
      · rw [eA i hi, eB i hi, e i hi]
      · rw [reach_out rA i hi, reach_out rB i hi, ho i hi]
    rw [this] at rA
    exact rA.trans rB.symm
/-- each standing of no more than the top's number is stuck below it, or gets there -/
theorem low_or {T : Nat} (h : cnt k S ≤ T) : (∃ N, N < T ∧ StuckLow k G N S) ∨ Rises k G T S := by
  by_cases q : ∀ n, cnt k S ≤ n → n < T → n < cnt k (fun i => S i || G n i)
  · exact .inr ⟨h, q⟩
  · refine .inl ?_
    have : ∃ m, cnt k S ≤ m ∧ m < T ∧ ¬ m < cnt k (fun i => S i || G m i) := by
      refine Classical.byContradiction fun w => q fun m' x y => ?_
      refine Classical.byContradiction fun v => w ⟨m', x, y, v⟩
    obtain ⟨n, a, b, z⟩ := this
    clear q
    induction n using Nat.strongRecOn with
    | _ n ih =>
      by_cases q : ∀ m', cnt k S ≤ m' → m' < n → m' < cnt k (fun i => S i || G m' i)
      · exact ⟨n, b, a, q, by omega⟩
      · have : ∃ m', cnt k S ≤ m' ∧ m' < n ∧ ¬ m' < cnt k (fun i => S i || G m' i) := by
          refine Classical.byContradiction fun w => q fun m' x y => ?_
          refine Classical.byContradiction fun v => w ⟨m', x, y, v⟩
        obtain ⟨m', x, y, v⟩ := this
        exact ih m' y x (by omega) v
end
end Th
namespace Th
section
variable {k : Nat} {G : Nat → Nat → Bool} {S U W : Nat → Bool}
/-- i may go at U -/
def May (k : Nat) (G : Nat → Nat → Bool) (U : Nat → Bool) (i : Nat) : Prop := G (if U i = true then cnt k U - 1 else cnt k U) i = true
theorem May.step {i : Nat} (hi : i < k) (h : May k G U i) : Step k G U (flip U i) := by
  unfold May at h
  cases e : U i with
  | true => rw [e, if_pos rfl] at h; exact .dn hi e h
  | false => rw [e, if_neg Bool.false_ne_true] at h; exact .up hi e h
/-- ever goes -/
def Moves (k : Nat) (G : Nat → Nat → Bool) (S : Nat → Bool) (i : Nat) : Prop := ∃ U, Reach k G S U ∧ May k G U i
theorem moves_low {N T i : Nat} (h : StuckLow k G N S) (t : Top k G T) (hN : N ≤ T) (hi : i < k) : Moves k G S i ↔ 0 < N ∧ G (N - 1) i = true := by
  constructor
  · rintro ⟨U, r, m⟩
    obtain ⟨c, e⟩ := h.under t hN r
    unfold May at m
    cases u : U i with
    | true =>
      rw [u, if_pos rfl] at m
      have := cnt_pos hi u
      exact ⟨by omega, t.up _ _ _ (by omega) (by omega) m⟩
    | false =>
      rw [u, if_neg Bool.false_ne_true] at m
      by_cases z : cnt k U = N
      · exfalso
        rw [z] at m
        have cf := h.cnt_full t hN
        have hsub : ∀ j, j < k → U j = true → (S j || G N j) = true := fun j hj uj => by rw [← e j hj, uj]; rfl
        have := cnt_eq hsub (by omega) i hi (by rw [m, Bool.or_true])
        rw [u] at this
        cases this
      · exact ⟨by omega, t.up _ _ _ (by omega) (by omega) m⟩
  · rintro ⟨n0, g⟩
    obtain ⟨F, r, c, e⟩ := h.full t hN
    refine ⟨F, r, ?_⟩
    have fi : F i = true := by rw [e i hi, t.up _ _ _ (show N - 1 ≤ N by omega) hN g, Bool.or_true]
    unfold May
    rw [fi, if_pos rfl, c]
    exact g
/-- gets to the top's number, and there's somebody out who may go there -/
theorem moves_open {T i : Nat} (t : Top k G T) (hS : Rises k G T S ∨ Sinks k G T S) (hc : T < cnt k (fun i => S i || G T i)) (hi : i < k) : Moves k G S i ↔ G T i = true := by
  constructor
  · rintro ⟨U, r, m⟩
    unfold May at m
    have := cnt_le k U
    by_cases u : U i = true
    · rw [if_pos u] at m
      have := cnt_pos hi u
      exact t.all (by omega) m
    · rw [if_neg u] at m
      have u' : U i = false := by simpa using u
      have c := cnt_le k (flip U i)
      rw [cnt_flip_up hi u'] at c
      exact t.all (by omega) m
  · intro g
    obtain ⟨U, r, c⟩ := hS.elim (fun h => h.to t) (fun h => h.to t)
    by_cases u : U i = true
    · -- somebody j is out: exchange them
      have hf := fast_inv t r
      have ce : cnt k (fun i => U i || G T i) = cnt k (fun i => S i || G T i) := cnt_congr fun j hj => by
        cases q : G T j with
        | true => rw [Bool.or_true, Bool.or_true]
        | false => rw [Bool.or_false, Bool.or_false, hf j hj q]
      obtain ⟨j, hj, h1, h2⟩ := cnt_ex (k := k) (S := U) (U := fun i => U i || G T i) (by omega)
      have gj : G T j = true := by rw [h2] at h1; exact h1
      have ij : i ≠ j := fun e => by rw [e, h2] at u; cases u
      have s1 : Step k G U (flip U j) := .up hj h2 (by rw [c]; exact gj)
      have c1 : cnt k (flip U j) = T + 1 := by rw [cnt_flip_up hj h2, c]
      refine ⟨flip U j, r.step s1, ?_⟩
      unfold May
      rw [flip_ne _ ij, u, if_pos rfl, c1, Nat.add_sub_cancel]
      exact g
    · refine ⟨U, r, ?_⟩
      unfold May
      rw [if_neg u, c]
      exact g
/-- stuck at some number up to N, or not before it -/
theorem stuck_or (N : Nat) : (∃ n, n < N ∧ StuckLow k G n S) ∨ ∀ n, cnt k S ≤ n → n < N → n < cnt k (fun i => S i || G n i) := by
  by_cases h : cnt k S ≤ N
  · rcases low_or (k := k) (G := G) (S := S) h with ⟨n, a, b⟩ | r
    · exact .inl ⟨n, a, b⟩
    · exact .inr r.2
  · exact .inr fun n a b => by omega
/-- the three sorts of lots -/
theorem sorts {T : Nat} (t : Top k G T) : (∃ N, N ≤ T ∧ StuckLow k G N S) ∨ (∃ N, N ≤ k - 1 - T ∧ StuckLow k (Th.dual k G) N (co S)) ∨ ((Rises k G T S ∨ Sinks k G T S) ∧ T < cnt k (fun i => S i || G T i)) := by
  have tl := t.lt
  by_cases h : cnt k S ≤ T
  · rcases stuck_or (k := k) (G := G) (S := S) (T + 1) with ⟨N, a, b⟩ | r
    · exact .inl ⟨N, by omega, b⟩
    · exact .inr (.inr ⟨.inl ⟨h, fun n a b => r n a (by omega)⟩, r T h (by omega)⟩)
  · have c0 := cnt_co k S
    rcases stuck_or (k := k) (G := Th.dual k G) (S := co S) (k - 1 - T + 1) with ⟨N, a, b⟩ | r
    · exact .inr (.inl ⟨N, by omega, b⟩)
    · refine .inr (.inr ⟨.inr ⟨by omega, fun s a b => ?_⟩, ?_⟩)
      · have cle := cnt_le k S
        have q := r (k - 1 - s) (by omega) (by omega)
        have e : (fun i => co S i || Th.dual k G (k - 1 - s) i) = co (fun i => S i && !G s i) := by
          rw [co_or]
          funext i
          show (!(S i && !Th.dual k G (k - 1 - s) i)) = !(S i && !G s i)
          have := dual_dual_at (G := G) (k := k) (s := s) (by omega) i
          unfold Th.dual at this ⊢
          rw [this]
        rw [e] at q
        have c1 := cnt_co k (fun i => S i && !G s i)
        omega
      · have := cnt_mono (k := k) (S := S) (U := fun i => S i || G T i) fun i _ hs => by show (S i || G T i) = true; rw [hs]; rfl
        omega
theorem may_co {i : Nat} (hi : i < k) : May k (Th.dual k G) (co U) i ↔ May k G U i := by
  have c0 := cnt_co k U
  have cl := cnt_le k U
  unfold May Th.dual
  cases u : U i with
  | true =>
    have := cnt_pos hi u
    have e : co U i = false := by unfold co; rw [u]; rfl
    rw [e, if_neg Bool.false_ne_true, if_pos rfl, show k - 1 - cnt k (co U) = cnt k U - 1 by omega]
  | false =>
    have e : co U i = true := by unfold co; rw [u]; rfl
    have := cnt_pos (S := co U) hi e
    rw [e, if_pos rfl, if_neg Bool.false_ne_true, show k - 1 - (cnt k (co U) - 1) = cnt k U by omega]
theorem moves_co {i : Nat} (hi : i < k) : Moves k (Th.dual k G) (co S) i ↔ Moves k G S i := by
  constructor
  · rintro ⟨U, r, m⟩
    refine ⟨co U, ?_, ?_⟩
    · refine Reach.codual ?_
      rw [co_co]
      exact r
    · rw [← may_co hi, co_co]
      exact m
  · rintro ⟨U, r, m⟩
    exact ⟨co U, r.dual, (may_co hi).mpr m⟩
/-- stuck from above at N (of the turned sea): who moves -/
theorem moves_high {N T i : Nat} (h : StuckLow k (Th.dual k G) N (co S)) (t : Top k G T) (hN : N ≤ k - 1 - T) (hi : i < k) : Moves k G S i ↔ 0 < N ∧ G (k - N) i = true := by
  have tl := t.lt
  rw [← moves_co hi, moves_low h t.dual hN hi]
  constructor
  · rintro ⟨a, b⟩
    refine ⟨a, ?_⟩
    unfold Th.dual at b
    rw [show k - N = k - 1 - (N - 1) by omega]
    exact b
  · rintro ⟨a, b⟩
    refine ⟨a, ?_⟩
    unfold Th.dual
    rw [show k - 1 - (N - 1) = k - N by omega]
    exact b
end
end Th
namespace Th
section
variable {k : Nat} {G : Nat → Nat → Bool} {S U W : Nat → Bool}
def Sub (k : Nat) (A B : Nat → Bool) : Prop := ∀ i, i < k → A i = true → B i = true
/-- so many of Z, such that each set of a nested family is among them or they among it -/
theorem chain (F : Nat → Nat → Bool) (P : Nat → Prop) (nest : ∀ s s', P s → P s' → Sub k (F s) (F s') ∨ Sub k (F s') (F s)) (Z : Nat → Bool) (inZ : ∀ s, P s → Sub k (F s) Z) :
    ∀ m, m ≤ cnt k Z → ∃ A : Nat → Bool, Sub k A Z ∧ cnt k A = m ∧ (∀ i, ¬ i < k → A i = false) ∧ ∀ s, P s → Sub k A (F s) ∨ Sub k (F s) A := by
  intro m
  induction m with
  | zero =>
    intro _
    have e : ∀ n, cnt n (fun _ => false) = 0 := fun n => by
      induction n with
      | zero => rfl
      | succ n ih => rw [cnt_succ, ih]; rfl
    exact ⟨fun _ => false, (fun _ _ h => by cases h), e k, (fun _ _ => rfl), fun s _ => .inl (fun _ _ h => by cases h)⟩
  | succ m ih =>
    intro hm
    obtain ⟨A, a1, a2, a3, a4⟩ := ih (by omega)
    -- a smallest set of the family that isn't among them, or Z
    have pick : ∃ i, i < k ∧ A i = false ∧ Z i = true ∧ ∀ s, P s → ¬ Sub k (F s) A → F s i = true := by
      -- by how many members
      have go : ∀ n, (∃ s, P s ∧ ¬ Sub k (F s) A ∧ cnt k (F s) ≤ n) → ∃ i, i < k ∧ A i = false ∧ Z i = true ∧ ∀ s, P s → ¬ Sub k (F s) A → F s i = true := by
        intro n
        induction n using Nat.strongRecOn with
        | _ n ih2 =>
          rintro ⟨s, ps, hs, hn⟩
          by_cases q : ∃ s', P s' ∧ ¬ Sub k (F s') A ∧ cnt k (F s') < cnt k (F s)
          · obtain ⟨s', ps', hs', hlt⟩ := q
            exact ih2 (cnt k (F s')) (by omega) ⟨s', ps', hs', Nat.le_refl _⟩
          · have : ∃ i, i < k ∧ F s i = true ∧ A i = false := by
              refine Classical.byContradiction fun w => hs fun i hi f => ?_
              cases e : A i with
              | true => rfl
              | false => exact absurd ⟨i, hi, f, e⟩ w
            obtain ⟨i, hi, f, e⟩ := this
            refine ⟨i, hi, e, inZ s ps i hi f, fun s' ps' hs' => ?_⟩
            rcases nest s s' ps ps' with w | w
            · exact w i hi f
            · have hge : cnt k (F s) ≤ cnt k (F s') := by
                refine Classical.byContradiction fun v => q ⟨s', ps', hs', by omega⟩
              exact cnt_eq w hge i hi f
      by_cases q : ∃ s, P s ∧ ¬ Sub k (F s) A
      · obtain ⟨s, ps, hs⟩ := q
        exact go _ ⟨s, ps, hs, Nat.le_refl _⟩
      · obtain ⟨i, hi, z, e⟩ := cnt_ex (k := k) (S := A) (U := Z) (by omega)
        exact ⟨i, hi, e, z, fun s ps hs => absurd ⟨s, ps, hs⟩ q⟩
    obtain ⟨i, hi, e, z, hp⟩ := pick
    refine ⟨flip A i, fun j hj h => ?_, by rw [cnt_flip_up hi e, a2], fun j hj => ?_, fun s ps => ?_⟩
    · by_cases q : j = i
      · rw [q]; exact z
      · rw [flip_ne _ q] at h
        exact a1 j hj h
    · rw [flip_ne _ (show j ≠ i by omega)]
      exact a3 j hj
    · by_cases q : Sub k (F s) A
      · refine .inr fun j hj h => ?_
        by_cases w : j = i
        · subst w
          have := q j hj h
          rw [e] at this
          cases this
        · rw [flip_ne _ w]
          exact q j hj h
      · rcases a4 s ps with w | w
        · refine .inl fun j hj h => ?_
          by_cases v : j = i
          · rw [v]; exact hp s ps q
          · rw [flip_ne _ v] at h
            exact w j hj h
        · exact absurd w q
theorem cnt_diff {A B : Nat → Bool} (h : Sub k B A) : cnt k (fun i => A i && !B i) + cnt k B = cnt k A := by
  have e := cnt_split (k := k) A B
  have e2 : cnt k (fun i => A i && B i) = cnt k B := cnt_congr fun i hi => by
    cases b : B i with
    | true => rw [h i hi b]; rfl
    | false => rw [Bool.and_false]
  omega
theorem cnt_none {A : Nat → Bool} (h : ∀ i, i < k → A i = false) : cnt k A = 0 := by
  have := cnt_congr (k := k) (S := A) (U := fun _ => false) h
  have e : ∀ n, cnt n (fun _ => false) = 0 := fun n => by
    induction n with
    | zero => rfl
    | succ n ih => rw [cnt_succ, ih]; rfl
  rw [this, e]
/-- how few can come to lie here, of a lot that is stuck at N -/
theorem low_counts {N T n : Nat} (h : StuckLow k G N S) (t : Top k G T) (hN : N ≤ T) (hn : n ≤ N) : (∃ U, Reach k G S U ∧ cnt k U = n) ↔ ∀ m, m < N → m + 1 ≤ n + cnt k (G m) := by
  constructor
  · rintro ⟨U, r, c⟩ m hm
    by_cases z : n ≤ m
    · have q := (h.same t hN r).2.1 m (by omega) hm
      have e := cnt_or_not (k := k) U (G m)
      have e2 := cnt_mono (k := k) (S := fun i => G m i && !U i) (U := G m) fun i _ hh => by revert hh; cases G m i <;> simp
      omega
    · omega
  · intro hc
    have cf := h.cnt_full t hN
    -- the goers at N, so many of them out: the shallowest ones
    have cR : cnt k (fun i => S i && !G N i) + cnt k (G N) = N := by
      have e := cnt_or_not (k := k) (G N) S
      have e1 : (fun i => G N i || S i) = (fun i => S i || G N i) := funext fun i => Bool.or_comm _ _
      rw [e1] at e
      omega
    have hle : N - n ≤ cnt k (G N) := by
      by_cases z : N = 0
      · omega
      · have q := hc (N - 1) (by omega)
        have := cnt_mono (k := k) (S := G (N - 1)) (U := G N) fun i _ g => t.up _ _ _ (by omega) hN g
        omega
    obtain ⟨A, a1, a2, a3, a4⟩ := chain (k := k) G (fun m => m ≤ N) (fun s s' hs hs' => by
      by_cases z : s ≤ s'
      · exact .inl fun i _ g => t.up _ _ _ z (by omega) g
      · exact .inr fun i _ g => t.up _ _ _ (by omega) (by omega) g) (G N) (fun s hs i _ g => t.up _ _ _ hs hN g) (N - n) hle
    -- all others of the fullest one
    have hout : ∀ i, ¬ i < k → (fun i => if i < k then (S i || G N i) && !A i else S i) i = S i := fun i hi => by show (if i < k then (S i || G N i) && !A i else S i) = S i; rw [if_neg hi]
    have hin : ∀ i, i < k → (fun i => if i < k then (S i || G N i) && !A i else S i) i = ((S i || G N i) && !A i) := fun i hi => by show (if i < k then (S i || G N i) && !A i else S i) = _; rw [if_pos hi]
    have subA : Sub k A (fun i => S i || G N i) := fun i hi q => by show (S i || G N i) = true; rw [a1 i hi q, Bool.or_true]
    have cU : cnt k (fun i => if i < k then (S i || G N i) && !A i else S i) = n := by
      rw [cnt_congr hin]
      have := cnt_diff subA
      omega
    have or_eq : ∀ i, i < k → ((fun i => if i < k then (S i || G N i) && !A i else S i) i || G N i) = (S i || G N i) := fun i hi => by
      rw [hin i hi]
      cases q : A i with
      | true =>
        have := a1 i hi q
        rw [this, Bool.or_true, Bool.or_true]
      | false => cases S i <;> cases G N i <;> rfl
    have sl : StuckLow k G N (fun i => if i < k then (S i || G N i) && !A i else S i) := by
      refine ⟨by omega, fun m x y => ?_, ?_⟩
      · have q := hc m y
        -- all of the fullest one but those of A that aren't goers at m
        have e1 : cnt k (fun i => (fun i => if i < k then (S i || G N i) && !A i else S i) i || G m i) = cnt k (fun i => (S i || G N i) && !(A i && !G m i)) := cnt_congr fun i hi => by
          rw [hin i hi]
          cases g : G m i with
          | true =>
            rw [t.up _ _ _ (show m ≤ N by omega) hN g]
            cases S i <;> cases A i <;> rfl
          | false => cases S i <;> cases G N i <;> cases A i <;> rfl
        have sub2 : Sub k (fun i => A i && !G m i) (fun i => S i || G N i) := fun i hi w => subA i hi (by have w' : (A i && !G m i) = true := w; revert w'; cases A i <;> simp)
        have e2 := cnt_diff sub2
        rw [e1]
        rcases a4 m (by omega) with w | w
        · have e3 : cnt k (fun i => A i && !G m i) = 0 := cnt_none fun i hi => by
            cases q : A i with
            | false => rfl
            | true => rw [w i hi q]; rfl
          omega
        · have e3 := cnt_diff w
          omega
      · rw [cnt_congr or_eq]
        omega
    exact ⟨_, (h.iff t hN hout).mpr ⟨sl, or_eq⟩, cU⟩
/-- how many can come to lie here, of a lot that gets to the top's number -/
theorem open_counts {T n : Nat} (t : Top k G T) (hS : Rises k G T S ∨ Sinks k G T S) (hn : T ≤ n) : (∃ U, Reach k G S U ∧ cnt k U = n) ↔ n ≤ cnt k (fun i => S i || G T i) ∧ ∀ s, T ≤ s → s < k → n ≤ s + cnt k (G s) := by
  obtain ⟨V, rV, cV⟩ := hS.elim (fun h => h.to t) (fun h => h.to t)
  have tl := t.lt
  constructor
  · rintro ⟨U, r, c⟩
    have sub : Sub k U (fun i => S i || G T i) := fun i hi u => by
      cases g : G T i with
      | true => show (S i || G T i) = true; rw [g, Bool.or_true]
      | false =>
        rw [fast_inv t r i hi g] at u
        show (S i || G T i) = true
        rw [u]; rfl
    refine ⟨by rw [← c]; exact cnt_mono sub, fun s hs hk => ?_⟩
    by_cases z : n ≤ s
    · omega
    · -- U isn't stuck from above
      have c0 := cnt_co k U
      have cle := cnt_le k U
      rcases stuck_or (k := k) (G := Th.dual k G) (S := co U) (k - 1 - T + 1) with ⟨N, a, b⟩ | q
      · exfalso
        have hr := (rV.symm.trans r).symm.dual
        have := (b.under t.dual (by omega) hr).1
        have c1 := cnt_co k V
        omega
      · have q2 := q (k - 1 - s) (by omega) (by omega)
        have e : (fun i => co U i || Th.dual k G (k - 1 - s) i) = co (fun i => U i && !G s i) := by
          rw [co_or]
          funext i
          show (!(U i && !Th.dual k G (k - 1 - s) i)) = !(U i && !G s i)
          have := dual_dual_at (G := G) (k := k) (s := s) hk i
          unfold Th.dual at this ⊢
          rw [this]
        rw [e] at q2
        have c1 := cnt_co k (fun i => U i && !G s i)
        have c2 := cnt_split (k := k) U (G s)
        have c3 := cnt_mono (k := k) (S := fun i => U i && G s i) (U := G s) fun i _ h => by revert h; cases U i <;> simp
        omega
  · rintro ⟨h1, h2⟩
    have cR : cnt k (fun i => S i && !G T i) + cnt k (G T) = cnt k (fun i => S i || G T i) := by
      have e := cnt_or_not (k := k) (G T) S
      have e1 : (fun i => G T i || S i) = (fun i => S i || G T i) := funext fun i => Bool.or_comm _ _
      rw [e1] at e
      omega
    have rT : cnt k (fun i => S i && !G T i) ≤ T := by
      refine Nat.le_trans (cnt_mono (U := V) fun i hi q => ?_) (Nat.le_of_eq cV)
      have q' : (S i && !G T i) = true := q
      have g : G T i = false := by revert q'; cases G T i <;> cases S i <;> simp
      have s : S i = true := by revert q'; cases G T i <;> cases S i <;> simp
      rw [fast_inv t rV i hi g]
      exact s
    obtain ⟨A, a1, a2, a3, a4⟩ := chain (k := k) G (fun s => T ≤ s ∧ s < k) (fun s s' hs hs' => by
      by_cases z : s ≤ s'
      · exact .inr fun i _ g => t.dn _ _ _ hs.1 z hs'.2 g
      · exact .inl fun i _ g => t.dn _ _ _ hs'.1 (by omega) hs.2 g) (G T) (fun s hs i _ g => t.dn _ _ _ (Nat.le_refl _) hs.1 hs.2 g) (n - cnt k (fun i => S i && !G T i)) (by omega)
    have hout : ∀ i, ¬ i < k → (fun i => if i < k then (S i && !G T i) || A i else S i) i = S i := fun i hi => by show (if i < k then (S i && !G T i) || A i else S i) = S i; rw [if_neg hi]
    have hin : ∀ i, i < k → (fun i => if i < k then (S i && !G T i) || A i else S i) i = ((S i && !G T i) || A i) := fun i hi => by show (if i < k then (S i && !G T i) || A i else S i) = _; rw [if_pos hi]
    have cU : cnt k (fun i => if i < k then (S i && !G T i) || A i else S i) = n := by
      rw [cnt_congr hin, cnt_or_not]
      have : cnt k (fun i => A i && !(S i && !G T i)) = cnt k A := cnt_congr fun i hi => by
        cases q : A i with
        | false => rfl
        | true => rw [a1 i hi q]; cases S i <;> rfl
      omega
    refine ⟨_, open_reach t hS ?_ (fun i hi g => ?_) hout, cU⟩
    · by_cases z : n = T
      · exact .inl ⟨by omega, fun m x y => by omega⟩
      · refine .inr ⟨by omega, fun s x y => ?_⟩
        rw [cU] at y
        have sk : s < k := by
          have := cnt_le k (fun i => if i < k then (S i && !G T i) || A i else S i)
          omega
        have q := h2 s x sk
        have e1 : cnt k (fun i => (fun i => if i < k then (S i && !G T i) || A i else S i) i && !G s i) ≤ cnt k (fun i => S i && !G T i) + cnt k (fun i => A i && !G s i) := by
          have e : cnt k (fun i => (fun i => if i < k then (S i && !G T i) || A i else S i) i && !G s i) ≤ cnt k (fun i => (S i && !G T i) || (A i && !G s i)) := cnt_mono fun i hi w => by
            rw [hin i hi] at w
            show ((S i && !G T i) || (A i && !G s i)) = true
            revert w
            cases S i <;> cases G T i <;> cases A i <;> cases G s i <;> simp
          have e2 := cnt_or_not (k := k) (fun i => S i && !G T i) (fun i => A i && !G s i)
          have e3 := cnt_mono (k := k) (S := fun i => (A i && !G s i) && !(S i && !G T i)) (U := fun i => A i && !G s i) fun i _ w => by revert w; cases (A i && !G s i) <;> simp
          omega
        rcases a4 s ⟨x, sk⟩ with w | w
        · have e3 : cnt k (fun i => A i && !G s i) = 0 := cnt_none fun i hi => by
            cases q : A i with
            | false => rfl
            | true => rw [w i hi q]; rfl
          omega
        · have e3 := cnt_diff w
          omega
    · show (if i < k then S i && !G T i || A i else S i) = S i
      rw [if_pos hi, g]
      cases q : A i with
      | true => rw [a1 i hi q] at g; cases g
      | false => cases S i <;> rfl
end
end Th

namespace Sh
/-! ### fleets: sums over sorts, and ships one by one -/
abbrev Srt := Int × Nat × Nat
def mny (ss : List Srt) : Nat := (ss.map fun x => x.2.1 + x.2.2).sum
theorem mny_cons (x : Srt) (l : List Srt) : mny (x :: l) = x.2.1 + x.2.2 + mny l := by
  unfold mny
  rw [List.map_cons, List.sum_cons]
theorem mny_snoc (l : List Srt) (x : Srt) : mny (l ++ [x]) = mny l + (x.2.1 + x.2.2) := by
  unfold mny
  rw [List.map_append, List.sum_append]
  simp
def ourn (ss : List Srt) : Nat := (ss.map fun x => x.2.1).sum
def gmF (ss : List Srt) (m : Int) : Nat := ((ss.filter fun x => decide (x.1 ≤ m)).map fun x => x.2.1 + x.2.2).sum
def filF (ss : List Srt) (m : Int) : Nat := (ss.map fun x => x.2.1 + if x.1 ≤ m then x.2.2 else 0).sum
def fxF (ss : List Srt) (m : Int) : List Nat := (ss.filter fun x => decide (x.1 > m)).map fun x => x.2.1
def turnF (ss : List Srt) : List Srt := ss.map fun x => (x.1, x.2.2, x.2.1)
theorem mny_turn (ss : List Srt) : mny (turnF ss) = mny ss := by
  unfold mny turnF
  rw [List.map_map]
  congr 1
  exact List.map_congr_left fun x _ => Nat.add_comm _ _
theorem turn_turn (ss : List Srt) : turnF (turnF ss) = ss := by
  unfold turnF
  rw [List.map_map]
  exact (List.map_congr_left fun x _ => rfl).trans (List.map_id ss)
/-- the ships of a fleet one by one -/
structure Rp (ss : List Srt) (k : Nat) (D : Nat → Int) (S : Nat → Bool) : Prop where
  here : ∀ P : Int → Bool, ((ss.filter fun x => P x.1).map fun x => x.2.1).sum = Th.cnt k (fun i => P (D i) && S i)
  there : ∀ P : Int → Bool, ((ss.filter fun x => P x.1).map fun x => x.2.2).sum = Th.cnt k (fun i => P (D i) && !S i)
theorem sum_two (f g : Srt → Nat) : ∀ l : List Srt, (l.map fun x => f x + g x).sum = (l.map f).sum + (l.map g).sum
  | [] => rfl
  | a :: l => by
    simp only [List.map_cons, List.sum_cons, sum_two f g l]
    omega
theorem sum_filter (P : Srt → Bool) (f : Srt → Nat) : ∀ l : List Srt, (l.map fun x => if P x = true then f x else 0).sum = ((l.filter P).map f).sum
  | [] => rfl
  | a :: l => by
    cases h : P a <;> simp [h, sum_filter P f l]
section
variable {ss : List Srt} {k : Nat} {D : Nat → Int} {S : Nat → Bool}
theorem Rp.gm (r : Rp ss k D S) (m : Int) : gmF ss m = Th.cnt k (fun i => decide (D i ≤ m)) := by
  unfold gmF
  rw [sum_two (fun x => x.2.1) (fun x => x.2.2), r.here fun d => decide (d ≤ m), r.there fun d => decide (d ≤ m)]
  exact (Th.cnt_split _ S).symm
theorem Rp.ourn (r : Rp ss k D S) : ourn ss = Th.cnt k S := by
  have e := r.here fun _ => true
  rw [List.filter_eq_self.mpr fun _ _ => rfl] at e
  exact e
theorem Rp.mny (r : Rp ss k D S) : mny ss = k := by
  have e := r.there fun _ => true
  rw [List.filter_eq_self.mpr fun _ _ => rfl] at e
  unfold Sh.mny
  rw [sum_two (fun x => x.2.1) (fun x => x.2.2), e]
  have e2 := r.ourn
  unfold Sh.ourn at e2
  rw [e2]
  exact Th.cnt_not S
theorem Rp.fil (r : Rp ss k D S) (m : Int) : filF ss m = Th.cnt k (fun i => S i || decide (D i ≤ m)) := by
  unfold filF
  rw [sum_two (fun x => x.2.1) (fun x => if x.1 ≤ m then x.2.2 else 0)]
  have e1 := r.ourn
  unfold Sh.ourn at e1
  have e2 : (ss.map fun x => if x.1 ≤ m then x.2.2 else 0).sum = Th.cnt k (fun i => decide (D i ≤ m) && !S i) := by
    rw [← r.there fun d => decide (d ≤ m), ← sum_filter]
    congr 1
    refine List.map_congr_left fun x _ => ?_
    by_cases z : x.1 ≤ m
    · rw [if_pos z, if_pos (decide_eq_true z)]
    · rw [if_neg z, if_neg (by simpa using z)]
  rw [e1, e2, Th.cnt_or_not]
theorem Rp.fx (r : Rp ss k D S) (m : Int) : (fxF ss m).sum = Th.cnt k (fun i => S i && !decide (D i ≤ m)) := by
  unfold fxF
  rw [r.here fun d => decide (d > m)]
  refine Th.cnt_congr fun i _ => ?_
  rw [Bool.and_comm]
  congr 1
  by_cases z : D i ≤ m
  · rw [decide_eq_true z, decide_eq_false (by omega)]; rfl
  · rw [decide_eq_false z, decide_eq_true (by omega)]; rfl
theorem Rp.turn (r : Rp ss k D S) : Rp (turnF ss) k D (Th.co S) := by
  refine ⟨fun P => ?_, fun P => ?_⟩
  · have e := r.there P
    unfold turnF
    rw [List.filter_map, List.map_map]
    exact e
  · have e := r.here P
    unfold turnF
    rw [List.filter_map, List.map_map]
    refine Eq.trans e ?_
    refine Th.cnt_congr fun i _ => ?_
    unfold Th.co
    rw [Bool.not_not]
end
/-- who goes at a step -/
def Gd (h t : Int) (k : Nat) (D : Nat → Int) : Nat → Nat → Bool := fun s i => decide (D i ≤ mk h t k (s : Int))
theorem top_lo' (h t : Int) (k : Nat) : 0 ≤ topI h t k := by
  unfold topI
  split <;> omega
theorem top_hi' (h t : Int) {k : Nat} (hk : 0 < k) : topI h t k < (k : Int) := by
  unfold topI
  repeat' split
  all_goals omega
theorem mk_le {h t : Int} {k : Nat} {s s' : Int} (s0 : 0 ≤ s) (a : s ≤ s') (b : s' ≤ topI h t k) : mk h t k s ≤ mk h t k s' := by
  unfold mk topI at *
  repeat' split
  all_goals (repeat' split at b)
  all_goals omega
theorem mk_dn {h t : Int} {k : Nat} {s s' : Int} (c : topI h t k ≤ s) (a : s ≤ s') (d : s' < (k : Int)) : mk h t k s' ≤ mk h t k s := by
  unfold mk topI at *
  repeat' split
  all_goals (repeat' split at c)
  all_goals omega
theorem mk_turn' {h t : Int} {k : Nat} {s : Int} : mk t h k s = mk h t k ((k : Int) - 1 - s) := by
  unfold mk
  split <;> split <;> omega
/-- up to the top the water here bounds -/
theorem mk_low {h t : Int} {k : Nat} {s : Int} (s0 : 0 ≤ s) (b : s < topI h t k) : mk h t k s = h + s := by
  unfold mk topI at *
  repeat' split at b
  all_goals split
  all_goals omega
theorem mk_high {h t : Int} {k : Nat} {s : Int} (s0 : 0 ≤ s) (b : s < (k : Int) - 1 - topI h t k) : mk t h k s = t + s := by
  unfold mk topI at *
  repeat' split at b
  all_goals split
  all_goals omega
theorem top_D (h t : Int) {k : Nat} (D : Nat → Int) (hk : 0 < k) : Th.Top k (Gd h t k D) (topI h t k).toNat := by
  have t0 := top_lo' h t k
  have t1 := top_hi' h t hk
  refine ⟨by omega, fun s s' i a b g => ?_, fun s s' i a b c g => ?_⟩
  · have g' : D i ≤ mk h t k (s : Int) := of_decide_eq_true g
    exact decide_eq_true (Int.le_trans g' (mk_le (by omega) (by omega) (by omega)))
  · have g' : D i ≤ mk h t k (s' : Int) := of_decide_eq_true g
    exact decide_eq_true (Int.le_trans g' (mk_dn (by omega) (by omega) (by omega)))
theorem Gd_turn {h t : Int} {k : Nat} {D : Nat → Int} {s i : Nat} (hs : s < k) : Gd t h k D s i = Th.dual k (Gd h t k D) s i := by
  unfold Gd Th.dual
  rw [mk_turn', show ((k : Int) - 1 - (s : Int)) = ((k - 1 - s : Nat) : Int) by omega]
/-! ### stuck, by sums -/
def StuckF (h t : Int) (ss : List Srt) (N : Nat) : Prop := ourn ss ≤ N ∧ (∀ n : Nat, ourn ss ≤ n → n < N → n < filF ss (mk h t (mny ss) (n : Int))) ∧ filF ss (mk h t (mny ss) (N : Int)) ≤ N
theorem Rp.stuck {ss : List Srt} {k : Nat} {D : Nat → Int} {S : Nat → Bool} (r : Rp ss k D S) (h t : Int) (N : Nat) : StuckF h t ss N ↔ Th.StuckLow k (Gd h t k D) N S := by
  unfold StuckF Th.StuckLow
  rw [r.ourn, r.mny, r.fil]
  have e : ∀ n : Nat, filF ss (Sh.mk h t k (n : Int)) = Th.cnt k (fun i => S i || Gd h t k D n i) := fun n => r.fil _
  simp only [e]
  exact Iff.rfl
end Sh
namespace Th
theorem StuckLow.congr {k : Nat} {G G' : Nat → Nat → Bool} {S : Nat → Bool} {N : Nat} (hN : N < k) (e : ∀ s i, s < k → G s i = G' s i) (h : StuckLow k G N S) : StuckLow k G' N S := by
  have e2 : ∀ n, n < k → cnt k (fun i => S i || G n i) = cnt k (fun i => S i || G' n i) := fun n hn => cnt_congr fun i _ => by rw [e n i hn]
  refine ⟨h.1, fun n a b => ?_, ?_⟩
  · rw [← e2 n (by omega)]
    exact h.2.1 n a b
  · rw [← e2 N hN]
    exact h.2.2
/-- gets to the top's number, and somebody may go there -/
def Open (k : Nat) (G : Nat → Nat → Bool) (T : Nat) (S : Nat → Bool) : Prop := (Rises k G T S ∨ Sinks k G T S) ∧ T < cnt k (fun i => S i || G T i)
theorem Open.congr {k : Nat} {G G' : Nat → Nat → Bool} {T : Nat} {S : Nat → Bool} (hT : T < k) (e : ∀ s i, s < k → G s i = G' s i) (h : Open k G T S) : Open k G' T S := by
  have e2 : ∀ n, n < k → cnt k (fun i => S i || G n i) = cnt k (fun i => S i || G' n i) := fun n hn => cnt_congr fun i _ => by rw [e n i hn]
  have e3 : ∀ n, n < k → cnt k (fun i => S i && !G n i) = cnt k (fun i => S i && !G' n i) := fun n hn => cnt_congr fun i _ => by rw [e n i hn]
  have cl := cnt_le k S
  refine ⟨h.1.imp (fun q => ⟨q.1, fun n a b => ?_⟩) (fun q => ⟨q.1, fun s a b => ?_⟩), ?_⟩
  · rw [← e2 n (by omega)]
    exact q.2 n a b
  · rw [← e3 s (by omega)]
    exact q.2 s a b
  · rw [← e2 T hT]
    exact h.2
theorem cnt_and_or {k : Nat} (S f : Nat → Bool) : cnt k (fun i => S i && !f i) + cnt k f = cnt k (fun i => S i || f i) := by
  have e := cnt_or_not (k := k) f S
  have e1 : (fun i => f i || S i) = (fun i => S i || f i) := funext fun i => Bool.or_comm _ _
  rw [e1] at e
  omega
theorem Open.dual {k : Nat} {G : Nat → Nat → Bool} {T : Nat} {S : Nat → Bool} (t : Top k G T) (h : Open k G T S) : Open k (Th.dual k G) (k - 1 - T) (co S) := by
  have tl := t.lt
  have c0 := cnt_co k S
  have cle := cnt_le k S
  have key : ∀ n, n < k → cnt k (fun i => co S i && !Th.dual k G (k - 1 - n) i) + cnt k (fun i => S i || G n i) = k := fun n hn => by
    have e : (fun i => co S i && !Th.dual k G (k - 1 - n) i) = co (fun i => S i || G n i) := by
      funext i
      have := dual_dual_at (G := G) (k := k) (s := n) hn i
      unfold Th.dual at this
      show (!S i && !G (k - 1 - (k - 1 - n)) i) = !(S i || G n i)
      rw [this]
      cases S i <;> cases G n i <;> rfl
    rw [e, Nat.add_comm]
    exact cnt_co k _
  have key2 : ∀ n, n < k → cnt k (fun i => co S i || Th.dual k G (k - 1 - n) i) + cnt k (fun i => S i && !G n i) = k := fun n hn => by
    have e : (fun i => co S i || Th.dual k G (k - 1 - n) i) = co (fun i => S i && !G n i) := by
      rw [co_or]
      funext i
      have := dual_dual_at (G := G) (k := k) (s := n) hn i
      unfold Th.dual at this
      show (!(S i && !G (k - 1 - (k - 1 - n)) i)) = !(S i && !G n i)
      rw [this]
    rw [e, Nat.add_comm]
    exact cnt_co k _
  obtain ⟨rs, hc⟩ := h
  have hf : cnt k (fun i => S i && !G T i) ≤ T := by
    rcases rs with q | q
    · exact Nat.le_trans (cnt_mono fun i _ w => by revert w; cases S i <;> simp) q.1
    · exact q.2 T (Nat.le_refl _) q.1
  refine ⟨?_, ?_⟩
  · rcases rs with ⟨q1, q2⟩ | ⟨q1, q2⟩
    · refine .inr ⟨by omega, fun s a b => ?_⟩
      have hk := key (k - 1 - s) (by omega)
      rw [show k - 1 - (k - 1 - s) = s by omega] at hk
      have : k - 1 - s < cnt k (fun i => S i || G (k - 1 - s) i) := by
        by_cases z : k - 1 - s = T
        · rw [z]; exact hc
        · exact q2 _ (by omega) (by omega)
      omega
    · refine .inl ⟨by omega, fun n a b => ?_⟩
      have hk := key2 (k - 1 - n) (by omega)
      rw [show k - 1 - (k - 1 - n) = n by omega] at hk
      have := q2 (k - 1 - n) (by omega) (by omega)
      omega
  · have hk := key2 T tl
    omega
/-- how few can come to lie here, of a lot that gets to the top's number -/
theorem open_counts_low {k : Nat} {G : Nat → Nat → Bool} {T n : Nat} {S : Nat → Bool} (t : Top k G T) (h : Open k G T S) (hn : n ≤ T + 1) : (∃ U, Reach k G S U ∧ cnt k U = n) ↔ cnt k (fun i => S i && !G T i) ≤ n ∧ ∀ m, m ≤ T → m + 1 ≤ n + cnt k (G m) := by
  have tl := t.lt
  have hd := h.dual t
  have oc := open_counts (n := k - n) t.dual hd.1 (by omega)
  have e1 : (∃ U, Reach k G S U ∧ cnt k U = n) ↔ ∃ U, Reach k (Th.dual k G) (co S) U ∧ cnt k U = k - n := by
    constructor
    · rintro ⟨U, r, c⟩
      refine ⟨co U, r.dual, ?_⟩
      have := cnt_co k U
      omega
    · rintro ⟨U, r, c⟩
      refine ⟨co U, ?_, ?_⟩
      · refine Reach.codual ?_
        rw [co_co]
        exact r
      · have := cnt_co k U
        omega
  have e2 : cnt k (fun i => co S i || Th.dual k G (k - 1 - T) i) + cnt k (fun i => S i && !G T i) = k := by
    have e : (fun i => co S i || Th.dual k G (k - 1 - T) i) = co (fun i => S i && !G T i) := by
      rw [co_or]
      funext i
      have := dual_dual_at (G := G) (k := k) (s := T) tl i
      unfold Th.dual at this
      show (!(S i && !G (k - 1 - (k - 1 - T)) i)) = !(S i && !G T i)
      rw [this]
    rw [e, Nat.add_comm]
    exact cnt_co k _
  rw [e1, oc]
  constructor
  · rintro ⟨a, b⟩
    refine ⟨by omega, fun m hm => ?_⟩
    have := b (k - 1 - m) (by omega) (by omega)
    unfold Th.dual at this
    rw [show k - 1 - (k - 1 - m) = m by omega] at this
    have this' : k - n ≤ k - 1 - m + cnt k (G m) := this
    omega
  · rintro ⟨a, b⟩
    refine ⟨by omega, fun s hs hk => ?_⟩
    have := b (k - 1 - s) (by omega)
    show k - n ≤ s + cnt k (G (k - 1 - s))
    omega
def IsMin (k : Nat) (G : Nat → Nat → Bool) (S : Nat → Bool) (n : Nat) : Prop := (∃ U, Reach k G S U ∧ cnt k U = n) ∧ ∀ U, Reach k G S U → n ≤ cnt k U
def IsMax (k : Nat) (G : Nat → Nat → Bool) (S : Nat → Bool) (n : Nat) : Prop := (∃ U, Reach k G S U ∧ cnt k U = n) ∧ ∀ U, Reach k G S U → cnt k U ≤ n
theorem IsMin.co {k : Nat} {G : Nat → Nat → Bool} {S : Nat → Bool} {n : Nat} (h : IsMin k (Th.dual k G) (co S) n) : n ≤ k ∧ IsMax k G S (k - n) := by
  obtain ⟨⟨U, r, c⟩, hm⟩ := h
  have cu := cnt_le k U
  refine ⟨by omega, ⟨Th.co U, ?_, ?_⟩, fun W rW => ?_⟩
  · refine Reach.codual ?_
    rw [co_co]
    exact r
  · have := cnt_co k U
    omega
  · have := hm _ rW.dual
    have := cnt_co k W
    omega
theorem IsMin.congr {k : Nat} {G G' : Nat → Nat → Bool} {S : Nat → Bool} {n : Nat} (e : ∀ s i, s < k → G s i = G' s i) (h : IsMin k G S n) : IsMin k G' S n := by
  obtain ⟨⟨U, r, c⟩, hm⟩ := h
  exact ⟨⟨U, r.congr e, c⟩, fun W rW => hm W (rW.congr fun s i hs => (e s i hs).symm)⟩
theorem stuck_min_high {k : Nat} {G : Nat → Nat → Bool} {T N : Nat} {S : Nat → Bool} (t : Top k G T) (hN : N ≤ T) (h : StuckLow k G N S) : IsMax k G S N := by
  obtain ⟨U, r, c, _⟩ := h.full t hN
  exact ⟨⟨U, r, c⟩, fun W rW => (h.under t hN rW).1⟩
end Th
namespace Sh
/-! ### the least number, as it's told -/
/-- m is the greatest of what least_in looks at -/
def LeastI (h t : Int) (ss : List Srt) (step : Int) (m : Int) : Prop :=
  (m = ((fxF ss (mk h t (mny ss) step)).sum : Int) ∨ ∃ e : Int, (e = step ∨ (∃ x ∈ ss, e = x.1 - h ∧ e < step)) ∧ 0 < e ∧ m = e - (gmF ss (mk h t (mny ss) (e - 1)) : Int)) ∧
  ((fxF ss (mk h t (mny ss) step)).sum : Int) ≤ m ∧ ∀ e : Int, (e = step ∨ (∃ x ∈ ss, e = x.1 - h ∧ e < step)) → 0 < e → e - (gmF ss (mk h t (mny ss) (e - 1)) : Int) ≤ m
/-- the ends are enough -/
theorem least_ends {h t : Int} {ss : List Srt} {N : Nat} {m0 : Int} (hm : ∀ m : Nat, m < N → mk h t (mny ss) (m : Int) = h + m)
    (ub : ∀ e : Int, (e = (N : Int) ∨ (∃ x ∈ ss, e = x.1 - h ∧ e < (N : Int))) → 0 < e → e - (gmF ss (mk h t (mny ss) (e - 1)) : Int) ≤ m0) :
    ∀ (j m : Nat), m < N → N - m = j → (m : Int) + 1 - (gmF ss (mk h t (mny ss) (m : Int)) : Int) ≤ m0 := by
  intro j
  induction j with
  | zero => intro m a b; omega
  | succ j ih =>
    intro m a b
    by_cases z : m + 1 = N
    · have := ub N (.inl rfl) (by omega)
      rw [show (N : Int) - 1 = (m : Int) by omega] at this
      omega
    · by_cases q : ∃ x ∈ ss, x.1 - h = (m : Int) + 1
      · obtain ⟨x, hx, e⟩ := q
        have := ub ((m : Int) + 1) (.inr ⟨x, hx, e.symm, by omega⟩) (by omega)
        rw [show (m : Int) + 1 - 1 = (m : Int) by omega] at this
        exact this
      · have i2 := ih (m + 1) (by omega) (by omega)
        rw [hm (m + 1) (by omega)] at i2
        rw [hm m a]
        have e : gmF ss (h + ((m + 1 : Nat) : Int)) = gmF ss (h + (m : Int)) := by
          unfold gmF
          congr 2
          refine List.filter_congr fun x hx => ?_
          rw [decide_eq_decide]
          have : ¬ x.1 - h = (m : Int) + 1 := fun w => q ⟨x, hx, w⟩
          omega
        rw [e] at i2
        omega
section
variable {ss : List Srt} {k : Nat} {D : Nat → Int} {S : Nat → Bool} {h t : Int}
theorem least_low (r : Rp ss k D S) {T N : Nat} (tp : Th.Top k (Gd h t k D) T) (hN : N ≤ T) (sl : Th.StuckLow k (Gd h t k D) N S) (hm : ∀ m : Nat, m < N → mk h t k (m : Int) = h + m) {m0 : Int} (L : LeastI h t ss (N : Int) m0) :
    ∃ n : Nat, m0 = (n : Int) ∧ Th.IsMin k (Gd h t k D) S n := by
  obtain ⟨l1, l2, l3⟩ := L
  have km := r.mny
  have hends := least_ends (h := h) (t := t) (ss := ss) (N := N) (by rw [km]; exact hm) l3
  have efx := r.fx (mk h t (mny ss) (N : Int))
  rw [km] at efx hends l1 l2 l3
  have gme : ∀ m : Nat, gmF ss (mk h t k (m : Int)) = Th.cnt k (Gd h t k D m) := fun m => r.gm _
  have fxle : (fxF ss (mk h t k (N : Int))).sum ≤ Th.cnt k S := by
    rw [efx]
    exact Th.cnt_mono fun i _ w => by revert w; cases S i <;> simp
  have m0N : m0 ≤ (N : Int) := by
    have := sl.1
    rcases l1 with e | ⟨e, he, e0, e1⟩
    · omega
    · rcases he with he | ⟨x, _, _, he⟩ <;> omega
  have cond : ∀ m, m < N → m + 1 ≤ m0.toNat + Th.cnt k (Gd h t k D m) := fun m a => by
    have := hends _ m a rfl
    rw [gme] at this
    omega
  refine ⟨m0.toNat, by omega, (Th.low_counts sl tp hN (by omega)).mpr cond, fun U rU => ?_⟩
  have ur := sl.under tp hN rU
  have lc := (Th.low_counts sl tp hN ur.1).mp ⟨U, rU, rfl⟩
  rcases l1 with e | ⟨e, he, e0, e1⟩
  · have : Th.cnt k (fun i => S i && !Gd h t k D N i) ≤ Th.cnt k U := Th.cnt_mono fun i hi w => by
      have := ur.2 i hi
      revert w this
      cases S i <;> cases U i <;> cases Gd h t k D N i <;> simp
    have e3 : (fxF ss (mk h t k (N : Int))).sum = Th.cnt k (fun i => S i && !Gd h t k D N i) := efx
    omega
  · have eN : e ≤ (N : Int) := by rcases he with he | ⟨x, _, _, he⟩ <;> omega
    have := lc (e - 1).toNat (by omega)
    rw [show e - 1 = (((e - 1).toNat : Nat) : Int) by omega, gme] at e1
    omega
theorem least_open (r : Rp ss k D S) {T : Nat} (tp : Th.Top k (Gd h t k D) T) (op : Th.Open k (Gd h t k D) T S) (hm : ∀ m : Nat, m < T → mk h t k (m : Int) = h + m) {m0 : Int} (L : LeastI h t ss (T : Int) m0) :
    ∃ n : Nat, m0 = (n : Int) ∧ Th.IsMin k (Gd h t k D) S n := by
  obtain ⟨l1, l2, l3⟩ := L
  have km := r.mny
  have hends := least_ends (h := h) (t := t) (ss := ss) (N := T) (by rw [km]; exact hm) l3
  have efx := r.fx (mk h t (mny ss) (T : Int))
  rw [km] at efx hends l1 l2 l3
  have e3 : (fxF ss (mk h t k (T : Int))).sum = Th.cnt k (fun i => S i && !Gd h t k D T i) := efx
  have gme : ∀ m : Nat, gmF ss (mk h t k (m : Int)) = Th.cnt k (Gd h t k D m) := fun m => r.gm _
  have fT : Th.cnt k (fun i => S i && !Gd h t k D T i) ≤ T := by
    rcases op.1 with q | q
    · exact Nat.le_trans (Th.cnt_mono fun i _ w => by revert w; cases S i <;> simp) q.1
    · exact q.2 T (Nat.le_refl _) q.1
  have m0N : m0 ≤ (T : Int) := by
    rcases l1 with e | ⟨e, he, e0, e1⟩
    · omega
    · rcases he with he | ⟨x, _, _, he⟩ <;> omega
  have ca := Th.cnt_and_or (k := k) S (Gd h t k D T)
  have opc := op.2
  refine ⟨m0.toNat, by omega, (Th.open_counts_low tp op (by omega)).mpr ⟨by omega, fun m a => ?_⟩, fun U rU => ?_⟩
  · by_cases z : m = T
    · subst z
      omega
    · have := hends _ m (by omega) rfl
      rw [gme] at this
      omega
  · by_cases z : Th.cnt k U ≤ T + 1
    · have lc := (Th.open_counts_low tp op z).mp ⟨U, rU, rfl⟩
      rcases l1 with e | ⟨e, he, e0, e1⟩
      · have := lc.1
        omega
      · have eN : e ≤ (T : Int) := by rcases he with he | ⟨x, _, _, he⟩ <;> omega
        have := lc.2 (e - 1).toNat (by omega)
        rw [show e - 1 = (((e - 1).toNat : Nat) : Int) by omega, gme] at e1
        omega
    · omega
end
end Sh

/-! set(xs) of a list of ints, by the walk of the list -/
namespace Sh
open PySem PySem.Spec PyProof.Rows L2
section
variable {P : Program} {w : World} {A : Around} {E : Value → Shared → Prop} {s : Shared}
/-- a set as it is born -/
abbrev Bare (w : World) : Obj := { cls := .type "set", dict := none, data := .set #[] 0 (.fresh 0 0 (!w.params.followText "set-order")) }
/-- what is left: a set of the ints; all that stood stands -/
def Made (w : World) (s : Shared) (ns : List Int) (t : Shared) : Prop := ∃ (h' : Heap) (tk c : Nat), t = { s with heap := h', toks := tk } ∧ SetR w h' s.heap.objs.size (fun j => decide (j ∈ ns)) c ∧ c ≤ ns.length ∧ ∀ b o, s.heap.get? b = some o → h'.get? b = some o
/-- the ints of the list, one by one, into the set that was born at the end of the heap -/
theorem fill_lst {A3 : Around} {l : Addr} {items : Array Value} {ns : List Int} {R : Result → Shared → Prop} (hh : A3.in1.handled = none) (hl : s.heap.IsList l items) (hit : IntsAre items.toList ns) (hb : ns.length + 1 < scanBound)
    (hR : ∀ t, Made w s ns t → R (.ok (.ret .none)) t) :
    codeAny (model P w) A3 (.builtin "set.update.loop" ⟨[.ref s.heap.objs.size, .ref (s.heap.push (Bare w)).objs.size], []⟩) R { s with heap := (s.heap.push (Bare w)).push { cls := .type "list_iterator", data := .fields #[.ref l, .int 0 0] } } := by
  have n1 : items.size = ns.length := by rw [← Array.length_toList]; exact hit.length
  obtain ⟨ol, e1, e2, e3⟩ := id hl
  have l1 : l < s.heap.objs.size := Heap.lt_size e1
  have z1 : (s.heap.push (Bare w)).objs.size = s.heap.objs.size + 1 := Heap.size_push ..
  have l2 : l ≠ (s.heap.push (Bare w)).objs.size := by rw [z1]; exact Nat.ne_of_lt (Nat.lt_succ_of_lt l1)
  have vals : ∀ (i : Nat) (v : Value), items[i]? = some v → ∃ k t, ns[i]? = some k ∧ v = .int k t := by
    intro i v hv
    have hi : i < ns.length := n1 ▸ (Array.getElem?_eq_some_iff.mp hv).1
    obtain ⟨t, e⟩ := IntsAre.int_at hit i v (by rw [Array.getElem?_toList]; exact hv)
    exact ⟨ns[i], t, List.getElem?_eq_getElem hi, by rw [e, List.getD_eq_getElem?_getD, List.getElem?_eq_getElem hi]; rfl⟩
  have born : ((s.heap.push (Bare w)).push { cls := .type "list_iterator", data := .fields #[.ref l, .int 0 0] }).get? s.heap.objs.size = some (Bare w) := Heap.get?_push_of_some _ (Heap.get?_push_size _ rfl)
  refine set_update_ints ((Walks.list hh _ l l2 items).toS) s.heap.objs.size (by rw [z1]; simp only [List.mem_cons, List.not_mem_nil, or_false, not_or]; exact ⟨Nat.ne_of_lt (Nat.lt_succ_self _), Nat.ne_of_gt l1⟩) ns n1 hb vals (items.size - 0) 0 _ (by omega) (Nat.zero_le _) ⟨⟨_, Heap.get?_push_size _ rfl, rfl, rfl⟩, (hl.push _).push _⟩ ⟨0, Nat.le_refl 0, setR_new_at born⟩ ?_
  rintro ⟨h', g2, d', tk', os'⟩ c' mv hc' hS'
  obtain rfl : g2 = s.gens := mv.gens
  obtain rfl : d' = s.drawn := mv.drawn
  obtain rfl : os' = s.os := mv.os
  refine hR _ ⟨h', tk', c', rfl, hS', by omega, fun b o e => ?_⟩
  have b0 := Heap.lt_size e
  exact mv.heap b o (by rw [z1]; simp only [List.mem_cons, List.not_mem_nil, or_false, not_or]; exact ⟨Nat.ne_of_lt b0, Nat.ne_of_lt (Nat.lt_succ_of_lt b0)⟩) (Heap.get?_push_of_some _ (Heap.get?_push_of_some _ e))
set_option maxHeartbeats 4000000 in
/-- set(xs) -/
theorem call_set_lst {l : Addr} {items : Array Value} {ns : List Int} {Q : Value → Shared → Prop} (hh : A.handled = none) (hl : s.heap.IsList l items) (hit : IntsAre items.toList ns) (hb : ns.length + 1 < scanBound)
    (h : ∀ t, Made w s ns t → Q (.ref s.heap.objs.size) t) : wpAny (model P w) A (call (.type "set") [.ref l]) Q E s := by
  have ⟨_, _, m1⟩ := F.called_set.mro; have m2 := F.called_set.made; have m3 := F.called_set.sub; have m4 := F.called_set.notType; have m5 := F.called_set.canCreate; have m6 := F.typeCall_set_1 (.ref l)
  refine wpAny_call (codeAny_of_tree (show wpAny _ _ (callAny (.type "set") _) _ _ _ from wpAny_pure ⟨Code.quiet_builtin _ (by decide +kernel), codeAny_builtin F.entry_type_call ?_⟩))
  rw [Around.under_plain (weight_type_call_type "set" [.ref l] []) rfl]
  repeat (any_goals (first | assumption | wp_step))
  refine codeAny_mono (code_set_led1 (.ref l) (E := E) (Q₁ := fun x t => x = .ref s.heap.objs.size ∧ t = { s with heap := s.heap.push (Bare w) }) ⟨rfl, rfl⟩) fun r t hr => ?_
  rcases r with e | fl
  · exact hr
  · rcases fl with x | _ | _ | _
    all_goals try exact hr.elim
    obtain ⟨rfl, rfl⟩ := hr
    have born : (s.heap.push (Bare w)).get? s.heap.objs.size = some (Bare w) := Heap.get?_push_size _ rfl
    have ty : Shared.TypeIs { s with heap := s.heap.push (Bare w) } (.ref s.heap.objs.size) "set" := ⟨_, born, rfl⟩
    have i1 := F.called_set.init.lookup; have i2 := F.called_set.init.bind (.ref s.heap.objs.size)
    repeat (any_goals (first | assumption | wp_step))
    refine codeAny_mono (codeAny_call_builtin (R := wants (fun x t => x = .none ∧ Made w s ns t) E) F.called_set.init.plain F.entry_set_init (check_set_init_1 ty ?_)) fun r2 t2 hr2 => ?_
    · obtain ⟨⟨ocls, odict, odata, oslots⟩, e1, e2, nl, e3⟩ := id hl
      simp only at e2 e3
      subst e2 e3
      have l1 : (s.heap.push (Bare w)).IsList l items := hl.push _
      have e4 : (s.heap.push (Bare w)).get? l = some { cls := .type "list", dict := odict, data := .seq items nl, slots := oslots } := Heap.get?_push_of_some _ e1
      have f1 := F.sub_list_set; have f2 := F.sub_list_frozenset; have f3 : (Value.type "list" == Value.type "dict") = false := by decide
      unfold Builtin.«set.__init__» noKeywords Builtin.Frozenset.updateFrom
      generalize eI : pyIter = it; wp_walk; subst eI
      refine wpAny_pyIter_list l1 (wpAny_bind (wpAny_runValue (fill_lst (by simp [hh]) hl hit hb fun t m => ?_)))
      exact wpAny_pure (wpAny_pure ⟨rfl, m⟩)
    · rcases r2 with e | fl
      · exact hr2
      · rcases fl with x | _ | _ | _
        all_goals try exact hr2.elim
        obtain ⟨rfl, m⟩ := hr2
        repeat (any_goals (first | assumption | wp_step))
        exact h _ m
/-- the members, each once -/
theorem SetR.keys {h : Heap} {a : Addr} {ns : List Int} {c : Nat} (R : SetR w h a (fun j => decide (j ∈ ns)) c) : ∃ ks : List Int, ks.Nodup ∧ (∀ k, k ∈ ks ↔ k ∈ ns) ∧ c = ks.length := by
  obtain ⟨o, es, ep, t, _, _, _, _, nd, hm, _, _, hn, _⟩ := R
  refine ⟨es.toList.map keyOf, nd, fun k => ?_, ?_⟩
  · rw [← hm k, decide_eq_true_eq]
  · rw [List.length_map, Array.length_toList, hn]
/-- set(xs) of a list or a tuple of ints, as a thing that stands -/
def rSetA (K : PySem.W.Frag) (w : World) : List V → Hp → VK → Prop := fun xs H Q => ∃ (q : Addr) (ns : List Int), xs = [.ref q] ∧ SqA K H q (ns.map V.int) ∧ ns.length ≤ 1000 ∧ ∀ (a : Addr) (ks : List Int), H a = none → ks.Nodup → (∀ k, k ∈ ks ↔ k ∈ ns) → Q (.ref a) (upd H a (SetO w a (fun j => decide (j ∈ ns)) ks.length))
theorem cr_setA {X : Cx} (hc : X.calm = true) : CallR X (.type "set") (rSetA X.K X.w) := by
  intro pins s σ H xs us Q I r h
  obtain ⟨q, ns, rfl, hq | hq, hl, k⟩ := h
  · rw [Vals.ref1 r]
    obtain ⟨its, rv, pl, hz⟩ := I.list hq
    refine call_set_lst (ns := ns) (I.ok.hd hc) pl.isList (ints_of_vals rv) (by unfold scanBound; omega) ?_
    rintro t ⟨h', tk, c, rfl, R1, hcn, kk⟩
    obtain ⟨ks, k1, k2, rfl⟩ := SetR.keys R1
    exact ⟨.ref _, upd H s.heap.objs.size (SetO X.w s.heap.objs.size _ ks.length), I.laid (t' := tk) kk (Nat.le_refl _) (setO_new R1), rfl, k _ _ (I.hok.fresh (Nat.le_refl _)) k1 k2⟩
  · rw [Vals.ref1 r]
    obtain ⟨its, rv, pt, hz⟩ := I.tuple hq
    refine call_set_tupI ns (I.ok.hd hc) (show s.heap.IsTuple q its.toArray from pt) (ints_of_vals rv) (by unfold scanBound; omega) fun h' tk c R1 hcn kk => ?_
    obtain ⟨ks, k1, k2, rfl⟩ := SetR.keys R1
    exact ⟨.ref _, upd H s.heap.objs.size (SetO X.w s.heap.objs.size _ ks.length), I.laid (t' := tk) kk (Nat.le_refl _) (setO_new R1), rfl, k _ _ (I.hok.fresh (Nat.le_refl _)) k1 k2⟩
theorem cr_setAw {X : Cx} (w : World) (hc : X.calm = true) (hw : X.w = w := by rfl) : CallR X (.type "set") (rSetA X.K w) := hw ▸ cr_setA hc
end
end Sh

namespace Sh
open PySem PySem.Spec PyProof.Rows L2
/-! ### fleets as they are handed in -/
def SrtV (x : Srt) : List V := [.int x.1, .int (x.2.1 : Int), .int (x.2.2 : Int)]
def SrtsA (K : PySem.W.Frag) (H : Hp) (rs : List Addr) (ss : List Srt) : Prop := rs.length = ss.length ∧ ∀ (i : Nat) (r : Addr) (x : Srt), rs[i]? = some r → ss[i]? = some x → SqA K H r (SrtV x)
theorem SrtsA.same {K : PySem.W.Frag} {H H' : Hp} {rs : List Addr} {ss : List Srt} (w : SrtsA K H rs ss) (e : Same H H') : SrtsA K H' rs ss := ⟨w.1, fun i r x a b => Same.sqA e (w.2 i r x a b)⟩
theorem srt_at {K : PySem.W.Frag} {H : Hp} {rs : List Addr} {ss : List Srt} {i : Nat} {v : V} (w : SrtsA K H rs ss) (g : (rs.map V.ref)[i]? = some v) : ∃ (r : Addr) (hi : i < ss.length), v = .ref r ∧ SqA K H r (SrtV ss[i]) := by
  rw [List.getElem?_map] at g
  cases e : rs[i]? with
  | none => rw [e] at g; cases g
  | some r =>
    rw [e] at g
    have hi : i < rs.length := (List.getElem?_eq_some_iff.mp e).1
    have hi2 : i < ss.length := w.1 ▸ hi
    exact ⟨r, hi2, (Option.some.inj g).symm, w.2 i r _ e (List.getElem?_eq_getElem hi2)⟩
/-- a fleet (lists or tuples) is handed in -/
def FltA (K : PySem.W.Frag) (H : Hp) (v : V) (h t : Int) (ss : List Srt) : Prop := ∃ (p q : Addr) (rs : List Addr), v = .ref p ∧ SqA K H p [.int h, .int t, .ref q] ∧ SqA K H q (rs.map V.ref) ∧ SrtsA K H rs ss
theorem FltA.same {K : PySem.W.Frag} {H H' : Hp} {v : V} {h t : Int} {ss : List Srt} (s : FltA K H v h t ss) (e : Same H H') : FltA K H' v h t ss := let ⟨p, q, rs, a, b, c, d⟩ := s; ⟨p, q, rs, a, Same.sqA e b, Same.sqA e c, d.same e⟩
/-- new sorts, as tuples -/
def SrtsN (H : Hp) (rs : List Addr) (ss : List Srt) : Prop := rs.length = ss.length ∧ ∀ (i : Nat) (r : Addr) (x : Srt), rs[i]? = some r → ss[i]? = some x → H r = some (.tup (SrtV x))
theorem SrtsN.a {K : PySem.W.Frag} {H : Hp} {rs : List Addr} {ss : List Srt} (w : SrtsN H rs ss) : SrtsA K H rs ss := ⟨w.1, fun i r x a b => SqA.t (w.2 i r x a b)⟩
theorem SrtsN.same {H H' : Hp} {rs : List Addr} {ss : List Srt} (w : SrtsN H rs ss) (e : Same H H') : SrtsN H' rs ss := ⟨w.1, fun i r x a b => e _ _ (w.2 i r x a b)⟩
theorem SrtsN.put {H : Hp} {rs : List Addr} {ss : List Srt} {C : Addr} {xs ys : List V} (w : SrtsN H rs ss) (h : H C = some (.lst xs)) : SrtsN (upd H C (.lst ys)) rs ss := ⟨w.1, fun i r x a b => by
  have q := w.2 i r x a b
  rw [upd_ne (ne_of q h (by intro z; cases z))]
  exact q⟩
theorem SrtsN.push {H : Hp} {rs : List Addr} {ss : List Srt} {u : Addr} {x : Srt} (w : SrtsN H rs ss) (n : H u = none) : SrtsN (upd H u (.tup (SrtV x))) (rs ++ [u]) (ss ++ [x]) := by
  refine ⟨by rw [List.length_append, List.length_append, w.1]; rfl, fun i r y a b => ?_⟩
  by_cases z : i < rs.length
  · rw [List.getElem?_append_left z] at a
    rw [List.getElem?_append_left (by rw [← w.1]; exact z)] at b
    exact same_new n _ _ (w.2 i r y a b)
  · have e : i = rs.length := by
      have := (List.getElem?_eq_some_iff.mp a).1
      rw [List.length_append] at this
      simp at this
      omega
    subst e
    rw [List.getElem?_append_right (Nat.le_refl _), Nat.sub_self] at a
    rw [List.getElem?_append_right (by rw [w.1]; exact Nat.le_refl _), w.1, Nat.sub_self] at b
    obtain rfl : u = r := Option.some.inj a
    obtain rfl : x = y := Option.some.inj b
    exact upd_same
theorem SrtsN.push' {H : Hp} {rs : List Addr} {ss : List Srt} {u : Addr} {x : Srt} {o : HO} (w : SrtsN H rs ss) (n : H u = none) (e : o = .tup (SrtV x)) : SrtsN (upd H u o) (rs ++ [u]) (ss ++ [x]) := by
  subst e
  exact w.push n
end Sh

namespace Sh
open PySem PySem.Spec PyProof.Rows L2
/-- a fleet of tuples that stand -/
def FltT (H : Hp) (p : Addr) (h t : Int) (ss : List Srt) : Prop := ∃ (q : Addr) (rs : List Addr), H p = some (.tup [.int h, .int t, .ref q]) ∧ H q = some (.tup (rs.map V.ref)) ∧ SrtsN H rs ss
theorem FltT.a {K : PySem.W.Frag} {H : Hp} {p : Addr} {h t : Int} {ss : List Srt} (f : FltT H p h t ss) : FltA K H (.ref p) h t ss := let ⟨q, rs, a, b, c⟩ := f; ⟨p, q, rs, rfl, SqA.t a, SqA.t b, c.a⟩
theorem FltT.same {H H' : Hp} {p : Addr} {h t : Int} {ss : List Srt} (f : FltT H p h t ss) (e : Same H H') : FltT H' p h t ss := let ⟨q, rs, a, b, c⟩ := f; ⟨q, rs, e _ _ a, e _ _ b, c.same e⟩
theorem FltT.but {H H' : Hp} {b p : Addr} {n : Nat} {h t : Int} {ss : List Srt} (f : FltT H p h t ss) (x : BoxAt H b n) (u : But b H H') : FltT H' p h t ss := by
  obtain ⟨q, rs, a, c, d⟩ := f
  obtain ⟨xs, hb, _⟩ := x
  have ne : ∀ {z : Addr} {l : List V}, H z = some (.tup l) → z ≠ b := fun e => ne_of e hb (by intro w; cases w)
  exact ⟨q, rs, u _ _ (ne a) a, u _ _ (ne c) c, d.1, fun i r y e1 e2 => u _ _ (ne (d.2 i r y e1 e2)) (d.2 i r y e1 e2)⟩
end Sh

namespace Sh
open PySem PySem.Spec PyProof.Rows L2
/-! ### drawn numbers of fleets -/
theorem nodup_le : ∀ {ks ns : List Int}, ks.Nodup → (∀ k ∈ ks, k ∈ ns) → ks.length ≤ ns.length
  | [], _, _, _ => Nat.zero_le _
  | k :: ks, ns, nd, h => by
    have hk := h k (by simp)
    rw [List.nodup_cons] at nd
    have ih := nodup_le (ns := ns.erase k) nd.2 (fun x hx => by
      have ne : x ≠ k := fun z => nd.1 (z ▸ hx)
      exact (List.mem_erase_of_ne ne).mpr (h x (by simp [hx])))
    rw [List.length_erase_of_mem hk] at ih
    have := List.length_pos_of_mem hk
    rw [List.length_cons]
    omega
theorem get_app {α : Type} {xs : List α} {x y : α} {i : Nat} (h : (xs ++ [x])[i]? = some y) : xs[i]? = some y ∨ (i = xs.length ∧ y = x) := by
  by_cases c : i < xs.length
  · rw [List.getElem?_append_left c] at h
    exact .inl h
  · rw [List.getElem?_append_right (by omega)] at h
    cases e : i - xs.length with
    | zero =>
      rw [e] at h
      exact .inr ⟨by omega, by simpa using h.symm⟩
    | succ m =>
      rw [e] at h
      simp at h
theorem get_lt {α : Type} {xs : List α} {x : α} {i : Nat} (h : xs[i]? = some x) : i < xs.length := (List.getElem?_eq_some_iff.mp h).1
/-- the drawn numbers: lists of two, in a list -/
structure Nums (b L : Addr) (H H' : Hp) (rs : List Addr) (ps : List (Nat × Nat)) : Prop where
  bt : But b H H'
  at_ : H' L = some (.lst (rs.map V.ref))
  len : rs.length = ps.length
  inj : ∀ (i j : Nat) (r : Addr), rs[i]? = some r → rs[j]? = some r → i = j
  got : ∀ (i : Nat) (r : Addr) (p : Nat × Nat), rs[i]? = some r → ps[i]? = some p → H' r = some (.lst [.int (p.1 : Int), .int (p.2 : Int)])
  new : ∀ r ∈ rs, r ≠ b ∧ r ≠ L ∧ H r = none
theorem Nums.but {b L : Addr} {H H' H'' : Hp} {rs : List Addr} {ps : List (Nat × Nat)} (N : Nums b L H H' rs ps) (lb : L ≠ b) (u : But b H' H'') : Nums b L H H'' rs ps :=
  ⟨N.bt.trans u, u _ _ lb N.at_, N.len, N.inj, fun i r p a c => u _ _ (N.new r (List.mem_of_getElem? a)).1 (N.got i r p a c), N.new⟩
theorem Nums.push {b L C : Addr} {H H1 H2 : Hp} {rs : List Addr} {ps : List (Nat × Nat)} {x y : Nat} (N : Nums b L H H1 rs ps) (lb : L ≠ b) (nL : H L = none) (u : But b H1 H2) (nC : H1 C = none) (cb : C ≠ b) (hC : H2 C = some (.lst [.int (x : Int), .int (y : Int)])) :
    Nums b L H (upd H2 L (.lst (rs.map V.ref ++ [.ref C]))) (rs ++ [C]) (ps ++ [(x, y)]) := by
  have M := N.but lb u
  have cL : C ≠ L := fun z => by rw [z, N.at_] at nC; cases nC
  have hr : ∀ r ∈ rs, r ≠ C := fun r hr z => by
    obtain ⟨i, hi⟩ := List.getElem?_of_mem hr
    have hi' : i < ps.length := by rw [← N.len]; exact get_lt hi
    have := N.got i r _ hi (List.getElem?_eq_getElem hi')
    rw [z, nC] at this
    cases this
  refine ⟨M.bt.put nL, by rw [upd_same, List.map_append]; rfl, by simp [N.len], fun i j r hi hj => ?_, fun i r p hi hp => ?_, fun r hm => ?_⟩
  · rcases get_app hi with a | ⟨a, rfl⟩
    · rcases get_app hj with c | ⟨c, rfl⟩
      · exact N.inj i j r a c
      · exact absurd rfl (hr _ (List.mem_of_getElem? a))
    · rcases get_app hj with c | ⟨c, _⟩
      · exact absurd rfl (hr _ (List.mem_of_getElem? c))
      · rw [a, c]
  · rcases get_app hi with a | ⟨a, rfl⟩
    · rcases get_app hp with c | ⟨c, rfl⟩
      · rw [upd_ne (N.new r (List.mem_of_getElem? a)).2.1]
        exact M.got i r p a c
      · have := get_lt a
        have := N.len
        omega
    · rcases get_app hp with c | ⟨c, rfl⟩
      · have := get_lt c
        have := N.len
        omega
      · rw [upd_ne cL]
        exact hC
  · rcases List.mem_append.mp hm with a | a
    · exact N.new r a
    · obtain rfl : r = C := by simpa using a
      exact ⟨cb, cL, N.bt.free cb nC⟩
theorem Nums.first {b L r : Addr} {H H' : Hp} {rs : List Addr} {ps : List (Nat × Nat)} {x y : Nat} (N : Nums b L H H' (r :: rs) ((x, y) :: ps)) : Nums b L H (upd H' r (.lst [.int ((x : Int) + 1), .int (y : Int)])) (r :: rs) ((x + 1, y) :: ps) := by
  obtain ⟨n1, n2, n3⟩ := N.new r (by simp)
  refine ⟨N.bt.put n3, by rw [upd_ne n2.symm]; exact N.at_, N.len, N.inj, fun i r' p hi hp => ?_, N.new⟩
  cases i with
  | zero =>
    obtain rfl : r = r' := by simpa using hi
    obtain rfl : (x + 1, y) = p := by simpa using hp
    rw [upd_same]
    rfl
  | succ i =>
    have ne : r' ≠ r := fun z => by
      have := N.inj (i + 1) 0 r' hi (by rw [z]; rfl)
      cases this
    rw [upd_ne ne]
    exact N.got (i + 1) r' p hi hp
theorem Nums.get {b L : Addr} {H H' : Hp} {rs : List Addr} {ps : List (Nat × Nat)} {i : Nat} {v : V} (N : Nums b L H H' rs ps) (h : (rs.map V.ref)[i]? = some v) : ∃ (r : Addr) (hi : i < ps.length), v = .ref r ∧ H' r = some (.lst [.int (ps[i].1 : Int), .int (ps[i].2 : Int)]) := by
  rw [List.getElem?_map] at h
  cases e : rs[i]? with
  | none =>
    rw [e] at h
    cases h
  | some r =>
    rw [e] at h
    have hi : i < ps.length := by rw [← N.len]; exact get_lt e
    exact ⟨r, hi, by simpa using h.symm, N.got i r _ e (List.getElem?_eq_getElem hi)⟩
def sm2 (p : Nat × Nat) : Int := ([(p.1 : Int), (p.2 : Int)] : List Int).sum
def whole2 (ps : List (Nat × Nat)) : Nat := (ps.map fun p => p.1 + p.2).sum
theorem sum_sm2 : ∀ ps : List (Nat × Nat), (ps.map sm2).sum = ((whole2 ps : Nat) : Int)
  | [] => rfl
  | p :: ps => by
    have ih := sum_sm2 ps
    unfold whole2 at ih ⊢
    rw [List.map_cons, List.map_cons, List.sum_cons, List.sum_cons, ih]
    have : sm2 p = (p.1 : Int) + (p.2 : Int) := by unfold sm2; simp
    rw [this]
    omega
theorem whole2_le {S : Nat} : ∀ {ps : List (Nat × Nat)}, (∀ p ∈ ps, p.1 ≤ S ∧ p.2 ≤ S) → whole2 ps ≤ ps.length * (2 * S)
  | [], _ => Nat.zero_le _
  | p :: ps, h => by
    have ih := whole2_le (ps := ps) fun q hq => h q (by simp [hq])
    have hp := h p (by simp)
    unfold whole2 at ih ⊢
    rw [List.map_cons, List.sum_cons, List.length_cons, Nat.succ_mul]
    omega
theorem mny_zip : ∀ (ds : List Int) (ps : List (Nat × Nat)), mny (ds.zip ps) ≤ whole2 ps
  | [], _ => Nat.zero_le _
  | _ :: _, [] => Nat.zero_le _
  | d :: ds, p :: ps => by
    have ih := mny_zip ds ps
    unfold mny whole2 at ih ⊢
    rw [List.zip_cons_cons, List.map_cons, List.map_cons, List.sum_cons, List.sum_cons]
    show p.1 + p.2 + _ ≤ _
    omega
theorem mny_zip0 {d : Int} {ds : List Int} {p : Nat × Nat} {ps : List (Nat × Nat)} (h : 0 < p.1) : 0 < mny ((d :: ds).zip (p :: ps)) := by
  unfold mny
  rw [List.zip_cons_cons, List.map_cons, List.sum_cons]
  show 0 < p.1 + p.2 + _
  omega
theorem tmG {α β : Type} (f : α → β) {xs : List α} {i : Nat} (hi : i < xs.length) : (xs.take (i + 1)).map f = (xs.take i).map f ++ [f xs[i]] := by rw [take_succ_get hi, List.map_append]; rfl
theorem cr_sumK {X : Cx} (K : PySem.W.Frag) (hc : X.calm = true) (hK : X.K = K := by rfl) : CallR X (.builtin "sum") (rSum K) := hK ▸ cr_sum hc
end Sh

namespace Sh
open PySem PySem.Spec PyProof.Rows L2
/-! ### a drawn fleet -/
structure FleetF (so mo : Nat) (fa h t : Int) (ss : List Srt) : Prop where
  l0 : 0 < ss.length
  l1 : ss.length ≤ so
  k0 : 0 < mny ss
  cnt : ∀ x ∈ ss, x.2.1 ≤ mo ∧ x.2.2 ≤ mo
  up : (ss.map fun x => x.1).Pairwise (· < ·)
  h0 : 0 ≤ h ∧ h ≤ fa + 100000
  t0 : 0 ≤ t ∧ t ≤ fa + 100000
  d0 : ∀ x ∈ ss, 0 ≤ x.1 ∧ x.1 ≤ fa + 100000
  hd : ∀ x xs, ss = x :: xs → 0 < x.2.1 + x.2.2
def spFleet : Sp := fun vs H Q _ => ∃ (b : Addr) (n so mo : Nat) (fa : Int), vs = [.ref b, .int (so : Int), .int (mo : Int), .int fa] ∧ 1 ≤ so ∧ so ≤ 7 ∧ 1 ≤ mo ∧ mo ≤ 100 ∧ 0 ≤ fa ∧ fa ≤ 1000000000000 ∧ BoxAt H b (n + 200) ∧
  ∀ (H' : Hp) (p : Addr) (h t : Int) (ss : List Srt), But b H H' → BoxAt H' b n → FltT H' p h t ss → FleetF so mo fa h t ss → Q (.ref p) H'
theorem fst_zip : ∀ {ds : List Int} {ps : List (Nat × Nat)}, ds.length ≤ ps.length → ((ds.zip ps).map fun x => x.1) = ds
  | [], _, _ => rfl
  | d :: ds, [], h => by simp at h
  | d :: ds, p :: ps, h => by
    rw [List.zip_cons_cons, List.map_cons, fst_zip (by simpa using h)]
theorem snd_zip {ds : List Int} {ps : List (Nat × Nat)} {x : Srt} (h : x ∈ ds.zip ps) : x.1 ∈ ds ∧ x.2 ∈ ps := by
  obtain ⟨d, p⟩ := x
  exact ⟨(List.of_mem_zip h).1, (List.of_mem_zip h).2⟩
theorem Nums.head {b L r : Addr} {H H' : Hp} {rs : List Addr} {ps : List (Nat × Nat)} {x y : Nat} (N : Nums b L H H' (r :: rs) ((x, y) :: ps)) (z : Nat) : Nums b L H (upd H' r (.lst [.int (z : Int), .int (y : Int)])) (r :: rs) ((z, y) :: ps) := by
  obtain ⟨n1, n2, n3⟩ := N.new r (by simp)
  refine ⟨N.bt.put n3, by rw [upd_ne n2.symm]; exact N.at_, N.len, N.inj, fun i r' p hi hp => ?_, N.new⟩
  cases i with
  | zero =>
    obtain rfl : r = r' := by simpa using hi
    obtain rfl : (z, y) = p := by simpa using hp
    rw [upd_same]
  | succ i =>
    have ne : r' ≠ r := fun z => by
      have := N.inj (i + 1) 0 r' hi (by rw [z]; rfl)
      cases this
    rw [upd_ne ne]
    exact N.got (i + 1) r' p hi hp
theorem mny_zip1 {d : Int} {ds : List Int} {p : Nat × Nat} {ps : List (Nat × Nat)} (h : 0 < p.1 + p.2) : 0 < mny ((d :: ds).zip (p :: ps)) := by
  unfold mny
  rw [List.zip_cons_cons, List.map_cons, List.sum_cons]
  show 0 < p.1 + p.2 + _
  omega
abbrev s__law_fleet : Stmt := topS 18
theorem sc__law_fleet : FnScope (["_law_box_here", "_law_sorts", "_law_most", "_law_far", "_law_numbers", "_law_whole", "_law_depths", "_law_wide", "_law_deeps", "_law_turn", "_law_pair", "_law_deep"] : List Str) (["_law_box_here", "_law_sorts", "_law_most", "_law_far"] : List Str) (defScope s__law_fleet) := ⟨rfl, rfl, rfl, by decide +kernel, rfl, by decide +kernel, by decide +kernel⟩
theorem b__law_fleet (kV doc pm : Value) (an : Option Addr) (cdv ct : Value) (us : List Value) (hl : us.length = (["_law_box_here", "_law_sorts", "_law_most", "_law_far"] : List Str).length) : bindArgs (PySem.W.fnOf "_law_fleet" "_law_fleet" (defArgs s__law_fleet) (defBody s__law_fleet) (defScope s__law_fleet) .none kV doc pm an cdv ct) ⟨us, []⟩ = pure ((["_law_box_here", "_law_sorts", "_law_most", "_law_far"] : List Str).zip us) :=
  match us, hl with | [_, _, _, _], _ => rfl
section
variable {P : Program} {w : World} {K : PySem.W.Frag} {mg : Str → Option Value} {base : Heap}
set_option maxHeartbeats 8000000 in
theorem ok_fleet {k : Nat} (D : Df K mg "_law_fleet" s__law_fleet) (T : Bt mg) (O__law_take : Ok P w K mg base k "_law_take" s__law_take ["_law_box_here", "_law_span"] spTake) (O__law_of : Ok P w K mg base k "_law_of" s__law_of ["_law_box_here", "_law_some"] (spOf K)) :
    Ok P w K mg base (k + 1) "_law_fleet" s__law_fleet ["_law_box_here", "_law_sorts", "_law_most", "_law_far"] spFleet := by
  refine D.ok sc__law_fleet b__law_fleet (fun vs H Q E h => ?_) (fun f cdv A outer s H vs Q E hr h => ?_)
  · obtain ⟨b, n, so, mo, fa, rfl, _⟩ := h
    rfl
  · obtain ⟨b, n, so, mo, fa, rfl, so0, so1, mo0, mo1, fa0, fa1, hb, q⟩ := h
    refine ⟨_, (pss_cons (ps_setLc (i := 4) (own := [("_law_turn", 9)]) (g := (gName 9)) (tt := tYes) (by rfl) sc__law_fleet.nd rfl rfl (sw_true rfl rfl rfl (by decide +kernel)) (pi_range1 (by rfl) T.range_ (pa_cons (pe_op op_add pe_int (pe_fn O__law_take (hr.mono (by omega)) (pa_cons (pv 0) (pa_cons (pv 1) pa_nil)))) pa_nil)) (blkOk_by (own := [("_law_turn", 9)]) (N := (["_law_box_here", "_law_sorts", "_law_most", "_law_far", "_law_numbers", "_law_whole", "_law_depths", "_law_wide", "_law_deeps", "_law_turn", "_law_pair", "_law_deep"] : List Str)) (sc := defScope s__law_fleet) (by decide +kernel)) (fun _ _ _ _ _ => (pg_name (i := 9) sc__law_fleet.nd rfl (.inl rfl))) (fun _ _ _ _ _ => pts_nil) (fun _ _ _ _ _ => (pe_lst (pa_cons (pe_fn O__law_take (hr.mono (by omega)) (pa_cons (pv 0) (pa_cons (pe_op op_add (pv 2) pe_int) pa_nil))) (pa_cons (pe_fn O__law_take (hr.mono (by omega)) (pa_cons (pv 0) (pa_cons (pe_op op_add (pv 2) pe_int) pa_nil))) pa_nil)))))
      (pss_cons (ps_asg (pe_callB (call_max2 rfl) (by rfl) T.max_ (by decide +kernel) (pa_cons (pe_ix ix_lt (pe_ix ix_lt (pv 4) pe_int (fun _ _ => rfl)) pe_int (fun _ _ => rfl)) (pa_cons (pe_callTy call_int1 (by rfl) T.int_ (by decide +kernel) (pa_cons (pe_cmpR op_eq (pe_ix ix_lt (pe_ix ix_lt (pv 4) pe_int (fun _ _ => rfl)) pe_int (fun _ _ => rfl)) pe_int (nomark _)) pa_nil)) pa_nil))) (pg_sub (pe_ix ix_lt (pv 4) pe_int (fun _ _ => rfl)) pe_int set_list))
      (pss_cons (ps_set (i := 5) sc__law_fleet.nd rfl (.inr rfl) (pe_callB (cr_sum rfl) (by rfl) T.sum_ (by decide +kernel) (pa_cons (pe_lc (own := [("_law_pair", 10)]) (g := (gName 10)) (tt := tYes) (by rfl) sc__law_fleet.nd (pi_seq (pv 4)) (blkOk_by (own := [("_law_pair", 10)]) (N := (["_law_box_here", "_law_sorts", "_law_most", "_law_far", "_law_numbers", "_law_whole", "_law_depths", "_law_wide", "_law_deeps", "_law_turn", "_law_pair", "_law_deep"] : List Str)) (sc := defScope s__law_fleet) (by decide +kernel)) (fun _ _ _ _ _ => (pg_name (i := 10) sc__law_fleet.nd rfl (.inl rfl))) (fun _ _ _ _ _ => pts_nil) (fun _ _ _ _ _ => (pe_callB (cr_sumK K rfl) (by rfl) T.sum_ (by decide +kernel) (pa_cons (pv 10) pa_nil)))) pa_nil)))
      (pss_cons (ps_setLc (i := 6) (own := [("_law_turn", 9)]) (g := (gName 9)) (tt := tYes) (by rfl) sc__law_fleet.nd rfl rfl (sw_true rfl rfl rfl (by decide +kernel)) (pi_range1 (by rfl) T.range_ (pa_cons pe_int pa_nil)) (blkOk_by (own := [("_law_turn", 9)]) (N := (["_law_box_here", "_law_sorts", "_law_most", "_law_far", "_law_numbers", "_law_whole", "_law_depths", "_law_wide", "_law_deeps", "_law_turn", "_law_pair", "_law_deep"] : List Str)) (sc := defScope s__law_fleet) (by decide +kernel)) (fun _ _ _ _ _ => (pg_name (i := 9) sc__law_fleet.nd rfl (.inl rfl))) (fun _ _ _ _ _ => pts_nil) (fun _ _ _ _ _ => (pe_op op_add (pv 3) (pe_op op_mul (pe_fn O__law_take (hr.mono (by omega)) (pa_cons (pv 0) (pa_cons (pe_op op_add (pv 5) pe_int) pa_nil))) (pe_fn O__law_take (hr.mono (by omega)) (pa_cons (pv 0) (pa_cons pe_int pa_nil)))))))
      (pss_cons (ps_set (i := 7) sc__law_fleet.nd rfl (.inr rfl) (pe_fn O__law_of (hr.mono (by omega)) (pa_cons (pv 0) (pa_cons (pe_lst (pa_cons pe_int (pa_cons (pe_op op_add (pv 5) pe_int) (pa_cons (pe_op op_add (pe_op op_mul pe_int (pv 5)) pe_int) pa_nil)))) pa_nil))))
      (pss_cons (ps_set (i := 8) sc__law_fleet.nd rfl (.inl rfl) (pe_callB (cr_sortedSetw w rfl) (by rfl) T.sorted_ (by decide +kernel) (pa_cons (pe_callTy (cr_setAw w rfl) (by rfl) T.set_ (by decide +kernel) (pa_cons (pe_lc (own := [("_law_pair", 10)]) (g := (gName 10)) (tt := tYes) (by rfl) sc__law_fleet.nd (pi_seq (pv 4)) (blkOk_by (own := [("_law_pair", 10)]) (N := (["_law_box_here", "_law_sorts", "_law_most", "_law_far", "_law_numbers", "_law_whole", "_law_depths", "_law_wide", "_law_deeps", "_law_turn", "_law_pair", "_law_deep"] : List Str)) (sc := defScope s__law_fleet) (by decide +kernel)) (fun _ _ _ _ _ => (pg_name (i := 10) sc__law_fleet.nd rfl (.inl rfl))) (fun _ _ _ _ _ => pts_nil) (fun _ _ _ _ _ => (pe_op op_add (pv 3) (pe_fn O__law_take (hr.mono (by omega)) (pa_cons (pv 0) (pa_cons (pv 7) pa_nil)))))) pa_nil)) pa_nil)))
      (pss_one (ps_ret (pe_tup (pa_cons (pe_ix ix_lt (pv 6) pe_int (fun _ _ => rfl)) (pa_cons (pe_ix ix_lt (pv 6) pe_int (fun _ _ => rfl)) (pa_cons (pe_callTy call_tuple_of (by rfl) T.tuple_ (by decide +kernel) (pa_cons (pe_lc (own := [("_law_deep", 11), ("_law_pair", 10)]) (g := (gSeq K 2 (gCons (gName 11) (gCons (gName 10) gNil)))) (tt := tYes) (by rfl) sc__law_fleet.nd (RZ.pi_zipA (by rfl) T.zip_ (pa_cons (pv 8) (pa_cons (pv 4) pa_nil))) (blkOk_by (own := [("_law_deep", 11), ("_law_pair", 10)]) (N := (["_law_box_here", "_law_sorts", "_law_most", "_law_far", "_law_numbers", "_law_whole", "_law_depths", "_law_wide", "_law_deeps", "_law_turn", "_law_pair", "_law_deep"] : List Str)) (sc := defScope s__law_fleet) (by decide +kernel)) (fun _ _ _ _ _ => (pg_seq rfl (pgs_cons (pg_name (i := 11) sc__law_fleet.nd rfl (.inl rfl)) (pgs_cons (pg_name (i := 10) sc__law_fleet.nd rfl (.inl rfl)) pgs_nil)))) (fun _ _ _ _ _ => pts_nil) (fun _ _ _ _ _ => (pe_tup (pa_cons (pv 11) (pa_cons (pe_ix (ix_ltK K) (pv 10) pe_int (fun _ _ => rfl)) (pa_cons (pe_ix (ix_ltK K) (pv 10) pe_int (fun _ _ => rfl)) pa_nil)))))) pa_nil)) pa_nil)))))))))))), ?_⟩
    -- the numbers
    refine ⟨_, rfl, _, rfl, b, n + 199, (so : Int), rfl, by omega, by omega, hb, fun c ys1 c0 c1 y1 => ?_⟩
    refine ⟨1, c, rfl, rfl, ?_⟩
    obtain ⟨u1, x1⟩ := tk (But.refl b H) y1
    generalize upd H b (.lst ys1) = H1 at u1 x1
    obtain ⟨cn, ec⟩ : ∃ cn : Nat, 1 + c = ((cn : Nat) : Int) := ⟨(1 + c).toNat, by omega⟩
    have cn0 : 0 < cn := by omega
    have cn1 : cn ≤ so := by omega
    refine ⟨1 + c, rfl, by omega, by omega, fun L nL => ?_⟩
    rw [show (1 + c).toNat = cn by omega]
    have n3 : L ≠ b := (x1.ne nL).symm
    have nL0 : H L = none := u1.free n3 nL
    refine lc_range (fun i H' => ∃ (rs : List Addr) (ps : List (Nat × Nat)), Nums b L H H' rs ps ∧ ps.length = i ∧ BoxAt H' b (n + 199 - 2 * i) ∧ ∀ p ∈ ps, p.1 ≤ mo ∧ p.2 ≤ mo) ?_ ?_ ?_
    · exact ⟨[], [], ⟨(al u1 x1 nL).1, upd_same, rfl, fun i j r h => by simp at h, fun i r p h => by simp at h, fun r h => by simp at h⟩, rfl, (al u1 x1 nL).2.1, fun p h => by simp at h⟩
    · rintro i Ha hi ⟨rs, ps, N, hl, xa, hp⟩
      have hi' : i < cn := hi
      refine ⟨rfl, tyes (iteT ?_)⟩
      refine ⟨_, rfl, _, rfl, _, 1, rfl, rfl, b, n + 199 - 2 * i - 1, _, rfl, by omega, by omega, xa.mono (by omega), fun v ys v0 v1 y => ?_⟩
      obtain ⟨ud, xd⟩ := tk (But.refl b Ha) y
      generalize upd Ha b (.lst ys) = Hd at ud xd
      refine ⟨_, rfl, _, rfl, _, 1, rfl, rfl, b, n + 199 - 2 * i - 2, _, rfl, by omega, by omega, xd.mono (by omega), fun v' ys' v0' v1' y' => ?_⟩
      obtain ⟨ue, xe⟩ := tk ud y'
      generalize upd Hd b (.lst ys') = He at ue xe
      refine ⟨(by show 2 ≤ sizeLine; decide), fun C nC => ?_⟩
      obtain ⟨xn, rfl⟩ := Int.eq_ofNat_of_zero_le v0
      obtain ⟨yn, rfl⟩ := Int.eq_ofNat_of_zero_le v0'
      obtain ⟨uf, xf, ef, nf⟩ := al (o := .lst [.int (xn : Int), .int (yn : Int)]) ue xe nC
      have nCa : Ha C = none := ue.free nf nC
      refine ⟨rs.map V.ref, uf _ _ n3 N.at_, ?_, rs ++ [C], ps ++ [(xn, yn)], N.push n3 nL0 uf nCa nf ef, by simp [hl], (xf.at n3.symm).mono (by omega), fun p hm => ?_⟩
      · rw [List.length_map, N.len, hl]
        exact Nat.lt_of_lt_of_le hi' (Nat.le_trans cn1 (Nat.le_trans so1 (by decide)))
      rcases List.mem_append.mp hm with z | z
      · exact hp p z
      · obtain rfl : p = (xn, yn) := by simpa using z
        exact ⟨by show xn ≤ mo; omega, by show yn ≤ mo; omega⟩
    rintro H5 ⟨rs, ps, N, hl, x5, hp⟩
    -- one ship at least
    cases rs with
    | nil =>
      have := N.len
      simp at this
      omega
    | cons r0 rs =>
      cases ps with
      | nil =>
        simp at hl
        omega
      | cons p0 ps =>
        obtain ⟨a0, c0'⟩ := p0
        have g0 : H5 r0 = some (.lst [.int (a0 : Int), .int (c0' : Int)]) := N.got 0 _ _ rfl rfl
        refine ⟨_, rfl, L, _, 0, .ref r0, rfl, rfl, SqA.l N.at_, at_nat (j := 0) rfl rfl, r0, _, 0, .int (a0 : Int), rfl, rfl, SqA.l g0, rfl, _, rfl, L, _, 0, .ref r0, rfl, rfl, SqA.l N.at_, at_nat (j := 0) rfl rfl, r0, _, 1, .int (c0' : Int), rfl, rfl, SqA.l g0, rfl, ?_⟩
        refine ⟨rfl, .inr ⟨_, rfl, _, _, rfl, ?_⟩⟩
        refine ⟨_, rfl, L, _, 0, .ref r0, rfl, rfl, SqA.l N.at_, at_nat (j := 0) rfl rfl, r0, _, 0, 0, rfl, rfl, g0, rfl, ?_⟩
        have rb := (N.new r0 (by simp)).1
        obtain ⟨a1, ea1, ha1, hb1⟩ : ∃ a1 : Nat, (if (if decide (V.int (c0' : Int) = V.int 0) = true then (1 : Int) else 0) > (a0 : Int) then (if decide (V.int (c0' : Int) = V.int 0) = true then (1 : Int) else 0) else (a0 : Int)) = (a1 : Int) ∧ a1 ≤ mo ∧ 0 < a1 + c0' := by
          have h0 := hp (a0, c0') (by simp)
          have h1 : a0 ≤ mo := h0.1
          by_cases z : (V.int (c0' : Int) = V.int 0)
          · have z' : c0' = 0 := by have := V.int.inj z; omega
            rw [decide_eq_true z, if_pos rfl]
            by_cases y : (1 : Int) > (a0 : Int)
            · exact ⟨1, by rw [if_pos y]; rfl, mo0, by omega⟩
            · exact ⟨a0, by rw [if_neg y], h1, by omega⟩
          · have z' : c0' ≠ 0 := fun e => z (by rw [e]; rfl)
            rw [decide_eq_false z, if_neg Bool.false_ne_true]
            by_cases y : (0 : Int) > (a0 : Int)
            · omega
            · exact ⟨a0, by rw [if_neg y], h1, by omega⟩
        obtain ⟨Rs, Ps, N6, l6, h6, b6⟩ : ∃ (Rs : List Addr) (Ps : List (Nat × Nat)), Nums b L H (upd H5 r0 (.lst [.int (a1 : Int), .int (c0' : Int)])) Rs Ps ∧ Ps.length = cn ∧ (∃ p tl, Ps = p :: tl ∧ 0 < p.1 + p.2) ∧ ∀ p ∈ Ps, p.1 ≤ mo ∧ p.2 ≤ mo := by
          refine ⟨r0 :: rs, (a1, c0') :: ps, N.head a1, hl, ⟨_, _, rfl, hb1⟩, fun p hm => ?_⟩
          rcases List.mem_cons.mp hm with z | z
          · have := hp (a0, c0') (by simp)
            rw [z]
            exact ⟨ha1, this.2⟩
          · exact hp p (by simp [z])
        have x6 : BoxAt (upd H5 r0 (.lst [.int (a1 : Int), .int (c0' : Int)])) b (n + 180) := (x5.mono (by omega)).at rb.symm
        clear N g0 hp hl x5
        dsimp only
        rw [ea1, show ([V.int (a0 : Int), .int (c0' : Int)]).set 0 (.int (a1 : Int)) = [.int (a1 : Int), .int (c0' : Int)] from rfl]
        generalize upd H5 r0 (.lst [.int (a1 : Int), .int (c0' : Int)]) = H6 at N6 x6
        -- all of them
        refine ⟨_, rfl, L, _, H6, rfl, SqA.l N6.at_, Kp.refl _ _, fun J hJ C nC => ?_⟩
        obtain ⟨G, g, W⟩ := hJ.walk
        refine lc_it W (fun i H' => Same H6 H' ∧ H' C = some (.lst (((Ps.take i).map sm2).map V.int))) ⟨same_new nC, upd_same⟩ (fun i H' _ z => g H' (.ofS z.1)) ?_ ?_
        · rintro i x Ha Hb _ ⟨sm, hC⟩ ⟨rfl, gx⟩
          obtain ⟨r, hi, rfl, hr1⟩ := N6.get gx
          refine ⟨rfl, tyes (iteT ⟨_, rfl, r, [(Ps[i].1 : Int), (Ps[i].2 : Int)], rfl, SqL.of (sm _ _ hr1), _, hC, ?_, same_over sm nC, ?_⟩)⟩
          · rw [List.length_map, List.length_map, List.length_take]
            exact Nat.lt_of_le_of_lt (Nat.min_le_right _ _) (Nat.lt_of_le_of_lt (show Ps.length ≤ 7 by omega) (by decide))
          · rw [upd_same, tmG _ hi, List.map_append]
            rfl
        rintro H7 ⟨s7, hC⟩
        rw [List.length_map, N6.len, List.take_length] at hC
        refine ⟨C, _, rfl, SqL.of hC, ?_⟩
        rw [sum_sm2]
        have wb : whole2 Ps ≤ 1400 := by
          have := whole2_le b6
          rw [l6] at this
          have : cn * (2 * mo) ≤ 7 * (2 * 100) := Nat.mul_le_mul (by omega) (by omega)
          omega
        have N7 := N6.but n3 (Same.but s7)
        have x7 := x6.same s7
        clear hC W g G hJ J nC C N6 x6 s7
        -- the depths
        refine ⟨2, rfl, by decide, by decide, fun C2 nC2 => ?_⟩
        have cb : C2 ≠ b := (x7.ne nC2).symm
        refine lc_range (fun j Hc => ∃ ns : List Int, But b H7 Hc ∧ BoxAt Hc b (n + 180 - 2 * j) ∧ Hc C2 = some (.lst (ns.map V.int)) ∧ ns.length = j ∧ ∀ d ∈ ns, 0 ≤ d ∧ d ≤ fa + 100000) ?_ ?_ ?_
        · exact ⟨[], (al (But.refl b H7) x7 nC2).1, (al (But.refl b H7) x7 nC2).2.1, upd_same, rfl, fun d hd => by simp at hd⟩
        · rintro j Hc hj ⟨ns, uc, xc, hC, hl2, hn⟩
          have j2 : j < 2 := hj
          refine ⟨rfl, tyes (iteT ?_)⟩
          refine ⟨_, rfl, _, rfl, _, rfl, _, 2, rfl, rfl, b, n + 180 - 2 * j - 1, _, rfl, by omega, by omega, xc.mono (by omega), fun v ys v0 v1 y => ?_⟩
          obtain ⟨ud, xd⟩ := tk uc y
          have hD : upd Hc b (.lst ys) C2 = some (.lst (ns.map V.int)) := by rw [upd_ne cb]; exact hC
          generalize upd Hc b (.lst ys) = Hd at ud xd hD
          refine ⟨_, rfl, b, n + 180 - 2 * j - 2, 2, rfl, by decide, by decide, xd.mono (by omega), fun v' ys' v0' v1' y' => ?_⟩
          obtain ⟨ue, xe⟩ := tk ud y'
          have hE : upd Hd b (.lst ys') C2 = some (.lst (ns.map V.int)) := by rw [upd_ne cb]; exact hD
          generalize upd Hd b (.lst ys') = He at ue xe hE
          refine ⟨v, v', rfl, rfl, .inl ⟨by omega, by omega⟩, fa, _, rfl, rfl, ns.map V.int, hE, ?_, ns ++ [fa + v * v'], ?_, ?_, ?_, ?_, ?_⟩
          · rw [List.length_map, hl2]
            exact Nat.lt_trans j2 (by decide)
          · exact fun a o na e => by rw [upd_ne (ne_of_none e nC2)]; exact ue a o na e
          · exact (xe.at cb.symm).mono (by omega)
          · rw [upd_same, List.map_append]
            rfl
          · simp [hl2]
          · intro d hd
            rcases List.mem_append.mp hd with z | z
            · exact hn d z
            · have e : d = fa + v * v' := by simpa using z
              have e01 : v' = 0 ∨ v' = 1 := by omega
              rcases e01 with z | z <;> (rw [e, z]; omega)
        rintro H8 ⟨ds2, u8, x8, h8, l8, b8⟩
        obtain ⟨d0, d1, rfl⟩ := two_of l8
        have N8 := N7.but n3 u8
        replace x8 : BoxAt H8 b (n + 176) := x8.mono (by omega)
        clear N7 x7 u8 l8
        -- how wide
        refine ⟨_, rfl, _, rfl, _, 2, rfl, rfl, _, rfl, 2, _, rfl, rfl, .inl ⟨by decide, by decide⟩, _, 2, rfl, rfl, (by show 3 ≤ sizeLine; decide), fun l nl => ?_⟩
        obtain ⟨u9, x9, e9, n9⟩ := al (o := .lst [.int 3, .int ((whole2 Ps : Int) + 2), .int (2 * (whole2 Ps : Int) + 2)]) (But.refl b H8) x8 nl
        refine ⟨b, l, n + 175, [.int 3, .int ((whole2 Ps : Int) + 2), .int (2 * (whole2 Ps : Int) + 2)], rfl, SqA.l upd_same, n9, (by show 0 < 3; decide), (by show 3 < 1000000; decide), x9.mono (by omega), fun v ys hv y => ?_⟩
        obtain ⟨wide, w0, w1, rfl⟩ : ∃ wide : Int, 0 < wide ∧ wide ≤ 10000 ∧ v = .int wide := by
          have e5 : v = .int 3 ∨ v = .int ((whole2 Ps : Int) + 2) ∨ v = .int (2 * (whole2 Ps : Int) + 2) := by simpa using hv
          rcases e5 with e | e | e
          · exact ⟨3, by decide, by decide, e⟩
          · exact ⟨_, by omega, by omega, e⟩
          · exact ⟨_, by omega, by omega, e⟩
        obtain ⟨uA, xA⟩ := tk u9 y
        have NA := N8.but n3 uA
        have hA2 := uA _ _ cb h8
        clear e9 x9 u9 N8 h8
        dsimp only
        generalize upd (upd H8 l (.lst [.int 3, .int ((whole2 Ps : Int) + 2), .int (2 * (whole2 Ps : Int) + 2)])) b (.lst ys) = HA at uA xA NA hA2
        clear uA
        -- the draughts
        refine ⟨_, rfl, L, _, HA, rfl, SqA.l NA.at_, Kp.refl _ _, fun J hJ C3 nC3 => ?_⟩
        have cb3 : C3 ≠ b := (xA.ne nC3).symm
        obtain ⟨G, g, W⟩ := hJ.walk
        refine lc_it W (fun i H' => ∃ ns : List Int, But b HA H' ∧ BoxAt H' b (n + 175 - i) ∧ H' C3 = some (.lst (ns.map V.int)) ∧ ns.length = i ∧ ∀ d ∈ ns, 0 ≤ d ∧ d ≤ fa + 100000) ?_ (fun i H' _ z => g H' (.ofB z.choose_spec.1 n3)) ?_ ?_
        · exact ⟨[], (al (But.refl b HA) xA nC3).1, (al (But.refl b HA) xA nC3).2.1, upd_same, rfl, fun d hd => by simp at hd⟩
        · rintro i x Hb Ha hi ⟨ns, uc, xc, hC, hl2, hn⟩ ⟨rfl, gx⟩
          rw [List.length_map, NA.len, l6] at hi
          refine ⟨rfl, tyes (iteT ?_)⟩
          refine ⟨_, rfl, _, rfl, _, rfl, b, n + 175 - i - 1, wide, rfl, w0, by omega, xc.mono (by omega), fun v' ys' v0' v1' y' => ?_⟩
          obtain ⟨uf, xf⟩ := tk uc y'
          have hF : upd Ha b (.lst ys') C3 = some (.lst (ns.map V.int)) := by rw [upd_ne cb3]; exact hC
          generalize upd Ha b (.lst ys') = Hf at uf xf hF
          refine ⟨fa, v', rfl, rfl, ns.map V.int, hF, ?_, ns ++ [fa + v'], ?_, ?_, ?_, ?_, ?_⟩
          · rw [List.length_map, hl2]
            exact Nat.lt_of_lt_of_le hi (Nat.le_trans (show cn ≤ 7 by omega) (by decide))
          · exact fun a o na e => by rw [upd_ne (ne_of_none e nC3)]; exact uf a o na e
          · exact (xf.at cb3.symm).mono (by omega)
          · rw [upd_same, List.map_append]
            rfl
          · simp [hl2]
          · intro d hd
            rcases List.mem_append.mp hd with z | z
            · exact hn d z
            · have e : d = fa + v' := by simpa using z
              omega
        rintro H9 ⟨ns, u9, x9, h9, l9, b9⟩
        rw [List.length_map, NA.len, l6] at l9 x9
        have N9 := NA.but n3 u9
        replace x9 : BoxAt H9 b (n + 100) := x9.mono (by omega)
        have h82 := u9 _ _ cb hA2
        clear NA xA u9 W g G hJ J hA2
        refine ⟨C3, ns, rfl, SqA.l h9, by omega, fun sa ks nsa nd hk => ?_⟩
        have kl : ks.length ≤ 7 := Nat.le_trans (nodup_le nd fun k hm => (hk k).mp hm) (by omega)
        obtain ⟨uB, xB, eB, nB⟩ := al (o := SetO w sa (fun j => decide (j ∈ ns)) ks.length) (But.refl b H9) x9 nsa
        have hB2 := uB _ _ cb h82
        refine ⟨sa, _, _, rfl, upd_same, by omega, fun ds p hpw hm hlen np => ?_⟩
        generalize upd H9 sa (SetO w sa (fun j => decide (j ∈ ns)) ks.length) = HB at uB xB eB np hB2
        have NB := N9.but n3 uB
        obtain ⟨uC, xC, eC, nC'⟩ := al (o := .lst (ds.map V.int)) (But.refl b HB) xB np
        have NC := NB.but n3 uC
        have hC2 := uC _ _ cb hB2
        generalize upd HB p (.lst (ds.map V.int)) = HC at NC xC eC hC2
        have dm : ∀ d ∈ ds, 0 ≤ d ∧ d ≤ fa + 100000 := fun d hd => b9 d (of_decide_eq_true ((hm d).mp hd))
        have d0' : ∃ d tl, ds = d :: tl := by
          cases ds with
          | cons d tl => exact ⟨d, tl, rfl⟩
          | nil =>
            exfalso
            cases ns with
            | nil =>
              simp at l9
              omega
            | cons m ns =>
              have := (hm m).mpr (by simp)
              simp at this
        have dl : ds.length ≤ cn := by
          have := nodup_le nd fun k hm => (hk k).mp hm
          omega
        have dz : (ds.zip Ps).length = ds.length := by rw [List.length_zip]; omega
        clear uB xB eB hB2 NB N9 uC x9 h9 h82 hm hk
        refine ⟨_, rfl, C2, _, 0, .int d0, rfl, rfl, SqA.l hC2, rfl, _, rfl, C2, _, 1, .int d1, rfl, rfl, SqA.l hC2, rfl, _, rfl, _, rfl, p, L, _, _, rfl, .inl ⟨SqL.of eC, SqL.of NC.at_, fun C4 nC4 => ?_⟩⟩
        refine lc_it (walk_zip (n := ds.length) (by rw [List.length_map, List.length_map, NC.len]; omega)) (fun i H' => ∃ ts : List Addr, Same HC H' ∧ H' C4 = some (.lst (ts.map V.ref)) ∧ SrtsN H' ts ((ds.zip Ps).take i)) ⟨[], same_new nC4, upd_same, rfl, fun i r x h => by simp at h⟩ (fun i H' _ z => ⟨z.choose_spec.1.seq (SqL.of eC), z.choose_spec.1.seq (SqL.of NC.at_)⟩) ?_ ?_
        · rintro i z Ha Hb hi ⟨ts, sm, hC, st⟩ ⟨t, u, v, rfl, nt, rfl, gu, gv⟩
          obtain ⟨r, hi2, rfl, hr1⟩ := NC.get gv
          obtain rfl : u = .int ds[i] := by
            have gu' : (ds.map V.int)[i]? = some u := gu
            rw [List.getElem?_map, List.getElem?_eq_getElem hi] at gu'
            simpa using gu'.symm
          have smT : Same HC (upd Ha t (.tup [.int ds[i], .ref r])) := sm.trans (same_new nt)
          have stT := st.same (same_new (o := .tup [.int ds[i], .ref r]) nt)
          have hCT : upd Ha t (.tup [.int ds[i], .ref r]) C4 = some (.lst (ts.map V.ref)) := by rw [upd_ne (ne_of_none hC nt)]; exact hC
          have etT : upd Ha t (.tup [.int ds[i], .ref r]) t = some (.tup [.int ds[i], .ref r]) := upd_same
          generalize upd Ha t (.tup [.int ds[i], .ref r]) = Ht at smT stT hCT etT
          refine ⟨t, _, rfl, SqA.t etT, rfl, _, _, rfl, _, _, rfl, rfl, rfl, tyes (iteT ?_)⟩
          refine ⟨_, rfl, _, rfl, r, _, 0, .int (Ps[i].1 : Int), rfl, rfl, SqA.l (smT _ _ hr1), rfl, _, rfl, r, _, 1, .int (Ps[i].2 : Int), rfl, rfl, SqA.l (smT _ _ hr1), rfl, (by show 3 ≤ sizeLine; decide), fun t2 nt2 => ?_⟩
          have stU := stT.push (x := (ds[i], Ps[i])) nt2
          have hiz : i < (ds.zip Ps).length := by omega
          have ez : (ds.zip Ps)[i] = (ds[i], Ps[i]) := List.getElem_zip ..
          have smU : Same HC (upd Ht t2 (.tup (SrtV (ds[i], Ps[i])))) := smT.trans (same_new nt2)
          have hCU : upd Ht t2 (.tup (SrtV (ds[i], Ps[i]))) C4 = some (.lst (ts.map V.ref)) := by rw [upd_ne (ne_of_none hCT nt2)]; exact hCT
          refine ⟨_, hCU, ?_, ts ++ [t2], same_over smU nC4, ?_, ?_⟩
          · rw [List.length_map, st.1, List.length_take]
            exact Nat.lt_of_le_of_lt (Nat.min_le_right _ _) (Nat.lt_of_le_of_lt (show (ds.zip Ps).length ≤ 7 by omega) (by decide))
          · rw [upd_same, List.map_append]
            rfl
          · rw [take_succ_get hiz, ez]
            exact stU.put hCU
        rintro HD ⟨ts, sD, hD, st⟩
        rw [← dz, List.take_length] at st
        refine ⟨C4, _, rfl, .inl ⟨SqL.of hD, fun q' nq => ?_⟩⟩
        refine ⟨(by show 3 ≤ sizeLine; decide), fun p' np' => ?_⟩
        obtain ⟨d, tl, rfl⟩ := d0'
        obtain ⟨p0, tl2, rfl, hp0⟩ := h6
        have sE : Same HD (upd HD q' (.tup (ts.map V.ref))) := same_new nq
        have eE : upd HD q' (.tup (ts.map V.ref)) q' = some (.tup (ts.map V.ref)) := upd_same
        generalize upd HD q' (.tup (ts.map V.ref)) = HE at sE eE np'
        have sF : Same HE (upd HE p' (.tup [.int d0, .int d1, .ref q'])) := same_new np'
        refine q _ p' d0 d1 ((d :: tl).zip (p0 :: tl2)) ?_ ?_ ⟨q', ts, upd_same, sF _ _ eE, (st.same sE).same sF⟩ ⟨by rw [dz]; simp, by omega, mny_zip1 hp0, fun x hx => b6 _ (snd_zip hx).2, ?_, b8 d0 (by simp), b8 d1 (by simp), fun x hx => dm _ (snd_zip hx).1, fun x xs e => by rw [List.zip_cons_cons] at e; cases e; exact hp0⟩
        · exact NC.bt.trans (Same.but ((sD.trans sE).trans sF))
        · exact ((xC.same ((sD.trans sE).trans sF)).mono (by omega))
        · rw [fst_zip (by omega)]
          exact hpw
end
end Sh

namespace Sh
open PySem PySem.Spec PyProof.Rows L2
/-! ### a fleet's ships one by one, as a sea -/
def seaDs (ss : List Srt) : List Int := (ss.map fun x => List.replicate (x.2.1 + x.2.2) x.1).flatten
theorem ints_flat (X : List Int) : (X.map V.int).all flatV = true := by rw [List.all_map]; exact List.all_eq_true.mpr fun _ _ => rfl
theorem in_ints {d : Int} {X : List Int} : inV (.int d) (X.map V.int) = decide (d ∈ X) := by
  unfold inV
  rw [List.any_map, Bool.eq_iff_iff, decide_eq_true_eq, List.any_eq_true]
  constructor
  · rintro ⟨x, hx, e⟩
    have e2 : (x == d) = true := e
    rw [← beq_iff_eq.mp e2]
    exact hx
  · intro h
    exact ⟨d, h, beq_self_eq_true d⟩
def seaLo : Nat → List Srt → List Nat
  | _, [] => []
  | o, x :: ss => List.range' o x.2.1 ++ seaLo (o + (x.2.1 + x.2.2)) ss
def seaL (ss : List Srt) : List Nat := seaLo 0 ss
theorem mny_le {m : Nat} : ∀ {ss : List Srt}, (∀ x ∈ ss, x.2.1 + x.2.2 ≤ m) → mny ss ≤ ss.length * m
  | [], _ => Nat.zero_le _
  | x :: ss, h => by
    have a := mny_le fun y hy => h y (.tail _ hy)
    have b := h x (.head _)
    rw [mny_cons, List.length_cons, Nat.succ_mul]
    omega
theorem seaDs_snoc (l : List Srt) (x : Srt) : seaDs (l ++ [x]) = seaDs l ++ List.replicate (x.2.1 + x.2.2) x.1 := by
  unfold seaDs
  rw [List.map_append, List.flatten_append]
  simp
theorem seaDs_cons (x : Srt) (l : List Srt) : seaDs (x :: l) = List.replicate (x.2.1 + x.2.2) x.1 ++ seaDs l := by
  unfold seaDs
  rw [List.map_cons, List.flatten_cons]
theorem seaDs_len (ss : List Srt) : (seaDs ss).length = mny ss := by
  induction ss with
  | nil => rfl
  | cons x ss ih => rw [mny_cons, ← ih, seaDs_cons, List.length_append, List.length_replicate]
theorem seaLo_snoc : ∀ (l : List Srt) (o : Nat) (x : Srt), seaLo o (l ++ [x]) = seaLo o l ++ List.range' (o + mny l) x.2.1
  | [], o, x => by
    show List.range' o x.2.1 ++ [] = [] ++ List.range' (o + 0) x.2.1
    simp
  | y :: l, o, x => by
    show List.range' o y.2.1 ++ seaLo _ (l ++ [x]) = (List.range' o y.2.1 ++ seaLo _ l) ++ _
    rw [seaLo_snoc l, mny_cons, List.append_assoc, Nat.add_assoc]
theorem seaL_snoc (l : List Srt) (x : Srt) : seaL (l ++ [x]) = seaL l ++ List.range' (mny l) x.2.1 := by
  unfold seaL
  rw [seaLo_snoc, Nat.zero_add]
theorem seaLo_lot : ∀ (l : List Srt) (o : Nat), (seaLo o l).Pairwise (· < ·) ∧ ∀ i ∈ seaLo o l, o ≤ i ∧ i < o + mny l
  | [], o => ⟨.nil, fun i h => by cases h⟩
  | x :: l, o => by
    obtain ⟨a, b⟩ := seaLo_lot l (o + (x.2.1 + x.2.2))
    have m := mny_cons x l
    refine ⟨List.pairwise_append.mpr ⟨List.pairwise_lt_range' .., a, fun i hi j hj => ?_⟩, fun i hi => ?_⟩
    · have := List.mem_range'_1.mp hi
      have := b j hj
      omega
    · rcases List.mem_append.mp hi with z | z
      · have := List.mem_range'_1.mp z
        omega
      · have := b i z
        omega
theorem seaL_lot (ss : List Srt) : Lot (seaDs ss).length (seaL ss) := by
  obtain ⟨a, b⟩ := seaLo_lot ss 0
  rw [seaDs_len]
  exact ⟨a, fun i hi => by have := b i hi; omega⟩
theorem seaL_len (ss : List Srt) : (seaL ss).length ≤ mny ss := by
  have := (seaL_lot ss).len
  rw [seaDs_len] at this
  exact this
theorem seaDs_mem {d : Int} : ∀ {ss : List Srt}, d ∈ seaDs ss → ∃ x ∈ ss, x.1 = d
  | [], h => by cases h
  | x :: ss, h => by
    rw [seaDs_cons] at h
    rcases List.mem_append.mp h with z | z
    · exact ⟨x, .head _, (List.eq_of_mem_replicate z).symm⟩
    · obtain ⟨y, hy, e⟩ := seaDs_mem z
      exact ⟨y, .tail _ hy, e⟩
theorem seaDs_up : ∀ {ss : List Srt}, (ss.map fun x => x.1).Pairwise (· < ·) → (seaDs ss).Pairwise (· ≤ ·)
  | [], _ => .nil
  | x :: ss, h => by
    rw [List.map_cons] at h
    obtain ⟨a, b⟩ := List.pairwise_cons.mp h
    rw [seaDs_cons]
    refine List.pairwise_append.mpr ⟨List.pairwise_replicate.mpr (.inr (Int.le_refl _)), seaDs_up b, fun c hc d hd => ?_⟩
    rw [List.eq_of_mem_replicate hc]
    obtain ⟨y, hy, e⟩ := seaDs_mem hd
    have := a y.1 (List.mem_map.mpr ⟨y, hy, rfl⟩)
    omega
end Sh

namespace Sh
open PySem PySem.Spec PyProof.Rows L2
/-! ### lists for tuples, all the way down -/
def lsD : Nat → PyData → PyData
  | n + 1, .tuple ds => .list (ds.map (lsD n))
  | _, d => d
/-- tuples of whole numbers, at most so deep -/
def Tl : Nat → PyData → Prop
  | 0, _ => False
  | _ + 1, .int _ => True
  | n + 1, .tuple ds => ds.length ≤ 1000 ∧ ∀ e ∈ ds, Tl n e
  | _ + 1, _ => False
/-- what is new in H', against H, stands in H'' -/
def Nw (H H' H'' : Hp) : Prop := ∀ a o, H a = none → H' a = some o → H'' a = some o
def spLists (K : PySem.W.Frag) (n : Nat) : Sp := fun vs H Q _ => ∃ (x : V) (d : PyData), vs = [x] ∧ Dp K H x d ∧ Tl n d ∧ ∀ (H' : Hp) (y : V), Same H H' → (∀ H'', Nw H H' H'' → Dp K H'' y (lsD n d)) → Q y H'
theorem DpAll.snoc {K : PySem.W.Frag} {H : Hp} {v : V} {d : PyData} (h : Dp K H v d) : ∀ {vs : List V} {ds : List PyData}, DpAll K H vs ds → DpAll K H (vs ++ [v]) (ds ++ [d])
  | _, _, .nil => .cons h .nil
  | _, _, .cons a b => .cons a (DpAll.snoc h b)
abbrev s__law_lists : Stmt := topS 19
theorem sc__law_lists : FnScope (["_law_what", "_law_part"] : List Str) (["_law_what"] : List Str) (defScope s__law_lists) := ⟨rfl, rfl, rfl, by decide +kernel, rfl, by decide +kernel, by decide +kernel⟩
theorem b__law_lists (kV doc pm : Value) (an : Option Addr) (cdv ct : Value) (us : List Value) (hl : us.length = (["_law_what"] : List Str).length) : bindArgs (PySem.W.fnOf "_law_lists" "_law_lists" (defArgs s__law_lists) (defBody s__law_lists) (defScope s__law_lists) .none kV doc pm an cdv ct) ⟨us, []⟩ = pure ((["_law_what"] : List Str).zip us) :=
  match us, hl with | [_], _ => rfl
section
variable {P : Program} {w : World} {K : PySem.W.Frag} {mg : Str → Option Value} {base : Heap}
theorem lists0 (D : Df K mg "_law_lists" s__law_lists) : Ok P w K mg base 0 "_law_lists" s__law_lists ["_law_what"] (spLists K 0) := by
  obtain ⟨f, fd, F, g⟩ := D.ex
  refine ⟨f, fd, F, g, F.binds b__law_lists, ⟨fun vs H Q E h => ?_, fun A outer s H args us vs Q E hr he hb hv h => ?_⟩⟩
  · obtain ⟨x, d, _, _, lv, _⟩ := h
    cases d <;> exact lv.elim
  · obtain ⟨x, d, _, _, lv, _⟩ := h
    cases d <;> exact lv.elim
set_option maxHeartbeats 4000000 in
theorem lists1 {m : Nat} (D : Df K mg "_law_lists" s__law_lists) (T : Bt mg) (O__law_lists : Ok P w K mg base m "_law_lists" s__law_lists ["_law_what"] (spLists K m)) : Ok P w K mg base (m + 1) "_law_lists" s__law_lists ["_law_what"] (spLists K (m + 1)) := by
  refine D.ok sc__law_lists b__law_lists (fun vs H Q E h => ?_) (fun f cdv A outer s H vs Q E hr h => ?_)
  · obtain ⟨x, d, rfl, _⟩ := h
    rfl
  · obtain ⟨x, d, rfl, hx, lv, q⟩ := h
    refine ⟨_, (pss_one (ps_ret (pe_ifExp (pt_val (pe_callB call_isiT (by rfl) T.isinstance_ (by decide +kernel) (pa_cons (pv 0) (pa_cons (pe_tup (pa_cons (pe_bltn (v := .ty "list") (by rfl) T.list_ (by decide +kernel) rfl) (pa_cons (pe_bltn (v := .ty "tuple") (by rfl) T.tuple_ (by decide +kernel) rfl) pa_nil))) pa_nil)))) (pe_lc (own := [("_law_part", 1)]) (g := (gName 1)) (tt := tYes) (by rfl) sc__law_lists.nd (pi_seq (pv 0)) (blkOk_by (own := [("_law_part", 1)]) (N := (["_law_what", "_law_part"] : List Str)) (sc := defScope s__law_lists) (by decide +kernel)) (fun _ _ _ _ _ => (pg_name (i := 1) sc__law_lists.nd rfl (.inl rfl))) (fun _ _ _ _ _ => pts_nil) (fun _ _ _ _ _ => (pe_fn O__law_lists (hr.mono (by omega)) (pa_cons (pv 1) pa_nil)))) (pv 0)))), ?_⟩
    refine ⟨_, rfl, (by show 2 ≤ sizeLine; decide), fun tp ntp => ?_⟩
    have s1 : Same H (upd H tp (.tup [.ty "list", .ty "tuple"])) := same_new ntp
    generalize eH1 : upd H tp (.tup [.ty "list", .ty "tuple"]) = H1 at s1
    have htp : H1 tp = some (.tup [.ty "list", .ty "tuple"]) := by rw [← eH1, upd_same]
    clear eH1 ntp
    cases d with
    | int i =>
      cases hx
      refine ⟨.int i, tp, [.ty "list", .ty "tuple"], .type "int", [.type "list", .type "tuple"], false, rfl, htp, .cons (.ty _) (.cons (.ty _) .nil), .base (.int i), kit2 (r1 := false) (r2 := false) (by decide +kernel) (by decide +kernel) rfl, _, rfl, iteF ?_⟩
      exact ⟨_, rfl, q _ _ s1 fun H'' _ => .int i⟩
    | tuple ds =>
      obtain ⟨a, xs, hsx, hax⟩ : ∃ a xs, SqT K H1 a xs ∧ DpAll K H1 xs ds ∧ x = .ref a := by cases hx with | tup h a => exact ⟨_, _, Same.tup s1 h, DpAll.same s1 a, rfl⟩
      obtain ⟨hax, rfl⟩ := hax
      have lx : xs.length = ds.length := DpAll.len hax
      refine ⟨.ref a, tp, [.ty "list", .ty "tuple"], .type "tuple", [.type "list", .type "tuple"], true, rfl, htp, .cons (.ty _) (.cons (.ty _) .nil), ty_tup hsx, kit2 (r1 := false) (r2 := true) (by decide +kernel) (by decide +kernel) rfl, _, rfl, iteT ?_⟩
      refine ⟨_, rfl, a, xs, H1, rfl, .inr hsx, Kp.refl _ _, fun J hJ C nC => ?_⟩
      obtain ⟨G, g, W⟩ := hJ.walk
      refine lc_it W (fun i H' => Same H1 H' ∧ ∃ ys : List V, H' C = some (.lst ys) ∧ ys.length = i ∧ ∀ H'', (∀ b o, H1 b = none → b ≠ C → H' b = some o → H'' b = some o) → DpAll K H'' ys ((ds.take i).map (lsD m))) ⟨same_new nC, [], upd_same, rfl, fun _ _ => .nil⟩ (fun i H' _ z => g H' (.ofS z.1)) ?_ ?_
      · rintro i z H2 H3 hi ⟨sm, ys, hC, ly, dp⟩ ⟨rfl, gz⟩
        obtain ⟨e, ge, he⟩ := DpAll.get (DpAll.same sm hax) gz
        obtain ⟨hid, eid⟩ := List.getElem?_eq_some_iff.mp ge
        refine ⟨rfl, tyes (iteT ?_)⟩
        refine ⟨_, rfl, z, e, rfl, he, lv.2 e (List.mem_of_getElem? ge), fun H4 y s4 dy => ?_⟩
        refine ⟨_, s4 _ _ hC, ?_, same_over (sm.trans s4) nC, ys ++ [y], upd_same, by rw [List.length_append, ly]; rfl, fun H'' k => ?_⟩
        · have := lv.1
          rw [ly]
          exact small1000 (by omega)
        · rw [take_succ_get hid, List.map_append, eid]
          refine DpAll.snoc (dy H'' fun b o nb hb => ?_) (dp H'' fun b o nb bC hb => ?_)
          · have bC : b ≠ C := fun z => by rw [z, hC] at nb; cases nb
            exact k b o (sm.free nb) bC (by rw [upd_ne bC]; exact hb)
          · exact k b o nb bC (by rw [upd_ne bC]; exact s4 _ _ hb)
      · rintro H2 ⟨sm, ys, hC, ly, dp⟩
        rw [lx] at dp
        rw [List.take_length] at dp
        refine q _ _ (s1.trans sm) fun H'' nw => ?_
        refine .lst (SqL.of (nw C _ (s1.free nC) hC)) (dp H'' fun b o nb bC hb => nw b o (s1.free nb) hb)
    | none => exact lv.elim
    | bool c => exact lv.elim
    | str c => exact lv.elim
    | list ds => exact lv.elim
    | dict kvs => exact lv.elim
theorem ok_lists (D : Df K mg "_law_lists" s__law_lists) (T : Bt mg) : ∀ m : Nat, Ok P w K mg base m "_law_lists" s__law_lists ["_law_what"] (spLists K m)
  | 0 => lists0 D
  | m + 1 => lists1 D T (ok_lists D T m)
end
/-! ### a fleet as such data, and back -/
def srtD (x : Srt) : PyData := .tuple [.int x.1, .int (x.2.1 : Int), .int (x.2.2 : Int)]
def srtE (x : Srt) : PyData := .list [.int x.1, .int (x.2.1 : Int), .int (x.2.2 : Int)]
theorem srts_dp {K : PySem.W.Frag} {H : Hp} : ∀ {rs : List Addr} {ss : List Srt}, SrtsN H rs ss → DpAll K H (rs.map V.ref) (ss.map srtD)
  | [], [], _ => .nil
  | [], x :: ss, h => by simpa using h.1
  | r :: rs, [], h => by simpa using h.1
  | r :: rs, x :: ss, h => .cons (.tup (SqT.of (h.2 0 r x rfl rfl)) (.cons (.int _) (.cons (.int _) (.cons (.int _) .nil)))) (srts_dp ⟨by simpa using h.1, fun i r' x' a b => h.2 (i + 1) r' x' a b⟩)
theorem FltT.dp {K : PySem.W.Frag} {H : Hp} {p : Addr} {h t : Int} {ss : List Srt} (f : FltT H p h t ss) : Dp K H (.ref p) (.tuple [.int h, .int t, .tuple (ss.map srtD)]) := by
  obtain ⟨q, rs, a, b, c⟩ := f
  exact .tup (SqT.of a) (.cons (.int _) (.cons (.int _) (.cons (.tup (SqT.of b) (srts_dp c)) .nil)))
theorem tl_flt {n : Nat} {h t : Int} {ss : List Srt} (l : ss.length ≤ 1000) : Tl (n + 4) (.tuple [.int h, .int t, .tuple (ss.map srtD)]) := by
  refine ⟨by show 3 ≤ 1000; decide, fun e he => ?_⟩
  have e3 : e = .int h ∨ e = .int t ∨ e = .tuple (ss.map srtD) := by simpa using he
  rcases e3 with rfl | rfl | rfl
  · trivial
  · trivial
  · refine ⟨by rw [List.length_map]; exact l, fun e he => ?_⟩
    obtain ⟨x, _, rfl⟩ := List.mem_map.mp he
    refine ⟨by show 3 ≤ 1000; decide, fun e he => ?_⟩
    have e3 : e = .int x.1 ∨ e = .int (x.2.1 : Int) ∨ e = .int (x.2.2 : Int) := by simpa using he
    rcases e3 with rfl | rfl | rfl <;> trivial
theorem ls_flt {n : Nat} {h t : Int} {ss : List Srt} : lsD (n + 4) (.tuple [.int h, .int t, .tuple (ss.map srtD)]) = .list [.int h, .int t, .list (ss.map srtE)] := by
  show PyData.list [.int h, .int t, .list ((ss.map srtD).map (lsD (n + 2)))] = _
  rw [List.map_map]
  rfl
theorem srts_of {K : PySem.W.Frag} {H : Hp} : ∀ {ss : List Srt} {vs : List V}, DpAll K H vs (ss.map srtE) → ∃ rs : List Addr, vs = rs.map V.ref ∧ SrtsA K H rs ss
  | [], _, .nil => ⟨[], rfl, rfl, fun i r x a _ => by cases a⟩
  | x :: ss, _, .cons a b => by
    obtain ⟨rs, rfl, c⟩ := srts_of b
    unfold srtE at a
    cases a with
    | @lst r xs _ hs d =>
      cases d with
      | cons d1 d =>
      cases d with
      | cons d2 d =>
      cases d with
      | cons d3 d =>
      cases d
      cases d1
      cases d2
      cases d3
      refine ⟨r :: rs, rfl, by rw [List.length_cons, List.length_cons, c.1], fun i r' x' e1 e2 => ?_⟩
      cases i with
      | zero =>
        obtain rfl : r = r' := by simpa using e1
        obtain rfl : x = x' := by simpa using e2
        exact .inl hs
      | succ i => exact c.2 i r' x' (by simpa using e1) (by simpa using e2)
theorem flt_of {K : PySem.W.Frag} {H : Hp} {v : V} {h t : Int} {ss : List Srt} (d : Dp K H v (.list [.int h, .int t, .list (ss.map srtE)])) : FltA K H v h t ss := by
  cases d with
  | @lst p xs _ hs d =>
    cases d with
    | cons d1 d =>
    cases d with
    | cons d2 d =>
    cases d with
    | cons d3 d =>
    cases d
    cases d1
    cases d2
    cases d3 with
    | @lst q ys _ hq d =>
      obtain ⟨rs, rfl, c⟩ := srts_of d
      exact ⟨p, q, rs, rfl, .inl hs, .inl hq, c⟩
end Sh

namespace Sh
open PySem PySem.Spec PyProof.Rows L2
def spSeaOf (K : PySem.W.Frag) : Sp := fun vs H Q _ => ∃ (v : V) (h t : Int) (ss : List Srt), vs = [v] ∧ FltA K H v h t ss ∧ ss.length ≤ 1000 ∧ mny ss ≤ 1000 ∧
  ∀ (H' : Hp) (r p q pl : Addr), Same H H' → H' r = some (.tup [.ref p, .ref pl]) → H' p = some (.tup [.int h, .int t, .ref q]) → H' q = some (.tup ((seaDs ss).map V.int)) → H' pl = some (.tup (ni (seaL ss))) → Q (.ref r) H'
theorem rg_ni (m n : Nat) : rgV (m : Int) ((m : Int) + (n : Int)) = ni (List.range' m n) := by
  unfold rgV ni
  rw [show ((m : Int) + (n : Int) - (m : Int)).toNat = n by omega, List.range'_eq_map_range, List.map_map]
  refine List.map_congr_left fun i _ => ?_
  show V.int ((m : Int) + (i : Int)) = V.int ((m + i : Nat) : Int)
  rw [Int.natCast_add]
theorem rep_flat {α : Type} (n : Nat) (x : α) : (List.replicate n [x]).flatten = List.replicate n x := by
  induction n with
  | zero => rfl
  | succ n ih => rw [List.replicate_succ, List.flatten_cons, ih, List.replicate_succ]; rfl
theorem mny_take (ss : List Srt) (i : Nat) : mny (ss.take i) ≤ mny ss := by
  have e : mny ss = mny (ss.take i) + mny (ss.drop i) := by
    conv => lhs; rw [← List.take_append_drop i ss]
    unfold mny
    rw [List.map_append, List.sum_append]
  omega
abbrev s_sea_of : Stmt := topS 7
theorem sc_sea_of : FnScope (["fleet", "here", "there", "sorts", "draughts", "standing", "draught", "ours", "theirs", "first"] : List Str) (["fleet"] : List Str) (defScope s_sea_of) := ⟨rfl, rfl, rfl, by decide +kernel, rfl, by decide +kernel, by decide +kernel⟩
theorem b_sea_of (kV doc pm : Value) (an : Option Addr) (cdv ct : Value) (us : List Value) (hl : us.length = (["fleet"] : List Str).length) : bindArgs (PySem.W.fnOf "sea_of" "sea_of" (defArgs s_sea_of) (defBody s_sea_of) (defScope s_sea_of) .none kV doc pm an cdv ct) ⟨us, []⟩ = pure ((["fleet"] : List Str).zip us) :=
  match us, hl with | [_], _ => rfl
section
variable {P : Program} {w : World} {K : PySem.W.Frag} {mg : Str → Option Value} {base : Heap}
set_option maxHeartbeats 4000000 in
theorem ok_sea_of {k : Nat} (D : Df K mg "sea_of" s_sea_of) (T : Bt mg) : Ok P w K mg base (k + 1) "sea_of" s_sea_of ["fleet"] (spSeaOf K) := by
  refine D.ok sc_sea_of b_sea_of (fun vs H Q E h => ?_) (fun f cdv A outer s H vs Q E hr h => ?_)
  · obtain ⟨v, h, t, ss, rfl, _⟩ := h
    rfl
  · obtain ⟨v, h, t, ss, rfl, hv, l1, m1, k⟩ := h
    obtain ⟨p, q, rs, rfl, hp, hq, hs⟩ := id hv
    refine ⟨_, (pss_cons (ps_asg (pv 0) (pg_seq rfl (pgs_cons (pg_name (i := 1) sc_sea_of.nd rfl (.inl rfl)) (pgs_cons (pg_name (i := 2) sc_sea_of.nd rfl (.inl rfl)) (pgs_cons (pg_name (i := 3) sc_sea_of.nd rfl (.inl rfl)) pgs_nil)))))
      (pss_cons (ps_set (i := 4) sc_sea_of.nd rfl (.inl rfl) (pe_lst pa_nil))
      (pss_cons (ps_set (i := 5) sc_sea_of.nd rfl (.inl rfl) (pe_lst pa_nil))
      (pss_cons (ps_for PassesOwn.never rfl (pi_seq (pv 3)) (pg_seq rfl (pgs_cons (pg_name (i := 6) sc_sea_of.nd rfl (.inl rfl)) (pgs_cons (pg_name (i := 7) sc_sea_of.nd rfl (.inl rfl)) (pgs_cons (pg_name (i := 8) sc_sea_of.nd rfl (.inl rfl)) pgs_nil))))
        (pss_cons (ps_set (i := 9) sc_sea_of.nd rfl (.inl rfl) (pe_callB call_len_seq (by rfl) T.len_ PySem.boot_len (pa_cons (pv 4) pa_nil)))
          (pss_cons (ps_expr (pe_bm PySem.F.plainAttrs_list PySem.F.slot_list_extend PySem.F.type_list_extend mt_extend (pv 5) (pa_cons (pe_listRg (by rfl) (by rfl) T.list_ (prg_2 (by rfl) T.range_ (pv 9) (pe_op op_add (pv 9) (pv 7)))) pa_nil)))
          (pss_one (ps_expr (pe_bm PySem.F.plainAttrs_list PySem.F.slot_list_extend PySem.F.type_list_extend mt_extend (pv 4) (pa_cons (pe_op op_rep (pe_lst (pa_cons (pv 6) pa_nil)) (pe_op op_add (pv 7) (pv 8))) pa_nil)))))))
      (pss_one (ps_ret (pe_tup (pa_cons (pe_tup (pa_cons (pv 1) (pa_cons (pv 2) (pa_cons (pe_callTy call_tuple_of (by rfl) T.tuple_ (by decide +kernel) (pa_cons (pv 4) pa_nil)) pa_nil)))) (pa_cons (pe_callTy call_tuple_of (by rfl) T.tuple_ (by decide +kernel) (pa_cons (pv 5) pa_nil)) pa_nil))))))))), ?_⟩
    refine ⟨_, rfl, p, _, rfl, hp, rfl, _, _, rfl, _, _, rfl, _, _, rfl, rfl, ?_⟩
    refine ⟨Nat.zero_le _, fun d nd => ?_⟩
    have s1 : Same H (upd H d (.lst [])) := same_new nd
    have e1 : upd H d (.lst []) d = some (.lst ((seaDs (ss.take 0)).map V.int)) := upd_same
    generalize upd H d (.lst []) = H1 at s1 e1
    refine ⟨Nat.zero_le _, fun st nst => ?_⟩
    have s2 : Same H1 (upd H1 st (.lst [])) := same_new nst
    have e2 : upd H1 st (.lst []) st = some (.lst (ni (seaL (ss.take 0)))) := upd_same
    generalize upd H1 st (.lst []) = H2 at s2 e2
    have s02 := s1.trans s2
    have ned : st ≠ d := fun z => by rw [z, e1] at nst; cases nst
    have nst0 : H st = none := s1.free nst
    refine ⟨_, rfl, q, _, H, rfl, hq, Kp.ofS s02, fun J hJ => ?_⟩
    obtain ⟨G, g, W⟩ := hJ.walk
    refine for_it W (fun i σ H' => ∃ y6 y7 y8 y9 : Option V, σ = [some (.ref p), some (.int h), some (.int t), some (.ref q), some (.ref d), some (.ref st), y6, y7, y8, y9] ∧ Same H H' ∧ H' d = some (.lst ((seaDs (ss.take i)).map V.int)) ∧ H' st = some (.lst (ni (seaL (ss.take i)))))
      ⟨none, none, none, none, rfl, s02, s2 _ _ e1, e2⟩ (fun i σ H' _ ⟨_, _, _, _, _, z, _, _⟩ => g H' (.ofS z)) ?_ ?_
    · rintro i x σ Ha Hb hi ⟨y6, y7, y8, y9, rfl, sm, hd, hst⟩ ⟨rfl, gx⟩
      obtain ⟨r, hi', rfl, hr1⟩ := srt_at (hs.same sm) gx
      have mi : mny (ss.take i) + (ss[i].2.1 + ss[i].2.2) ≤ mny ss := by
        have := mny_take ss (i + 1)
        rw [take_succ_get hi', mny_snoc] at this
        exact this
      have ml := seaDs_len (ss.take i)
      have mL := seaL_len (ss.take i)
      refine ⟨r, _, rfl, hr1, rfl, _, _, rfl, _, _, rfl, _, _, rfl, rfl, ?_⟩
      refine ⟨_, rfl, d, _, rfl, .inl (SqL.of hd), ?_⟩
      rw [List.length_map, ml]
      -- standing
      refine ⟨_, rfl, .inl ⟨rfl, _, SqL.of hst⟩, ?_⟩
      refine ⟨_, rfl, _, rfl, _, rfl, _, _, rfl, rfl, _, _, rfl, rfl, RgOk.of_le (by omega) (by omega) (by omega) (by omega), fun lr nlr => ?_⟩
      rw [rg_ni]
      have sb : Same Hb (upd Hb lr (.lst (ni (List.range' (mny (ss.take i)) ss[i].2.1)))) := same_new nlr
      have eb : upd Hb lr (.lst (ni (List.range' (mny (ss.take i)) ss[i].2.1))) lr = _ := upd_same
      generalize upd Hb lr (.lst (ni (List.range' (mny (ss.take i)) ss[i].2.1))) = Hc at sb eb
      refine ⟨st, lr, _, _, rfl, rfl, sb _ _ hst, eb, ?_, ?_⟩
      · rw [ni_len, ni_len, List.length_range']
        exact Nat.le_trans (show _ ≤ 1000 by omega) (by decide)
      have sd : Same H (upd Hc st (.lst (ni (seaL (ss.take i)) ++ ni (List.range' (mny (ss.take i)) ss[i].2.1)))) := same_over (sm.trans sb) nst0
      have ed : upd Hc st (.lst (ni (seaL (ss.take i)) ++ ni (List.range' (mny (ss.take i)) ss[i].2.1))) st = some (.lst (ni (seaL (ss.take (i + 1))))) := by
        rw [upd_same, take_succ_get hi', seaL_snoc, ni_app]
      have hd2 : upd Hc st (.lst (ni (seaL (ss.take i)) ++ ni (List.range' (mny (ss.take i)) ss[i].2.1))) d = some (.lst ((seaDs (ss.take i)).map V.int)) := by
        rw [upd_ne ned.symm]
        exact sb _ _ hd
      generalize upd Hc st (.lst (ni (seaL (ss.take i)) ++ ni (List.range' (mny (ss.take i)) ss[i].2.1))) = Hd at sd ed hd2
      -- draughts
      refine ⟨_, rfl, .inl ⟨rfl, _, SqL.of hd2⟩, ?_⟩
      refine ⟨_, rfl, (by show 1 ≤ sizeLine; decide), fun lo nlo => ?_⟩
      have se : Same Hd (upd Hd lo (.lst [.int ss[i].1])) := same_new nlo
      have ee : upd Hd lo (.lst [.int ss[i].1]) lo = _ := upd_same
      generalize upd Hd lo (.lst [.int ss[i].1]) = He at se ee
      refine ⟨_, rfl, _, rfl, _, _, rfl, rfl, lo, _, _, rfl, rfl, ee, by omega, by omega, ?_, fun lp nlp => ?_⟩
      · show 1 * _ ≤ sizeLine
        rw [Nat.one_mul]
        exact Nat.le_trans (show _ ≤ 1000 by omega) (by decide)
      rw [rep_flat, show ((ss[i].2.1 : Int) + (ss[i].2.2 : Int)).toNat = ss[i].2.1 + ss[i].2.2 by omega]
      have sf : Same He (upd He lp (.lst (List.replicate (ss[i].2.1 + ss[i].2.2) (.int ss[i].1)))) := same_new nlp
      have ef : upd He lp (.lst (List.replicate (ss[i].2.1 + ss[i].2.2) (.int ss[i].1))) lp = _ := upd_same
      generalize upd He lp (.lst (List.replicate (ss[i].2.1 + ss[i].2.2) (.int ss[i].1))) = Hf at sf ef
      have sdf := se.trans sf
      refine ⟨d, lp, _, _, rfl, rfl, sdf _ _ hd2, ef, ?_, ?_⟩
      · rw [List.length_map, List.length_replicate, ml]
        exact Nat.le_trans (show _ ≤ 1000 by omega) (by decide)
      refine ⟨_, _, _, _, rfl, same_over (sd.trans sdf) nd, ?_, ?_⟩
      · rw [upd_same, take_succ_get hi', seaDs_snoc, List.map_append, List.map_replicate]
      · rw [upd_ne ned]
        exact sdf _ _ ed
    · rintro σ Hz ⟨y6, y7, y8, y9, rfl, sz, hdz, hstz⟩
      rw [List.length_map, hs.1, List.take_length] at hdz hstz
      refine ⟨_, rfl, _, rfl, _, rfl, d, _, rfl, .inl ⟨SqL.of hdz, fun a na => ?_⟩⟩
      have sa : Same Hz (upd Hz a (.tup ((seaDs ss).map V.int))) := same_new na
      have ea : upd Hz a (.tup ((seaDs ss).map V.int)) a = _ := upd_same
      generalize upd Hz a (.tup ((seaDs ss).map V.int)) = Ha at sa ea
      refine ⟨(by show 3 ≤ sizeLine; decide), fun p2 np2 => ?_⟩
      have sb : Same Ha (upd Ha p2 (.tup [.int h, .int t, .ref a])) := same_new np2
      have eb : upd Ha p2 (.tup [.int h, .int t, .ref a]) p2 = _ := upd_same
      generalize upd Ha p2 (.tup [.int h, .int t, .ref a]) = Hb at sb eb
      have sab := sa.trans sb
      refine ⟨_, rfl, st, _, rfl, .inl ⟨SqL.of (sab _ _ hstz), fun a3 na3 => ?_⟩⟩
      have sc : Same Hb (upd Hb a3 (.tup (ni (seaL ss)))) := same_new na3
      have ec : upd Hb a3 (.tup (ni (seaL ss))) a3 = _ := upd_same
      generalize upd Hb a3 (.tup (ni (seaL ss))) = Hc at sc ec
      refine ⟨(by show 2 ≤ sizeLine; decide), fun r nr => ?_⟩
      have sd : Same Hc (upd Hc r (.tup [.ref p2, .ref a3])) := same_new nr
      have ed : upd Hc r (.tup [.ref p2, .ref a3]) r = _ := upd_same
      generalize upd Hc r (.tup [.ref p2, .ref a3]) = Hd at sd ed
      have sbd := sc.trans sd
      exact k _ r p2 a a3 (sz.trans (sab.trans sbd)) ed (sbd _ _ eb) ((sb.trans sbd) _ _ ea) (sd _ _ ec)
end
end Sh

namespace Sh
open PySem PySem.Spec PyProof.Rows L2
/-! ### data of any kind: hidden objects, bounds -/
/-- the heap without those of Z -/
def hide (Z : Addr → Bool) (H : Hp) : Hp := fun a => if Z a = true then none else H a
section
variable {Z : Addr → Bool} {H H' : Hp} {b p : Addr} {o : HO}
theorem hide_some {a : Addr} (h : hide Z H a = some o) : Z a = false ∧ H a = some o := by
  unfold hide at h
  by_cases z : Z a = true
  · rw [if_pos z] at h
    cases h
  · rw [if_neg z] at h
    exact ⟨by simpa using z, h⟩
theorem hide_at {a : Addr} (z : Z a = false) (h : H a = some o) : hide Z H a = some o := by
  unfold hide
  rw [if_neg (by rw [z]; exact Bool.false_ne_true)]
  exact h
theorem hide_same : Same (hide Z H) H := fun a o h => (hide_some h).2
theorem hide_but (zb : Z b = true) (u : But b H H') : Same (hide Z H) (hide Z H') := fun a o h => by
  obtain ⟨z, e⟩ := hide_some h
  exact hide_at z (u a o (fun q => by rw [q, zb] at z; cases z) e)
theorem hide_of (s : Same H H') : Same (hide Z H) (hide Z H') := fun a o h => by
  obtain ⟨z, e⟩ := hide_some h
  exact hide_at z (s a o e)
/-- what is hidden stands -/
def Hid (Z : Addr → Bool) (H : Hp) : Prop := ∀ a, Z a = true → H a ≠ none
theorem Hid.new (hz : Hid Z H) (np : H p = none) : Z p = false := by
  cases e : Z p with
  | false => rfl
  | true => exact absurd np (hz p e)
theorem Hid.same (hz : Hid Z H) (s : Same H H') : Hid Z H' := fun a z e => by
  cases q : H a with
  | none => exact hz a z q
  | some o => rw [s a o q] at e; cases e
theorem Hid.but {n : Nat} (hz : Hid Z H) (u : But b H H') (x : BoxAt H' b n) : Hid Z H' := fun a z e => by
  by_cases y : a = b
  · subst y
    exact x.some e
  · cases q : H a with
    | none => exact hz a z q
    | some o => rw [u a o y q] at e; cases e
end
theorem dpall_mem {K : PySem.W.Frag} {H : Hp} : ∀ {vs : List V} {ds : List PyData} {v : V}, DpAll K H vs ds → v ∈ vs → ∃ d ∈ ds, Dp K H v d
  | _, _, _, .nil, h => by cases h
  | _, _, _, .cons x a, h => by
    rcases List.mem_cons.mp h with z | z
    · subst z
      exact ⟨_, List.mem_cons_self, x⟩
    · obtain ⟨d, hd, q⟩ := dpall_mem a z
      exact ⟨d, List.mem_cons_of_mem _ hd, q⟩
theorem dpall_app {K : PySem.W.Frag} {H : Hp} : ∀ {vs ws : List V} {ds es : List PyData}, DpAll K H vs ds → DpAll K H ws es → DpAll K H (vs ++ ws) (ds ++ es)
  | _, _, _, _, .nil, h => h
  | _, _, _, _, .cons x a, h => .cons x (dpall_app a h)
theorem dpall_take {K : PySem.W.Frag} {H : Hp} : ∀ {vs : List V} {ds : List PyData} (n : Nat), DpAll K H vs ds → DpAll K H (vs.take n) (ds.take n)
  | _, _, 0, _ => by simpa using DpAll.nil
  | _, _, n + 1, .nil => by simpa using DpAll.nil
  | _, _, n + 1, .cons x a => by simpa using DpAll.cons x (dpall_take n a)
theorem dpall_drop {K : PySem.W.Frag} {H : Hp} : ∀ {vs : List V} {ds : List PyData} (n : Nat), DpAll K H vs ds → DpAll K H (vs.drop n) (ds.drop n)
  | _, _, 0, a => by simpa using a
  | _, _, n + 1, .nil => by simpa using DpAll.nil
  | _, _, n + 1, .cons x a => by simpa using dpall_drop n a
theorem dpall_rev {K : PySem.W.Frag} {H : Hp} : ∀ {vs : List V} {ds : List PyData}, DpAll K H vs ds → DpAll K H vs.reverse ds.reverse
  | _, _, .nil => by simpa using DpAll.nil
  | _, _, .cons x a => by
    rw [List.reverse_cons, List.reverse_cons]
    exact dpall_app (dpall_rev a) (.cons x .nil)
theorem dpall_set {K : PySem.W.Frag} {H : Hp} {v : V} {d : PyData} (h : Dp K H v d) : ∀ {vs : List V} {ds : List PyData} (n : Nat), DpAll K H vs ds → DpAll K H (vs.set n v) (ds.set n d)
  | _, _, _, .nil => by simpa using DpAll.nil
  | _, _, 0, .cons x a => by simpa using DpAll.cons h a
  | _, _, n + 1, .cons x a => by simpa using DpAll.cons x (dpall_set h n a)
/-- so deep at most, so long at most, numbers no greater than B -/
def Bd (n : Nat) (B : Int) : Nat → PyData → Prop
  | 0, _ => False
  | _ + 1, .none => True
  | _ + 1, .bool _ => True
  | _ + 1, .int i => -B ≤ i ∧ i ≤ B
  | _ + 1, .str s => s.length ≤ 20 ∧ PySem.PyData.strOk s = true
  | m + 1, .list ds => ds.length ≤ n ∧ ∀ e ∈ ds, Bd n B m e
  | m + 1, .tuple ds => ds.length ≤ n ∧ ∀ e ∈ ds, Bd n B m e
  | _ + 1, .dict _ => False
theorem Bd.mono {n n' : Nat} {B B' : Int} (hn : n ≤ n') (hB : B ≤ B') : ∀ {m m' : Nat} {d : PyData}, m ≤ m' → Bd n B m d → Bd n' B' m' d
  | 0, _, _, _, h => h.elim
  | m + 1, 0, _, l, _ => absurd l (by omega)
  | m + 1, m' + 1, d, l, h => by
    cases d with
    | none => trivial
    | bool b => trivial
    | int i => exact ⟨by have := h.1; omega, by have := h.2; omega⟩
    | str s => exact h
    | list ds => exact ⟨Nat.le_trans h.1 hn, fun e he => Bd.mono hn hB (by omega) (h.2 e he)⟩
    | tuple ds => exact ⟨Nat.le_trans h.1 hn, fun e he => Bd.mono hn hB (by omega) (h.2 e he)⟩
    | dict k => exact h.elim
theorem Bd.lv {n : Nat} {B : Int} (hn : n ≤ 100000) : ∀ {m : Nat} {d : PyData}, Bd n B m d → Lv m d
  | 0, _, h => h.elim
  | m + 1, d, h => by
    cases d with
    | none => trivial
    | bool b => trivial
    | int i => trivial
    | str s => trivial
    | list ds => exact ⟨Nat.le_trans h.1 hn, fun e he => Bd.lv hn (h.2 e he)⟩
    | tuple ds => exact ⟨Nat.le_trans h.1 hn, fun e he => Bd.lv hn (h.2 e he)⟩
    | dict k => exact h.elim
/-- how long its text is at most -/
def lenB (n : Nat) : Nat → Nat
  | 0 => 0
  | m + 1 => 300 + n * (lenB n m + 2)
theorem fit_all {m l : Nat} : ∀ {ds : List PyData}, (∀ e ∈ ds, Fit l m e) → FitAll (ds.length * (l + 2)) m ds
  | [], _ => by simpa using FitAll.nil m
  | d :: ds, h => by
    have g := fit_all (ds := ds) fun e he => h e (List.mem_cons_of_mem _ he)
    refine (FitAll.cons (h d List.mem_cons_self) g).mono ?_ (Nat.le_refl m)
    rw [List.length_cons, Nat.succ_mul]
    omega
theorem Bd.fit {n : Nat} {B : Int} (hB : B ≤ 10000000000100) : ∀ {m : Nat} {d : PyData}, Bd n B m d → Fit (lenB n m) m d
  | 0, _, h => h.elim
  | m + 1, d, h => by
    have l0 : 300 ≤ lenB n (m + 1) := Nat.le_add_right _ _
    have key : ∀ {ds : List PyData}, ds.length ≤ n → (∀ e ∈ ds, Bd n B m e) → FitAll (n * (lenB n m + 2)) m ds := fun {ds} a c => (fit_all fun e he => Bd.fit hB (c e he)).mono (Nat.mul_le_mul_right _ a) (Nat.le_refl m)
    cases d with
    | none => exact ⟨Nat.le_trans (show 4 ≤ 300 by decide) l0, rfl, rfl, Nat.zero_le _⟩
    | bool b => exact ⟨Nat.le_trans (by cases b <;> decide) l0, rfl, rfl, Nat.zero_le _⟩
    | int i =>
      refine (fit_int (i := i) ?_).mono (Nat.le_trans (by decide) l0) (Nat.zero_le _)
      have := h.1
      have := h.2
      show i.natAbs < 100000000000000
      omega
    | str s =>
      refine ⟨Nat.le_trans ?_ l0, rfl, ?_, Nat.zero_le _⟩
      · have := PySem.StrLaws.reprText_len s fun c hc => by
          have z := h.2
          unfold PySem.PyData.strOk at z
          rw [← Array.all_toList, List.all_eq_true] at z
          exact Nat.lt_trans (of_decide_eq_true (z c hc)) (by decide)
        have := h.1
        show (reprText s).length ≤ 300
        omega
      · exact h.2
    | list ds =>
      refine (Fit.list (key h.1 h.2)).mono ?_ (Nat.le_refl _)
      show n * (lenB n m + 2) + 3 ≤ 300 + n * (lenB n m + 2)
      omega
    | tuple ds =>
      refine (Fit.tup (key h.1 h.2)).mono ?_ (Nat.le_refl _)
      show n * (lenB n m + 2) + 3 ≤ 300 + n * (lenB n m + 2)
      omega
    | dict k => exact h.elim
theorem bd_text (s : String) (l : s.length ≤ 20) {n m : Nat} {B : Int} : Bd n B (m + 1) (.str (Str.ofString s)) := by
  refine ⟨by rw [PySem.ofString_length]; exact l, ?_⟩
  unfold PySem.PyData.strOk
  rw [Str.ofString_eq_toList, ← Array.all_toList, List.all_eq_true]
  intro c hc
  obtain ⟨x, _, rfl⟩ := List.mem_map.mp (show c ∈ (s.toList.map Char.toNat).toArray.toList from hc)
  refine decide_eq_true ?_
  have v := x.valid
  show x.val.toNat < 0x110000
  rcases v with v | v
  · exact Nat.lt_trans v (by decide)
  · exact v.2
end Sh

namespace Sh
open PySem PySem.Spec PyProof.Rows L2
/-! ### bounds for greater numbers -/
theorem fit_int31 {i : Int} (h : i.natAbs < 10 ^ 31) : Fit 40 0 (.int i) := by
  refine ⟨?_, ?_, rfl, Nat.le_refl 0⟩
  · show (Str.ofString (toString i)).length ≤ 40
    rw [PySem.ofString_length]
    exact Nat.le_trans (int_text_length_le10 (k := 31) (by decide) h) (by decide)
  · show decide (i.natAbs.log2 < 1920) = true
    refine decide_eq_true ?_
    by_cases z : i.natAbs = 0
    · rw [z]
      decide
    · exact (Nat.log2_lt z).mpr (Nat.lt_trans h (by decide +kernel))
theorem Bd.fit30 {n : Nat} {B : Int} (hB : B ≤ 1000000000000000000000000000100) : ∀ {m : Nat} {d : PyData}, Bd n B m d → Fit (lenB n m) m d
  | 0, _, h => h.elim
  | m + 1, d, h => by
    have l0 : 300 ≤ lenB n (m + 1) := Nat.le_add_right _ _
    have key : ∀ {ds : List PyData}, ds.length ≤ n → (∀ e ∈ ds, Bd n B m e) → FitAll (n * (lenB n m + 2)) m ds := fun {ds} a c => (fit_all fun e he => Bd.fit30 hB (c e he)).mono (Nat.mul_le_mul_right _ a) (Nat.le_refl m)
    cases d with
    | none => exact ⟨Nat.le_trans (show 4 ≤ 300 by decide) l0, rfl, rfl, Nat.zero_le _⟩
    | bool b => exact ⟨Nat.le_trans (by cases b <;> decide) l0, rfl, rfl, Nat.zero_le _⟩
    | int i =>
      refine (fit_int31 (i := i) ?_).mono (Nat.le_trans (by decide) l0) (Nat.zero_le _)
      have := h.1
      have := h.2
      show i.natAbs < 10000000000000000000000000000000
      omega
    | str s =>
      refine ⟨Nat.le_trans ?_ l0, rfl, ?_, Nat.zero_le _⟩
      · have := PySem.StrLaws.reprText_len s fun c hc => by
          have z := h.2
          unfold PySem.PyData.strOk at z
          rw [← Array.all_toList, List.all_eq_true] at z
          exact Nat.lt_trans (of_decide_eq_true (z c hc)) (by decide)
        have := h.1
        show (reprText s).length ≤ 300
        omega
      · exact h.2
    | list ds =>
      refine (Fit.list (key h.1 h.2)).mono ?_ (Nat.le_refl _)
      show n * (lenB n m + 2) + 3 ≤ 300 + n * (lenB n m + 2)
      omega
    | tuple ds =>
      refine (Fit.tup (key h.1 h.2)).mono ?_ (Nat.le_refl _)
      show n * (lenB n m + 2) + 3 ≤ 300 + n * (lenB n m + 2)
      omega
    | dict k => exact h.elim
end Sh

namespace Sh
open PySem PySem.Spec PyProof.Rows L2
/-! ### sorts and fleets: of any data -/
def isSrt3 : List PyData → Bool
  | [a, b, c] => isNumD a && (isNumD b && isNumD c)
  | _ => false
def isSrtD : PyData → Bool
  | .tuple ds => isSrt3 ds
  | _ => false
/-- draught, ours, theirs -/
def srtI : PyData → Int × Int × Int
  | .tuple [a, b, c] => (intD a, intD b, intD c)
  | _ => (0, 0, 0)
def sumD (cs : List PyData) : Int := (cs.map fun c => (srtI c).2.1 + (srtI c).2.2).sum
def frD : PyData → Bool
  | .tuple cs => cs.all isSrtD && (decide (0 < sumD cs) && risingB (cs.map fun c => (srtI c).1))
  | _ => false
def isFlt3 : List PyData → Bool
  | [a, b, c] => isNumD a && (isNumD b && (isTuD c && frD c))
  | _ => false
def isFltD : PyData → Bool
  | .tuple ds => isFlt3 ds
  | _ => false
theorem flt_tup {d : PyData} (n : isTupD 3 d = false) : isFltD d = false := by
  cases d with
  | tuple ds =>
    have h : ds.length ≠ 3 := of_decide_eq_false n
    show isFlt3 ds = false
    match ds, h with
    | [], _ => rfl
    | [_], _ => rfl
    | [_, _], _ => rfl
    | [_, _, _], h => exact absurd rfl h
    | _ :: _ :: _ :: _ :: _, _ => rfl
  | _ => rfl
theorem srt_tup {d : PyData} (n : isTupD 3 d = false) : isSrtD d = false := by
  cases d with
  | tuple ds =>
    have h : ds.length ≠ 3 := of_decide_eq_false n
    show isSrt3 ds = false
    match ds, h with
    | [], _ => rfl
    | [_], _ => rfl
    | [_, _], _ => rfl
    | [_, _, _], h => exact absurd rfl h
    | _ :: _ :: _ :: _ :: _, _ => rfl
  | _ => rfl
theorem flt_three (a b c : PyData) : isFltD (.tuple [a, b, c]) = (isNumD a && (isNumD b && (isTuD c && frD c))) := rfl
theorem srt_three (a b c : PyData) : isSrtD (.tuple [a, b, c]) = (isNumD a && (isNumD b && isNumD c)) := rfl
/-- what is a sort: three numbers -/
theorem dp_srt {K : PySem.W.Frag} {H : Hp} {v : V} {d : PyData} (h : Dp K H v d) (n : isSrtD d = true) : ∃ (p : Addr) (i j k : Int), v = .ref p ∧ d = .tuple [.int i, .int j, .int k] ∧ 0 ≤ i ∧ 0 ≤ j ∧ 0 ≤ k ∧ SqT K H p [.int i, .int j, .int k] := by
  cases e : isTupD 3 d with
  | false => rw [srt_tup e] at n; cases n
  | true =>
    obtain ⟨p, x, y, z, a, b, c, rfl, rfl, hp, hx, hy, hz⟩ := dp_three h e
    rw [srt_three, Bool.and_eq_true, Bool.and_eq_true] at n
    obtain ⟨i, rfl, rfl, i0⟩ := dp_num hx n.1
    obtain ⟨j, rfl, rfl, j0⟩ := dp_num hy n.2.1
    obtain ⟨k, rfl, rfl, k0⟩ := dp_num hz n.2.2
    exact ⟨p, i, j, k, rfl, rfl, i0, j0, k0, hp⟩
def spIsSort (K : PySem.W.Frag) : Sp := fun vs H Q _ => ∃ (v : V) (d : PyData), vs = [v] ∧ Dp K H v d ∧ ∀ H', Same H H' → Q (.bl (isSrtD d)) H'
def spIsFleet (K : PySem.W.Frag) : Sp := fun vs H Q _ => ∃ (n : Nat) (v : V) (d : PyData), vs = [v] ∧ Dp K H v d ∧ Lv n d ∧ ∀ H', Same H H' → Q (.bl (isFltD d)) H'
abbrev s_is_sort : Stmt := topS 5
theorem sc_is_sort : FnScope (["thing", "part"] : List Str) (["thing"] : List Str) (defScope s_is_sort) := ⟨rfl, rfl, rfl, by decide +kernel, rfl, by decide +kernel, by decide +kernel⟩
theorem b_is_sort (kV doc pm : Value) (an : Option Addr) (cdv ct : Value) (us : List Value) (hl : us.length = (["thing"] : List Str).length) : bindArgs (PySem.W.fnOf "is_sort" "is_sort" (defArgs s_is_sort) (defBody s_is_sort) (defScope s_is_sort) .none kV doc pm an cdv ct) ⟨us, []⟩ = pure ((["thing"] : List Str).zip us) :=
  match us, hl with | [_], _ => rfl
abbrev s_is_fleet : Stmt := topS 6
theorem sc_is_fleet : FnScope (["thing", "here", "there", "sorts", "many", "part", "draught", "ours", "theirs"] : List Str) (["thing"] : List Str) (defScope s_is_fleet) := ⟨rfl, rfl, rfl, by decide +kernel, rfl, by decide +kernel, by decide +kernel⟩
theorem b_is_fleet (kV doc pm : Value) (an : Option Addr) (cdv ct : Value) (us : List Value) (hl : us.length = (["thing"] : List Str).length) : bindArgs (PySem.W.fnOf "is_fleet" "is_fleet" (defArgs s_is_fleet) (defBody s_is_fleet) (defScope s_is_fleet) .none kV doc pm an cdv ct) ⟨us, []⟩ = pure ((["thing"] : List Str).zip us) :=
  match us, hl with | [_], _ => rfl
section
variable {P : Program} {w : World} {K : PySem.W.Frag} {mg : Str → Option Value} {base : Heap}
set_option maxHeartbeats 4000000 in
theorem ok_is_sort {k : Nat} (D : Df K mg "is_sort" s_is_sort) (T : Bt mg) (O_is_number : Ok P w K mg base k "is_number" s_is_number ["thing"] (spIsNum K)) (O_is_tuple_of : Ok P w K mg base k "is_tuple_of" s_is_tuple_of ["thing", "many"] (spIsTup K)) : Ok P w K mg base (k + 1) "is_sort" s_is_sort ["thing"] (spIsSort K) := by
  refine D.ok sc_is_sort b_is_sort (fun vs H Q E h => ?_) (fun f cdv A outer s H vs Q E hr h => ?_)
  · obtain ⟨v, d, rfl, _⟩ := h
    rfl
  · obtain ⟨v, d, rfl, hv, q⟩ := h
    refine ⟨_, (pss_one (ps_ret (pe_and (pe_fn O_is_tuple_of (hr.mono (by omega)) (pa_cons (pv 0) (pa_cons pe_int pa_nil))) (pe_one (pe_callB (cr_all rfl) (by rfl) T.all_ (by decide +kernel) (pa_cons (pe_lc (own := [("part", 1)]) (g := (gName 1)) (tt := tYes) (by rfl) sc_is_sort.nd (pi_seq (pv 0)) (blkOk_by (own := [("part", 1)]) (N := (["thing", "part"] : List Str)) (sc := defScope s_is_sort) (by decide +kernel)) (fun _ _ _ _ _ => (pg_name (i := 1) sc_is_sort.nd rfl (.inl rfl))) (fun _ _ _ _ _ => pts_nil) (fun _ _ _ _ _ => (pe_fn O_is_number (hr.mono (by omega)) (pa_cons (pv 1) pa_nil)))) pa_nil)))))), ?_⟩
    refine ⟨_, rfl, v, d, 3, rfl, hv, _, rfl, ?_⟩
    cases e : isTupD 3 d with
    | false =>
      rw [srt_tup e] at q
      exact q _ (Same.refl _)
    | true =>
      obtain ⟨p, x, y, z, a, b, c, rfl, rfl, hp, hx, hy, hz⟩ := dp_three hv e
      have al : DpAll K H [x, y, z] [a, b, c] := .cons hx (.cons hy (.cons hz .nil))
      refine ⟨_, rfl, p, _, H, rfl, .inr hp, Kp.refl _ _, fun J hJ C nC => ?_⟩
      obtain ⟨G, g, W⟩ := hJ.walk
      refine lc_it W (fun i H' => Same H H' ∧ H' C = some (.lst ((([a, b, c].take i).map isNumD).map V.bl))) ⟨same_new nC, upd_same⟩ (fun i H' _ z => g H' (.ofS z.1)) ?_ ?_
      · rintro i x' Ha Hb hi ⟨sm, hC⟩ ⟨rfl, gx⟩
        have hi3 : i < [a, b, c].length := hi
        obtain ⟨d, gd, hd⟩ := DpAll.get al gx
        obtain rfl : [a, b, c][i] = d := by
          rw [List.getElem?_eq_getElem hi3] at gd
          exact Option.some.inj gd
        refine ⟨rfl, tyes (iteT ?_)⟩
        refine ⟨_, rfl, x', _, rfl, Dp.same sm hd, _, hC, ?_, same_over sm nC, ?_⟩
        · rw [List.length_map, List.length_map, List.length_take]
          exact small1000 (show min i 3 ≤ 1000 by omega)
        · rw [upd_same, take_succ_get hi3, List.map_append, List.map_append]
          rfl
      · rintro Ha ⟨sm, hC⟩
        refine ⟨C, _, rfl, SqL.of hC, ?_⟩
        have : ((List.take [x, y, z].length [a, b, c]).map isNumD).all id = isSrtD (.tuple [a, b, c]) := by
          show (isNumD a && (isNumD b && (isNumD c && true))) = _
          rw [Bool.and_true]
          rfl
        rw [this]
        exact q _ sm
set_option maxHeartbeats 8000000 in
theorem ok_is_fleet {k : Nat} (D : Df K mg "is_fleet" s_is_fleet) (T : Bt mg) (O_is_number : Ok P w K mg base k "is_number" s_is_number ["thing"] (spIsNum K)) (O_is_tuple_of : Ok P w K mg base k "is_tuple_of" s_is_tuple_of ["thing", "many"] (spIsTup K)) (O_is_sort : Ok P w K mg base k "is_sort" s_is_sort ["thing"] (spIsSort K)) (O_are_rising : Ok P w K mg base k "are_rising" s_are_rising ["numbers"] (spRising K)) :
    Ok P w K mg base (k + 1) "is_fleet" s_is_fleet ["thing"] (spIsFleet K) := by
  refine D.ok sc_is_fleet b_is_fleet (fun vs H Q E h => ?_) (fun f cdv A outer s H vs Q E hr h => ?_)
  · obtain ⟨n, v, d, rfl, _⟩ := h
    rfl
  · obtain ⟨n, v, d, rfl, hv, lv, q⟩ := h
    refine ⟨_, (pss_cons (ps_if (pt_not (pt_val (pe_fn O_is_tuple_of (hr.mono (by omega)) (pa_cons (pv 0) (pa_cons pe_int pa_nil)))))
        (pss_one (ps_ret pe_bl))
        pss_nil)
      (pss_cons (ps_asg (pv 0) (pg_seq rfl (pgs_cons (pg_name (i := 1) sc_is_fleet.nd rfl (.inl rfl)) (pgs_cons (pg_name (i := 2) sc_is_fleet.nd rfl (.inl rfl)) (pgs_cons (pg_name (i := 3) sc_is_fleet.nd rfl (.inl rfl)) pgs_nil)))))
      (pss_cons (ps_if (pt_not (PW.pt (pw_and (pt_val (pe_fn O_is_number (hr.mono (by omega)) (pa_cons (pv 1) pa_nil))) (pw_and (pt_val (pe_fn O_is_number (hr.mono (by omega)) (pa_cons (pv 2) pa_nil))) (pw_and1 (pt_val (pe_callB call_isi (by rfl) T.isinstance_ (by decide +kernel) (pa_cons (pv 3) (pa_cons (pe_bltn (v := .ty "tuple") (by rfl) T.tuple_ (by decide +kernel) rfl) pa_nil)))))))))
        (pss_one (ps_ret pe_bl))
        pss_nil)
      (pss_cons (ps_if (pt_not (pt_val (pe_callB (cr_all rfl) (by rfl) T.all_ (by decide +kernel) (pa_cons (pe_lc (own := [("part", 5)]) (g := (gName 5)) (tt := tYes) (by rfl) sc_is_fleet.nd (pi_seq (pv 3)) (blkOk_by (own := [("part", 5)]) (N := (["thing", "here", "there", "sorts", "many", "part", "draught", "ours", "theirs"] : List Str)) (sc := defScope s_is_fleet) (by decide +kernel)) (fun _ _ _ _ _ => (pg_name (i := 5) sc_is_fleet.nd rfl (.inl rfl))) (fun _ _ _ _ _ => pts_nil) (fun _ _ _ _ _ => (pe_fn O_is_sort (hr.mono (by omega)) (pa_cons (pv 5) pa_nil)))) pa_nil))))
        (pss_one (ps_ret pe_bl))
        pss_nil)
      (pss_cons (ps_set (i := 4) sc_is_fleet.nd rfl (.inl rfl) (pe_callB (cr_sum rfl) (by rfl) T.sum_ (by decide +kernel) (pa_cons (pe_lc (own := [("draught", 6), ("ours", 7), ("theirs", 8)]) (g := (gSeq K 3 (gCons (gName 6) (gCons (gName 7) (gCons (gName 8) gNil))))) (tt := tYes) (by rfl) sc_is_fleet.nd (pi_seq (pv 3)) (blkOk_by (own := [("draught", 6), ("ours", 7), ("theirs", 8)]) (N := (["thing", "here", "there", "sorts", "many", "part", "draught", "ours", "theirs"] : List Str)) (sc := defScope s_is_fleet) (by decide +kernel)) (fun _ _ _ _ _ => (pg_seq rfl (pgs_cons (pg_name (i := 6) sc_is_fleet.nd rfl (.inl rfl)) (pgs_cons (pg_name (i := 7) sc_is_fleet.nd rfl (.inl rfl)) (pgs_cons (pg_name (i := 8) sc_is_fleet.nd rfl (.inl rfl)) pgs_nil))))) (fun _ _ _ _ _ => pts_nil) (fun _ _ _ _ _ => (pe_op op_add (pv 7) (pv 8)))) pa_nil)))
      (pss_one (ps_ret (pe_and (pe_cmpR op_gt (pv 4) pe_int (nomark _)) (pe_one (pe_fn O_are_rising (hr.mono (by omega)) (pa_cons (pe_lc (own := [("draught", 6), ("ours", 7), ("theirs", 8)]) (g := (gSeq K 3 (gCons (gName 6) (gCons (gName 7) (gCons (gName 8) gNil))))) (tt := tYes) (by rfl) sc_is_fleet.nd (pi_seq (pv 3)) (blkOk_by (own := [("draught", 6), ("ours", 7), ("theirs", 8)]) (N := (["thing", "here", "there", "sorts", "many", "part", "draught", "ours", "theirs"] : List Str)) (sc := defScope s_is_fleet) (by decide +kernel)) (fun _ _ _ _ _ => (pg_seq rfl (pgs_cons (pg_name (i := 6) sc_is_fleet.nd rfl (.inl rfl)) (pgs_cons (pg_name (i := 7) sc_is_fleet.nd rfl (.inl rfl)) (pgs_cons (pg_name (i := 8) sc_is_fleet.nd rfl (.inl rfl)) pgs_nil))))) (fun _ _ _ _ _ => pts_nil) (fun _ _ _ _ _ => (pv 6))) pa_nil))))))))))), ?_⟩
    refine ⟨_, rfl, v, d, 3, rfl, hv, _, rfl, ?_⟩
    cases e : isTupD 3 d with
    | false =>
      rw [flt_tup e] at q
      exact iteT (q _ (Same.refl _))
    | true =>
      obtain ⟨p, x, y, z, a, b, c, rfl, rfl, hp, hx, hy, hz⟩ := dp_three hv e
      refine iteF ?_
      rw [flt_three] at q
      refine ⟨_, rfl, p, _, rfl, .inr hp, rfl, _, _, rfl, _, _, rfl, _, _, rfl, rfl, ?_⟩
      refine ⟨_, rfl, x, a, rfl, hx, _, rfl, ?_⟩
      cases ea : isNumD a with
      | false =>
        rw [ea] at q
        exact iteF (iteT (q _ (Same.refl _)))
      | true =>
        rw [ea, Bool.true_and] at q
        refine ⟨_, rfl, y, b, rfl, hy, _, rfl, ?_⟩
        cases eb : isNumD b with
        | false =>
          rw [eb] at q
          exact iteF (iteT (q _ (Same.refl _)))
        | true =>
          rw [eb, Bool.true_and] at q
          refine ⟨_, rfl, z, .ty "tuple", _, .type "tuple", isTuD c, rfl, .ty _, ty_of hz, kit_ty kit_tup, _, rfl, ?_⟩
          cases ec : isTuD c with
          | false =>
            rw [ec] at q
            exact iteT (q _ (Same.refl _))
          | true =>
            rw [ec, Bool.true_and] at q
            obtain ⟨pc, xs, cs, rfl, rfl, hc, al⟩ := dp_tup hz ec
            have lx := DpAll.len al
            have lc : cs.length ≤ 100000 := by
              cases n with
              | zero => exact lv.elim
              | succ n =>
                have := lv.2 _ (show PyData.tuple cs ∈ [a, b, PyData.tuple cs] by simp)
                cases n with
                | zero => exact this.elim
                | succ n => exact this.1
            refine iteF ?_
            have eq : frD (.tuple cs) = (cs.all isSrtD && (decide (0 < sumD cs) && risingB (cs.map fun c => (srtI c).1))) := rfl
            rw [eq] at q
            -- all sorts
            refine ⟨_, rfl, pc, _, H, rfl, .inr hc, Kp.refl _ _, fun J hJ C nC => ?_⟩
            obtain ⟨G, g, W⟩ := hJ.walk
            refine lc_it W (fun i H' => Same H H' ∧ H' C = some (.lst (((cs.take i).map isSrtD).map V.bl))) ⟨same_new nC, upd_same⟩ (fun i H' _ z => g H' (.ofS z.1)) ?_ ?_
            · rintro i x' Ha Hb hi ⟨sm, hC⟩ ⟨rfl, gx⟩
              rw [lx] at hi
              obtain ⟨d, gd, hd⟩ := DpAll.get al gx
              obtain rfl : cs[i] = d := by
                rw [List.getElem?_eq_getElem hi] at gd
                exact Option.some.inj gd
              refine ⟨rfl, tyes (iteT ?_)⟩
              refine ⟨_, rfl, x', cs[i], rfl, Dp.same sm hd, fun Hd sd => ?_⟩
              refine ⟨_, sd _ _ hC, ?_, same_over (sm.trans sd) nC, ?_⟩
              · rw [List.length_map, List.length_map, List.length_take]
                exact Nat.lt_of_lt_of_le (show min i cs.length < 100000 by omega) (by decide)
              · rw [upd_same, take_succ_get hi, List.map_append, List.map_append]
                rfl
            rintro H1 ⟨s1, hC⟩
            rw [lx, List.take_length] at hC
            refine ⟨C, _, rfl, SqL.of hC, _, rfl, ?_⟩
            have eall : (cs.map isSrtD).all id = cs.all isSrtD := by rw [List.all_map]; rfl
            rw [eall]
            cases es : cs.all isSrtD with
            | false =>
              rw [es] at q
              exact iteT (q _ s1)
            | true =>
              rw [es, Bool.true_and] at q
              refine iteF ?_
              have srt : ∀ {i : Nat} (hi : i < cs.length) {v : V}, xs[i]? = some v → ∃ (p : Addr) (i' j k : Int), v = .ref p ∧ srtI cs[i] = (i', j, k) ∧ 0 ≤ j ∧ 0 ≤ k ∧ SqT K H p [.int i', .int j, .int k] := fun {i} hi {v} gx => by
                obtain ⟨d, gd, hd⟩ := DpAll.get al gx
                obtain rfl : cs[i] = d := by
                  rw [List.getElem?_eq_getElem hi] at gd
                  exact Option.some.inj gd
                obtain ⟨p, i', j, k, rfl, ed, i0, j0, k0, hp⟩ := dp_srt hd (List.all_eq_true.mp es _ (List.getElem_mem hi))
                exact ⟨p, i', j, k, rfl, by rw [ed]; rfl, j0, k0, hp⟩
              clear hJ W g J G hC nC eall
              -- how many
              refine ⟨_, rfl, pc, _, H1, rfl, .inr (Same.tup s1 hc), Kp.refl _ _, fun J hJ C nC => ?_⟩
              obtain ⟨G, g, W⟩ := hJ.walk
              refine lc_it W (fun i H' => Same H1 H' ∧ H' C = some (.lst (((cs.take i).map fun c => (srtI c).2.1 + (srtI c).2.2).map V.int))) ⟨same_new nC, upd_same⟩ (fun i H' _ z => g H' (.ofS z.1)) ?_ ?_
              · rintro i x' Ha Hb hi ⟨sm, hC⟩ ⟨rfl, gx⟩
                rw [lx] at hi
                obtain ⟨p, i', j, k, rfl, ed, j0, k0, hp⟩ := srt hi gx
                refine ⟨p, _, rfl, .inr (Same.tup (s1.trans sm) hp), rfl, _, _, rfl, _, _, rfl, _, _, rfl, rfl, rfl, tyes (iteT ?_)⟩
                refine ⟨_, rfl, _, rfl, j, k, rfl, rfl, _, hC, ?_, same_over sm nC, ?_⟩
                · rw [List.length_map, List.length_map, List.length_take]
                  exact Nat.lt_of_lt_of_le (show min i cs.length < 100000 by omega) (by decide)
                · rw [upd_same, take_succ_get hi, List.map_append, List.map_append]
                  show _ = some (HO.lst (_ ++ [V.int ((srtI cs[i]).2.1 + (srtI cs[i]).2.2)]))
                  rw [ed]
              rintro H2 ⟨s2, hC⟩
              rw [lx, List.take_length] at hC
              refine ⟨C, _, rfl, SqL.of hC, ?_⟩
              have s02 := s1.trans s2
              clear hJ W g J G hC nC
              refine ⟨_, rfl, _, 0, rfl, rfl, _, rfl, ?_⟩
              by_cases m0 : 0 < sumD cs
              · rw [decide_eq_true m0, Bool.true_and] at q
                have m1 : decide ((cs.map fun c => (srtI c).2.1 + (srtI c).2.2).sum > 0) = true := decide_eq_true m0
                rw [m1]
                refine iteT ?_
                refine ⟨_, rfl, pc, _, H2, rfl, .inr (Same.tup s02 hc), Kp.refl _ _, fun J hJ C nC => ?_⟩
                obtain ⟨G, g, W⟩ := hJ.walk
                refine lc_it W (fun i H' => Same H2 H' ∧ H' C = some (.lst (((cs.take i).map fun c => (srtI c).1).map V.int))) ⟨same_new nC, upd_same⟩ (fun i H' _ z => g H' (.ofS z.1)) ?_ ?_
                · rintro i x' Ha Hb hi ⟨sm, hC⟩ ⟨rfl, gx⟩
                  rw [lx] at hi
                  obtain ⟨p, i', j, k, rfl, ed, j0, k0, hp⟩ := srt hi gx
                  refine ⟨p, _, rfl, .inr (Same.tup (s02.trans sm) hp), rfl, _, _, rfl, _, _, rfl, _, _, rfl, rfl, rfl, tyes (iteT ?_)⟩
                  refine ⟨_, rfl, _, hC, ?_, same_over sm nC, ?_⟩
                  · rw [List.length_map, List.length_map, List.length_take]
                    exact Nat.lt_of_lt_of_le (show min i cs.length < 100000 by omega) (by decide)
                  · rw [upd_same, take_succ_get hi, List.map_append, List.map_append]
                    show _ = some (HO.lst (_ ++ [V.int (srtI cs[i]).1]))
                    rw [ed]
                rintro H3 ⟨s3, hC⟩
                rw [lx, List.take_length] at hC
                exact ⟨C, _, rfl, SqA.l hC, by rw [List.length_map]; exact lc, fun H4 s4 => q _ (s02.trans (s3.trans s4))⟩
              · rw [decide_eq_false m0, Bool.false_and] at q
                have m1 : decide ((cs.map fun c => (srtI c).2.1 + (srtI c).2.2).sum > 0) = false := decide_eq_false m0
                rw [m1]
                exact iteF (q _ s02)
end
end Sh

namespace Sh
open PySem PySem.Spec PyProof.Rows L2
def isIntD : PyData → Bool
  | .int _ => true
  | _ => false
def spLNum (K : PySem.W.Frag) : Sp := fun vs H Q _ => ∃ (v : V) (d : PyData), vs = [v] ∧ Dp K H v d ∧ Q (.bl (isIntD d)) H
abbrev s__law_is_number : Stmt := topS 20
theorem sc__law_is_number : FnScope (["_law_what"] : List Str) (["_law_what"] : List Str) (defScope s__law_is_number) := ⟨rfl, rfl, rfl, by decide +kernel, rfl, by decide +kernel, by decide +kernel⟩
theorem b__law_is_number (kV doc pm : Value) (an : Option Addr) (cdv ct : Value) (us : List Value) (hl : us.length = (["_law_what"] : List Str).length) : bindArgs (PySem.W.fnOf "_law_is_number" "_law_is_number" (defArgs s__law_is_number) (defBody s__law_is_number) (defScope s__law_is_number) .none kV doc pm an cdv ct) ⟨us, []⟩ = pure ((["_law_what"] : List Str).zip us) :=
  match us, hl with | [_], _ => rfl
section
variable {P : Program} {w : World} {K : PySem.W.Frag} {mg : Str → Option Value} {base : Heap}
theorem ok_lnum {k : Nat} (D : Df K mg "_law_is_number" s__law_is_number) (T : Bt mg) : Ok P w K mg base (k + 1) "_law_is_number" s__law_is_number ["_law_what"] (spLNum K) := by
  refine D.ok sc__law_is_number b__law_is_number (fun vs H Q E h => ?_) (fun f cdv A outer s H vs Q E hr h => ?_)
  · obtain ⟨v, d, rfl, _⟩ := h
    rfl
  · obtain ⟨v, d, rfl, hv, q⟩ := h
    refine ⟨_, (pss_one (ps_ret (pe_and (pe_callB call_isi (by rfl) T.isinstance_ (by decide +kernel) (pa_cons (pv 0) (pa_cons (pe_bltn (v := .ty "int") (by rfl) T.int_ (by decide +kernel) rfl) pa_nil))) (pe_one (pe_not (pe_callB call_isi (by rfl) T.isinstance_ (by decide +kernel) (pa_cons (pv 0) (pa_cons (pe_bltn (v := .ty "bool") (by rfl) T.bool_ (by decide +kernel) rfl) pa_nil)))))))), ?_⟩
    have ht := ty_of hv
    cases hv with
    | non => exact ⟨_, rfl, _, .ty "int", .type "NoneType", .type "int", false, rfl, .ty _, ht, kit_ty (by decide +kernel), _, rfl, q⟩
    | bl b =>
      refine ⟨_, rfl, _, .ty "int", .type "bool", .type "int", true, rfl, .ty _, ht, kit_ty (by decide +kernel), _, rfl, ?_⟩
      exact ⟨_, rfl, _, .ty "bool", .type "bool", .type "bool", true, rfl, .ty _, ht, kit_ty (by decide +kernel), _, rfl, q⟩
    | int i =>
      refine ⟨_, rfl, _, .ty "int", .type "int", .type "int", true, rfl, .ty _, ht, kit_ty (by decide +kernel), _, rfl, ?_⟩
      exact ⟨_, rfl, _, .ty "bool", .type "int", .type "bool", false, rfl, .ty _, ht, kit_ty (by decide +kernel), _, rfl, q⟩
    | str x => exact ⟨_, rfl, _, .ty "int", .type "str", .type "int", false, rfl, .ty _, ht, kit_ty (by decide +kernel), _, rfl, q⟩
    | lst h a => exact ⟨_, rfl, _, .ty "int", .type "list", .type "int", false, rfl, .ty _, ht, kit_ty (by decide +kernel), _, rfl, q⟩
    | tup h a => exact ⟨_, rfl, _, .ty "int", .type "tuple", .type "int", false, rfl, .ty _, ht, kit_ty (by decide +kernel), _, rfl, q⟩
end
theorem dp_int {K : PySem.W.Frag} {H : Hp} {v : V} {d : PyData} (h : Dp K H v d) (n : isIntD d = true) : ∃ i : Int, v = .int i ∧ d = .int i := by
  cases h with
  | int i => exact ⟨i, rfl, rfl⟩
  | _ => cases n
theorem num_int {d : PyData} (n : isIntD d = false) : isNumD d = false := by
  cases d with
  | int i => cases n
  | _ => rfl
theorem eqv_empty (cs : List PyData) : PyData.eqv (.tuple cs) (.tuple []) = cs.isEmpty := by
  cases cs with
  | nil => simp [PyData.eqv, PyData.eqvAll]
  | cons c cs => simp [PyData.eqv, PyData.eqvAll]
theorem sumD_app (a b : List PyData) : sumD (a ++ b) = sumD a + sumD b := by
  unfold sumD
  rw [List.map_append, List.sum_append]
/-- one sort more that breaks it -/
theorem fr_bad {cs : List PyData} {i : Nat} (hi : i < cs.length) (h : isSrtD cs[i] = false) : frD (.tuple cs) = false := by
  show (cs.all isSrtD && _) = false
  have : cs.all isSrtD = false := by
    cases e : cs.all isSrtD with
    | false => rfl
    | true => rw [List.all_eq_true.mp e _ (List.getElem_mem hi)] at h; cases h
  rw [this, Bool.false_and]
theorem fr_fall {cs : List PyData} {i j : Nat} (hj : j < cs.length) (hij : i < j) (h : (srtI cs[j]).1 ≤ (srtI (cs[i]'(Nat.lt_trans hij hj))).1) : frD (.tuple cs) = false := by
  show (cs.all isSrtD && (decide (0 < sumD cs) && risingB (cs.map fun c => (srtI c).1))) = false
  have : risingB (cs.map fun c => (srtI c).1) = false := by
    unfold risingB
    refine decide_eq_false fun p => ?_
    have := List.pairwise_iff_getElem.mp p i j (by rw [List.length_map]; omega) (by rw [List.length_map]; exact hj) hij
    rw [List.getElem_map, List.getElem_map] at this
    omega
  rw [this, Bool.and_false, Bool.and_false]
def spLFleet (K : PySem.W.Frag) : Sp := fun vs H Q _ => ∃ (n m : Nat) (B : Int) (v : V) (d : PyData), vs = [v] ∧ Dp K H v d ∧ SeqAt.shaped d = true ∧ Bd n B m d ∧ n ≤ 60 ∧ m ≤ 60 ∧ (∀ {m' : Nat} {e : PyData}, Bd n B m' e → m' ≤ 60 → SeqAt.shaped e = true) ∧ ∀ H', Same H H' → Q (.bl (isFltD d)) H'
abbrev s__law_is_fleet : Stmt := topS 21
theorem sc__law_is_fleet : FnScope (["_law_what", "_law_deeps", "_law_total", "_law_sort", "_law_depth", "_law_part"] : List Str) (["_law_what"] : List Str) (defScope s__law_is_fleet) := ⟨rfl, rfl, rfl, by decide +kernel, rfl, by decide +kernel, by decide +kernel⟩
theorem b__law_is_fleet (kV doc pm : Value) (an : Option Addr) (cdv ct : Value) (us : List Value) (hl : us.length = (["_law_what"] : List Str).length) : bindArgs (PySem.W.fnOf "_law_is_fleet" "_law_is_fleet" (defArgs s__law_is_fleet) (defBody s__law_is_fleet) (defScope s__law_is_fleet) .none kV doc pm an cdv ct) ⟨us, []⟩ = pure ((["_law_what"] : List Str).zip us) :=
  match us, hl with | [_], _ => rfl
section
variable {P : Program} {w : World} {K : PySem.W.Frag} {mg : Str → Option Value} {base : Heap}
set_option maxHeartbeats 8000000 in
theorem ok_lfleet {k : Nat} (D : Df K mg "_law_is_fleet" s__law_is_fleet) (T : Bt mg) (O__law_is_number : Ok P w K mg base k "_law_is_number" s__law_is_number ["_law_what"] (spLNum K)) : Ok P w K mg base (k + 1) "_law_is_fleet" s__law_is_fleet ["_law_what"] (spLFleet K) := by
  refine D.ok sc__law_is_fleet b__law_is_fleet (fun vs H Q E h => ?_) (fun f cdv A outer s H vs Q E hr h => ?_)
  · obtain ⟨n, m, B, v, d, rfl, _⟩ := h
    rfl
  · obtain ⟨n, m, B, v, d, rfl, hv, _, bd, n1, m1, shp, q⟩ := h
    refine ⟨_, (pss_cons (ps_if (PW.pt (pw_or (pt_not (pt_val (pe_callB call_isi (by rfl) T.isinstance_ (by decide +kernel) (pa_cons (pv 0) (pa_cons (pe_bltn (v := .ty "tuple") (by rfl) T.tuple_ (by decide +kernel) rfl) pa_nil))))) (pw_or (pt_cmpR op_ne (pe_callB call_len_seq (by rfl) T.len_ PySem.boot_len (pa_cons (pv 0) pa_nil)) pe_int (nomark _)) (pw_or (pt_not (pt_val (pe_callB call_isi (by rfl) T.isinstance_ (by decide +kernel) (pa_cons (pe_ix ix_lt (pv 0) pe_int (fun _ _ => rfl)) (pa_cons (pe_bltn (v := .ty "tuple") (by rfl) T.tuple_ (by decide +kernel) rfl) pa_nil))))) (pw_or1 (pt_cmpR (op_eqD hr.units) (pe_ix ix_lt (pv 0) pe_int (fun _ _ => rfl)) (pe_tup pa_nil) (nomark _)))))))
        (pss_one (ps_ret pe_bl))
        pss_nil)
      (pss_cons (ps_if (pt_not (pt_val (pe_callB (cr_all rfl) (by rfl) T.all_ (by decide +kernel) (pa_cons (pe_lc (own := [("_law_depth", 4)]) (g := (gName 4)) (tt := tYes) (by rfl) sc__law_is_fleet.nd (pi_seq (pe_slice sl_tupS (pv 0) po_none (po_some pe_int))) (blkOk_by (own := [("_law_depth", 4)]) (N := (["_law_what", "_law_deeps", "_law_total", "_law_sort", "_law_depth", "_law_part"] : List Str)) (sc := defScope s__law_is_fleet) (by decide +kernel)) (fun _ _ _ _ _ => (pg_name (i := 4) sc__law_is_fleet.nd rfl (.inl rfl))) (fun _ _ _ _ _ => pts_nil) (fun _ _ _ _ _ => (pe_and (pe_fn O__law_is_number (hr.mono (by omega)) (pa_cons (pv 4) pa_nil)) (pe_one (pe_cmpR op_ge (pv 4) pe_int (nomark _)))))) pa_nil))))
        (pss_one (ps_ret pe_bl))
        pss_nil)
      (pss_cons (ps_par (i := 1) (j := 2) (by rfl) sc__law_is_fleet.nd rfl rfl (by decide) rfl rfl (pa_cons (pe_lst pa_nil) (pa_cons pe_int pa_nil)) (by rfl))
      (pss_cons (ps_for PassesOwn.never rfl (pi_seq (pe_ix ix_lt (pv 0) pe_int (fun _ _ => rfl))) (pg_name (i := 3) sc__law_is_fleet.nd rfl (.inl rfl))
        (pss_cons (ps_if (PW.pt (pw_or (pt_not (pt_val (pe_callB call_isi (by rfl) T.isinstance_ (by decide +kernel) (pa_cons (pv 3) (pa_cons (pe_bltn (v := .ty "tuple") (by rfl) T.tuple_ (by decide +kernel) rfl) pa_nil))))) (pw_or1 (pt_cmpR op_ne (pe_callB call_len_seq (by rfl) T.len_ PySem.boot_len (pa_cons (pv 3) pa_nil)) pe_int (nomark _)))))
            (pss_one (ps_ret pe_bl))
            pss_nil)
          (pss_cons (ps_if (pt_not (pt_val (pe_callB (cr_all rfl) (by rfl) T.all_ (by decide +kernel) (pa_cons (pe_lc (own := [("_law_part", 5)]) (g := (gName 5)) (tt := tYes) (by rfl) sc__law_is_fleet.nd (pi_seq (pv 3)) (blkOk_by (own := [("_law_part", 5)]) (N := (["_law_what", "_law_deeps", "_law_total", "_law_sort", "_law_depth", "_law_part"] : List Str)) (sc := defScope s__law_is_fleet) (by decide +kernel)) (fun _ _ _ _ _ => (pg_name (i := 5) sc__law_is_fleet.nd rfl (.inl rfl))) (fun _ _ _ _ _ => pts_nil) (fun _ _ _ _ _ => (pe_and (pe_fn O__law_is_number (hr.mono (by omega)) (pa_cons (pv 5) pa_nil)) (pe_one (pe_cmpR op_ge (pv 5) pe_int (nomark _)))))) pa_nil))))
            (pss_one (ps_ret pe_bl))
            pss_nil)
          (pss_cons (ps_if (PW.pt (pw_and (pt_cmpR (op_neD hr.units) (pv 1) (pe_lst pa_nil) (nomark _)) (pw_and1 (pt_cmpR op_ge (pe_ix ix_lt (pv 1) (pe_un un_neg pe_int) (fun _ _ => rfl)) (pe_ix ix_lt (pv 3) pe_int (fun _ _ => rfl)) (nomark _)))))
            (pss_one (ps_ret pe_bl))
            pss_nil)
          (pss_cons (ps_expr (pe_bm PySem.F.plainAttrs_list PySem.F.slot_list_append PySem.F.type_list_append mt_append (pv 1) (pa_cons (pe_ix ix_lt (pv 3) pe_int (fun _ _ => rfl)) pa_nil)))
          (pss_one (ps_set (i := 2) sc__law_is_fleet.nd rfl (.inl rfl) (pe_op op_add (pe_op op_add (pv 2) (pe_ix ix_lt (pv 3) pe_int (fun _ _ => rfl))) (pe_ix ix_lt (pv 3) pe_int (fun _ _ => rfl))))))))))
      (pss_one (ps_ret (pe_cmpR op_gt (pv 2) pe_int (nomark _)))))))), ?_⟩
    refine ⟨_, rfl, v, .ty "tuple", _, .type "tuple", isTuD d, rfl, .ty _, ty_of hv, kit_ty kit_tup, _, rfl, ?_⟩
    cases e1 : isTuD d with
    | false =>
      have : isFltD d = false := by cases d <;> first | rfl | cases e1
      rw [this] at q
      exact iteT (q _ (Same.refl _))
    | true =>
      obtain ⟨p, xs, cs, rfl, rfl, hp, al⟩ := dp_tup hv e1
      have lx := DpAll.len al
      refine iteF ?_
      refine ⟨_, rfl, p, _, rfl, .inr hp, rfl, _, rfl, ?_⟩
      by_cases l3 : cs.length = 3
      · obtain ⟨a, b, c, rfl⟩ := three_of l3
        cases al with
        | cons hx al =>
        cases al with
        | cons hy al =>
        cases al with
        | cons hz al =>
        cases al
        rename_i x y z
        refine iteNS rfl ?_
        rw [flt_three] at q
        refine ⟨_, rfl, p, _, 2, z, rfl, rfl, .inr hp, rfl, z, .ty "tuple", _, .type "tuple", isTuD c, rfl, .ty _, ty_of hz, kit_ty kit_tup, _, rfl, ?_⟩
        cases e2 : isTuD c with
        | false =>
          rw [e2, Bool.false_and, Bool.and_false, Bool.and_false] at q
          exact iteT (q _ (Same.refl _))
        | true =>
          rw [e2, Bool.true_and] at q
          obtain ⟨pc, zs, ds, rfl, rfl, hc, al⟩ := dp_tup hz e2
          have lz := DpAll.len al
          refine iteF ?_
          obtain ⟨m', bc⟩ : ∃ m', Bd n B m' (.tuple ds) ∧ m' ≤ 60 := by
            cases m with
            | zero => exact bd.elim
            | succ m => exact ⟨m, bd.2 _ (by simp), by omega⟩
          have sc : SeqAt.shaped (.tuple ds) = true := shp bc.1 bc.2
          have ld : ds.length ≤ 60 := by
            cases m' with
            | zero => exact bc.1.elim
            | succ m' => exact Nat.le_trans bc.1.1 n1
          refine ⟨_, rfl, p, _, 2, .ref pc, rfl, rfl, .inr hp, rfl, Nat.zero_le _, fun em nem => ?_⟩
          have s1 : Same H (upd H em (.tup [])) := same_new nem
          have e3 : upd H em (.tup []) em = some (.tup []) := upd_same
          generalize upd H em (.tup []) = H1 at s1 e3
          refine ⟨.tuple ds, .tuple [], .tup (Same.tup s1 hc) (DpAll.same s1 al), .tup (SqT.of e3) .nil, sc, rfl, _, rfl, ?_⟩
          rw [eqv_empty]
          by_cases d0 : ds = []
          · rw [d0]
            rw [d0] at q
            have : frD (.tuple []) = false := by decide +kernel
            rw [this, Bool.and_false, Bool.and_false] at q
            exact iteT (q _ s1)
          have ie : ds.isEmpty = false := by cases ds with | nil => exact absurd rfl d0 | cons => rfl
          rw [ie]
          refine iteF ?_
          -- the depths
          refine ⟨_, rfl, 2, rfl, p, _, rfl, Same.tup s1 hp, fun sl H2 s2 hsl => ?_⟩
          rw [show cutV [x, y, V.ref pc] none (some 2) = [x, y] from rfl] at hsl
          have s02 := s1.trans s2
          have al2 : DpAll K H2 [x, y] [a, b] := DpAll.same s02 (.cons hx (.cons hy .nil))
          refine ⟨sl, _, H2, rfl, .inr hsl, Kp.refl _ _, fun J hJ C nC => ?_⟩
          obtain ⟨G, g, W⟩ := hJ.walk
          refine lc_it W (fun i H' => Same H2 H' ∧ H' C = some (.lst ((([a, b].take i).map isNumD).map V.bl))) ⟨same_new nC, upd_same⟩ (fun i H' _ z => g H' (.ofS z.1)) ?_ ?_
          · rintro i x' Ha Hb hi ⟨sm, hC⟩ ⟨rfl, gx⟩
            have hi2 : i < [a, b].length := hi
            obtain ⟨d, gd, hd⟩ := DpAll.get al2 gx
            obtain rfl : [a, b][i] = d := by
              rw [List.getElem?_eq_getElem hi2] at gd
              exact Option.some.inj gd
            have fin : ∀ b' : Bool, b' = isNumD [a, b][i] → ∃ acc, Hb C = some (.lst acc) ∧ acc.length < sizeLine ∧ Same H2 (upd Hb C (.lst (acc ++ [.bl b']))) ∧ upd Hb C (.lst (acc ++ [.bl b'])) C = some (.lst ((([a, b].take (i + 1)).map isNumD).map V.bl)) := fun b' eb => by
              refine ⟨_, hC, ?_, same_over sm nC, ?_⟩
              · rw [List.length_map, List.length_map, List.length_take]
                exact small1000 (show min i 2 ≤ 1000 by omega)
              · rw [upd_same, take_succ_get hi2, List.map_append, List.map_append, eb]
                rfl
            refine ⟨rfl, tyes (iteT ?_)⟩
            refine ⟨_, rfl, x', _, rfl, Dp.same sm hd, _, rfl, ?_⟩
            cases e : isIntD [a, b][i] with
            | false => exact fin false (num_int e).symm
            | true =>
              obtain ⟨j, rfl, ej⟩ := dp_int hd e
              refine ⟨_, rfl, _, 0, rfl, rfl, ?_⟩
              refine fin _ ?_
              rw [ej]
              rfl
          rintro H3 ⟨s3, hC⟩
          refine ⟨C, _, rfl, SqL.of hC, _, rfl, ?_⟩
          have eab : (([a, b].take [x, y].length).map isNumD).all id = (isNumD a && isNumD b) := by
            show (isNumD a && (isNumD b && true)) = _
            rw [Bool.and_true]
          rw [eab]
          rw [← Bool.and_assoc] at q
          have s03 := s02.trans s3
          cases e4 : (isNumD a && isNumD b) with
          | false =>
            rw [e4, Bool.false_and] at q
            exact iteT (q _ s03)
          | true =>
            rw [e4, Bool.true_and] at q
            refine iteF ?_
            clear hJ W g J G hC nC eab e4 al2 hsl s02 s2
            refine ⟨Nat.zero_le _, fun dl ndl => ?_⟩
            have s4 : Same H3 (upd H3 dl (.lst [])) := same_new ndl
            have e4 : upd H3 dl (.lst []) dl = some (.lst []) := upd_same
            have ndl0 : H dl = none := s03.free ndl
            generalize upd H3 dl (.lst []) = H4 at s4 e4
            have s04 := s03.trans s4
            refine ⟨_, _, rfl, ?_⟩
            refine ⟨_, rfl, p, _, 2, .ref pc, rfl, rfl, .inr (Same.tup s04 hp), rfl, pc, _, H, rfl, .inr hc, .ofS s04, fun J hJ => ?_⟩
            obtain ⟨G, g, W⟩ := hJ.walk
            have pcd : ∀ {H' : Hp}, Same H H' → SqT K H' pc zs := fun s => Same.tup s hc
            refine for_it W (fun i σ H' => ∃ y3 : Option V, σ = [some (.ref p), some (.ref dl), some (.int (sumD (ds.take i))), y3, none, none] ∧ Same H H' ∧ H' dl = some (.lst (((ds.take i).map fun c => (srtI c).1).map V.int)) ∧ (ds.take i).all isSrtD = true ∧ ((ds.take i).map fun c => (srtI c).1).Pairwise (· < ·)) ⟨none, rfl, s04, e4, rfl, List.Pairwise.nil⟩ (fun i σ H' _ ⟨_, _, z, _⟩ => g H' (.ofS z)) ?_ ?_
            · rintro i v σ Ha Hb hi ⟨y3, rfl, sm, hD, aD, uD⟩ ⟨rfl, gx⟩
              rw [lz] at hi
              obtain ⟨d, gd, hd⟩ := DpAll.get al gx
              obtain rfl : ds[i] = d := by
                rw [List.getElem?_eq_getElem hi] at gd
                exact Option.some.inj gd
              have hdA := Dp.same sm hd
              have bad : isSrtD ds[i] = false → ∀ H', Same H H' → Q (.bl false) H' := fun z H' s => by
                have := q H' s
                rw [fr_bad hi z] at this
                exact this
              refine ⟨_, rfl, v, .ty "tuple", _, .type "tuple", isTuD ds[i], rfl, .ty _, ty_of hdA, kit_ty kit_tup, _, rfl, ?_⟩
              cases t1 : isTuD ds[i] with
              | false =>
                refine iteT (bad ?_ _ sm)
                cases e : ds[i] with
                | tuple q => rw [e] at t1; cases t1
                | _ => rfl
              | true =>
                refine iteF ?_
                obtain ⟨ps, us, qs, rfl, ed, hs, als⟩ := dp_tup hdA t1
                have lu := DpAll.len als
                refine ⟨_, rfl, ps, _, rfl, .inr hs, rfl, _, rfl, ?_⟩
                by_cases q3 : qs.length = 3
                · obtain ⟨a1, a2, a3, rfl⟩ := three_of q3
                  rw [decide_eq_true (by rw [lu]; rfl)]
                  refine iteF ?_
                  refine ⟨_, rfl, ps, _, Hb, rfl, .inr hs, Kp.refl _ _, fun J2 hJ2 C nC => ?_⟩
                  obtain ⟨G2, g2, W2⟩ := hJ2.walk
                  refine lc_it W2 (fun j H' => Same Hb H' ∧ H' C = some (.lst ((([a1, a2, a3].take j).map isNumD).map V.bl))) ⟨same_new nC, upd_same⟩ (fun j H' _ z => g2 H' (.ofS z.1)) ?_ ?_
                  · rintro j x' Hc Hd hj ⟨sm2, hC⟩ ⟨rfl, gx2⟩
                    have hj3 : j < [a1, a2, a3].length := by rw [lu] at hj; exact hj
                    obtain ⟨d, gd, hd2⟩ := DpAll.get als gx2
                    obtain rfl : [a1, a2, a3][j] = d := by
                      rw [List.getElem?_eq_getElem hj3] at gd
                      exact Option.some.inj gd
                    have fin : ∀ b' : Bool, b' = isNumD [a1, a2, a3][j] → ∃ acc, Hd C = some (.lst acc) ∧ acc.length < sizeLine ∧ Same Hb (upd Hd C (.lst (acc ++ [.bl b']))) ∧ upd Hd C (.lst (acc ++ [.bl b'])) C = some (.lst ((([a1, a2, a3].take (j + 1)).map isNumD).map V.bl)) := fun b' eb => by
                      refine ⟨_, hC, ?_, same_over sm2 nC, ?_⟩
                      · rw [List.length_map, List.length_map, List.length_take]
                        exact small1000 (show min j 3 ≤ 1000 by omega)
                      · rw [upd_same, take_succ_get hj3, List.map_append, List.map_append, eb]
                        rfl
                    refine ⟨rfl, tyes (iteT ?_)⟩
                    refine ⟨_, rfl, x', _, rfl, Dp.same sm2 hd2, _, rfl, ?_⟩
                    cases e : isIntD [a1, a2, a3][j] with
                    | false => exact fin false (num_int e).symm
                    | true =>
                      obtain ⟨j', rfl, ej⟩ := dp_int hd2 e
                      refine ⟨_, rfl, _, 0, rfl, rfl, ?_⟩
                      refine fin _ ?_
                      rw [ej]
                      rfl
                  rintro Hc ⟨sc2, hC⟩
                  refine ⟨C, _, rfl, SqL.of hC, _, rfl, ?_⟩
                  have e3s : (([a1, a2, a3].take us.length).map isNumD).all id = isSrtD ds[i] := by
                    rw [lu, ed]
                    show (isNumD a1 && (isNumD a2 && (isNumD a3 && true))) = _
                    rw [Bool.and_true]
                    rfl
                  rw [e3s]
                  have s0c := sm.trans sc2
                  cases es : isSrtD ds[i] with
                  | false => exact iteT (bad es _ s0c)
                  | true =>
                    refine iteF ?_
                    clear hJ2 W2 g2 J2 G2 hC nC e3s
                    obtain ⟨ps', i1, j1, k1, ep, ed', i0, j0, k0, hs'⟩ := dp_srt hd es
                    cases ep
                    have hD3 := sc2 _ _ hD
                    have esr : srtI ds[i] = (i1, j1, k1) := by rw [ed']; rfl
                    -- higher than the one ahead
                    refine ⟨_, rfl, Nat.zero_le _, fun em nem => ?_⟩
                    have sd : Same Hc (upd Hc em (.lst [])) := same_new nem
                    have ee : upd Hc em (.lst []) em = some (.lst []) := upd_same
                    generalize upd Hc em (.lst []) = Hd at sd ee
                    have hD4 := sd _ _ hD3
                    have s0d := s0c.trans sd
                    have hsD := Same.tup s0d hs'
                    refine ⟨.list (((ds.take i).map fun c => (srtI c).1).map .int), .list [], .lst (SqL.of hD4) (DpAll.ints _), .lst (SqL.of ee) .nil, shaped_ints _, rfl, _, rfl, ?_⟩
                    rw [eqv_nil]
                    -- what is left of the turn
                    by_cases i00 : i = 0
                    · have en : (ds.take i).map (fun c => (srtI c).1) = [] := by rw [i00]; rfl
                      have hgh : ∀ a ∈ (ds.take i).map (fun c => (srtI c).1), a < i1 := fun a ha => by rw [en] at ha; cases ha
                      rw [show ((ds.take i).map fun c => (srtI c).1).isEmpty = true by rw [en]; rfl]
                      refine iteF ?_
                      refine ⟨_, rfl, .inl ⟨rfl, _, SqL.of hD4⟩, _, rfl, ps, _, 0, .int i1, rfl, rfl, .inr hsD, rfl, dl, _, _, rfl, rfl, hD4, ?_, ?_⟩
                      · rw [List.length_map, List.length_map, List.length_take]
                        exact small1000 (by omega)
                      have sx := same_over (o := .lst (((ds.take i).map fun c => (srtI c).1).map V.int ++ [.int i1])) s0d ndl0
                      have ex : upd Hd dl (.lst (((ds.take i).map fun c => (srtI c).1).map V.int ++ [.int i1])) dl = some (.lst (((ds.take i).map fun c => (srtI c).1).map V.int ++ [.int i1])) := upd_same
                      generalize upd Hd dl (.lst (((ds.take i).map fun c => (srtI c).1).map V.int ++ [.int i1])) = Hx at sx ex
                      refine ⟨_, rfl, _, rfl, ps, _, 1, .int j1, rfl, rfl, .inr (Same.tup sx hs'), rfl, _, _, rfl, rfl, _, rfl, ps, _, 2, .int k1, rfl, rfl, .inr (Same.tup sx hs'), rfl, _, _, rfl, rfl, ?_⟩
                      refine ⟨some (.ref ps), ?_, sx, ?_, ?_, ?_⟩
                      · show [_, _, some (V.int (sumD (ds.take i) + j1 + k1)), _, _, _] = _
                        rw [take_succ_get hi, sumD_app]
                        have : sumD [ds[i]] = j1 + k1 := by
                          show (srtI ds[i]).2.1 + (srtI ds[i]).2.2 + 0 = _
                          rw [esr]
                          show j1 + k1 + 0 = _
                          omega
                        rw [this, Int.add_assoc]
                      · rw [ex, take_succ_get hi, List.map_append, List.map_append]
                        show _ = some (HO.lst (_ ++ [V.int (srtI ds[i]).1]))
                        rw [esr]
                      · rw [take_succ_get hi, List.all_append, aD]
                        show (true && (isSrtD ds[i] && true)) = true
                        rw [es]
                        rfl
                      · rw [take_succ_get hi, List.map_append]
                        refine List.pairwise_append.mpr ⟨uD, List.pairwise_singleton _ _, fun a ha c hc' => ?_⟩
                        have ec : c = i1 := by
                          have : c = (srtI ds[i]).1 := by simpa using hc'
                          rw [this, esr]
                        rw [ec]
                        exact hgh a ha
                    · have hl : i - 1 < ds.length := by omega
                      have ll : ((ds.take i).map fun c => (srtI c).1).length = i := by rw [List.length_map, List.length_take]; omega
                      have ie : ((ds.take i).map fun c => (srtI c).1).isEmpty = false := by
                        cases e : (ds.take i).map fun c => (srtI c).1 with
                        | nil => rw [e] at ll; exact absurd ll.symm i00
                        | cons => rfl
                      rw [ie]
                      refine iteT ?_
                      have gl : ((ds.take i).map fun c => (srtI c).1)[i - 1]? = some (srtI ds[i - 1]).1 := by
                        rw [List.getElem?_map, List.getElem?_take_of_lt (by omega), List.getElem?_eq_getElem hl]
                        rfl
                      have at1 : atI (((ds.take i).map fun c => (srtI c).1).map V.int) (-1) = some (.int (srtI ds[i - 1]).1) := by
                        unfold atI ixN
                        rw [List.length_map, ll, if_neg (by decide), if_pos (by omega), show ((-1 : Int) + (i : Int)).toNat = i - 1 by omega]
                        show (((ds.take i).map fun c => (srtI c).1).map V.int)[i - 1]? = _
                        rw [List.getElem?_map, gl]
                        rfl
                      refine ⟨_, rfl, 1, rfl, dl, _, -1, _, rfl, rfl, SqA.l hD4, at1, _, rfl, ps, _, 0, .int i1, rfl, rfl, .inr hsD, rfl, _, _, rfl, rfl, _, rfl, ite2 (fun c => ?_) (fun c => ?_)⟩
                      · have c2 := of_decide_eq_true c
                        have ff : frD (.tuple ds) = false := fr_fall (i := i - 1) (j := i) hi (by omega) (by rw [esr]; exact c2)
                        rw [ff] at q
                        exact q _ s0d
                      · have c2 : (srtI ds[i - 1]).1 < i1 := by
                          have : ¬ (i1 ≤ (srtI ds[i - 1]).1) := fun z => c (decide_eq_true z)
                          omega
                        have hgh : ∀ a ∈ (ds.take i).map (fun c => (srtI c).1), a < i1 := fun a ha => by
                          obtain ⟨x, hx, ex⟩ := List.mem_iff_getElem.mp ha
                          by_cases xe : x = i - 1
                          · subst xe
                            rw [List.getElem?_eq_getElem hx] at gl
                            rw [← ex, Option.some.inj gl]
                            exact c2
                          · have hx2 : x < i - 1 := by omega
                            have := List.pairwise_iff_getElem.mp uD x (i - 1) hx (by omega) hx2
                            have gl2 := gl
                            rw [List.getElem?_eq_getElem (by omega)] at gl2
                            rw [Option.some.inj gl2] at this
                            rw [← ex]
                            omega
                        refine ⟨_, rfl, .inl ⟨rfl, _, SqL.of hD4⟩, _, rfl, ps, _, 0, .int i1, rfl, rfl, .inr hsD, rfl, dl, _, _, rfl, rfl, hD4, ?_, ?_⟩
                        · rw [List.length_map, List.length_map, List.length_take]
                          exact small1000 (by omega)
                        have sx := same_over (o := .lst (((ds.take i).map fun c => (srtI c).1).map V.int ++ [.int i1])) s0d ndl0
                        have ex : upd Hd dl (.lst (((ds.take i).map fun c => (srtI c).1).map V.int ++ [.int i1])) dl = some (.lst (((ds.take i).map fun c => (srtI c).1).map V.int ++ [.int i1])) := upd_same
                        generalize upd Hd dl (.lst (((ds.take i).map fun c => (srtI c).1).map V.int ++ [.int i1])) = Hx at sx ex
                        refine ⟨_, rfl, _, rfl, ps, _, 1, .int j1, rfl, rfl, .inr (Same.tup sx hs'), rfl, _, _, rfl, rfl, _, rfl, ps, _, 2, .int k1, rfl, rfl, .inr (Same.tup sx hs'), rfl, _, _, rfl, rfl, ?_⟩
                        refine ⟨some (.ref ps), ?_, sx, ?_, ?_, ?_⟩
                        · show [_, _, some (V.int (sumD (ds.take i) + j1 + k1)), _, _, _] = _
                          rw [take_succ_get hi, sumD_app]
                          have : sumD [ds[i]] = j1 + k1 := by
                            show (srtI ds[i]).2.1 + (srtI ds[i]).2.2 + 0 = _
                            rw [esr]
                            show j1 + k1 + 0 = _
                            omega
                          rw [this, Int.add_assoc]
                        · rw [ex, take_succ_get hi, List.map_append, List.map_append]
                          show _ = some (HO.lst (_ ++ [V.int (srtI ds[i]).1]))
                          rw [esr]
                        · rw [take_succ_get hi, List.all_append, aD]
                          show (true && (isSrtD ds[i] && true)) = true
                          rw [es]
                          rfl
                        · rw [take_succ_get hi, List.map_append]
                          refine List.pairwise_append.mpr ⟨uD, List.pairwise_singleton _ _, fun a ha c hc' => ?_⟩
                          have ec : c = i1 := by
                            have : c = (srtI ds[i]).1 := by simpa using hc'
                            rw [this, esr]
                          rw [ec]
                          exact hgh a ha
                · have ne : ¬ V.int (us.length : Int) = V.int 3 := fun z => q3 (by have := V.int.inj z; omega)
                  rw [decide_eq_false ne]
                  refine iteT (bad ?_ _ sm)
                  rw [ed]
                  exact srt_tup (decide_eq_false q3)
            · rintro σ Hz ⟨y3, rfl, sz, hD, aD, uD⟩
              rw [lz, List.take_length] at hD aD uD ⊢
              refine ⟨_, rfl, _, 0, rfl, rfl, ?_⟩
              have ef : frD (.tuple ds) = decide (sumD ds > 0) := by
                show (ds.all isSrtD && (decide (0 < sumD ds) && risingB (ds.map fun c => (srtI c).1))) = _
                rw [aD, Bool.true_and, show risingB (ds.map fun c => (srtI c).1) = true from decide_eq_true uD, Bool.and_true]
              rw [ef] at q
              exact q _ sz
      · have sf : isFltD (.tuple cs) = false := flt_tup (decide_eq_false l3)
        rw [sf] at q
        have ne : ¬ V.int (xs.length : Int) = V.int 3 := fun z => l3 (by have := V.int.inj z; omega)
        rw [decide_eq_false ne]
        exact iteT (q _ (Same.refl _))
end
end Sh

namespace Sh
open PySem PySem.Spec PyProof.Rows L2
/-! ### how long its text is, by its parts -/
def szD : Nat → PyData → Nat
  | 0, _ => 0
  | _ + 1, .none => 40
  | _ + 1, .bool _ => 40
  | _ + 1, .int _ => 40
  | _ + 1, .str _ => 300
  | m + 1, .list ds => 3 + (ds.map fun e => szD m e + 2).sum
  | m + 1, .tuple ds => 3 + (ds.map fun e => szD m e + 2).sum
  | _ + 1, .dict _ => 0
theorem szD_lv {n : Nat} {B : Int} : ∀ {m m' : Nat} {d : PyData}, Bd n B m d → m ≤ m' → szD m' d = szD m d
  | 0, _, _, h, _ => h.elim
  | m + 1, 0, _, _, l => absurd l (by omega)
  | m + 1, m' + 1, d, h, l => by
    cases d with
    | none => rfl
    | bool b => rfl
    | int i => rfl
    | str s => rfl
    | list ds => exact congrArg (fun z => 3 + List.sum z) (List.map_congr_left fun e he => congrArg (· + 2) (szD_lv (h.2 e he) (by omega)))
    | tuple ds => exact congrArg (fun z => 3 + List.sum z) (List.map_congr_left fun e he => congrArg (· + 2) (szD_lv (h.2 e he) (by omega)))
    | dict k => rfl
theorem fit_sum {m : Nat} {f : PyData → Nat} : ∀ {ds : List PyData}, (∀ e ∈ ds, Fit (f e) m e) → FitAll ((ds.map fun e => f e + 2).sum) m ds
  | [], _ => FitAll.nil m
  | d :: ds, h => by
    have g := fit_sum (ds := ds) fun e he => h e (List.mem_cons_of_mem _ he)
    rw [List.map_cons, List.sum_cons]
    exact FitAll.cons (h d List.mem_cons_self) g
theorem Bd.fitS {n : Nat} {B : Int} (hB : B ≤ 1000000000000000000000000000100) : ∀ {m : Nat} {d : PyData}, Bd n B m d → Fit (szD m d) m d
  | 0, _, h => h.elim
  | m + 1, d, h => by
    cases d with
    | none => exact ⟨show 4 ≤ 40 by decide, rfl, rfl, Nat.zero_le _⟩
    | bool b => exact ⟨(show (PyData.bool b).shown.length ≤ 40 by cases b <;> decide), rfl, rfl, Nat.zero_le _⟩
    | int i =>
      refine (fit_int31 (i := i) ?_).mono (Nat.le_refl _) (Nat.zero_le _)
      have := h.1
      have := h.2
      show i.natAbs < 10000000000000000000000000000000
      omega
    | str s =>
      refine ⟨?_, rfl, ?_, Nat.zero_le _⟩
      · have := PySem.StrLaws.reprText_len s fun c hc => by
          have z := h.2
          unfold PySem.PyData.strOk at z
          rw [← Array.all_toList, List.all_eq_true] at z
          exact Nat.lt_trans (of_decide_eq_true (z c hc)) (by decide)
        have := h.1
        show (reprText s).length ≤ 300
        omega
      · exact h.2
    | list ds =>
      refine (Fit.list (fit_sum (f := szD m) fun e he => Bd.fitS hB (h.2 e he))).mono ?_ (Nat.le_refl _)
      show _ + 3 ≤ 3 + _
      omega
    | tuple ds =>
      refine (Fit.tup (fit_sum (f := szD m) fun e he => Bd.fitS hB (h.2 e he))).mono ?_ (Nat.le_refl _)
      show _ + 3 ≤ 3 + _
      omega
    | dict k => exact h.elim
theorem sum_set {f : PyData → Nat} {x : PyData} : ∀ {cs : List PyData} {i : Nat} (h : i < cs.length), ((cs.set i x).map f).sum + f cs[i] = (cs.map f).sum + f x
  | [], _, h => absurd h (Nat.not_lt_zero _)
  | c :: cs, 0, _ => by simp; omega
  | c :: cs, i + 1, h => by
    have := sum_set (f := f) (x := x) (cs := cs) (i := i) (by simpa using h)
    simp at this ⊢
    omega
theorem sum_erase {f : PyData → Nat} : ∀ {cs : List PyData} {i : Nat}, ((cs.eraseIdx i).map f).sum ≤ (cs.map f).sum
  | [], _ => by simp
  | c :: cs, 0 => by simp
  | c :: cs, i + 1 => by
    have := sum_erase (f := f) (cs := cs) (i := i)
    simp
    omega
theorem sum_ins {f : PyData → Nat} {x : PyData} (cs : List PyData) (i : Nat) : ((cs.take i ++ [x] ++ cs.drop i).map f).sum = (cs.map f).sum + f x := by
  have : (cs.map f).sum = ((cs.take i).map f).sum + ((cs.drop i).map f).sum := by
    conv => lhs; rw [← List.take_append_drop i cs]
    rw [List.map_append, List.sum_append]
  rw [List.map_append, List.map_append, List.sum_append, List.sum_append, List.map_cons, List.map_nil, List.sum_cons, List.sum_nil]
  omega
theorem sum_mem {f : PyData → Nat} {x : PyData} {cs : List PyData} (h : x ∈ cs) : f x ≤ (cs.map f).sum := by
  induction cs with
  | nil => cases h
  | cons c cs ih =>
    rw [List.map_cons, List.sum_cons]
    rcases List.mem_cons.mp h with rfl | h
    · omega
    · have := ih h
      omega
theorem dpall_erase {K : PySem.W.Frag} {H : Hp} : ∀ {vs : List V} {ds : List PyData} (n : Nat), DpAll K H vs ds → DpAll K H (vs.eraseIdx n) (ds.eraseIdx n)
  | _, _, _, .nil => by simpa using DpAll.nil
  | _, _, 0, .cons x a => by simpa using a
  | _, _, n + 1, .cons x a => by simpa using DpAll.cons x (dpall_erase n a)
theorem sixI {i n : Nat} (h : i < n) : seqIndex? (i : Int) n = some i := by
  unfold seqIndex?
  rw [if_neg (show ¬ ((i : Int) < 0) by omega)]
  simp only [Int.toNat_natCast]
  rw [if_pos (by simp; exact h)]
theorem sixN {i n : Nat} (h : i < n) : ixN n (i : Int) = some i := by
  unfold ixN
  rw [if_pos (by omega), if_pos (by omega), Int.toNat_natCast]
def seqD (tu : Bool) (cs : List PyData) : PyData := if tu then .tuple cs else .list cs
def seqT (tu : Bool) : String := if tu then "tuple" else "list"
theorem dp_seq {K : PySem.W.Frag} {H : Hp} {v : V} {d : PyData} (h : Dp K H v d) : (∃ ty : String, (∀ H' : Hp, TyX K H' v (.type ty)) ∧ kitB ty "list" = some false ∧ kitB ty "tuple" = some false) ∨ (∃ (p : Addr) (xs : List V) (cs : List PyData) (tu : Bool), v = .ref p ∧ d = seqD tu cs ∧ (if tu then SqT K H p xs else SqL K H p xs) ∧ DpAll K H xs cs) := by
  cases h with
  | non => exact .inl ⟨"NoneType", fun _ => .base .non, by decide +kernel, by decide +kernel⟩
  | bl b => exact .inl ⟨"bool", fun _ => .base (.bl b), by decide +kernel, by decide +kernel⟩
  | int i => exact .inl ⟨"int", fun _ => .base (.int i), by decide +kernel, by decide +kernel⟩
  | str x => exact .inl ⟨"str", fun _ => .base (.str x), by decide +kernel, by decide +kernel⟩
  | lst h a => exact .inr ⟨_, _, _, false, rfl, rfl, h, a⟩
  | tup h a => exact .inr ⟨_, _, _, true, rfl, rfl, h, a⟩
theorem seq_ty {K : PySem.W.Frag} {H : Hp} {p : Addr} {xs : List V} {tu : Bool} (h : if tu then SqT K H p xs else SqL K H p xs) : SqA K H p xs ∧ TyX K H (.ref p) (.type (seqT tu)) ∧ kitB (seqT tu) "list" = some (!tu) ∧ kitB (seqT tu) "tuple" = some tu := by
  cases tu with
  | true => exact ⟨.inr h, ty_tup h, by decide +kernel, by decide +kernel⟩
  | false => exact ⟨.inl h, ty_list h, by decide +kernel, by decide +kernel⟩
theorem bd_seq {n m : Nat} {B : Int} {tu : Bool} {cs : List PyData} : Bd n B (m + 1) (seqD tu cs) ↔ cs.length ≤ n ∧ ∀ e ∈ cs, Bd n B m e := by
  cases tu <;> exact Iff.rfl
theorem sz_seq {m : Nat} {tu : Bool} {cs : List PyData} : szD (m + 1) (seqD tu cs) = 3 + (cs.map fun e => szD m e + 2).sum := by cases tu <;> rfl
theorem dp_of_seq {K : PySem.W.Frag} {H : Hp} {p : Addr} {xs : List V} {cs : List PyData} {tu : Bool} (h : if tu then SqT K H p xs else SqL K H p xs) (a : DpAll K H xs cs) : Dp K H (.ref p) (seqD tu cs) := by
  cases tu with
  | true => exact .tup h a
  | false => exact .lst h a
/-! ### one thing otherwise -/
def oddD : List PyData := [.none, .bool true, .bool false, .int 0, .int 1, .int (-1), .str "0", .tuple [], .list [], .tuple [.int 0], .tuple [.int 1, .int 1, .int 1], .tuple [.tuple [.int 0, .int 1, .int 0]], .int 1000000000000000000000000000000]
theorem odd_bd {B : Int} (hB : 1000000000000000000000000000000 ≤ B) : ∀ d ∈ oddD, Bd 3 B 3 d ∧ szD 3 d ≤ 300 := by
  have iv : ∀ {m : Nat} (i : Int), -1000000000000000000000000000000 ≤ i → i ≤ 1000000000000000000000000000000 → Bd 3 B (m + 1) (.int i) := fun i a c => ⟨by omega, by omega⟩
  have il : ∀ {m : Nat} (is : List Int), is.length ≤ 3 → (∀ i ∈ is, -1000000000000000000000000000000 ≤ i ∧ i ≤ 1000000000000000000000000000000) → Bd 3 B (m + 2) (.tuple (is.map .int)) := fun is l h => ⟨by rw [List.length_map]; exact l, fun e he => by
    obtain ⟨i, hi, rfl⟩ := List.mem_map.mp he
    exact iv i (h i hi).1 (h i hi).2⟩
  unfold oddD
  intro d hd
  rcases List.mem_cons.mp hd with rfl | hd
  · exact ⟨trivial, by decide⟩
  rcases List.mem_cons.mp hd with rfl | hd
  · exact ⟨trivial, by decide⟩
  rcases List.mem_cons.mp hd with rfl | hd
  · exact ⟨trivial, by decide⟩
  rcases List.mem_cons.mp hd with rfl | hd
  · exact ⟨iv 0 (by decide) (by decide), by decide⟩
  rcases List.mem_cons.mp hd with rfl | hd
  · exact ⟨iv 1 (by decide) (by decide), by decide⟩
  rcases List.mem_cons.mp hd with rfl | hd
  · exact ⟨iv (-1) (by decide) (by decide), by decide⟩
  rcases List.mem_cons.mp hd with rfl | hd
  · exact ⟨bd_text "0" (by decide), by decide⟩
  rcases List.mem_cons.mp hd with rfl | hd
  · exact ⟨⟨by decide, fun e he => by cases he⟩, by decide⟩
  rcases List.mem_cons.mp hd with rfl | hd
  · exact ⟨⟨by decide, fun e he => by cases he⟩, by decide⟩
  rcases List.mem_cons.mp hd with rfl | hd
  · exact ⟨il [0] (by decide) (by decide), by decide⟩
  rcases List.mem_cons.mp hd with rfl | hd
  · exact ⟨il [1, 1, 1] (by decide) (by decide), by decide⟩
  rcases List.mem_cons.mp hd with rfl | hd
  · exact ⟨⟨by decide, fun e he => by rw [List.mem_singleton.mp he]; exact il [0, 1, 0] (by decide) (by decide)⟩, by decide⟩
  rw [List.mem_singleton.mp hd]
  exact ⟨iv 1000000000000000000000000000000 (by decide) (by decide), by decide⟩
/-- one more is hidden -/
def andZ (Z : Addr → Bool) (a : Addr) : Addr → Bool := fun x => Z x || decide (x = a)
theorem andZ_self {Z : Addr → Bool} {a : Addr} : andZ Z a a = true := by unfold andZ; simp
theorem andZ_of {Z : Addr → Bool} {a x : Addr} (h : Z x = true) : andZ Z a x = true := by unfold andZ; rw [h]; rfl
theorem hide_more {Z : Addr → Bool} {H : Hp} {a : Addr} (n : H a = none) : Same (hide Z H) (hide (andZ Z a) H) := fun x o h => by
  obtain ⟨z, e⟩ := hide_some h
  refine hide_at ?_ e
  unfold andZ
  rw [z, decide_eq_false (fun q => by rw [q, n] at e; cases e)]
  rfl
theorem hide_less {Z : Addr → Bool} {H : Hp} {a : Addr} : Same (hide (andZ Z a) H) (hide Z H) := fun x o h => by
  obtain ⟨z, e⟩ := hide_some h
  refine hide_at ?_ e
  unfold andZ at z
  exact (Bool.or_eq_false_iff.mp z).1
theorem Hid.more {Z : Addr → Bool} {H : Hp} {a : Addr} {o : HO} (h : Hid Z H) (e : H a = some o) : Hid (andZ Z a) H := fun x z => by
  unfold andZ at z
  rcases Bool.or_eq_true_iff.mp z with y | y
  · exact h x y
  · rw [of_decide_eq_true y, e]
    intro q
    cases q
theorem Hid.less {Z : Addr → Bool} {H : Hp} {a : Addr} (h : Hid (andZ Z a) H) : Hid Z H := fun x z => h x (andZ_of z)
def spBent (K : PySem.W.Frag) (jj : Nat) : Sp := fun vs H Q _ => ∃ (b : Addr) (n nn m : Nat) (B : Int) (Z : Addr → Bool) (v : V) (d : PyData), vs = [.ref b, v] ∧ m ≤ jj ∧ BoxAt H b (n + 3 * (m + 1)) ∧ Z b = true ∧ Hid Z H ∧ Dp K (hide Z H) v d ∧ Bd nn B m d ∧ 3 ≤ nn ∧ nn ≤ 50 ∧ 1000000000000000000000000000000 ≤ B ∧ B ≤ 1000000000000000000000000000050 ∧
  ∀ (H' : Hp) (v' : V) (d' : PyData), But b H H' → BoxAt H' b n → Hid Z H' → Dp K (hide Z H') v' d' → Bd (nn + 1) (B + 1) (m + 2) d' → szD (m + 2) d' ≤ 2 * szD m d + 300 → Q v' H'
abbrev s__law_bent : Stmt := topS 22
theorem sc__law_bent : FnScope (["_law_box_here", "_law_what", "_law_odd", "_law_way", "_law_at", "_law_some"] : List Str) (["_law_box_here", "_law_what"] : List Str) (defScope s__law_bent) := ⟨rfl, rfl, rfl, by decide +kernel, rfl, by decide +kernel, by decide +kernel⟩
theorem b__law_bent (kV doc pm : Value) (an : Option Addr) (cdv ct : Value) (us : List Value) (hl : us.length = (["_law_box_here", "_law_what"] : List Str).length) : bindArgs (PySem.W.fnOf "_law_bent" "_law_bent" (defArgs s__law_bent) (defBody s__law_bent) (defScope s__law_bent) .none kV doc pm an cdv ct) ⟨us, []⟩ = pure ((["_law_box_here", "_law_what"] : List Str).zip us) :=
  match us, hl with | [_, _], _ => rfl
section
variable {P : Program} {w : World} {K : PySem.W.Frag} {mg : Str → Option Value} {base : Heap}
theorem bent0 {c : Nat} (D : Df K mg "_law_bent" s__law_bent) : Ok P w K mg base c "_law_bent" s__law_bent ["_law_box_here", "_law_what"] (spBent K 0) := by
  obtain ⟨f, fd, F, g⟩ := D.ex
  refine ⟨f, fd, F, g, F.binds b__law_bent, ⟨fun vs H Q E h => ?_, fun A outer s H args us vs Q E hr he hb hv h => ?_⟩⟩
  · obtain ⟨b, n, nn, m, B, Z, v, d, _, lt, _, _, _, _, bd, _⟩ := h
    obtain rfl : m = 0 := by omega
    exact bd.elim
  · obtain ⟨b, n, nn, m, B, Z, v, d, _, lt, _, _, _, _, bd, _⟩ := h
    obtain rfl : m = 0 := by omega
    exact bd.elim
set_option maxHeartbeats 16000000 in
theorem bent1 {k jj : Nat} (D : Df K mg "_law_bent" s__law_bent) (T : Bt mg) (O__law_take : Ok P w K mg base k "_law_take" s__law_take ["_law_box_here", "_law_span"] spTake) (O__law_of : Ok P w K mg base k "_law_of" s__law_of ["_law_box_here", "_law_some"] (spOf K)) (O__law_is_number : Ok P w K mg base k "_law_is_number" s__law_is_number ["_law_what"] (spLNum K))
    (O__law_bent : Ok P w K mg base k "_law_bent" s__law_bent ["_law_box_here", "_law_what"] (spBent K jj)) : Ok P w K mg base (k + 1) "_law_bent" s__law_bent ["_law_box_here", "_law_what"] (spBent K (jj + 1)) := by
  refine D.ok sc__law_bent b__law_bent (fun vs H Q E h => ?_) (fun f cdv A outer s H vs Q E hr h => ?_)
  · obtain ⟨b, n, nn, m, B, Z, v, d, rfl, _⟩ := h
    rfl
  · obtain ⟨b, n, nn, m, B, Z, v, d, rfl, lj, hb, zb, hz, hv, bd, n3, n5, B0, B1, q⟩ := h
    refine ⟨_, (pss_cons (ps_set (i := 2) sc__law_bent.nd rfl (.inl rfl) (pe_lst (pa_cons pe_non (pa_cons pe_bl (pa_cons pe_bl (pa_cons pe_int (pa_cons pe_int (pa_cons (pe_un un_neg pe_int) (pa_cons pe_str (pa_cons (pe_tup pa_nil) (pa_cons (pe_lst pa_nil) (pa_cons (pe_tup (pa_cons pe_int pa_nil)) (pa_cons (pe_tup (pa_cons pe_int (pa_cons pe_int (pa_cons pe_int pa_nil)))) (pa_cons (pe_tup (pa_cons (pe_tup (pa_cons pe_int (pa_cons pe_int (pa_cons pe_int pa_nil)))) pa_nil)) (pa_cons (pe_op (op_powC 1000000000000000000000000000000) pe_int pe_int) pa_nil)))))))))))))))
      (pss_cons (ps_if (PW.pt (pw_or (pt_not (pt_val (pe_callB call_isiT (by rfl) T.isinstance_ (by decide +kernel) (pa_cons (pv 1) (pa_cons (pe_tup (pa_cons (pe_bltn (v := .ty "list") (by rfl) T.list_ (by decide +kernel) rfl) (pa_cons (pe_bltn (v := .ty "tuple") (by rfl) T.tuple_ (by decide +kernel) rfl) pa_nil))) pa_nil))))) (pw_or (pt_cmpR op_eq (pe_callB call_len_seq (by rfl) T.len_ PySem.boot_len (pa_cons (pv 1) pa_nil)) pe_int (nomark _)) (pw_or1 (pt_cmpR op_eq (pe_fn O__law_take (hr.mono (by omega)) (pa_cons (pv 0) (pa_cons pe_int pa_nil))) pe_int (nomark _))))))
        (pss_one (ps_ret (pe_ifExp (pt_val (pe_fn O__law_is_number (hr.mono (by omega)) (pa_cons (pv 1) pa_nil))) (pe_op op_add (pv 1) (pe_ix ix_lt (pe_lst (pa_cons pe_int (pa_cons (pe_un un_neg pe_int) pa_nil))) (pe_fn O__law_take (hr.mono (by omega)) (pa_cons (pv 0) (pa_cons pe_int pa_nil))) (fun _ _ => rfl))) (pe_fn O__law_of (hr.mono (by omega)) (pa_cons (pv 0) (pa_cons (pv 2) pa_nil))))))
        pss_nil)
      (pss_cons (ps_par (i := 3) (j := 4) (by rfl) sc__law_bent.nd rfl rfl (by decide) rfl rfl (pa_cons (pe_fn O__law_take (hr.mono (by omega)) (pa_cons (pv 0) (pa_cons pe_int pa_nil))) (pa_cons (pe_fn O__law_take (hr.mono (by omega)) (pa_cons (pv 0) (pa_cons (pe_callB call_len_seq (by rfl) T.len_ PySem.boot_len (pa_cons (pv 1) pa_nil)) pa_nil))) pa_nil)) (by rfl))
      (pss_cons (ps_set (i := 5) sc__law_bent.nd rfl (.inl rfl) (pe_callTy call_list_of (by rfl) T.list_ (by decide +kernel) (pa_cons (pv 1) pa_nil)))
      (Evl.pss_cut (ps_if (pt_cmpR op_lt (pv 3) pe_int (nomark _))
        (pss_one (ps_asg (pe_fn O__law_bent (hr.mono (by omega)) (pa_cons (pv 0) (pa_cons (pe_ix ix_lt (pv 5) (pv 4) (fun _ _ => rfl)) pa_nil))) (pg_sub (pv 5) (pv 4) set_list)))
        (pss_one (ps_if (pt_cmpR op_eq (pv 3) pe_int (nomark _))
            (pss_one (ps_expr (pe_bm PySem.F.plainAttrs_list PySem.F.slot_list_pop PySem.F.type_list_pop mt_popAt (pv 5) (pa_cons (pv 4) pa_nil))))
            (pss_one (ps_if (pt_cmpR op_eq (pv 3) pe_int (nomark _))
                (pss_one (ps_expr (pe_bm PySem.F.plainAttrs_list PySem.F.slot_list_insert PySem.F.type_list_insert mt_insert (pv 5) (pa_cons (pv 4) (pa_cons (pe_ix ix_lt (pv 5) (pv 4) (fun _ _ => rfl)) pa_nil)))))
                (pss_one (ps_if (pt_cmpR op_eq (pv 3) pe_int (nomark _))
                    (pss_one (ps_set (i := 5) sc__law_bent.nd rfl (.inl rfl) (pe_revL (pv 5))))
                    (pss_one (ps_ret (pe_ifExp (pt_val (pe_callB call_isi (by rfl) T.isinstance_ (by decide +kernel) (pa_cons (pv 1) (pa_cons (pe_bltn (v := .ty "list") (by rfl) T.list_ (by decide +kernel) rfl) pa_nil)))) (pe_callTy call_tuple_of (by rfl) T.tuple_ (by decide +kernel) (pa_cons (pv 5) pa_nil)) (pv 5)))))))))))
      (pss_one (ps_ret (pe_ifExp (pt_val (pe_callB call_isi (by rfl) T.isinstance_ (by decide +kernel) (pa_cons (pv 1) (pa_cons (pe_bltn (v := .ty "list") (by rfl) T.list_ (by decide +kernel) rfl) pa_nil)))) (pv 5) (pe_callTy call_tuple_of (by rfl) T.tuple_ (by decide +kernel) (pa_cons (pv 5) pa_nil)))))))))), ?_⟩
    refine ⟨1, rfl, Nat.zero_le _, fun t0 nt0 => ?_⟩
    have st0 : Same H (upd H t0 (.tup [])) := same_new nt0
    have et0 : upd H t0 (.tup []) t0 = some (.tup []) := upd_same
    have zt0 : Z t0 = false := (hz).new nt0
    generalize upd H t0 (.tup []) = O0 at st0 et0
    have sA0 := st0
    refine ⟨Nat.zero_le _, fun l0 nl0 => ?_⟩
    have sl0 : Same O0 (upd O0 l0 (.lst [])) := same_new nl0
    have el0 : upd O0 l0 (.lst []) l0 = some (.lst []) := upd_same
    have zl0 : Z l0 = false := (hz.same sA0).new nl0
    generalize upd O0 l0 (.lst []) = O1 at sl0 el0
    have sA1 := sA0.trans sl0
    refine ⟨(by show 1 ≤ sizeLine; decide), fun t1 nt1 => ?_⟩
    have st1 : Same O1 (upd O1 t1 (.tup [.int 0])) := same_new nt1
    have et1 : upd O1 t1 (.tup [.int 0]) t1 = some (.tup [.int 0]) := upd_same
    have zt1 : Z t1 = false := (hz.same sA1).new nt1
    generalize upd O1 t1 (.tup [.int 0]) = O2 at st1 et1
    have sA2 := sA1.trans st1
    refine ⟨(by show 3 ≤ sizeLine; decide), fun t2 nt2 => ?_⟩
    have st2 : Same O2 (upd O2 t2 (.tup [.int 1, .int 1, .int 1])) := same_new nt2
    have et2 : upd O2 t2 (.tup [.int 1, .int 1, .int 1]) t2 = some (.tup [.int 1, .int 1, .int 1]) := upd_same
    have zt2 : Z t2 = false := (hz.same sA2).new nt2
    generalize upd O2 t2 (.tup [.int 1, .int 1, .int 1]) = O3 at st2 et2
    have sA3 := sA2.trans st2
    refine ⟨(by show 3 ≤ sizeLine; decide), fun t3 nt3 => ?_⟩
    have st3 : Same O3 (upd O3 t3 (.tup [.int 0, .int 1, .int 0])) := same_new nt3
    have et3 : upd O3 t3 (.tup [.int 0, .int 1, .int 0]) t3 = some (.tup [.int 0, .int 1, .int 0]) := upd_same
    have zt3 : Z t3 = false := (hz.same sA3).new nt3
    generalize upd O3 t3 (.tup [.int 0, .int 1, .int 0]) = O4 at st3 et3
    have sA4 := sA3.trans st3
    refine ⟨(by show 1 ≤ sizeLine; decide), fun t4 nt4 => ?_⟩
    have st4 : Same O4 (upd O4 t4 (.tup [.ref t3])) := same_new nt4
    have et4 : upd O4 t4 (.tup [.ref t3]) t4 = some (.tup [.ref t3]) := upd_same
    have zt4 : Z t4 = false := (hz.same sA4).new nt4
    generalize upd O4 t4 (.tup [.ref t3]) = O5 at st4 et4
    have sA5 := sA4.trans st4
    replace et0 := (((((sl0).trans st1).trans st2).trans st3).trans st4) _ _ et0
    replace el0 := ((((st1).trans st2).trans st3).trans st4) _ _ el0
    replace et1 := (((st2).trans st3).trans st4) _ _ et1
    replace et2 := ((st3).trans st4) _ _ et2
    replace et3 := (st4) _ _ et3
    refine ⟨10, 30, rfl, rfl, ⟨⟨by decide, by decide, by decide⟩, by decide⟩, (by show 13 ≤ sizeLine; decide), fun ls nls => ?_⟩
    have sB := sA5.trans (same_new nls (o := .lst ([.non, .bl true, .bl false, .int 0, .int 1, .int (-1), .str "0", .ref t0, .ref l0, .ref t1, .ref t2, .ref t4, .int 1000000000000000000000000000000] : List V)))
    have eB : upd O5 ls (.lst ([.non, .bl true, .bl false, .int 0, .int 1, .int (-1), .str "0", .ref t0, .ref l0, .ref t1, .ref t2, .ref t4, .int 1000000000000000000000000000000] : List V)) ls = some (.lst ([.non, .bl true, .bl false, .int 0, .int 1, .int (-1), .str "0", .ref t0, .ref l0, .ref t1, .ref t2, .ref t4, .int 1000000000000000000000000000000] : List V)) := upd_same
    have sN : Same O5 (upd O5 ls (.lst ([.non, .bl true, .bl false, .int 0, .int 1, .int (-1), .str "0", .ref t0, .ref l0, .ref t1, .ref t2, .ref t4, .int 1000000000000000000000000000000] : List V))) := same_new nls
    have zls : Z ls = false := (hz.same sA5).new nls
    have al : DpAll K (hide Z (upd O5 ls (.lst ([.non, .bl true, .bl false, .int 0, .int 1, .int (-1), .str "0", .ref t0, .ref l0, .ref t1, .ref t2, .ref t4, .int 1000000000000000000000000000000] : List V)))) ([.non, .bl true, .bl false, .int 0, .int 1, .int (-1), .str "0", .ref t0, .ref l0, .ref t1, .ref t2, .ref t4, .int 1000000000000000000000000000000] : List V) oddD := by
      have T0 : ∀ {a : Addr} {xs : List V}, Z a = false → O5 a = some (.tup xs) → SqT K (hide Z (upd O5 ls (.lst ([.non, .bl true, .bl false, .int 0, .int 1, .int (-1), .str "0", .ref t0, .ref l0, .ref t1, .ref t2, .ref t4, .int 1000000000000000000000000000000] : List V)))) a xs := fun z e => SqT.of (hide_at z (sN _ _ e))
      have L0 : ∀ {a : Addr} {xs : List V}, Z a = false → O5 a = some (.lst xs) → SqL K (hide Z (upd O5 ls (.lst ([.non, .bl true, .bl false, .int 0, .int 1, .int (-1), .str "0", .ref t0, .ref l0, .ref t1, .ref t2, .ref t4, .int 1000000000000000000000000000000] : List V)))) a xs := fun z e => SqL.of (hide_at z (sN _ _ e))
      exact .cons .non (.cons (.bl true) (.cons (.bl false) (.cons (.int 0) (.cons (.int 1) (.cons (.int (-1)) (.cons (.str "0")
        (.cons (.tup (T0 zt0 et0) .nil) (.cons (.lst (L0 zl0 el0) .nil) (.cons (.tup (T0 zt1 et1) (.cons (.int 0) .nil)) (.cons (.tup (T0 zt2 et2) (.cons (.int 1) (.cons (.int 1) (.cons (.int 1) .nil))))
        (.cons (.tup (T0 zt4 et4) (.cons (.tup (T0 zt3 et3) (.cons (.int 0) (.cons (.int 1) (.cons (.int 0) .nil)))) .nil)) (.cons (.int _) .nil))))))))))))
    have ll : ([.non, .bl true, .bl false, .int 0, .int 1, .int (-1), .str "0", .ref t0, .ref l0, .ref t1, .ref t2, .ref t4, .int 1000000000000000000000000000000] : List V).length = 13 := rfl
    dsimp only
    generalize hG : upd O5 ls (.lst ([.non, .bl true, .bl false, .int 0, .int 1, .int (-1), .str "0", .ref t0, .ref l0, .ref t1, .ref t2, .ref t4, .int 1000000000000000000000000000000] : List V)) = H1 at sB eB sN al
    generalize ([.non, .bl true, .bl false, .int 0, .int 1, .int (-1), .str "0", .ref t0, .ref l0, .ref t1, .ref t2, .ref t4, .int 1000000000000000000000000000000] : List V) = xs0 at eB al ll
    have lsb : ls ≠ b := fun e => by
      rw [e, zb] at zls
      cases zls
    have x1 := hb.same sB
    have bo := odd_bd B0
    have hz1 := hz.same sB
    have hv1 := Dp.same (hide_of (Z := Z) sB) hv
    have u1 : But b H H1 := Same.but sB
    clear sN sB hG et0 el0 et1 et2 et3 et4 zt0 zl0 zt1 zt2 zt3 zt4 st0 sl0 st1 st2 st3 st4 sA0 sA1 sA2 sA3 sA4 sA5 nls hv hz hb
    refine ⟨_, rfl, (by show 2 ≤ sizeLine; decide), fun tp ntp => ?_⟩
    have s2 : Same H1 (upd H1 tp (.tup [.ty "list", .ty "tuple"])) := same_new ntp
    have e2 : upd H1 tp (.tup [.ty "list", .ty "tuple"]) tp = some (.tup [.ty "list", .ty "tuple"]) := upd_same
    generalize upd H1 tp (.tup [.ty "list", .ty "tuple"]) = H2 at s2 e2
    have u2 := u1.trans (Same.but (b := b) s2)
    have x2 := x1.same s2
    have hz2 := hz1.same s2
    have hv2 := Dp.same (hide_of s2) hv1
    have eB2 := s2 _ _ eB
    have al2 := DpAll.same (hide_of s2) al
    clear u1 x1 hz1 hv1 s2 eB al
    obtain ⟨m, rfl⟩ : ∃ m', m = m' + 1 := by
      cases m with
      | zero => exact bd.elim
      | succ m => exact ⟨m, rfl⟩
    have fin : ∀ (H3 : Hp) (v' : V) (d' : PyData), But b H2 H3 → BoxAt H3 b n → Dp K (hide Z H3) v' d' → d' ∈ oddD → Q v' H3 := fun H3 v' d' u x dd hd => by
      refine q H3 v' d' (u2.trans u) x (hz2.but u x) dd ?_ ?_
      · exact (bo d' hd).1.mono (by omega) (by omega) (by omega)
      · have h1 := (bo d' hd).2
        rw [szD_lv (bo d' hd).1 (show 3 ≤ m + 1 + 2 by omega)]
        omega
    have fin2 : ∀ (H3 : Hp) (v' : V) (ys : List V), But b H2 H3 → v' ∈ xs0 → DpAll K (hide Z H3) xs0 oddD → BoxOk ys n → Q v' (upd H3 b (.lst ys)) := fun H3 v' ys u hv' al3 hy => by
      obtain ⟨d', hd', dd⟩ := dpall_mem al3 hv'
      have u3 : But b H3 (upd H3 b (.lst ys)) := But.ups
      exact fin _ v' d' (u.trans u3) (.put hy) (Dp.same (hide_but zb u3) dd) hd'
    have dp2 := Dp.same hide_same hv2
    rcases dp_seq hv2 with ⟨ty, tx, k1, k2⟩ | ⟨p, xs, cs, tu, rfl, rfl, hp, al⟩
    · refine ⟨v, tp, [.ty "list", .ty "tuple"], .type ty, [.type "list", .type "tuple"], false, rfl, e2, .cons (.ty _) (.cons (.ty _) .nil), tx _, kit2 k1 k2 rfl, _, rfl, iteT ?_⟩
      refine ⟨_, rfl, v, d, rfl, dp2, _, rfl, ?_⟩
      cases e : isIntD d with
      | true =>
        obtain ⟨i, rfl, rfl⟩ := dp_int dp2 e
        refine iteT ?_
        have bi := bd
        refine ⟨_, rfl, 1, rfl, (by show 2 ≤ sizeLine; decide), fun l nl => ?_⟩
        have s3 : Same H2 (upd H2 l (.lst [.int 1, .int (-1)])) := same_new nl
        have e3 : upd H2 l (.lst [.int 1, .int (-1)]) l = some (.lst [.int 1, .int (-1)]) := upd_same
        have lb : l ≠ b := (x2.ne nl).symm
        generalize upd H2 l (.lst [.int 1, .int (-1)]) = H3 at s3 e3
        refine ⟨_, rfl, b, n, 2, rfl, by decide, by decide, (x2.same s3).mono (by omega), fun c ys c0 c1 hy => ?_⟩
        have u3 : But b H3 (upd H3 b (.lst ys)) := But.ups
        have x3 : BoxAt (upd H3 b (.lst ys)) b n := .put hy
        have e4 := u3 _ _ lb e3
        generalize upd H3 b (.lst ys) = H4 at u3 x3 e4
        have u4 := u2.trans ((Same.but (b := b) s3).trans u3)
        obtain ⟨x, ax, x0, x1⟩ : ∃ x : Int, atI [V.int 1, V.int (-1)] c = some (.int x) ∧ -1 ≤ x ∧ x ≤ 1 := by
          have : c = 0 ∨ c = 1 := by omega
          rcases this with rfl | rfl
          · exact ⟨1, rfl, by decide, by decide⟩
          · exact ⟨-1, rfl, by decide, by decide⟩
        refine ⟨l, _, c, _, rfl, rfl, SqA.l e4, ax, i, x, rfl, rfl, ?_⟩
        have hz4 := hz2.but ((Same.but (b := b) s3).trans u3) x3
        have b1 := bd.1
        have b2 := bd.2
        refine q H4 (.int (i + x)) (.int (i + x)) u4 x3 hz4 (.int _) ⟨by omega, by omega⟩ ?_
        show 40 ≤ 2 * 40 + 300
        decide
      | false =>
        refine iteF ?_
        exact ⟨_, rfl, _, rfl, b, ls, n, xs0, rfl, SqA.l eB2, lsb, by omega, by omega, x2.mono (by omega), fun v' ys hv' hy => fin2 H2 v' ys (But.refl b H2) hv' al2 hy⟩
    obtain ⟨hq, tx, k1, k2⟩ := seq_ty hp
    have lx := DpAll.len al
    obtain ⟨lc, bc⟩ := bd_seq.mp bd
    have hqH : SqA K H2 p xs := Same.sqA hide_same hq
    have seqY : ∀ {Ha Hb : Hp}, Same Ha Hb → (if tu then SqT K Ha p xs else SqL K Ha p xs) → if tu then SqT K Hb p xs else SqL K Hb p xs := fun s h => by
      cases tu with
      | true => exact Same.tup s h
      | false => exact s.seq h
    have hpH := seqY hide_same hp
    have txH : TyX K H2 (.ref p) (.type (seqT tu)) := (seq_ty hpH).2.1
    have ni : isIntD (seqD tu cs) = false := by cases tu <;> rfl
    refine ⟨.ref p, tp, [.ty "list", .ty "tuple"], .type (seqT tu), [.type "list", .type "tuple"], true, rfl, e2, .cons (.ty _) (.cons (.ty _) .nil), txH, kit2 k1 k2 (by cases tu <;> rfl), _, rfl, iteF ?_⟩
    refine ⟨_, rfl, p, _, rfl, hqH, rfl, _, rfl, ?_⟩
    by_cases l0 : xs.length = 0
    · rw [decide_eq_true (by rw [l0]; rfl)]
      refine iteT ?_
      refine ⟨_, rfl, .ref p, seqD tu cs, rfl, dp2, _, rfl, ?_⟩
      rw [ni]
      refine iteF ?_
      exact ⟨_, rfl, _, rfl, b, ls, n, xs0, rfl, SqA.l eB2, lsb, by omega, by omega, x2.mono (by omega), fun v' ys hv' hy => fin2 H2 v' ys (But.refl b H2) hv' al2 hy⟩
    rw [decide_eq_false (fun e => l0 (by have := V.int.inj e; omega))]
    refine iteF ?_
    refine ⟨_, rfl, b, n + 3 * m + 5, 6, rfl, by decide, by decide, x2.mono (by omega), fun ma ys a0 a1 hy => ?_⟩
    have u3 : But b H2 (upd H2 b (.lst ys)) := But.ups
    have x3 : BoxAt (upd H2 b (.lst ys)) b (n + 3 * m + 5) := .put hy
    have hz3 := hz2.but u3 x3
    have hh := hide_but (Z := Z) zb u3
    have al3 := DpAll.same hh al
    have alo3 := DpAll.same hh al2
    have hp3 := seqY hh hp
    have dp3 := Dp.same hh hv2
    have eB3 := u3 _ _ lsb eB2
    generalize upd H2 b (.lst ys) = H3 at u3 x3 hz3 hh al3 alo3 hp3 dp3 eB3
    refine ⟨rfl, _, rfl, ?_⟩
    by_cases c0 : ma = 0
    · rw [decide_eq_true (by rw [c0])]
      refine iteT ?_
      refine ⟨_, rfl, .ref p, seqD tu cs, rfl, Dp.same hide_same dp3, _, rfl, ?_⟩
      rw [ni]
      refine iteF ?_
      exact ⟨_, rfl, _, rfl, b, ls, n, xs0, rfl, SqA.l eB3, lsb, by omega, by omega, x3.mono (by omega), fun v' ys hv' hy => fin2 H3 v' ys u3 hv' alo3 hy⟩
    rw [decide_eq_false (fun e => c0 (V.int.inj e))]
    refine iteF ?_
    clear fin fin2 alo3 eB3 eB2 al2 dp3 dp2 bo hy
    have u3' := u2.trans u3
    clear u2 u3
    -- the way, the place
    refine ⟨_, rfl, b, n + 3 * m + 4, 8, rfl, by decide, by decide, x3.mono (by omega), fun way ys w0 w1 hy => ?_⟩
    have u4 : But b H3 (upd H3 b (.lst ys)) := But.ups
    have x4 : BoxAt (upd H3 b (.lst ys)) b (n + 3 * m + 4) := .put hy
    have hz4 := hz3.but u4 x4
    have hh4 := hide_but (Z := Z) zb u4
    have al4 := DpAll.same hh4 al3
    have hp4 := seqY hh4 hp3
    generalize upd H3 b (.lst ys) = H4 at u4 x4 hz4 hh4 al4 hp4
    have u4' := u3'.trans u4
    have hq4 : SqA K H4 p xs := Same.sqA hide_same (seq_ty hp4).1
    refine ⟨_, rfl, _, rfl, p, _, rfl, hq4, b, n + 3 * m + 3, _, rfl, by omega, by omega, x4.mono (by omega), fun at' ys at0 at1 hy => ?_⟩
    obtain ⟨ai, rfl⟩ : ∃ ai : Nat, at' = (ai : Int) := ⟨at'.toNat, by omega⟩
    have hai : ai < xs.length := by omega
    have u5 : But b H4 (upd H4 b (.lst ys)) := But.ups
    have x5 : BoxAt (upd H4 b (.lst ys)) b (n + 3 * m + 3) := .put hy
    have hz5 := hz4.but u5 x5
    have hh5 := hide_but (Z := Z) zb u5
    have al5 := DpAll.same hh5 al4
    have hp5 := seqY hh5 hp4
    generalize upd H4 b (.lst ys) = H5 at u5 x5 hz5 hh5 al5 hp5
    have u5' := u4'.trans u5
    have hq5 : SqA K H5 p xs := Same.sqA hide_same (seq_ty hp5).1
    clear hh hh4 hh5 u3' u4 u4' u5 x3 x4 hz3 hz4 al3 al4 hp3 hp4 hq4 al hp hq hqH hpH tx txH x2 hz2 hv2 e2 ntp
    -- a list of its own
    refine ⟨_, _, rfl, ?_⟩
    refine ⟨_, rfl, p, _, rfl, hq5, fun so nso => ?_⟩
    have s6 : Same H5 (upd H5 so (.lst xs)) := same_new nso
    have e6 : upd H5 so (.lst xs) so = some (.lst xs) := upd_same
    have zso := hz5.new nso
    have sob : so ≠ b := fun e => by rw [e, zb] at zso; cases zso
    have ay6 : DpAll K (hide (andZ Z so) (upd H5 so (.lst xs))) xs cs := DpAll.same (hide_of s6) (DpAll.same (hide_more nso) al5)
    have hy6 := seqY (hide_of (Z := andZ Z so) s6) (seqY (hide_more nso) hp5)
    generalize upd H5 so (.lst xs) = H6 at s6 e6 ay6 hy6
    have nso0 : H so = none := But.free u5' sob nso
    have u6 := u5'.trans (Same.but (b := b) s6)
    have x6 := x5.same s6
    have hz6 := hz5.same s6
    clear u5' x5 hz5 s6 al5 hp5 hq5
    have bcn : ∀ e ∈ cs, Bd (nn + 1) (B + 1) (m + 2) e := fun e he => (bc e he).mono (by omega) (by omega) (by omega)
    have szc : ∀ e ∈ cs, szD (m + 2) e = szD m e := fun e he => szD_lv (bc e he) (by omega)
    have szS : (cs.map fun e => szD (m + 2) e + 2).sum = (cs.map fun e => szD m e + 2).sum := congrArg List.sum (List.map_congr_left fun e he => congrArg (· + 2) (szc e he))
    rw [sz_seq] at q
    refine ⟨fun σ' H' => ∃ (so : Addr) (xs' : List V) (cs' : List PyData), σ' = [some (.ref b), some (.ref p), some (.ref ls), some (.int way), some (.int (ai : Int)), some (.ref so)] ∧ But b H H' ∧ BoxAt H' b n ∧ Hid Z H' ∧ Z so = false ∧ H' so = some (.lst xs') ∧ DpAll K (hide Z H') xs' cs' ∧ cs'.length ≤ nn + 1 ∧ (∀ e ∈ cs', Bd (nn + 1) (B + 1) (m + 2) e) ∧ (cs'.map fun e => szD (m + 2) e + 2).sum ≤ 2 * (cs.map fun e => szD m e + 2).sum + 300 ∧ (if tu then SqT K H' p xs else SqL K H' p xs), ?_, ?_⟩
    · have lcs : ai < cs.length := by omega
      have hAi : ∃ dx, cs[ai]? = some dx ∧ Dp K (hide (andZ Z so) H6) xs[ai] dx := DpAll.get ay6 (List.getElem?_eq_getElem hai)
      obtain ⟨dx, gd, hd⟩ := hAi
      have edx : cs[ai] = dx := by
        rw [List.getElem?_eq_getElem lcs] at gd
        exact Option.some.inj gd
      have bx : Bd nn B m dx := by rw [← edx]; exact bc _ (List.getElem_mem lcs)
      have upS : ∀ (Hx : Hp) (zs : List V), But b H Hx → BoxAt Hx b n → Hid Z Hx → Hx so ≠ none → But b H (upd Hx so (.lst zs)) ∧ BoxAt (upd Hx so (.lst zs)) b n ∧ Hid Z (upd Hx so (.lst zs)) ∧ Same (hide (andZ Z so) Hx) (hide (andZ Z so) (upd Hx so (.lst zs))) := fun Hx zs u x hz e => by
        refine ⟨u.put nso0, x.at (Ne.symm sob), fun a z q => ?_, fun a o h => ?_⟩
        · by_cases y : a = so
          · rw [y, upd_same] at q
            cases q
          · rw [upd_ne y] at q
            exact hz a z q
        · obtain ⟨z, e⟩ := hide_some h
          refine hide_at z ?_
          rw [upd_ne (fun q => by rw [q, andZ_self] at z; cases z)]
          exact e
      have fin : ∀ (zs : List V) (es : List PyData), DpAll K (hide (andZ Z so) H6) zs es → es.length ≤ nn + 1 → (∀ e ∈ es, e ∈ cs) → (es.map fun e => szD (m + 2) e + 2).sum ≤ 2 * (cs.map fun e => szD m e + 2).sum + 300 →
          ∃ (so' : Addr) (xs' : List V) (cs' : List PyData), [some (V.ref b), some (V.ref p), some (V.ref ls), some (V.int way), some (V.int (ai : Int)), some (V.ref so)] = [some (.ref b), some (.ref p), some (.ref ls), some (.int way), some (.int (ai : Int)), some (.ref so')] ∧ But b H (upd H6 so (.lst zs)) ∧ BoxAt (upd H6 so (.lst zs)) b n ∧ Hid Z (upd H6 so (.lst zs)) ∧ Z so' = false ∧ upd H6 so (.lst zs) so' = some (.lst xs') ∧ DpAll K (hide Z (upd H6 so (.lst zs))) xs' cs' ∧ cs'.length ≤ nn + 1 ∧ (∀ e ∈ cs', Bd (nn + 1) (B + 1) (m + 2) e) ∧ (cs'.map fun e => szD (m + 2) e + 2).sum ≤ 2 * (cs.map fun e => szD m e + 2).sum + 300 ∧ (if tu then SqT K (upd H6 so (.lst zs)) p xs else SqL K (upd H6 so (.lst zs)) p xs) := fun zs es a l i sz => by
        obtain ⟨h1, h2, h3, h4⟩ := upS H6 zs u6 (x6.mono (by omega)) hz6 (by rw [e6]; exact fun z => by cases z)
        exact ⟨so, zs, es, rfl, h1, h2, h3, zso, upd_same, DpAll.same hide_less (DpAll.same h4 a), l, fun e he => bcn e (i e he), sz, seqY (hide_same.trans (fun _ _ e => e)) (seqY h4 hy6)⟩
      refine ⟨_, rfl, way, 4, rfl, rfl, _, rfl, ite2 (fun c => ?_) (fun c => ?_)⟩
      · -- within
        refine ⟨_, rfl, _, rfl, _, rfl, so, _, _, xs[ai], rfl, rfl, SqA.l e6, at_nat (j := ai) rfl (List.getElem?_eq_getElem hai), ?_⟩
        refine ⟨b, n, nn, m, B, andZ Z so, xs[ai], dx, rfl, by omega, x6.mono (by omega), andZ_of zb, hz6.more e6, hd, bx, n3, n5, B0, B1, fun H7 v' d' u7 x7 hz7 dd bd' sz' => ?_⟩
        have e7 := u7 _ _ sob e6
        have ay7 := DpAll.same (hide_but (Z := andZ Z so) (andZ_of zb) u7) ay6
        have hy7 := seqY (hide_but (Z := andZ Z so) (andZ_of zb) u7) hy6
        obtain ⟨h1, h2, h3, h4⟩ := upS H7 (xs.set ai v') (u6.trans u7) x7 hz7.less (by rw [e7]; exact fun z => by cases z)
        refine ⟨_, rfl, _, rfl, so, _, _, ai, rfl, rfl, e7, sixN hai, ?_⟩
        refine ⟨so, xs.set ai v', cs.set ai d', rfl, h1, h2, h3, zso, upd_same, DpAll.same hide_less (dpall_set (Dp.same h4 dd) ai (DpAll.same h4 ay7)), ?_, ?_, ?_, seqY (hide_same.trans (fun _ _ e => e)) (seqY h4 hy7)⟩
        · rw [List.length_set]
          omega
        · intro e he
          rcases List.mem_or_eq_of_mem_set he with y | y
          · exact bcn e y
          · rw [y]
            exact bd'
        · have h5 := sum_set (f := fun e => szD (m + 2) e + 2) (x := d') lcs
          have h6 : szD m dx + 2 ≤ (cs.map fun e => szD m e + 2).sum := sum_mem (f := fun e => szD m e + 2) (by rw [← edx]; exact List.getElem_mem lcs)
          have h7 : szD (m + 2) cs[ai] = szD m dx := by rw [szc _ (List.getElem_mem lcs), edx]
          rw [szS] at h5
          simp only [h7] at h5
          omega
      refine ⟨_, rfl, rfl, _, rfl, ?_⟩
      by_cases c4 : way = 4
      · rw [decide_eq_true (by rw [c4])]
        refine iteT ?_
        refine ⟨_, rfl, .inl ⟨rfl, _, SqL.of e6⟩, _, rfl, so, _, _, ai, _, rfl, rfl, e6, by omega, by omega, sixI hai, List.getElem?_eq_getElem hai, ?_⟩
        refine fin (xs.eraseIdx ai) (cs.eraseIdx ai) (dpall_erase ai ay6) ?_ (fun e he => List.mem_of_mem_eraseIdx he) ?_
        · have := List.length_eraseIdx_le cs ai
          omega
        · have := sum_erase (f := fun e => szD (m + 2) e + 2) (cs := cs) (i := ai)
          rw [szS] at this
          omega
      rw [decide_eq_false (fun e => c4 (V.int.inj e))]
      refine iteF ?_
      refine ⟨_, rfl, rfl, _, rfl, ?_⟩
      by_cases c5 : way = 5
      · rw [decide_eq_true (by rw [c5])]
        refine iteT ?_
        refine ⟨_, rfl, .inl ⟨rfl, _, SqL.of e6⟩, _, rfl, _, rfl, _, rfl, so, _, _, xs[ai], rfl, rfl, SqA.l e6, at_nat (j := ai) rfl (List.getElem?_eq_getElem hai), so, _, _, _, rfl, rfl, e6, Nat.lt_of_le_of_lt (show xs.length ≤ 60 by omega) (by decide), by omega, by omega, ?_⟩
        rw [Int.toNat_natCast]
        refine fin (xs.take ai ++ [xs[ai]] ++ xs.drop ai) (cs.take ai ++ [dx] ++ cs.drop ai) (dpall_app (dpall_app (dpall_take ai ay6) (.cons hd .nil)) (dpall_drop ai ay6)) ?_ ?_ ?_
        · rw [List.length_append, List.length_append, List.length_take, List.length_drop]
          show min ai cs.length + 1 + _ ≤ _
          omega
        · intro e he
          rcases List.mem_append.mp he with y | y
          · rcases List.mem_append.mp y with y | y
            · exact List.mem_of_mem_take y
            · rw [List.mem_singleton.mp y, ← edx]
              exact List.getElem_mem lcs
          · exact List.mem_of_mem_drop y
        · rw [sum_ins, szS]
          have h6 : szD m dx + 2 ≤ (cs.map fun e => szD m e + 2).sum := sum_mem (f := fun e => szD m e + 2) (by rw [← edx]; exact List.getElem_mem lcs)
          have h7 : szD (m + 2) dx = szD m dx := by rw [← edx]; exact szc _ (List.getElem_mem lcs)
          omega
      rw [decide_eq_false (fun e => c5 (V.int.inj e))]
      refine iteF ?_
      refine ⟨_, rfl, rfl, _, rfl, ?_⟩
      by_cases c6 : way = 6
      · rw [decide_eq_true (by rw [c6])]
        refine iteT ?_
        refine ⟨_, rfl, so, _, rfl, SqL.of e6, fun r nr => ?_⟩
        have s7 : Same H6 (upd H6 r (.lst xs.reverse)) := same_new nr
        have zr := hz6.new nr
        have rso : r ≠ so := fun e => by rw [e, e6] at nr; cases nr
        have hh7 : Same (hide (andZ Z so) H6) (hide Z (upd H6 r (.lst xs.reverse))) := hide_less.trans (hide_of s7)
        refine ⟨r, xs.reverse, cs.reverse, rfl, u6.trans (Same.but s7), (x6.same s7).mono (by omega), hz6.same s7, zr, upd_same, dpall_rev (DpAll.same hh7 ay6), ?_, ?_, ?_, seqY hide_same (seqY hh7 hy6)⟩
        · rw [List.length_reverse]
          omega
        · intro e he
          exact bcn e (List.mem_reverse.mp he)
        · rw [List.map_reverse, List.sum_reverse, szS]
          omega
      rw [decide_eq_false (fun e => c6 (V.int.inj e))]
      refine iteF ?_
      -- the other kind
      have hpX := seqY hide_same hy6
      have txX := (seq_ty hpX).2.1
      refine ⟨_, rfl, .ref p, .ty "list", _, .type "list", !tu, rfl, .ty _, txX, kit_ty k1, _, rfl, ?_⟩
      have szq : ∀ tu', szD (m + 1 + 2) (seqD tu' cs) ≤ 2 * (3 + (cs.map fun e => szD m e + 2).sum) + 300 := fun tu' => by
        show szD (m + 2 + 1) (seqD tu' cs) ≤ _
        rw [sz_seq, szS]
        omega
      have bdq : ∀ tu', Bd (nn + 1) (B + 1) (m + 1 + 2) (seqD tu' cs) := fun tu' => (bd_seq (m := m + 2)).mpr ⟨by omega, bcn⟩
      cases tu with
      | false =>
        refine iteT ?_
        refine ⟨_, rfl, so, _, rfl, .inl ⟨SqL.of e6, fun a na => ?_⟩⟩
        have s7 : Same H6 (upd H6 a (.tup xs)) := same_new na
        exact q _ (.ref a) (seqD true cs) (u6.trans (Same.but s7)) ((x6.same s7).mono (by omega)) (hz6.same s7) (.tup (SqT.of (hide_at (hz6.new na) upd_same)) (DpAll.same (hide_less.trans (hide_of s7)) ay6)) (bdq true) (szq true)
      | true =>
        refine iteF ⟨_, rfl, ?_⟩
        exact q _ (.ref so) (seqD false cs) u6 (x6.mono (by omega)) hz6 (.lst (SqL.of (hide_at zso e6)) (DpAll.same hide_less ay6)) (bdq false) (szq false)
    · rintro σ H7 ⟨so, xs', cs', rfl, u7, x7, hz7, zso, e7, al7, l7, b7, sz7, hp7⟩
      obtain ⟨hq7, tx7, _, _⟩ := seq_ty hp7
      refine ⟨_, rfl, .ref p, .ty "list", _, .type "list", !tu, rfl, .ty _, tx7, kit_ty k1, _, rfl, ?_⟩
      have szq : ∀ tu', szD (m + 1 + 2) (seqD tu' cs') ≤ 2 * (3 + (cs.map fun e => szD m e + 2).sum) + 300 := fun tu' => by
        show szD (m + 2 + 1) (seqD tu' cs') ≤ _
        rw [sz_seq]
        omega
      have bdq : ∀ tu', Bd (nn + 1) (B + 1) (m + 1 + 2) (seqD tu' cs') := fun tu' => (bd_seq (m := m + 2)).mpr ⟨l7, b7⟩
      cases tu with
      | false =>
        refine iteT ⟨_, rfl, ?_⟩
        exact q _ (.ref so) (seqD false cs') u7 x7 hz7 (.lst (SqL.of (hide_at zso e7)) al7) (bdq false) (szq false)
      | true =>
        refine iteF ?_
        refine ⟨_, rfl, so, _, rfl, .inl ⟨SqL.of e7, fun a na => ?_⟩⟩
        have s8 : Same H7 (upd H7 a (.tup xs')) := same_new na
        exact q _ (.ref a) (seqD true cs') (u7.trans (Same.but s8)) (x7.same s8) (hz7.same s8) (.tup (SqT.of (hide_at (hz7.new na) upd_same)) (DpAll.same (hide_of s8) al7)) (bdq true) (szq true)
theorem ok_bent {k : Nat} (D : Df K mg "_law_bent" s__law_bent) (T : Bt mg) (O__law_take : Ok P w K mg base k "_law_take" s__law_take ["_law_box_here", "_law_span"] spTake) (O__law_of : Ok P w K mg base k "_law_of" s__law_of ["_law_box_here", "_law_some"] (spOf K)) (O__law_is_number : Ok P w K mg base k "_law_is_number" s__law_is_number ["_law_what"] (spLNum K)) :
    ∀ jj : Nat, Ok P w K mg base (k + jj) "_law_bent" s__law_bent ["_law_box_here", "_law_what"] (spBent K jj)
  | 0 => bent0 D
  | jj + 1 => bent1 D T (O__law_take.mono (Nat.le_add_right _ _)) (O__law_of.mono (Nat.le_add_right _ _)) (O__law_is_number.mono (Nat.le_add_right _ _)) (ok_bent D T O__law_take O__law_of O__law_is_number jj)
end
end Sh

namespace Sh
open PySem PySem.Spec PyProof.Rows L2
def spRight : Sp := fun vs H Q _ => ∃ b : Addr, vs = [.ref b] ∧ BoxAt H b 100000 ∧ ∀ H', But b H H' → Q (.bl true) H'
end Sh

namespace Sh
open PySem PySem.Spec PyProof.Rows L2
/-- a thing whose text fits -/
def Thing (d : PyData) : Prop := ∃ (n m : Nat) (B : Int), Bd n B m d ∧ n ≤ 60 ∧ m ≤ 60 ∧ B ≤ 1000000000000000000000000000100 ∧ szD m d ≤ 1000000
theorem bdI {n m : Nat} {B i : Int} (a : -B ≤ i) (c : i ≤ B) : Bd n B (m + 1) (.int i) := ⟨a, c⟩
theorem sea_okS {n : Nat} {h t : Int} {ds : List Int} (so : SeaOk n h t ds) : isSeaD (.tuple [.int h, .int t, .tuple (ds.map .int)]) = true := by
  rw [sea_three]
  show (decide (0 ≤ h) && (decide (0 ≤ t) && (true && (decide (0 < (ds.map PyData.int).length) && (ds.map PyData.int).all isNumD)))) = true
  rw [decide_eq_true so.h0, decide_eq_true so.t0, decide_eq_true (by rw [List.length_map]; exact so.l0), Bool.true_and, Bool.true_and, Bool.true_and, Bool.true_and, List.all_eq_true]
  intro x hx
  obtain ⟨d, hd, rfl⟩ := List.mem_map.mp hx
  exact decide_eq_true (so.d0 d hd).1
theorem stand_okS {c : Nat} {L : List Nat} (hL : Lot c L) : isStD c (.tuple ((L.map fun (i : Nat) => (i : Int)).map .int)) = true := by
  show (((L.map fun (i : Nat) => (i : Int)).map PyData.int).all (isPlD c) && risingB (((L.map fun (i : Nat) => (i : Int)).map PyData.int).map intD)) = true
  rw [Bool.and_eq_true]
  constructor
  · rw [List.all_eq_true]
    intro x hx
    obtain ⟨d, hd, rfl⟩ := List.mem_map.mp hx
    obtain ⟨i, hi, rfl⟩ := List.mem_map.mp hd
    have := hL.lt i hi
    show (decide (0 ≤ (i : Int)) && decide ((i : Int) < (c : Int))) = true
    rw [decide_eq_true (by omega), decide_eq_true (by omega)]
    rfl
  · have e : ((L.map fun (i : Nat) => (i : Int)).map PyData.int).map intD = L.map fun (i : Nat) => (i : Int) := by
      rw [List.map_map]
      have : (intD ∘ PyData.int) = id := by funext i; rfl
      rw [this, List.map_id]
    rw [e]
    refine decide_eq_true (List.pairwise_map.mpr (hL.up.imp fun h => ?_))
    omega
theorem bd_flt {h t : Int} {ss : List Srt} {n : Nat} (n4 : 4 ≤ n) (l4 : ss.length ≤ 4) (hh : 0 ≤ h ∧ h ≤ 1000000000000) (ht : 0 ≤ t ∧ t ≤ 1000000000000) (hd : ∀ x ∈ ss, (0 ≤ x.1 ∧ x.1 ≤ 1000000000000) ∧ x.2.1 ≤ 100 ∧ x.2.2 ≤ 100) :
    (Bd n 1000000000000000000000000000000 4 (.tuple [.int h, .int t, .tuple (ss.map srtD)]) ∧ Bd n 1000000000000000000000000000000 4 (.list [.int h, .int t, .tuple (ss.map srtD)])) ∧ szD 4 (.tuple [.int h, .int t, .tuple (ss.map srtD)]) ≤ 1000 ∧ szD 4 (.list [.int h, .int t, .tuple (ss.map srtD)]) ≤ 1000 := by
  have key : ∀ e ∈ ([.int h, .int t, .tuple (ss.map srtD)] : List PyData), Bd n 1000000000000000000000000000000 3 e := fun e he => by
    have e3 : e = .int h ∨ e = .int t ∨ e = .tuple (ss.map srtD) := by simpa using he
    rcases e3 with rfl | rfl | rfl
    · exact ⟨by omega, by omega⟩
    · exact ⟨by omega, by omega⟩
    · refine ⟨by rw [List.length_map]; omega, fun e he => ?_⟩
      obtain ⟨x, hx, rfl⟩ := List.mem_map.mp he
      have h1 := hd x hx
      refine ⟨by show 3 ≤ n; omega, fun e he => ?_⟩
      have e3 : e = .int x.1 ∨ e = .int (x.2.1 : Int) ∨ e = .int (x.2.2 : Int) := by simpa using he
      rcases e3 with rfl | rfl | rfl <;> exact ⟨by omega, by omega⟩
  have s1 : ∀ l : List Srt, ((l.map srtD).map fun e => szD 2 e + 2).sum = 131 * l.length := fun l => by
    induction l with
    | nil => rfl
    | cons x l ih =>
      rw [List.map_cons, List.map_cons, List.sum_cons, ih, List.length_cons]
      show 3 + ((40 + 2) + ((40 + 2) + ((40 + 2) + 0))) + 2 + _ = _
      omega
  have s2 : 3 + ((40 + 2) + ((40 + 2) + ((3 + ((ss.map srtD).map fun e => szD 2 e + 2).sum + 2) + 0))) ≤ 1000 := by
    rw [s1]
    omega
  exact ⟨⟨⟨by show 3 ≤ n; omega, key⟩, ⟨by show 3 ≤ n; omega, key⟩⟩, s2, s2⟩
abbrev s__law_right : Stmt := topS 23
theorem sc__law_right : FnScope (["_law_box_here", "_law_group", "_law_things", "_law_turn", "_law_bent_here", "_law_what", "_law_kept", "_law_due", "_law_deeps", "_law_lot", "_law_deep", "_law_mine", "_law_its", "_law_k"] : List Str) (["_law_box_here"] : List Str) (defScope s__law_right) := ⟨rfl, rfl, rfl, by decide +kernel, rfl, by decide +kernel, by decide +kernel⟩
theorem b__law_right (kV doc pm : Value) (an : Option Addr) (cdv ct : Value) (us : List Value) (hl : us.length = (["_law_box_here"] : List Str).length) : bindArgs (PySem.W.fnOf "_law_right" "_law_right" (defArgs s__law_right) (defBody s__law_right) (defScope s__law_right) .none kV doc pm an cdv ct) ⟨us, []⟩ = pure ((["_law_box_here"] : List Str).zip us) :=
  match us, hl with | [_], _ => rfl
def lawZ (b : Addr) : Addr → Bool := fun a => decide (a = b)
section
variable {P : Program} {w : World} {K : PySem.W.Frag} {mg : Str → Option Value} {base : Heap}
set_option maxHeartbeats 16000000 in
theorem ok_right {k : Nat} (D : Df K mg "_law_right" s__law_right) (T : Bt mg) (O__law_take : Ok P w K mg base k "_law_take" s__law_take ["_law_box_here", "_law_span"] spTake) (O__law_of : Ok P w K mg base k "_law_of" s__law_of ["_law_box_here", "_law_some"] (spOf K))
    (O__law_fleet : Ok P w K mg base k "_law_fleet" s__law_fleet ["_law_box_here", "_law_sorts", "_law_most", "_law_far"] spFleet) (O__law_bent : Ok P w K mg base k "_law_bent" s__law_bent ["_law_box_here", "_law_what"] (spBent K 6))
    (O__law_same : Ok P w K mg base k "_law_same" s__law_same ["_law_found", "_law_due"] (spSame K 6)) (O__law_is_fleet : Ok P w K mg base k "_law_is_fleet" s__law_is_fleet ["_law_what"] (spLFleet K)) (O__law_lists : Ok P w K mg base k "_law_lists" s__law_lists ["_law_what"] (spLists K 4))
    (O_is_fleet : Ok P w K mg base k "is_fleet" s_is_fleet ["thing"] (spIsFleet K)) (O_sea_of : Ok P w K mg base k "sea_of" s_sea_of ["fleet"] (spSeaOf K))
    (O_is_sea : Ok P w K mg base k "is_sea" s_is_sea ["thing"] (spIsSea K)) (O_is_standing : Ok P w K mg base k "is_standing" s_is_standing ["sea", "thing"] (spIsStand K)) :
    OkG P w K mg base (k + 1) "_law_right" s__law_right ["_law_box_here"] spRight := by
  refine D.okG sc__law_right b__law_right (fun vs H Q E h => ?_) (fun f cdv A outer s H vs Q E hr hG h => ?_)
  · obtain ⟨b, rfl, _⟩ := h
    rfl
  · obtain ⟨b, rfl, hb, q⟩ := h
    refine ⟨_, (pss_cons (ps_set (i := 1) sc__law_right.nd rfl (.inl rfl) (pe_fn O__law_fleet (hr.mono (by omega)) (pa_cons (pv 0) (pa_cons pe_int (pa_cons pe_int (pa_cons (pe_fn O__law_of (hr.mono (by omega)) (pa_cons (pv 0) (pa_cons (pe_lst (pa_cons pe_int (pa_cons (pe_op (op_powC 100000000000) pe_int pe_int) pa_nil))) pa_nil))) pa_nil))))))
      (pss_cons (ps_set (i := 2) sc__law_right.nd rfl (.inl rfl) (pe_lst (pa_cons (pv 1) (pa_cons (pe_callTy call_list_of (by rfl) T.list_ (by decide +kernel) (pa_cons (pv 1) pa_nil)) (pa_cons (pe_tup (pa_cons pe_int (pa_cons pe_int (pa_cons (pe_tup pa_nil) pa_nil)))) (pa_cons (pe_tup (pa_cons pe_int (pa_cons pe_int (pa_cons (pe_tup (pa_cons (pe_tup (pa_cons pe_int (pa_cons pe_int (pa_cons pe_int pa_nil)))) pa_nil)) pa_nil)))) (pa_cons (pe_tup (pa_cons pe_int (pa_cons pe_int (pa_cons (pe_tup (pa_cons (pe_tup (pa_cons pe_int (pa_cons pe_int (pa_cons pe_int pa_nil)))) pa_nil)) pa_nil)))) pa_nil)))))))
      (pss_cons (ps_set (i := 2) sc__law_right.nd rfl (.inl rfl) (pe_op op_cat (pv 2) (pe_lst (pa_cons (pe_tup (pa_cons (pe_tup (pa_cons pe_int (pa_cons pe_int (pa_cons pe_int pa_nil)))) pa_nil)) (pa_cons pe_non (pa_cons pe_str (pa_cons (pe_tup pa_nil) pa_nil)))))))
      (pss_cons (ps_for PassesOwn.never rfl (pi_range1 (by rfl) T.range_ (pa_cons pe_int pa_nil)) (pg_name (i := 3) sc__law_right.nd rfl (.inl rfl))
        (pss_cons (ps_set (i := 4) sc__law_right.nd rfl (.inl rfl) (pe_fn O__law_bent (hr.mono (by omega)) (pa_cons (pv 0) (pa_cons (pv 1) pa_nil))))
          (pss_one (ps_expr (pe_bm PySem.F.plainAttrs_list PySem.F.slot_list_append PySem.F.type_list_append mt_append (pv 2) (pa_cons (pe_ifExp (pt_cmpR op_eq (pe_fn O__law_take (hr.mono (by omega)) (pa_cons (pv 0) (pa_cons pe_int pa_nil))) pe_int (nomark _)) (pe_fn O__law_bent (hr.mono (by omega)) (pa_cons (pv 0) (pa_cons (pv 4) pa_nil))) (pv 4)) pa_nil))))))
      (pss_cons (ps_for PassesOwn.never rfl (pi_seq (pv 2)) (pg_name (i := 5) sc__law_right.nd rfl (.inl rfl))
        (pss_cons (ps_par (i := 6) (j := 7) (by rfl) sc__law_right.nd rfl rfl (by decide) rfl rfl (pa_cons (pe_callB (cr_reprD hG (reprU hr)) (by rfl) T.repr_ (by decide +kernel) (pa_cons (pv 5) pa_nil)) (pa_cons (pe_fn O__law_is_fleet (hr.mono (by omega)) (pa_cons (pv 5) pa_nil)) pa_nil)) (by rfl))
          (pss_one (ps_if (PW.pt (pw_or (pt_not (pt_val (pe_fn O__law_same (hr.mono (by omega)) (pa_cons (pe_lst (pa_cons (pe_fn O_is_fleet (hr.mono (by omega)) (pa_cons (pv 5) pa_nil)) (pa_cons (pe_fnK0 (ks := ["thing"]) [0] O_is_fleet (hr.mono (by omega)) (fun _ _ _ _ _ _ ws hk => match ws, hk with | [_], _ => rfl) (pk_cons (pv 5) pk_nil)) pa_nil))) (pa_cons (pe_lst (pa_cons (pv 7) (pa_cons (pv 7) pa_nil))) pa_nil))))) (pw_or1 (pt_cmpR op_ne (pe_callB (cr_reprD hG (reprU hr)) (by rfl) T.repr_ (by decide +kernel) (pa_cons (pv 5) pa_nil)) (pv 6) (nomark _)))))
            (pss_one (ps_ret pe_bl))
            pss_nil))))
      (pss_cons (ps_asg (pe_tup (pa_cons (pe_lst pa_nil) (pa_cons (pe_lst pa_nil) pa_nil))) (pg_seq rfl (pgs_cons (pg_name (i := 8) sc__law_right.nd rfl (.inr rfl)) (pgs_cons (pg_name (i := 9) sc__law_right.nd rfl (.inl rfl)) pgs_nil))))
      (pss_cons (ps_for PassesOwn.never rfl (pi_seq (pe_ix ix_lt (pv 1) pe_int (fun _ _ => rfl))) (pg_seq rfl (pgs_cons (pg_name (i := 10) sc__law_right.nd rfl (.inl rfl)) (pgs_cons (pg_name (i := 11) sc__law_right.nd rfl (.inl rfl)) (pgs_cons (pg_name (i := 12) sc__law_right.nd rfl (.inl rfl)) pgs_nil))))
        (pss_cons (ps_set (i := 9) sc__law_right.nd rfl (.inl rfl) (pe_op op_cat (pv 9) (pe_lc (own := [("_law_k", 13)]) (g := (gName 13)) (tt := tYes) (by rfl) sc__law_right.nd (pi_range1 (by rfl) T.range_ (pa_cons (pv 11) pa_nil)) (blkOk_by (own := [("_law_k", 13)]) (N := (["_law_box_here", "_law_group", "_law_things", "_law_turn", "_law_bent_here", "_law_what", "_law_kept", "_law_due", "_law_deeps", "_law_lot", "_law_deep", "_law_mine", "_law_its", "_law_k"] : List Str)) (sc := defScope s__law_right) (by decide +kernel)) (fun _ _ _ _ _ => (pg_name (i := 13) sc__law_right.nd rfl (.inl rfl))) (fun _ _ _ _ _ => pts_nil) (fun _ _ _ _ _ => (pe_op op_add (pe_callB (call_lenK K) (by rfl) T.len_ PySem.boot_len (pa_cons (pv 8) pa_nil)) (pv 13))))))
          (pss_one (ps_set (i := 8) sc__law_right.nd rfl (.inr rfl) (pe_op op_cat (pv 8) (pe_op op_rep (pe_lst (pa_cons (pv 10) pa_nil)) (pe_op op_add (pv 11) (pv 12))))))))
      (pss_cons (ps_set (i := 7) sc__law_right.nd rfl (.inl rfl) (pe_tup (pa_cons (pe_tup (pa_cons (pe_ix ix_lt (pv 1) pe_int (fun _ _ => rfl)) (pa_cons (pe_ix ix_lt (pv 1) pe_int (fun _ _ => rfl)) (pa_cons (pe_callTy call_tuple_of (by rfl) T.tuple_ (by decide +kernel) (pa_cons (pv 8) pa_nil)) pa_nil)))) (pa_cons (pe_callTy call_tuple_of (by rfl) T.tuple_ (by decide +kernel) (pa_cons (pv 9) pa_nil)) pa_nil))))
      (pss_cons (ps_if (pt_not (pt_val (pe_fn O__law_same (hr.mono (by omega)) (pa_cons (pe_lst (pa_cons (pe_fn O_sea_of (hr.mono (by omega)) (pa_cons (pv 1) pa_nil)) (pa_cons (pe_fnK0 (ks := ["fleet"]) [0] O_sea_of (hr.mono (by omega)) (fun _ _ _ _ _ _ ws hk => match ws, hk with | [_], _ => rfl) (pk_cons (pe_fn O__law_lists (hr.mono (by omega)) (pa_cons (pv 1) pa_nil)) pk_nil)) pa_nil))) (pa_cons (pe_lst (pa_cons (pv 7) (pa_cons (pv 7) pa_nil))) pa_nil)))))
        (pss_one (ps_ret pe_bl))
        pss_nil)
      (pss_one (ps_ret (pe_and (pe_cmpR op_isBl (pe_fn O_is_sea (hr.mono (by omega)) (pa_cons (pe_ix ix_lt (pv 7) pe_int (fun _ _ => rfl)) pa_nil)) pe_bl (nomark _)) (pe_one (pe_cmpR op_isBl (pe_fn O_is_standing (hr.mono (by omega)) (pa_cons (pe_ix ix_lt (pv 7) pe_int (fun _ _ => rfl)) (pa_cons (pe_ix ix_lt (pv 7) pe_int (fun _ _ => rfl)) pa_nil))) pe_bl (nomark _))))))))))))))), ?_⟩
    refine ⟨_, rfl, _, rfl, 10, 11, rfl, rfl, ⟨⟨by decide, by decide, by decide⟩, by decide⟩, (by show 2 ≤ sizeLine; decide), fun l nl => ?_⟩
    obtain ⟨u0, x0, e0, n0⟩ := al (o := .lst [.int 0, .int 100000000000]) (But.refl b H) hb nl
    refine ⟨b, l, 80000, _, rfl, SqA.l e0, n0, (by show 0 < 2; decide), (by show 2 < 1000000; decide), x0.mono (by decide), fun v0 ys0 hv0 y0 => ?_⟩
    obtain ⟨far, f0, f1, rfl⟩ : ∃ far : Int, 0 ≤ far ∧ far ≤ 100000000000 ∧ v0 = .int far := by
      have e5 : v0 = .int 0 ∨ v0 = .int 100000000000 := by simpa using hv0
      rcases e5 with e | e
      · exact ⟨0, by decide, by decide, e⟩
      · exact ⟨100000000000, by decide, by decide, e⟩
    obtain ⟨u1, x1⟩ := tk u0 y0
    generalize upd (upd H l (.lst [.int 0, .int 100000000000])) b (.lst ys0) = H1 at u1 x1
    clear e0 n0 nl u0 x0 y0 hv0
    refine ⟨b, 70000, 4, 3, far, rfl, by decide, by decide, by decide, by decide, f0, by omega, x1.mono (by decide), fun H3 p h t ss u3 x3 ft gf => ?_⟩
    replace u3 := u1.trans u3
    clear u1 x1 H1
    have l4 : ss.length ≤ 4 := gf.l1
    have mn : mny ss ≤ 24 := by
      have := mny_le (m := 6) (ss := ss) fun x hx => by
        have := gf.cnt x hx
        omega
      omega
    obtain ⟨Zb, eZ⟩ : ∃ Zb : Addr → Bool, Zb = lawZ b := ⟨_, rfl⟩
    have zb : Zb b = true := by rw [eZ]; exact decide_eq_true rfl
    have zne : ∀ {a : Addr}, a ≠ b → Zb a = false := fun n => by rw [eZ]; exact decide_eq_false n
    have hz3 : Hid Zb H3 := fun a z => by
      rw [eZ] at z
      rw [of_decide_eq_true z]
      exact x3.some
    have ftZ : FltT (hide Zb H3) p h t ss := by
      obtain ⟨pq, rs, ep, eq, er⟩ := ft
      obtain ⟨xs, hbx, _⟩ := x3
      have ne : ∀ {z : Addr} {l : List V}, H3 z = some (.tup l) → Zb z = false := fun e => zne (ne_of e hbx (by intro w; cases w))
      exact ⟨pq, rs, hide_at (ne ep) ep, hide_at (ne eq) eq, er.1, fun i r y e1 e2 => hide_at (ne (er.2 i r y e1 e2)) (er.2 i r y e1 e2)⟩
    obtain ⟨pq, rs, ep0, eq0, er0⟩ := ftZ
    have ep : H3 p = some (.tup [.int h, .int t, .ref pq]) := hide_same _ _ ep0
    refine ⟨_, rfl, _, rfl, p, _, rfl, SqA.t ep, fun lp nlp => ?_⟩
    have slp : Same H3 (upd H3 lp (.lst [.int h, .int t, .ref pq])) := same_new nlp
    have elp : upd H3 lp (.lst [.int h, .int t, .ref pq]) lp = some (.lst [.int h, .int t, .ref pq]) := upd_same
    have zlp : Zb lp = false := hz3.new nlp
    generalize upd H3 lp (.lst [.int h, .int t, .ref pq]) = O0 at slp elp
    have sA0 := slp
    refine ⟨Nat.zero_le _, fun t0 nt0 => ?_⟩
    have st0 : Same O0 (upd O0 t0 (.tup [])) := same_new nt0
    have et0 : upd O0 t0 (.tup []) t0 = some (.tup []) := upd_same
    have zt0 : Zb t0 = false := (hz3.same sA0).new nt0
    generalize upd O0 t0 (.tup []) = O1 at st0 et0
    have sA1 := sA0.trans st0
    refine ⟨(by show 3 ≤ sizeLine; decide), fun t1 nt1 => ?_⟩
    have st1 : Same O1 (upd O1 t1 (.tup [.int 0, .int 0, .ref t0])) := same_new nt1
    have et1 : upd O1 t1 (.tup [.int 0, .int 0, .ref t0]) t1 = some (.tup [.int 0, .int 0, .ref t0]) := upd_same
    have zt1 : Zb t1 = false := (hz3.same sA1).new nt1
    generalize upd O1 t1 (.tup [.int 0, .int 0, .ref t0]) = O2 at st1 et1
    have sA2 := sA1.trans st1
    refine ⟨(by show 3 ≤ sizeLine; decide), fun t2 nt2 => ?_⟩
    have st2 : Same O2 (upd O2 t2 (.tup [.int 0, .int 0, .int 0])) := same_new nt2
    have et2 : upd O2 t2 (.tup [.int 0, .int 0, .int 0]) t2 = some (.tup [.int 0, .int 0, .int 0]) := upd_same
    have zt2 : Zb t2 = false := (hz3.same sA2).new nt2
    generalize upd O2 t2 (.tup [.int 0, .int 0, .int 0]) = O3 at st2 et2
    have sA3 := sA2.trans st2
    refine ⟨(by show 1 ≤ sizeLine; decide), fun t3 nt3 => ?_⟩
    have st3 : Same O3 (upd O3 t3 (.tup [.ref t2])) := same_new nt3
    have et3 : upd O3 t3 (.tup [.ref t2]) t3 = some (.tup [.ref t2]) := upd_same
    have zt3 : Zb t3 = false := (hz3.same sA3).new nt3
    generalize upd O3 t3 (.tup [.ref t2]) = O4 at st3 et3
    have sA4 := sA3.trans st3
    refine ⟨(by show 3 ≤ sizeLine; decide), fun t4 nt4 => ?_⟩
    have st4 : Same O4 (upd O4 t4 (.tup [.int 0, .int 0, .ref t3])) := same_new nt4
    have et4 : upd O4 t4 (.tup [.int 0, .int 0, .ref t3]) t4 = some (.tup [.int 0, .int 0, .ref t3]) := upd_same
    have zt4 : Zb t4 = false := (hz3.same sA4).new nt4
    generalize upd O4 t4 (.tup [.int 0, .int 0, .ref t3]) = O5 at st4 et4
    have sA5 := sA4.trans st4
    refine ⟨(by show 3 ≤ sizeLine; decide), fun t5 nt5 => ?_⟩
    have st5 : Same O5 (upd O5 t5 (.tup [.int 0, .int 0, .int 1])) := same_new nt5
    have et5 : upd O5 t5 (.tup [.int 0, .int 0, .int 1]) t5 = some (.tup [.int 0, .int 0, .int 1]) := upd_same
    have zt5 : Zb t5 = false := (hz3.same sA5).new nt5
    generalize upd O5 t5 (.tup [.int 0, .int 0, .int 1]) = O6 at st5 et5
    have sA6 := sA5.trans st5
    refine ⟨(by show 1 ≤ sizeLine; decide), fun t6 nt6 => ?_⟩
    have st6 : Same O6 (upd O6 t6 (.tup [.ref t5])) := same_new nt6
    have et6 : upd O6 t6 (.tup [.ref t5]) t6 = some (.tup [.ref t5]) := upd_same
    have zt6 : Zb t6 = false := (hz3.same sA6).new nt6
    generalize upd O6 t6 (.tup [.ref t5]) = O7 at st6 et6
    have sA7 := sA6.trans st6
    refine ⟨(by show 3 ≤ sizeLine; decide), fun t7 nt7 => ?_⟩
    have st7 : Same O7 (upd O7 t7 (.tup [.int 0, .int 0, .ref t6])) := same_new nt7
    have et7 : upd O7 t7 (.tup [.int 0, .int 0, .ref t6]) t7 = some (.tup [.int 0, .int 0, .ref t6]) := upd_same
    have zt7 : Zb t7 = false := (hz3.same sA7).new nt7
    generalize upd O7 t7 (.tup [.int 0, .int 0, .ref t6]) = O8 at st7 et7
    have sA8 := sA7.trans st7
    refine ⟨(by show 5 ≤ sizeLine; decide), fun th0 nth0 => ?_⟩
    have sth0 : Same O8 (upd O8 th0 (.lst [.ref p, .ref lp, .ref t1, .ref t4, .ref t7])) := same_new nth0
    have eth0 : upd O8 th0 (.lst [.ref p, .ref lp, .ref t1, .ref t4, .ref t7]) th0 = some (.lst [.ref p, .ref lp, .ref t1, .ref t4, .ref t7]) := upd_same
    have zth0 : Zb th0 = false := (hz3.same sA8).new nth0
    generalize upd O8 th0 (.lst [.ref p, .ref lp, .ref t1, .ref t4, .ref t7]) = O9 at sth0 eth0
    have sA9 := sA8.trans sth0
    refine ⟨_, rfl, (by show 3 ≤ sizeLine; decide), fun u0 nu0 => ?_⟩
    have su0 : Same O9 (upd O9 u0 (.tup [.int 1, .int 1, .int 1])) := same_new nu0
    have eu0 : upd O9 u0 (.tup [.int 1, .int 1, .int 1]) u0 = some (.tup [.int 1, .int 1, .int 1]) := upd_same
    have zu0 : Zb u0 = false := (hz3.same sA9).new nu0
    generalize upd O9 u0 (.tup [.int 1, .int 1, .int 1]) = O10 at su0 eu0
    have sA10 := sA9.trans su0
    refine ⟨(by show 1 ≤ sizeLine; decide), fun u1 nu1 => ?_⟩
    have su1 : Same O10 (upd O10 u1 (.tup [.ref u0])) := same_new nu1
    have eu1 : upd O10 u1 (.tup [.ref u0]) u1 = some (.tup [.ref u0]) := upd_same
    have zu1 : Zb u1 = false := (hz3.same sA10).new nu1
    generalize upd O10 u1 (.tup [.ref u0]) = O11 at su1 eu1
    have sA11 := sA10.trans su1
    refine ⟨Nat.zero_le _, fun u2 nu2 => ?_⟩
    have su2 : Same O11 (upd O11 u2 (.tup [])) := same_new nu2
    have eu2 : upd O11 u2 (.tup []) u2 = some (.tup []) := upd_same
    have zu2 : Zb u2 = false := (hz3.same sA11).new nu2
    generalize upd O11 u2 (.tup []) = O12 at su2 eu2
    have sA12 := sA11.trans su2
    refine ⟨(by show 4 ≤ sizeLine; decide), fun th1 nth1 => ?_⟩
    have sth1 : Same O12 (upd O12 th1 (.lst [.ref u1, .non, .str "fleet", .ref u2])) := same_new nth1
    have eth1 : upd O12 th1 (.lst [.ref u1, .non, .str "fleet", .ref u2]) th1 = some (.lst [.ref u1, .non, .str "fleet", .ref u2]) := upd_same
    have zth1 : Zb th1 = false := (hz3.same sA12).new nth1
    generalize upd O12 th1 (.lst [.ref u1, .non, .str "fleet", .ref u2]) = O13 at sth1 eth1
    have sA13 := sA12.trans sth1
    replace elp := (((((((((((((st0).trans st1).trans st2).trans st3).trans st4).trans st5).trans st6).trans st7).trans sth0).trans su0).trans su1).trans su2).trans sth1) _ _ elp
    replace et0 := ((((((((((((st1).trans st2).trans st3).trans st4).trans st5).trans st6).trans st7).trans sth0).trans su0).trans su1).trans su2).trans sth1) _ _ et0
    replace et1 := (((((((((((st2).trans st3).trans st4).trans st5).trans st6).trans st7).trans sth0).trans su0).trans su1).trans su2).trans sth1) _ _ et1
    replace et2 := ((((((((((st3).trans st4).trans st5).trans st6).trans st7).trans sth0).trans su0).trans su1).trans su2).trans sth1) _ _ et2
    replace et3 := (((((((((st4).trans st5).trans st6).trans st7).trans sth0).trans su0).trans su1).trans su2).trans sth1) _ _ et3
    replace et4 := ((((((((st5).trans st6).trans st7).trans sth0).trans su0).trans su1).trans su2).trans sth1) _ _ et4
    replace et5 := (((((((st6).trans st7).trans sth0).trans su0).trans su1).trans su2).trans sth1) _ _ et5
    replace et6 := ((((((st7).trans sth0).trans su0).trans su1).trans su2).trans sth1) _ _ et6
    replace et7 := (((((sth0).trans su0).trans su1).trans su2).trans sth1) _ _ et7
    replace eth0 := ((((su0).trans su1).trans su2).trans sth1) _ _ eth0
    replace eu0 := (((su1).trans su2).trans sth1) _ _ eu0
    replace eu1 := ((su2).trans sth1) _ _ eu1
    replace eu2 := (sth1) _ _ eu2
    refine ⟨th0, th1, _, _, rfl, rfl, eth0, eth1, (by show 9 ≤ sizeLine; decide), fun th nth => ?_⟩
    have sB := sA13.trans (same_new nth (o := .lst ([.ref p, .ref lp, .ref t1, .ref t4, .ref t7] ++ [.ref u1, .non, .str "fleet", .ref u2])))
    have eB : upd O13 th (.lst ([.ref p, .ref lp, .ref t1, .ref t4, .ref t7] ++ [.ref u1, .non, .str "fleet", .ref u2])) th = some (.lst ([.ref p, .ref lp, .ref t1, .ref t4, .ref t7] ++ [.ref u1, .non, .str "fleet", .ref u2])) := upd_same
    have sN : Same O13 (upd O13 th (.lst ([.ref p, .ref lp, .ref t1, .ref t4, .ref t7] ++ [.ref u1, .non, .str "fleet", .ref u2]))) := same_new nth
    have zth : Zb th = false := (hz3.same sA13).new nth
    have T0 : ∀ {a : Addr} {xs : List V}, Zb a = false → O13 a = some (.tup xs) → SqT K (hide Zb O13) a xs := fun z e => SqT.of (hide_at z e)
    have ft0 : FltT (hide Zb O13) p h t ss := FltT.same ⟨pq, rs, ep0, eq0, er0⟩ (hide_of sA13)
    have dP0 : Dp K (hide Zb O13) (.ref p) (.tuple [.int h, .int t, .tuple (ss.map srtD)]) := ft0.dp
    have dPL : Dp K (hide Zb O13) (.ref lp) (.list [.int h, .int t, .tuple (ss.map srtD)]) := by
      have hs : DpAll K (hide Zb O13) (rs.map V.ref) (ss.map srtD) := srts_dp (er0.same (hide_of sA13))
      exact .lst (SqL.of (hide_at zlp elp)) (.cons (.int _) (.cons (.int _) (.cons (.tup (SqT.of ((hide_of (Z := Zb) sA13) _ _ eq0)) hs) .nil)))
    have a1 : DpAll K (hide Zb O13) [.ref p, .ref lp, .ref t1, .ref t4, .ref t7] [.tuple [.int h, .int t, .tuple (ss.map srtD)], .list [.int h, .int t, .tuple (ss.map srtD)], .tuple [.int 0, .int 0, .tuple []], .tuple [.int 0, .int 0, .tuple [.tuple [.int 0, .int 0, .int 0]]], .tuple [.int 0, .int 0, .tuple [.tuple [.int 0, .int 0, .int 1]]]] :=
      .cons dP0 (.cons dPL (.cons (.tup (T0 zt1 et1) (.cons (.int 0) (.cons (.int 0) (.cons (.tup (T0 zt0 et0) .nil) .nil))))
        (.cons (.tup (T0 zt4 et4) (.cons (.int 0) (.cons (.int 0) (.cons (.tup (T0 zt3 et3) (.cons (.tup (T0 zt2 et2) (.cons (.int 0) (.cons (.int 0) (.cons (.int 0) .nil)))) .nil)) .nil))))
        (.cons (.tup (T0 zt7 et7) (.cons (.int 0) (.cons (.int 0) (.cons (.tup (T0 zt6 et6) (.cons (.tup (T0 zt5 et5) (.cons (.int 0) (.cons (.int 0) (.cons (.int 1) .nil)))) .nil)) .nil)))) .nil))))
    have a2 : DpAll K (hide Zb O13) [.ref u1, .non, .str "fleet", .ref u2] [.tuple [.tuple [.int 1, .int 1, .int 1]], .none, .str "fleet", .tuple []] :=
      .cons (.tup (T0 zu1 eu1) (.cons (.tup (T0 zu0 eu0) (.cons (.int 1) (.cons (.int 1) (.cons (.int 1) .nil)))) .nil)) (.cons .non (.cons (.str "fleet") (.cons (.tup (T0 zu2 eu2) .nil) .nil)))
    have gd0 := gf.d0
    have gcnt := gf.cnt
    have gh := gf.h0
    have gt := gf.t0
    have bF := fun {n : Nat} (n4 : 4 ≤ n) => bd_flt (n := n) (h := h) (t := t) (ss := ss) n4 l4 (by omega) (by omega) fun x hx => by
      have a := gd0 x hx
      have c := gcnt x hx
      omega
    have bs : ∀ (a b c : Int), 0 ≤ a → a ≤ 1 → 0 ≤ b → b ≤ 1 → 0 ≤ c → c ≤ 1 → Bd 40 1000000000000000000000000000000 2 (.tuple [.int a, .int b, .int c]) := fun a b c a0 a1 b0 b1 c0 c1 => ⟨by show 3 ≤ 40; decide, fun e he => by
      have e3 : e = .int a ∨ e = .int b ∨ e = .int c := by simpa using he
      rcases e3 with rfl | rfl | rfl <;> exact ⟨by omega, by omega⟩⟩
    have bo : ∀ {d : PyData}, Bd 40 1000000000000000000000000000000 2 d → Bd 40 1000000000000000000000000000000 3 (.tuple [d]) := fun h => ⟨by show 1 ≤ 40; decide, fun e he => by rw [List.mem_singleton.mp he]; exact h⟩
    have b3 : ∀ {d : PyData}, Bd 40 1000000000000000000000000000000 3 d → Bd 40 1000000000000000000000000000000 4 (.tuple [.int 0, .int 0, d]) := fun h => ⟨by show 3 ≤ 40; decide, fun e he => by
      rcases List.mem_cons.mp he with rfl | he
      · exact ⟨by decide, by decide⟩
      rcases List.mem_cons.mp he with rfl | he
      · exact ⟨by decide, by decide⟩
      rw [List.mem_singleton.mp he]
      exact h⟩
    have th4 : ∀ {d : PyData}, Bd 40 1000000000000000000000000000000 4 d → szD 4 d ≤ 1000000 → Thing d := fun h z => ⟨40, 4, _, h, by decide, by decide, by decide, z⟩
    have nil3 : Bd 40 1000000000000000000000000000000 3 (.tuple []) := ⟨by decide, fun e he => by cases he⟩
    have all9 : ∀ e ∈ [.tuple [.int h, .int t, .tuple (ss.map srtD)], .list [.int h, .int t, .tuple (ss.map srtD)], .tuple [.int 0, .int 0, .tuple []], .tuple [.int 0, .int 0, .tuple [.tuple [.int 0, .int 0, .int 0]]], .tuple [.int 0, .int 0, .tuple [.tuple [.int 0, .int 0, .int 1]]]] ++ [.tuple [.tuple [.int 1, .int 1, .int 1]], .none, .str "fleet", .tuple []], Thing e := by
      intro e he
      rcases List.mem_append.mp he with he | he
      · rcases List.mem_cons.mp he with rfl | he
        · exact th4 (bF (by decide)).1.1 (Nat.le_trans (bF (Nat.le_refl 4)).2.1 (by decide))
        rcases List.mem_cons.mp he with rfl | he
        · exact th4 (bF (by decide)).1.2 (Nat.le_trans (bF (Nat.le_refl 4)).2.2 (by decide))
        rcases List.mem_cons.mp he with rfl | he
        · exact th4 (b3 nil3) (by decide)
        rcases List.mem_cons.mp he with rfl | he
        · exact th4 (b3 (bo (bs 0 0 0 (by decide) (by decide) (by decide) (by decide) (by decide) (by decide)))) (by decide)
        rw [List.mem_singleton.mp he]
        exact th4 (b3 (bo (bs 0 0 1 (by decide) (by decide) (by decide) (by decide) (by decide) (by decide)))) (by decide)
      · rcases List.mem_cons.mp he with rfl | he
        · exact th4 ((bo (bs 1 1 1 (by decide) (by decide) (by decide) (by decide) (by decide) (by decide))).mono (Nat.le_refl _) (Int.le_refl _) (by decide)) (by decide)
        rcases List.mem_cons.mp he with rfl | he
        · exact th4 trivial (by decide)
        rcases List.mem_cons.mp he with rfl | he
        · exact th4 (bd_text "fleet" (by decide)) (by decide)
        rw [List.mem_singleton.mp he]
        exact th4 ⟨by decide, fun e he => by cases he⟩ (by decide)
    have a3 := DpAll.same (hide_of (Z := andZ Zb th) sN) (DpAll.same (hide_more nth) (dpall_app a1 a2))
    have fB := (ft0.same (hide_more nth)).same (hide_of (Z := andZ Zb th) sN)
    have hzB : Hid (andZ Zb th) (upd O13 th (.lst ([.ref p, .ref lp, .ref t1, .ref t4, .ref t7] ++ [.ref u1, .non, .str "fleet", .ref u2]))) := (hz3.same sB).more eB
    have uB := u3.trans (Same.but (b := b) sB)
    have xB := x3.same sB
    have lw : ([.ref p, .ref lp, .ref t1, .ref t4, .ref t7] ++ [.ref u1, .non, .str "fleet", .ref u2] : List V).length = 9 := rfl
    have thb : th ≠ b := fun e => by rw [e, zb] at zth; cases zth
    have nth2 : H th = none := But.free u3 thb (sA13.free nth)
    generalize upd O13 th (.lst ([.ref p, .ref lp, .ref t1, .ref t4, .ref t7] ++ [.ref u1, .non, .str "fleet", .ref u2])) = H4 at sB eB a3 hzB uB xB fB
    generalize ([.ref p, .ref lp, .ref t1, .ref t4, .ref t7] ++ [.ref u1, .non, .str "fleet", .ref u2] : List V) = ws0 at eB a3 lw
    clear a1 a2 T0 dP0 dPL ft0 sN ft
    refine ⟨20, rfl, by decide, by decide, for_range (lo := 0) (n := 20) (fun i σ H' => ∃ (y3 y4 : Option V) (ws : List V) (es : List PyData), σ = [some (.ref b), some (.ref p), some (.ref th), y3, y4, none, none, none, none, none, none, none, none, none] ∧ But b H H' ∧ BoxAt (H') b (70000 - 60 * i) ∧ Hid (andZ Zb th) (H') ∧ (H') th = some (.lst ws) ∧ ws.length ≤ 9 + i ∧ DpAll K (hide (andZ Zb th) (H')) ws es ∧ (∀ e ∈ es, Thing e) ∧ FltT (hide (andZ Zb th) (H')) p h t ss)
      ⟨none, none, ws0, _, rfl, uB, xB, hzB, eB, by omega, a3, all9, fB⟩ ?_ ?_⟩
    · rintro i σ Ha hi ⟨y3, y4, ws, es, rfl, ua, xa, hza, ea, la, aa, ta, fa⟩
      have hi20 : i < 20 := hi
      have fin : ∀ (Hx : Hp) (vx : V) (dx : PyData) (y3' y4' : Option V), But b H Hx → BoxAt Hx b (70000 - 60 * (i + 1)) → Hid (andZ Zb th) Hx → Hx th = some (.lst ws) → Same (hide (andZ Zb th) Ha) (hide (andZ Zb th) Hx) → Dp K (hide (andZ Zb th) Hx) vx dx → Thing dx →
          ∃ (y3 y4 : Option V) (ws' : List V) (es : List PyData), [some (V.ref b), some (V.ref p), some (V.ref th), y3', y4', none, none, none, none, none, none, none, none, none] = [some (.ref b), some (.ref p), some (.ref th), y3, y4, none, none, none, none, none, none, none, none, none] ∧ But b H (upd Hx th (.lst (ws ++ [vx]))) ∧ BoxAt ((upd Hx th (.lst (ws ++ [vx])))) b (70000 - 60 * (i + 1)) ∧ Hid (andZ Zb th) ((upd Hx th (.lst (ws ++ [vx])))) ∧ ((upd Hx th (.lst (ws ++ [vx])))) th = some (.lst ws') ∧ ws'.length ≤ 9 + (i + 1) ∧ DpAll K (hide (andZ Zb th) ((upd Hx th (.lst (ws ++ [vx]))))) ws' es ∧ (∀ e ∈ es, Thing e) ∧ FltT (hide (andZ Zb th) ((upd Hx th (.lst (ws ++ [vx]))))) p h t ss := fun Hx vx dx y3' y4' u x hz e s dd td => by
        have hy : Same (hide (andZ Zb th) Hx) (hide (andZ Zb th) (upd Hx th (.lst (ws ++ [vx])))) := fun a o h => by
          obtain ⟨z, e⟩ := hide_some h
          refine hide_at z ?_
          rw [upd_ne (fun q => by rw [q, andZ_self] at z; cases z)]
          exact e
        have s2 := s.trans hy
        refine ⟨y3', y4', ws ++ [vx], es ++ [dx], rfl, u.put nth2, x.at (Ne.symm thb), fun a z q => ?_, upd_same, by rw [List.length_append]; show ws.length + 1 ≤ _; omega, dpall_app (DpAll.same s2 aa) (.cons (Dp.same hy dd) .nil), fun e he => ?_, fa.same s2⟩
        · by_cases y : a = th
          · rw [y, upd_same] at q
            cases q
          · rw [upd_ne y] at q
            exact hz a z q
        · rcases List.mem_append.mp he with y | y
          · exact ta e y
          · rw [List.mem_singleton.mp y]
            exact td
      have zbb : andZ Zb th b = true := andZ_of zb
      refine ⟨_, rfl, _, rfl, b, 70000 - 60 * i - 15, 4, 4, 1000000000000000000000000000000, andZ Zb th, .ref p, (.tuple [.int h, .int t, .tuple (ss.map srtD)]), rfl, by decide, xa.mono (by omega), zbb, hza, fa.dp, (bF (Nat.le_refl 4)).1.1, by decide, by decide, by decide, by decide, fun Hd v1 d1 ud xd hzd dd1 bd1 sz1 => ?_⟩
      have ed := ud _ _ thb ea
      have sd := hide_but zbb ud
      replace ud := ua.trans ud
      have sz2 : szD 6 d1 ≤ 2300 := Nat.le_trans sz1 (by have := (bF (Nat.le_refl 4)).2.1; omega)
      refine ⟨_, rfl, .inl ⟨rfl, _, SqL.of ed⟩, ?_⟩
      refine ⟨_, rfl, b, 70000 - 60 * i - 16, 3, rfl, by decide, by decide, xd.mono (by omega), fun v3 ys3 v30 v31 hy3 => ?_⟩
      have ue : But b Hd (upd Hd b (.lst ys3)) := But.ups
      have xe : BoxAt (upd Hd b (.lst ys3)) b (70000 - 60 * i - 16) := .put hy3
      have hze := hzd.but ue xe
      have ee := ue _ _ thb ed
      have sde := hide_but zbb ue
      have se := sd.trans sde
      generalize upd Hd b (.lst ys3) = He at ue xe hze ee sde se
      replace ue := ud.trans ue
      have dde := Dp.same sde dd1
      have lws : ws.length < sizeLine := Nat.lt_of_lt_of_le (show ws.length < 100 by omega) (by decide)
      refine ⟨rfl, _, rfl, ite2 (fun c => ?_) (fun c => ?_)⟩
      · refine ⟨_, rfl, _, rfl, b, 70000 - 60 * i - 40, 5, 6, 1000000000000000000000000000001, andZ Zb th, v1, d1, rfl, by decide, xe.mono (by omega), zbb, hze, dde, bd1, by decide, by decide, by decide, by decide, fun Hf v2 d2 uf xf hzf dd2 bd2 sz3 => ?_⟩
        have ef := uf _ _ thb ee
        have sz4 : szD 8 d2 ≤ 2 * szD 6 d1 + 300 := sz3
        refine ⟨th, ws, v2, rfl, rfl, ef, lws, ?_⟩
        exact fin Hf v2 d2 _ _ (ue.trans uf) (xf.mono (by omega)) hzf ef (se.trans (hide_but zbb uf)) dd2 ⟨6, 8, _, bd2, by decide, by decide, by decide, by omega⟩
      · refine ⟨_, rfl, th, ws, v1, rfl, rfl, ee, lws, ?_⟩
        exact fin He v1 d1 _ _ ue (xe.mono (by omega)) hze ee se dde ⟨5, 6, _, bd1, by decide, by decide, by decide, by omega⟩
    rintro σ H5 ⟨y3, y4, ws, es, rfl, u5, x5, hz5, e5, l5, a5, t5, f5⟩
    have f5' := f5.same (hide_same (Z := andZ Zb th) (H := H5))
    clear bF bs bo b3 th4 all9 nil3
    refine ⟨_, rfl, th, ws, H5, rfl, SqA.l e5, Kp.refl _ _, fun J hJ => ?_⟩
    obtain ⟨G, g, W⟩ := hJ.walk
    have lx := DpAll.len a5
    refine for_it W (fun i σ H' => ∃ (y3 y4 y5 y6 y7 : Option V), σ = [some (.ref b), some (.ref p), some (.ref th), y3, y4, y5, y6, y7, none, none, none, none, none, none] ∧ Same H5 H') ⟨_, _, _, _, _, rfl, Same.refl _⟩ (fun i σ H' _ ⟨_, _, _, _, _, _, z⟩ => g H' (.ofS z)) ?_ ?_
    · rintro i v σ Ha Hb hi ⟨y3, y4, y5, y6, y7, rfl, sm⟩ ⟨rfl, gx⟩
      obtain ⟨d, gd, hd⟩ := DpAll.get a5 gx
      obtain ⟨n, m, B, bd, n6, m6, B6, ln⟩ := t5 d (List.mem_of_getElem? gd)
      have dpv : ∀ {H' : Hp}, Same H5 H' → Dp K H' v d := fun s => Dp.same s (Dp.same hide_same hd)
      have fit := bd.fitS B6
      have fsz : d.shown.length ≤ sizeLine := fit.sz ln
      have fsh : SeqAt.shaped d = true := fit.shaped (by omega)
      refine ⟨_, rfl, v, d, rfl, dpv sm, fsh, fit.sh, fsz, ?_⟩
      generalize hT : PyData.shown d = txt
      have lv : Lv m d := bd.lv (by omega)
      refine ⟨_, rfl, n, m, B, v, d, rfl, dpv sm, fsh, bd, n6, m6, fun {m'} {e} be l => ((be.fit30 B6).shaped (by omega)), fun Hc sc => ?_⟩
      refine ⟨_, _, rfl, ?_⟩
      have s5c := sm.trans sc
      refine ⟨_, rfl, m, v, d, rfl, dpv s5c, lv, fun Hd sd => ?_⟩
      have s5d := s5c.trans sd
      refine ⟨_, rfl, ⟨rfl, rfl⟩, m, v, d, rfl, dpv s5d, lv, fun He se => ?_⟩
      have s5e := s5d.trans se
      refine ⟨(by show 2 ≤ sizeLine; decide), fun tl ntl => ?_⟩
      have sf : Same He (upd He tl (.lst [.bl (isFltD d), .bl (isFltD d)])) := same_new ntl
      have ef : upd He tl (.lst [.bl (isFltD d), .bl (isFltD d)]) tl = some (.lst [.bl (isFltD d), .bl (isFltD d)]) := upd_same
      generalize upd He tl (.lst [.bl (isFltD d), .bl (isFltD d)]) = Hf at sf ef
      refine ⟨_, rfl, _, rfl, (by show 2 ≤ sizeLine; decide), fun dl ndl => ?_⟩
      have si : Same Hf (upd Hf dl (.lst [.bl (isFltD d), .bl (isFltD d)])) := same_new ndl
      have ei : upd Hf dl (.lst [.bl (isFltD d), .bl (isFltD d)]) dl = some (.lst [.bl (isFltD d), .bl (isFltD d)]) := upd_same
      generalize upd Hf dl (.lst [.bl (isFltD d), .bl (isFltD d)]) = Hi at si ei
      have two : ∀ {H' : Hp} {a : Addr}, H' a = some (.lst [.bl (isFltD d), .bl (isFltD d)]) → Dp K H' (.ref a) (.list [.bool (isFltD d), .bool (isFltD d)]) := fun e => .lst (SqL.of e) (.cons (.bl _) (.cons (.bl _) .nil))
      refine ⟨.ref tl, .ref dl, .list [.bool (isFltD d), .bool (isFltD d)], rfl, two (si _ _ ef), two ei, ⟨by show 2 ≤ 100000; decide, fun e he => ?_⟩, fun Hj sj => ?_⟩
      · have e2 : e = .bool (isFltD d) := by simpa using he
        rw [e2]
        trivial
      have s5j := s5e.trans (sf.trans (si.trans sj))
      refine ⟨true, rfl, iteF ?_⟩
      refine ⟨_, rfl, v, d, rfl, dpv s5j, fsh, fit.sh, fsz, ?_⟩
      rw [hT]
      refine ⟨_, rfl, rfl, _, rfl, iteNS rfl ?_⟩
      exact ⟨_, _, _, _, _, rfl, s5j⟩
    rintro σ H6 ⟨y3, y4, y5, y6, y7, rfl, s6⟩
    have f6 := f5'.same s6
    have u6 := u5.trans (Same.but (b := b) s6)
    clear W g hJ J G f5' f5 a5 t5 e5 x5 hz5 s6 u5
    -- its ships
    refine ⟨Nat.zero_le _, fun dl ndl => ?_⟩
    have s1 : Same H6 (upd H6 dl (.lst [])) := same_new ndl
    have e1 : upd H6 dl (.lst []) dl = some (.lst ((seaDs (ss.take 0)).map V.int)) := upd_same
    generalize upd H6 dl (.lst []) = H7 at s1 e1
    refine ⟨Nat.zero_le _, fun st nst => ?_⟩
    have s2 : Same H7 (upd H7 st (.lst [])) := same_new nst
    have e2 : upd H7 st (.lst []) st = some (.lst (ni (seaL (ss.take 0)))) := upd_same
    generalize upd H7 st (.lst []) = H8a at s2 e2
    refine ⟨(by show 2 ≤ sizeLine; decide), fun pr npr => ?_⟩
    have s2b : Same H8a (upd H8a pr (.tup [.ref dl, .ref st])) := same_new npr
    have e2b : upd H8a pr (.tup [.ref dl, .ref st]) pr = some (.tup [.ref dl, .ref st]) := upd_same
    generalize upd H8a pr (.tup [.ref dl, .ref st]) = H8 at s2b e2b
    replace s2 := s2.trans s2b
    replace e2 := s2b _ _ e2
    clear s2b
    refine ⟨pr, _, rfl, SqA.t e2b, rfl, _, _, rfl, _, _, rfl, rfl, ?_⟩
    have f8 := f6.same (s1.trans s2)
    have u8 := u6.trans (Same.but (b := b) (s1.trans s2))
    replace e1 := s2 _ _ e1
    clear s1 s2 f6 u6 ndl nst npr e2b
    obtain ⟨pq, rs, gp, gq, gr⟩ := id f8
    refine ⟨_, rfl, p, _, 2, .ref pq, rfl, rfl, SqA.t gp, rfl, pq, _, H8, rfl, SqA.t gq, Kp.refl _ _, fun J hJ => ?_⟩
    obtain ⟨G, g, W⟩ := hJ.walk
    refine for_it W (fun i σ H' => ∃ (d l : Addr) (y3 y4 y5 y6 y7 y10 y11 y12 : Option V), σ = [some (.ref b), some (.ref p), some (.ref th), y3, y4, y5, y6, y7, some (.ref d), some (.ref l), y10, y11, y12, none] ∧ Same H8 H' ∧ H' d = some (.lst ((seaDs (ss.take i)).map V.int)) ∧ H' l = some (.lst (ni (seaL (ss.take i)))))
      ⟨dl, st, _, _, _, _, _, none, none, none, rfl, Same.refl _, e1, e2⟩ (fun i σ H' _ ⟨_, _, _, _, _, _, _, _, _, _, _, z, _⟩ => g H' (.ofS z)) ?_ ?_
    · rintro i x σ Ha Hb hi ⟨d, l, y3, y4, y5, y6, y7, y10, y11, y12, rfl, sm, hd, hl⟩ ⟨rfl, gx⟩
      obtain ⟨r, hi', rfl, hr1⟩ := srt_at (K := K) (gr.a.same sm) gx
      have mi : mny (ss.take i) + (ss[i].2.1 + ss[i].2.2) ≤ mny ss := by
        have := mny_take ss (i + 1)
        rw [take_succ_get hi', mny_snoc] at this
        exact this
      have ml := seaDs_len (ss.take i)
      have mL := seaL_len (ss.take i)
      refine ⟨r, _, rfl, hr1, rfl, _, _, rfl, _, _, rfl, _, _, rfl, rfl, ?_⟩
      -- those that lie here
      refine ⟨_, rfl, _, rfl, _, rfl, by omega, by omega, fun C nC => ?_⟩
      rw [Int.toNat_natCast]
      refine lc_range (fun j H' => Same Hb H' ∧ H' C = some (.lst (ni (List.range' (mny (ss.take i)) j)))) ⟨same_new nC, upd_same⟩ ?_ ?_
      · rintro j Hc hj ⟨sc, hC⟩
        have hj2 : j < ss[i].2.1 := hj
        refine ⟨rfl, tyes (iteT ?_)⟩
        refine ⟨_, rfl, d, _, rfl, .inl (SqL.of (sc _ _ hd)), _, rfl, _, _, rfl, rfl, _, hC, ?_, same_over sc nC, ?_⟩
        · rw [ni_len, List.length_range']
          exact small1000 (by omega)
        · rw [upd_same, List.length_map, ml, List.range'_concat, ni_app]
          show some (HO.lst (_ ++ [V.int ((mny (ss.take i) : Nat) + (0 + (j : Int)))])) = some (HO.lst (_ ++ [V.int ((mny (ss.take i) + 1 * j : Nat) : Int)]))
          rw [Int.zero_add, Nat.one_mul, Int.natCast_add]
      rintro Hc ⟨sc, hC⟩
      have hlc := sc _ _ hl
      refine ⟨l, C, _, _, rfl, rfl, hlc, hC, ?_, fun l' nl' => ?_⟩
      · rw [ni_len, ni_len, List.length_range']
        exact Nat.le_trans (show _ ≤ 1000 by omega) (by decide)
      have sd : Same Hc (upd Hc l' (.lst (ni (seaL (ss.take i)) ++ ni (List.range' (mny (ss.take i)) ss[i].2.1)))) := same_new nl'
      have ed : upd Hc l' (.lst (ni (seaL (ss.take i)) ++ ni (List.range' (mny (ss.take i)) ss[i].2.1))) l' = some (.lst (ni (seaL (ss.take (i + 1))))) := by
        rw [upd_same, take_succ_get hi', seaL_snoc, ni_app]
      generalize upd Hc l' (.lst (ni (seaL (ss.take i)) ++ ni (List.range' (mny (ss.take i)) ss[i].2.1))) = Hd at sd ed
      -- draughts
      refine ⟨_, rfl, _, rfl, (by show 1 ≤ sizeLine; decide), fun lo nlo => ?_⟩
      have se : Same Hd (upd Hd lo (.lst [.int ss[i].1])) := same_new nlo
      have ee : upd Hd lo (.lst [.int ss[i].1]) lo = _ := upd_same
      generalize upd Hd lo (.lst [.int ss[i].1]) = He at se ee
      refine ⟨_, rfl, _, rfl, _, _, rfl, rfl, lo, _, _, rfl, rfl, ee, by omega, by omega, ?_, fun lp nlp => ?_⟩
      · show 1 * _ ≤ sizeLine
        rw [Nat.one_mul]
        exact Nat.le_trans (show _ ≤ 1000 by omega) (by decide)
      rw [rep_flat, show ((ss[i].2.1 : Int) + (ss[i].2.2 : Int)).toNat = ss[i].2.1 + ss[i].2.2 by omega]
      have sf : Same He (upd He lp (.lst (List.replicate (ss[i].2.1 + ss[i].2.2) (.int ss[i].1)))) := same_new nlp
      have ef : upd He lp (.lst (List.replicate (ss[i].2.1 + ss[i].2.2) (.int ss[i].1))) lp = _ := upd_same
      generalize upd He lp (.lst (List.replicate (ss[i].2.1 + ss[i].2.2) (.int ss[i].1))) = Hf at sf ef
      have sbf := sc.trans (sd.trans (se.trans sf))
      refine ⟨d, lp, _, _, rfl, rfl, sbf _ _ hd, ef, ?_, fun d' nd' => ?_⟩
      · rw [List.length_map, List.length_replicate, ml]
        exact Nat.le_trans (show _ ≤ 1000 by omega) (by decide)
      have sg := same_new (o := .lst ((seaDs (ss.take i)).map V.int ++ List.replicate (ss[i].2.1 + ss[i].2.2) (.int ss[i].1))) nd'
      refine ⟨d', l', _, _, _, _, _, _, _, _, rfl, sm.trans (sbf.trans sg), ?_, sg _ _ ((se.trans sf) _ _ ed)⟩
      rw [upd_same, take_succ_get hi', seaDs_snoc, List.map_append, List.map_replicate]
    rintro σ H9 ⟨d, l, y3, y4, y5, y6, y7, y10, y11, y12, rfl, s9, hd, hl⟩
    rw [List.length_map, gr.1, List.take_length] at hd hl
    have f9 := f8.same s9
    have gp9 := s9 _ _ gp
    have u9 := u8.trans (Same.but (b := b) s9)
    clear W g hJ J G f8 gr gq s9 u8
    refine ⟨_, rfl, p, _, 0, .int h, rfl, rfl, SqA.t gp9, rfl, _, rfl, p, _, 1, .int t, rfl, rfl, SqA.t gp9, rfl, _, rfl, d, _, rfl, .inl ⟨SqL.of hd, fun a na => ?_⟩⟩
    have sa : Same H9 (upd H9 a (.tup ((seaDs ss).map V.int))) := same_new na
    have ea : upd H9 a (.tup ((seaDs ss).map V.int)) a = _ := upd_same
    generalize upd H9 a (.tup ((seaDs ss).map V.int)) = Ha at sa ea
    refine ⟨(by show 3 ≤ sizeLine; decide), fun p2 np2 => ?_⟩
    have sb : Same Ha (upd Ha p2 (.tup [.int h, .int t, .ref a])) := same_new np2
    have eb : upd Ha p2 (.tup [.int h, .int t, .ref a]) p2 = _ := upd_same
    generalize upd Ha p2 (.tup [.int h, .int t, .ref a]) = Hb at sb eb
    have sab := sa.trans sb
    refine ⟨_, rfl, l, _, rfl, .inl ⟨SqL.of (sab _ _ hl), fun a3 na3 => ?_⟩⟩
    have sc : Same Hb (upd Hb a3 (.tup (ni (seaL ss)))) := same_new na3
    have ec : upd Hb a3 (.tup (ni (seaL ss))) a3 = _ := upd_same
    generalize upd Hb a3 (.tup (ni (seaL ss))) = Hc at sc ec
    refine ⟨(by show 2 ≤ sizeLine; decide), fun r nr => ?_⟩
    have sd : Same Hc (upd Hc r (.tup [.ref p2, .ref a3])) := same_new nr
    have ed : upd Hc r (.tup [.ref p2, .ref a3]) r = _ := upd_same
    generalize upd Hc r (.tup [.ref p2, .ref a3]) = Hd at sd ed
    have s9d := sab.trans (sc.trans sd)
    have eaD := (sb.trans (sc.trans sd)) _ _ ea
    have ebD := (sc.trans sd) _ _ eb
    have ecD := sd _ _ ec
    have dd : ∀ {H' : Hp} {r p q pl : Addr}, H' r = some (.tup [.ref p, .ref pl]) → H' p = some (.tup [.int h, .int t, .ref q]) → H' q = some (.tup ((seaDs ss).map V.int)) → H' pl = some (.tup (ni (seaL ss))) → Dp K H' (.ref r) (.tuple [.tuple [.int h, .int t, .tuple ((seaDs ss).map .int)], .tuple (((seaL ss).map fun (i : Nat) => (i : Int)).map .int)]) := fun {H'} {r} {p} {q} {pl} e1 e2 e3 e4 => by
      rw [ni_ints] at e4
      exact .tup (SqT.of e1) (.cons (.tup (SqT.of e2) (.cons (.int _) (.cons (.int _) (.cons (.tup (SqT.of e3) (DpAll.ints _)) .nil)))) (.cons (.tup (SqT.of e4) (DpAll.ints _)) .nil))
    have l5 : ss.length ≤ 1000 := by omega
    have m5 : mny ss ≤ 1000 := by omega
    refine ⟨_, rfl, .ref p, h, t, ss, rfl, (f9.same s9d).a, l5, m5, fun He r1 p1 q1 pl1 se er1 ep1 eq1 epl1 => ?_⟩
    have s9e := s9d.trans se
    refine ⟨_, rfl, .ref p, (.tuple [.int h, .int t, .tuple (ss.map srtD)]), rfl, (f9.same s9e).dp, tl_flt (n := 0) l5, fun Hf y sf ny => ?_⟩
    have dy := ny Hf (fun a o _ e => e)
    rw [ls_flt (n := 0)] at dy
    refine ⟨⟨rfl, rfl⟩, y, h, t, ss, rfl, flt_of dy, l5, m5, fun Hg r2 p2' q2 pl2 sg er2 ep2 eq2 epl2 => ?_⟩
    have seg := sf.trans sg
    refine ⟨(by show 2 ≤ sizeLine; decide), fun tl ntl => ?_⟩
    have sh : Same Hg (upd Hg tl (.lst [.ref r1, .ref r2])) := same_new ntl
    have eh : upd Hg tl (.lst [.ref r1, .ref r2]) tl = some (.lst [.ref r1, .ref r2]) := upd_same
    generalize upd Hg tl (.lst [.ref r1, .ref r2]) = Hh at sh eh
    refine ⟨_, rfl, _, rfl, (by show 2 ≤ sizeLine; decide), fun dl ndl => ?_⟩
    have si : Same Hh (upd Hh dl (.lst [.ref r, .ref r])) := same_new ndl
    have ei : upd Hh dl (.lst [.ref r, .ref r]) dl = some (.lst [.ref r, .ref r]) := upd_same
    generalize upd Hh dl (.lst [.ref r, .ref r]) = Hi at si ei
    have sgi := sh.trans si
    have sei := seg.trans sgi
    have sdi := se.trans sei
    have D1 := dd (sei _ _ er1) (sei _ _ ep1) (sei _ _ eq1) (sei _ _ epl1)
    have D2 := dd (sgi _ _ er2) (sgi _ _ ep2) (sgi _ _ eq2) (sgi _ _ epl2)
    have D3 := dd (sdi _ _ ed) (sdi _ _ ebD) (sdi _ _ eaD) (sdi _ _ ecD)
    have lds := seaDs_len ss
    have lLs := seaL_len ss
    have lv2 : ∀ {n : Nat}, Lv (n + 2) (.tuple ((seaDs ss).map .int)) := fun {n} => lv_intsT _ (by omega)
    have lv3 : ∀ {n : Nat}, Lv (n + 3) (.tuple [.int h, .int t, .tuple ((seaDs ss).map .int)]) := fun {n} => ⟨by show 3 ≤ 100000; decide, fun e he => by
      have e3 : e = .int h ∨ e = .int t ∨ e = .tuple ((seaDs ss).map .int) := by simpa using he
      rcases e3 with rfl | rfl | rfl
      · trivial
      · trivial
      · exact lv2⟩
    have lvL : ∀ {n : Nat}, Lv (n + 2) (.tuple (((seaL ss).map fun (i : Nat) => (i : Int)).map .int)) := fun {n} => lv_intsT _ (by rw [List.length_map]; omega)
    refine ⟨.ref tl, .ref dl, .list [_, _], rfl, .lst (SqL.of (si _ _ eh)) (.cons D1 (.cons D2 .nil)), .lst (SqL.of ei) (.cons D3 (.cons D3 .nil)), ⟨by show 2 ≤ 100000; decide, fun e he => ?_⟩, fun Hj sj => ?_⟩
    · have e2 : e = .tuple [.tuple [.int h, .int t, .tuple ((seaDs ss).map .int)], .tuple (((seaL ss).map fun (i : Nat) => (i : Int)).map .int)] := by
        rcases List.mem_cons.mp he with z | z
        · exact z
        · exact List.mem_singleton.mp z
      rw [e2]
      refine ⟨by show 2 ≤ 100000; decide, fun e he => ?_⟩
      rcases List.mem_cons.mp he with rfl | he
      · exact lv3 (n := 1)
      · rw [List.mem_singleton.mp he]
        exact lvL (n := 2)
    refine ⟨true, rfl, iteF ?_⟩
    have sdj := sdi.trans sj
    have so : SeaOk 1000 h t (seaDs ss) := ⟨gh.1, by omega, gt.1, by omega, by rw [lds]; exact gf.k0, by omega, fun x hx => by
      obtain ⟨y, hy, rfl⟩ := seaDs_mem hx
      have := gd0 y hy
      omega⟩
    have dS : ∀ {H' : Hp}, Same Hd H' → Dp K H' (.ref p2) (.tuple [.int h, .int t, .tuple ((seaDs ss).map .int)]) := fun s => .tup (SqT.of (s _ _ ebD)) (.cons (.int _) (.cons (.int _) (.cons (.tup (SqT.of (s _ _ eaD)) (DpAll.ints _)) .nil)))
    refine ⟨_, rfl, r, _, 0, .ref p2, rfl, rfl, SqA.t (sdj _ _ ed), rfl, 3, .ref p2, _, rfl, dS sdj, lv3 (n := 0), fun Hk sk => ?_⟩
    rw [sea_okS so]
    have sdk := sdj.trans sk
    refine ⟨true, true, rfl, rfl, _, rfl, ?_⟩
    refine ⟨_, rfl, r, _, 0, .ref p2, rfl, rfl, SqA.t (sdk _ _ ed), rfl, _, rfl, r, _, 1, .ref a3, rfl, rfl, SqA.t (sdk _ _ ed), rfl, 3, .ref p2, .ref a3, h, t, seaDs ss, _, rfl, ⟨p2, a, rfl, SqA.t (sdk _ _ ebD), SqA.t (sdk _ _ eaD)⟩, .tup (SqT.of (by have := sdk _ _ ecD; rw [ni_ints] at this; exact this)) (DpAll.ints _), lvL (n := 1), fun Hl sl => ?_⟩
    rw [stand_okS (seaL_lot ss)]
    exact ⟨true, true, rfl, rfl, q _ (u9.trans (Same.but (s9d.trans (sdk.trans sl))))⟩
end
end Sh

namespace Sh
open PySem PySem.Spec PyProof.Rows L2
/-! ### the law itself -/
def spLaw (K : PySem.W.Frag) : Sp := fun vs H Q _ => ∃ (a : Addr) (ns : List Int), vs = [.ref a] ∧ SqL K H a (ns.map V.int) ∧ ns.length ≤ 63 ∧ ∀ H', Q (.bl true) H'
abbrev s_law : Stmt := topS 24
theorem sc_law : FnScope (["_law_script", "_law_k"] : List Str) (["_law_script"] : List Str) (defScope s_law) := ⟨rfl, rfl, rfl, by decide +kernel, rfl, by decide +kernel, by decide +kernel⟩
theorem b_law (kV doc pm : Value) (an : Option Addr) (cdv ct : Value) (us : List Value) (hl : us.length = (["_law_script"] : List Str).length) : bindArgs (PySem.W.fnOf "law" "law" (defArgs s_law) (defBody s_law) (defScope s_law) .none kV doc pm an cdv ct) ⟨us, []⟩ = pure ((["_law_script"] : List Str).zip us) :=
  match us, hl with | [_], _ => rfl
section
variable {P : Program} {w : World} {K : PySem.W.Frag} {mg : Str → Option Value} {base : Heap}
theorem ok_law {k : Nat} (D : Df K mg "law" s_law) (T : Bt mg) (O__law_box : Ok P w K mg base k "_law_box" s__law_box ["_law_script", "_law_k"] (spBox K)) (O__law_right : OkG P w K mg base k "_law_right" s__law_right ["_law_box_here"] spRight) :
    OkG P w K mg base (k + 1) "law" s_law ["_law_script"] (spLaw K) := by
  refine D.okG sc_law b_law (fun vs H Q E h => ?_) (fun f cdv A outer s H vs Q E hr hG h => ?_)
  · obtain ⟨a, ns, rfl, _⟩ := h
    rfl
  · obtain ⟨a, ns, rfl, hS, hl, q⟩ := h
    refine ⟨_, (pss_one (ps_ret (pe_callB (cr_all rfl) (by rfl) T.all_ (by decide +kernel) (pa_cons (pe_lc (own := [("_law_k", 1)]) (g := (gName 1)) (tt := tYes) (by rfl) sc_law.nd (pi_range1 (by rfl) T.range_ (pa_cons (pe_op op_add pe_int (pe_callB (call_min2 rfl) (by rfl) T.min_ (by decide +kernel) (pa_cons pe_int (pa_cons (pe_callB call_len_seq (by rfl) T.len_ PySem.boot_len (pa_cons (pv 0) pa_nil)) pa_nil)))) pa_nil)) (blkOk_by (own := [("_law_k", 1)]) (N := (["_law_script", "_law_k"] : List Str)) (sc := defScope s_law) (by decide +kernel)) (fun _ _ _ _ _ => (pg_name (i := 1) sc_law.nd rfl (.inl rfl))) (fun _ _ _ _ _ => pts_nil) (fun _ _ _ _ _ => (pe_fnG O__law_right (hr.mono (by omega)) hG (pa_cons (pe_fn O__law_box (hr.mono (by omega)) (pa_cons (pv 0) (pa_cons (pv 1) pa_nil))) pa_nil)))) pa_nil)))), ?_⟩
    refine ⟨_, rfl, a, _, rfl, .inl hS, _, _, rfl, 1, _, rfl, rfl, _, rfl, ?_, ?_, fun C nC => ?_⟩
    · split <;> omega
    · rw [List.length_map]
      split <;> omega
    rw [List.length_map]
    generalize en : (1 + if (ns.length : Int) < 3 then (ns.length : Int) else 3).toNat = n
    have hn : n ≤ 4 := by
      rw [← en]
      split <;> omega
    refine lc_range (fun i H' => Same H H' ∧ H' C = some (.lst ((List.replicate i true).map V.bl))) ⟨same_new nC, upd_same⟩ ?_ ?_
    · rintro i H1 hi ⟨sm, hC⟩
      refine ⟨rfl, tyes (iteT ?_)⟩
      refine ⟨_, rfl, _, rfl, a, ns, i, ?_, by omega, sm.seq hS, fun b xs nb bx => ?_⟩
      · show [V.ref a, V.int (0 + (i : Int))] = _
        rw [Int.zero_add]
      refine ⟨b, rfl, (BoxAt.put bx).mono (by decide), fun H2 u2 => ?_⟩
      have nCb : C ≠ b := ne_of_none hC nb
      refine ⟨_, u2 _ _ nCb (by rw [upd_ne nCb]; exact hC), ?_, fun p o ho => ?_, ?_⟩
      · rw [List.length_map, List.length_replicate]
        exact small1000 (by omega)
      · have npb : p ≠ b := ne_of_none (sm _ _ ho) nb
        rw [upd_ne (ne_of_none ho nC)]
        exact u2 _ _ npb (by rw [upd_ne npb]; exact sm _ _ ho)
      · rw [upd_same, List.replicate_succ', List.map_append]
        rfl
    · rintro H1 ⟨sm, hC⟩
      refine ⟨C, _, rfl, SqL.of hC, ?_⟩
      have e : (List.replicate n true).all id = true := by simp
      rw [e]
      exact q _
theorem law_end {k : Nat} {fa : Addr} {sp : Sp} (D : Df K mg "law" s_law) (hfa : mg "law" = some (.ref fa)) (O : ∀ base, OkG P w K mg base k "law" s_law ["_law_script"] sp) :
    ∃ fd : FuncData, (∀ (s : Shared) (v : Value), BindsTo s fd ⟨[v], []⟩ [("_law_script", v)]) ∧ ∀ base : Heap, K.In base → base.Ns mainGlobals mg → FnG P w K mg base k fa fd ["_law_script"] sp := by
  obtain ⟨f, fd, F, g⟩ := D.ex
  obtain rfl : fa = f := by
    have e := hfa.symm.trans g
    cases e
    rfl
  refine ⟨fd, fun s v => ?_, fun base _ _ => ?_⟩
  · obtain ⟨oc, od, kV, doc, pm, an, cdv, ct, osl, rfl, lk, hcd⟩ := F.ex
    exact .of_eq (b_law kV doc pm an cdv ct [v] rfl)
  · obtain ⟨f', fd', F', g', _, G⟩ := (O base).ex
    obtain rfl : fa = f' := by
      have e := g.symm.trans g'
      cases e
      rfl
    obtain ⟨_, _, _, _, _, _, _, _, _, _, lk, _⟩ := F.ex
    obtain ⟨_, _, _, _, _, _, _, _, _, _, lk', _⟩ := F'.ex
    have e := lk.symm.trans lk'
    cases e
    exact G
theorem df_mk {x : Str} {st : Stmt} {h : Heap} {f : Addr} {oc : Value} {od an : Option Addr} {sl : Array (Option Value)} {kV dc pm cd ct : Value} (X : K.In h) (G : h.Ns mainGlobals mg)
    (a : PySem.W.nsIn K mainGlobals x = some (some (.ref f))) (l : K.lookup f = some ⟨oc, od, .func (PySem.W.fnOf x x (defArgs st) (defBody st) (defScope st) .none kV dc pm an cd ct), sl⟩)
    (c : PySem.W.codeIn K cd x = true) (k : PySem.W.keepIn K (.ref f) = true) : Df K mg x st := ⟨f, _, fun_mk l c k, PySem.W.mg_of X G a⟩
theorem with_df {R : Prop} {x : Str} {st : Stmt} {h : Heap} {f : Addr} {oc : Value} {od an : Option Addr} {sl : Array (Option Value)} {kV dc pm cd ct : Value} (X : K.In h) (G : h.Ns mainGlobals mg)
    (a : PySem.W.nsIn K mainGlobals x = some (some (.ref f))) (l : K.lookup f = some ⟨oc, od, .func (PySem.W.fnOf x x (defArgs st) (defBody st) (defScope st) .none kV dc pm an cd ct), sl⟩)
    (c : PySem.W.codeIn K cd x = true) (k : PySem.W.keepIn K (.ref f) = true) (r : Df K mg x st → R) : R := r (df_mk X G a l c k)
end
end Sh

open PySem PySem.W PyProof.Rows
set_option maxHeartbeats 0 in
theorem PySem.Challenge.cw_shoalmates_k24_fleets_or_not_holds : PySem.Challenge.rw_shoalmates_k24_fleets_or_not.Holds := by
  w_on; o_law; k_head; (case hw => w_witness2)
  k_fill
  refine Sh.walk_ofG (l := PySem.Challenge.rw_shoalmates_k24_fleets_or_not) (n := 63) (k := 12) (x := "_law_script") (sp := fun w => Sh.spLaw _) rfl (by decide) rfl ⟨rfl, by decide, by decide⟩ (fun w h Y => PySem.W.kIn_of Y) ?F (fun _ _ a ns hl _ hS => ⟨a, ns, rfl, hS, hl, fun _ => rfl⟩)
  case F =>
    intro w mg fa h KX G hmg
    have T : Sh.Bt mg := by
      constructor <;> (refine PySem.W.mg_none_of KX G ?_; k_is)

    refine' Sh.with_df (x := "is_number") (st := Sh.s_is_number) KX G ?a ?l ?c ?k fun D_is_number => ?_
    (case a => k_is); (case l => k_is); (case c => k_is); (case k => k_is)
    refine' Sh.with_df (x := "is_tuple_of") (st := Sh.s_is_tuple_of) KX G ?a ?l ?c ?k fun D_is_tuple_of => ?_
    (case a => k_is); (case l => k_is); (case c => k_is); (case k => k_is)
    refine' Sh.with_df (x := "are_rising") (st := Sh.s_are_rising) KX G ?a ?l ?c ?k fun D_are_rising => ?_
    (case a => k_is); (case l => k_is); (case c => k_is); (case k => k_is)
    refine' Sh.with_df (x := "is_sort") (st := Sh.s_is_sort) KX G ?a ?l ?c ?k fun D_is_sort => ?_
    (case a => k_is); (case l => k_is); (case c => k_is); (case k => k_is)
    refine' Sh.with_df (x := "is_fleet") (st := Sh.s_is_fleet) KX G ?a ?l ?c ?k fun D_is_fleet => ?_
    (case a => k_is); (case l => k_is); (case c => k_is); (case k => k_is)
    refine' Sh.with_df (x := "sea_of") (st := Sh.s_sea_of) KX G ?a ?l ?c ?k fun D_sea_of => ?_
    (case a => k_is); (case l => k_is); (case c => k_is); (case k => k_is)
    refine' Sh.with_df (x := "is_sea") (st := Sh.s_is_sea) KX G ?a ?l ?c ?k fun D_is_sea => ?_
    (case a => k_is); (case l => k_is); (case c => k_is); (case k => k_is)
    refine' Sh.with_df (x := "is_place") (st := Sh.s_is_place) KX G ?a ?l ?c ?k fun D_is_place => ?_
    (case a => k_is); (case l => k_is); (case c => k_is); (case k => k_is)
    refine' Sh.with_df (x := "is_standing") (st := Sh.s_is_standing) KX G ?a ?l ?c ?k fun D_is_standing => ?_
    (case a => k_is); (case l => k_is); (case c => k_is); (case k => k_is)
    refine' Sh.with_df (x := "_law_cell_at") (st := Sh.s__law_cell_at) KX G ?a ?l ?c ?k fun D__law_cell_at => ?_
    (case a => k_is); (case l => k_is); (case c => k_is); (case k => k_is)
    refine' Sh.with_df (x := "_law_box") (st := Sh.s__law_box) KX G ?a ?l ?c ?k fun D__law_box => ?_
    (case a => k_is); (case l => k_is); (case c => k_is); (case k => k_is)
    refine' Sh.with_df (x := "_law_take") (st := Sh.s__law_take) KX G ?a ?l ?c ?k fun D__law_take => ?_
    (case a => k_is); (case l => k_is); (case c => k_is); (case k => k_is)
    refine' Sh.with_df (x := "_law_of") (st := Sh.s__law_of) KX G ?a ?l ?c ?k fun D__law_of => ?_
    (case a => k_is); (case l => k_is); (case c => k_is); (case k => k_is)
    refine' Sh.with_df (x := "_law_same") (st := Sh.s__law_same) KX G ?a ?l ?c ?k fun D__law_same => ?_
    (case a => k_is); (case l => k_is); (case c => k_is); (case k => k_is)
    refine' Sh.with_df (x := "_law_fleet") (st := Sh.s__law_fleet) KX G ?a ?l ?c ?k fun D__law_fleet => ?_
    (case a => k_is); (case l => k_is); (case c => k_is); (case k => k_is)
    refine' Sh.with_df (x := "_law_lists") (st := Sh.s__law_lists) KX G ?a ?l ?c ?k fun D__law_lists => ?_
    (case a => k_is); (case l => k_is); (case c => k_is); (case k => k_is)
    refine' Sh.with_df (x := "_law_is_number") (st := Sh.s__law_is_number) KX G ?a ?l ?c ?k fun D__law_is_number => ?_
    (case a => k_is); (case l => k_is); (case c => k_is); (case k => k_is)
    refine' Sh.with_df (x := "_law_is_fleet") (st := Sh.s__law_is_fleet) KX G ?a ?l ?c ?k fun D__law_is_fleet => ?_
    (case a => k_is); (case l => k_is); (case c => k_is); (case k => k_is)
    refine' Sh.with_df (x := "_law_bent") (st := Sh.s__law_bent) KX G ?a ?l ?c ?k fun D__law_bent => ?_
    (case a => k_is); (case l => k_is); (case c => k_is); (case k => k_is)
    refine' Sh.with_df (x := "_law_right") (st := Sh.s__law_right) KX G ?a ?l ?c ?k fun D__law_right => ?_
    (case a => k_is); (case l => k_is); (case c => k_is); (case k => k_is)
    refine' Sh.with_df (x := "law") (st := Sh.s_law) KX G ?a ?l ?c ?k fun D_law => ?_
    (case a => k_is); (case l => k_is); (case c => k_is); (case k => k_is)
    exact Sh.law_end D_law hmg fun base =>
      let O__law_take := Sh.ok_take (base := base) (k := 0) D__law_take T
      let O__law_cell_at := Sh.ok_cell_at (base := base) (k := 0) D__law_cell_at T
      let O__law_box := Sh.ok_box (k := 1) D__law_box T O__law_cell_at
      let O__law_of := Sh.ok_of (k := 1) D__law_of T O__law_take
      let Oin := Sh.ok_is_number (base := base) (k := 0) D_is_number T
      let Oit := Sh.ok_is_tuple (base := base) (k := 0) D_is_tuple_of T
      let Ori := Sh.ok_rising (base := base) (k := 1) D_are_rising T
      let Oip := Sh.ok_is_place (k := 1) D_is_place T Oin
      let Ois := Sh.ok_is_sea (k := 1) D_is_sea T Oin Oit
      let Ost := Sh.ok_is_stand (k := 2) D_is_standing T Oip Ori
      let Oso := Sh.ok_is_sort (k := 1) D_is_sort T Oin Oit
      let Ofl := Sh.ok_is_fleet (k := 2) D_is_fleet T (Oin.mono (by decide)) (Oit.mono (by decide)) Oso Ori
      let Oln := Sh.ok_lnum (base := base) (k := 0) D__law_is_number T
      let Olf := Sh.ok_lfleet (k := 1) D__law_is_fleet T Oln
      let Obe := Sh.ok_bent (k := 3) D__law_bent T (O__law_take.mono (by decide)) (O__law_of.mono (by decide)) (Oln.mono (by decide)) 6
      let Ofd := Sh.ok_fleet (k := 5) D__law_fleet T (O__law_take.mono (by decide)) (O__law_of.mono (by decide))
      let Ose := Sh.ok_sea_of (base := base) (k := 0) D_sea_of T
      Sh.ok_law (k := 11) D_law T (O__law_box.mono (by decide)) (Sh.ok_right (k := 10) D__law_right T (O__law_take.mono (by decide)) (O__law_of.mono (by decide)) (Ofd.mono (by decide)) (Obe.mono (by decide)) ((Sh.ok_same D__law_same T 6).mono (by decide)) (Olf.mono (by decide)) ((Sh.ok_lists D__law_lists T 4).mono (by decide)) (Ofl.mono (by decide)) (Ose.mono (by decide)) (Ois.mono (by decide)) (Ost.mono (by decide)))
