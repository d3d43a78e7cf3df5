import PyProof.Rows.All
import Wide.All
import OpenK.AllK
import Wide.FinOn
import KE.GoesEnum
import HandS.ForMost
import HandS.Walk
import HandS.Zip
import HandS.IsInst
import HandS.NoneIn
import HandS.SortInts
import HandS.Evl
import HandS.Conv
import HandS.Style
import HandS.Star
import HandS.More
import HandS.Strs
import HandS.SetFor
import HandS.Wide
import HandS.TupAny
import HandS.RevRange
import HandS.Lambda
import HandS.EndTab
import PySem.Challenge.RW_shoalmates_k46_great_seas_counted
set_option Elab.async false
set_option linter.all false
set_option maxRecDepth 100000
set_option maxHeartbeats 1000000
/-! Own layer over the hand layer: sequences (a list or a tuple), enumerate of a tuple, defs by one fact each, what is told kept under a growing heap. -/
namespace Sh
open PySem PySem.Spec PyProof.Rows L2

/-! ### heaps -/
theorem same_new {H : Hp} {p : Addr} {o : HO} (h : H p = none) : Same H (upd H p o) := fun b x e => by
  rw [upd_ne (ne_of_none e h)]
  exact e
theorem Same.tup {K : PySem.W.Frag} {H H' : Hp} {a : Addr} {xs : List V} (e : Same H H') (h : SqT K H a xs) : SqT K H' a xs := by
  rcases h with (h | ⟨o, h⟩) | h
  · exact .inl (.inl (e _ _ h))
  · exact .inl (.inr ⟨o, e _ _ h⟩)
  · exact .inr h
/-- a list or a tuple of xs is to be read at a -/
def SqA (K : PySem.W.Frag) (H : Hp) (a : Addr) (xs : List V) : Prop := SqL K H a xs ∨ SqT K H a xs
theorem Same.sqA {K : PySem.W.Frag} {H H' : Hp} {a : Addr} {xs : List V} (e : Same H H') (h : SqA K H a xs) : SqA K H' a xs := h.elim (fun q => .inl (e.seq q)) fun q => .inr (Same.tup e q)
theorem SqA.l {K : PySem.W.Frag} {H : Hp} {a : Addr} {xs : List V} (h : H a = some (.lst xs)) : SqA K H a xs := .inl (SqL.of h)
theorem SqA.t {K : PySem.W.Frag} {H : Hp} {a : Addr} {xs : List V} (h : H a = some (.tup xs)) : SqA K H a xs := .inr (SqT.of h)
/-- nothing but b has changed of what was tracked -/
def But (b : Addr) (H H' : Hp) : Prop := ∀ a o, a ≠ b → H a = some o → H' a = some o
theorem But.refl (b : Addr) (H : Hp) : But b H H := fun _ _ _ e => e
theorem But.trans {b : Addr} {H H1 H2 : Hp} (x : But b H H1) (y : But b H1 H2) : But b H H2 := fun a o n e => y a o n (x a o n e)
theorem Same.but {b : Addr} {H H' : Hp} (e : Same H H') : But b H H' := fun a o _ h => e a o h
theorem But.ups {b : Addr} {H : Hp} {o : HO} : But b H (upd H b o) := fun a x n e => by rw [upd_ne n]; exact e
theorem But.same {b : Addr} {G H H' : Hp} (x : But b H H') (g : Same G H) (n : G b = none) : Same G H' := fun a o e => x a o (ne_of_none e n) (g a o e)

section
variable {K : PySem.W.Frag} {H H' : Hp}
mutual
theorem Dp.same (e : Same H H') : ∀ {v : V} {d : PyData}, Dp K H v d → Dp K H' v d
  | _, _, .non => .non
  | _, _, .bl b => .bl b
  | _, _, .int i => .int i
  | _, _, .str x => .str x
  | _, _, .lst h a => .lst (e.seq h) (DpAll.same e a)
  | _, _, .tup h a => .tup (Same.tup e h) (DpAll.same e a)
theorem DpAll.same (e : Same H H') : ∀ {vs : List V} {ds : List PyData}, DpAll K H vs ds → DpAll K H' vs ds
  | _, _, .nil => .nil
  | _, _, .cons h a => .cons (Dp.same e h) (DpAll.same e a)
end
theorem DpAll.ints : ∀ ns : List Int, DpAll K H (ns.map V.int) (ns.map PyData.int)
  | [] => .nil
  | n :: ns => .cons (.int n) (DpAll.ints ns)
theorem DpAll.len : ∀ {vs : List V} {ds : List PyData}, DpAll K H vs ds → vs.length = ds.length
  | _, _, .nil => rfl
  | _, _, .cons _ a => congrArg Nat.succ (DpAll.len a)
theorem DpAll.get : ∀ {vs : List V} {ds : List PyData} {i : Nat} {v : V}, DpAll K H vs ds → vs[i]? = some v → ∃ d, ds[i]? = some d ∧ Dp K H v d
  | _, _, _, _, .nil, h => by simp at h
  | _, _, 0, _, .cons x _, h => by
    cases Option.some.inj h
    exact ⟨_, rfl, x⟩
  | _, _, i + 1, _, .cons _ a, h => DpAll.get (i := i) a h
end

/-! ### rules for a list or a tuple -/
section
variable {X : Cx}
def rIxA (K : PySem.W.Frag) : R2 := fun x y H Q => ∃ p xs i v, x = .ref p ∧ y = .int i ∧ SqA K H p xs ∧ atI xs i = some v ∧ Q v H
theorem ix_lt : IxR X (rIxA X.K) := fun value slice pins s σ H x y v u Q I rx ry h hs => by
  obtain ⟨p, xs, i, z, e1, e2, hq | hq, he, q⟩ := h
  · exact ix_list value slice pins s σ H x y v u Q I rx ry ⟨p, xs, i, z, e1, e2, hq, he, q⟩ hs
  · exact ix_tup value slice pins s σ H x y v u Q I rx ry ⟨p, xs, i, z, e1, e2, hq, he, q⟩ hs
/-- a written power, its worth written -/
theorem op_powC (v : Int) : OpR X (binaryOp .Pow) (rI (fun i j => CPow i j ∧ i ^ j.toNat = v) fun _ _ => .int v) := fun pins s σ H x y u w Q I rx ry h => by
  obtain ⟨i, j, e1, e2, ⟨hc, hv⟩, q⟩ := h
  exact op_pow pins s σ H x y u w Q I rx ry ⟨i, j, e1, e2, hc, show Q (.int (i ^ j.toNat)) H by rw [hv]; exact q⟩
/-- a < b < c < d -/
def tChain3 (r r' r'' : R2) (ta tb tc td : TE) : TE := fun σ H Q => ta σ H fun x H1 => tb σ H1 fun y H2 => r x y H2 fun z H3 => ∃ k, z = .bl k ∧
  (if k = true then tc σ H3 fun y' H4 => r' y y' H4 fun z' H5 => ∃ k', z' = .bl k' ∧ (if k' = true then td σ H5 fun y'' H6 => r'' y' y'' H6 Q else Q (.bl false) H5) else Q (.bl false) H3)
theorem pe_chain3 {a b c d : Expr} {ta tb tc td : TE} {pos : Pos} {op op' op'' : CmpOp} {r r' r'' : R2} (ho : OpR X (compareOp op) r) (ho' : OpR X (compareOp op') r') (ho'' : OpR X (compareOp op'') r'') (ha : PE X a ta) (hb : PE X b tb) (hc : PE X c tc) (hd : PE X d td)
    (hm : lastMarks [op, op', op''] [b, c, d] = false := by with_unfolding_all rfl) : PE X (.Compare a [op, op', op''] [b, c, d] pos) (tChain3 r r' r'' ta tb tc td) := by
  refine ⟨fun pins s σ H Q I h => ?_⟩
  refine Compare_chain (thn (ha.run pins s σ H _ I h) fun v s1 ⟨x, H1, I1, r1, q1⟩ => chain_link (thn (hb.run pins s1 σ H1 _ I1 q1) fun u s2 ⟨y, H2, I2, r2, q2⟩ =>
    thn (ho pins s2 σ H2 x y v u _ I2 r1 r2 q2) fun e s3 ⟨z, H3, I3, r3, k, ez, q3⟩ => ?_)) hm
  subst ez
  cases r3
  refine wpAny_truthy_bool ?_
  cases k with
  | false => exact ite_ff ⟨.bl false, H3, I3, rfl, q3⟩
  | true =>
    refine ite_tt (chain_link (thn (hc.run pins s3 σ H3 _ I3 q3) fun u' s4 ⟨y', H4, I4, r4, q4⟩ => thn (ho' pins s4 σ H4 y y' u u' _ I4 r2 r4 q4) fun e s5 ⟨z', H5, I5, r5, k', ez', q5⟩ => ?_))
    subst ez'
    cases r5
    refine wpAny_truthy_bool ?_
    cases k' with
    | false => exact ite_ff ⟨.bl false, H5, I5, rfl, q5⟩
    | true => exact ite_tt (chain_last (thn (hd.run pins s5 σ H5 _ I5 q5) fun w' s6 ⟨y'', H6, I6, r6, q6⟩ => ho'' pins s6 σ H6 y' y'' u' w' Q I6 r4 r6 q6))
theorem pt_chain3 {a b c d : Expr} {ta tb tc td : TE} {pos : Pos} {op op' op'' : CmpOp} {r r' r'' : R2} (ho : OpR X (compareOp op) r) (ho' : OpR X (compareOp op') r') (ho'' : OpR X (compareOp op'') r'') (ha : PE X a ta) (hb : PE X b tb) (hc : PE X c tc) (hd : PE X d td)
    (hm : lastMarks [op, op', op''] [b, c, d] = false := by with_unfolding_all rfl) : PT X (.Compare a [op, op', op''] [b, c, d] pos) (tTest (tChain3 r r' r'' ta tb tc td)) := by
  refine ⟨fun pins s σ H Q I h => ?_⟩
  refine isTrue_chain (thn (ha.run pins s σ H _ I h) fun v s1 ⟨x, H1, I1, r1, q1⟩ => test_link (thn (hb.run pins s1 σ H1 _ I1 q1) fun u s2 ⟨y, H2, I2, r2, q2⟩ =>
    thn (ho pins s2 σ H2 x y v u _ I2 r1 r2 q2) fun e s3 ⟨z, H3, I3, r3, k, ez, q3⟩ => ?_)) hm
  subst ez
  cases r3
  refine wpAny_truthy_bool ?_
  cases k with
  | false =>
    obtain ⟨k', e', q'⟩ := q3
    cases e'
    exact ite_ff ⟨H3, I3, q'⟩
  | true =>
    refine ite_tt (test_link (thn (hc.run pins s3 σ H3 _ I3 q3) fun u' s4 ⟨y', H4, I4, r4, q4⟩ => thn (ho' pins s4 σ H4 y y' u u' _ I4 r2 r4 q4) fun e s5 ⟨z', H5, I5, r5, k', ez', q5⟩ => ?_))
    subst ez'
    cases r5
    refine wpAny_truthy_bool ?_
    cases k' with
    | false =>
      obtain ⟨k', e', q'⟩ := q5
      cases e'
      exact ite_ff ⟨H5, I5, q'⟩
    | true =>
      refine ite_tt (test_last (thn (hd.run pins s5 σ H5 _ I5 q5) fun w' s6 ⟨y'', H6, I6, r6, q6⟩ => thn (ho'' pins s6 σ H6 y' y'' u' w' _ I6 r4 r6 q6) fun e s7 ⟨z2, H7, I7, r7, k2, e2, q7⟩ => ?_))
      subst e2
      cases r7
      exact wpAny_truthy_bool ⟨H7, I7, q7⟩
/-- the same, the written part by its own name (within a comprehension) -/
theorem ix_ltK (K : PySem.W.Frag) (hK : X.K = K := by rfl) : IxR X (rIxA K) := hK ▸ ix_lt
theorem call_lenK (K : PySem.W.Frag) (hK : X.K = K := by rfl) : CallR X (.builtin "len") (fun xs H Q => ∃ p ys, xs = [.ref p] ∧ (SqL K H p ys ∨ SqT K H p ys) ∧ Q (.int ys.length) H) := hK ▸ call_len_seq
theorem op_inK (K : PySem.W.Frag) (hK : X.K = K := by rfl) : OpR X (compareOp .In) (rIn K false) := hK ▸ op_in_seq
theorem op_notInK (K : PySem.W.Frag) (hK : X.K = K := by rfl) : OpR X (compareOp .NotIn) (rIn K true) := hK ▸ op_notIn_seq
def gSeq (K : PySem.W.Frag) (n : Nat) (t : TGs) : TG := fun v σ H Q => ∃ a xs, v = .ref a ∧ SqA K H a xs ∧ xs.length = n ∧ t xs σ H Q
theorem pg_seq {es : List Expr} {k : Nat} {t : TGs} {n : Nat} {pos : Pos} (hc : X.calm = true) (h : PGs X es t)
    (hn : (assignEach es X.env).length = n := by rfl) (hst : (assignEach es X.env).findIdx? (·.1) = none := by rfl) : PG X (.Tuple es k pos) (gSeq X.K n t) := by
  refine ⟨fun pins s σ H v u Q I r hw => ?_⟩
  obtain ⟨a, xs, e1, hq | hq, hl, hw⟩ := hw
  · exact (pg_unl hc h hn hst).run pins s σ H v u Q I r ⟨a, xs, e1, hq, hl, hw⟩
  · exact (pg_tup hc h hn hst).run pins s σ H v u Q I r ⟨a, xs, e1, hq, hl, hw⟩
/-- what stands at a stands -/
def Kp (a : Addr) (H H' : Hp) : Prop := ∀ o, H a = some o → H' a = some o
theorem Kp.ofS {a : Addr} {H H' : Hp} (e : Same H H') : Kp a H H' := fun o h => e a o h
theorem Kp.ofB {a b : Addr} {H H' : Hp} (e : But b H H') (n : a ≠ b) : Kp a H H' := fun o h => e a o n h
theorem Kp.refl (a : Addr) (H : Hp) : Kp a H H := fun _ h => h
theorem Kp.sl {K : PySem.W.Frag} {a : Addr} {xs : List V} {H H' : Hp} (k : Kp a H H') (h : SqL K H a xs) : SqL K H' a xs := by
  rcases h with (h | ⟨o, h⟩) | h
  · exact .inl (.inl (k _ h))
  · exact .inl (.inr ⟨o, k _ h⟩)
  · exact .inr h
theorem Kp.st {K : PySem.W.Frag} {a : Addr} {xs : List V} {H H' : Hp} (k : Kp a H H') (h : SqT K H a xs) : SqT K H' a xs := by
  rcases h with (h | ⟨o, h⟩) | h
  · exact .inl (.inl (k _ h))
  · exact .inl (.inr ⟨o, k _ h⟩)
  · exact .inr h
theorem Kp.sa {K : PySem.W.Frag} {a : Addr} {xs : List V} {H H' : Hp} (k : Kp a H H') (h : SqA K H a xs) : SqA K H' a xs := h.elim (fun q => .inl (k.sl q)) fun q => .inr (k.st q)
/-- the walk over what stood at a in H0 -/
def ItA (K : PySem.W.Frag) (H0 : Hp) (a : Addr) (xs : List V) (J : It) : Prop := (J = Itl K a ∧ SqL K H0 a xs) ∨ (J = Itt K a ∧ SqT K H0 a xs)
def iSeq (K : PySem.W.Frag) (tl : TE) : TI := fun σ H R => tl σ H fun x H1 => ∃ (a : Addr) (xs : List V) (H0 : Hp), x = .ref a ∧ SqA K H0 a xs ∧ Kp a H0 H1 ∧ ∀ J, ItA K H0 a xs J → R J H1
theorem pi_seq {tg l : Expr} {tl : TE} (hl : PE X l tl) : PI X tg l (iSeq X.K tl) := by
  refine ⟨fun pins s σ H R I h => ?_⟩
  refine thn (hl.run pins s σ H _ I h) fun v s1 ⟨x, H1, I1, r1, q1⟩ => ?_
  obtain ⟨a, xs, H0, e, hq | hq, hk, q⟩ := q1
  · replace q := q _ (.inl ⟨rfl, hq⟩)
    replace hq := hk.sl hq
    subst e
    cases r1
    obtain ⟨its, rv, p, hz⟩ := I1.list hq
    refine wpAny_pyIter_list p.isList ?_
    refine ⟨s1.heap.objs.size, [s1.heap.objs.size], _, _, H1, rfl, I1.kept (t' := s1.toks) fun b o e => Heap.get?_push_of_some _ e, turn_list a _, ⟨_, Heap.get?_push_size _ rfl, rfl, rfl⟩, fun b hb => ?_, q⟩
    have e : b = s1.heap.objs.size := by simpa using hb
    subst e
    exact I1.fpOk (Nat.le_refl _) (I1.hok.fresh (Nat.le_refl _))
  · replace q := q _ (.inr ⟨rfl, hq⟩)
    replace hq := hk.st hq
    subst e
    cases r1
    obtain ⟨its, rv, p, hz⟩ := I1.tuple hq
    refine wpAny_pyIter_tuple (show s1.heap.IsTuple a its.toArray from p) ?_
    refine ⟨s1.heap.objs.size, [s1.heap.objs.size], _, _, H1, rfl, I1.kept (t' := s1.toks) fun b o e => Heap.get?_push_of_some _ e, turn_tuple a _, ⟨_, Heap.get?_push_size _ rfl, rfl, rfl⟩, fun b hb => ?_, q⟩
    have e : b = s1.heap.objs.size := by simpa using hb
    subst e
    exact I1.fpOk (Nat.le_refl _) (I1.hok.fresh (Nat.le_refl _))
end

theorem ItA.walk {K : PySem.W.Frag} {H0 : Hp} {a : Addr} {xs : List V} {J : It} (h : ItA K H0 a xs J) : ∃ G : Hp → Prop, (∀ H', Kp a H0 H' → G H') ∧ Walk J xs.length G (YAt xs) := by
  rcases h with ⟨rfl, q⟩ | ⟨rfl, q⟩
  · exact ⟨_, fun _ k => k.sl q, walk_list⟩
  · exact ⟨_, fun _ k => k.st q, walk_tup⟩

/-! ### enumerate of a tuple -/
set_option maxHeartbeats 1000000 in
theorem meets_enum1 {v : Value} {o : Obj} {H : Heap → Prop} (B : Begins v o H) :
    Meets (Builtin.«enumerate.__new__» ⟨[.type "enumerate", v], []⟩) (fun _ R s => H s.heap ∧
      R (.ok (.ret (.ref (s.heap.push o).objs.size))) { s with heap := (s.heap.push o).push { cls := .type "enumerate", data := .fields #[.none, .bool false, .ref s.heap.objs.size, rawInt 0, .none, .none] } }) :=
  .of_wp fun prog w A R s h => by
    obtain ⟨hp, g, d, tk, os⟩ := s; obtain ⟨h1, h⟩ := h
    have hsub := sub_enumerate
    have q1 : ∀ {A' : Around} {E : Value → Shared → Prop} {Q : Value → Shared → Prop}, Q (.ref hp.objs.size) ⟨hp.push o, g, d, tk, os⟩ → wpAny (model prog w) A' (pyIter v) Q E ⟨hp, g, d, tk, os⟩ :=
      fun q => B.iter prog w _ _ ⟨hp, g, d, tk, os⟩ _ h1 q
    wp_walk using q1
    refine wpAny_stack_any fun st => wpAny_pure ?_
    split
    · rename_i c _ _ _ _ _
      cases (c == Value.type "enumerate")
      · wp_walk using q1
        exact ⟨_, rfl, h⟩
      · wp_walk using q1
        exact ⟨_, rfl, h⟩
    · wp_walk using q1
      exact ⟨_, rfl, h⟩
section
variable {prog : Program} {w : World} {A : Around} {E : Value → Shared → Prop} {s : Shared}
theorem enum1_begins {v : Value} {o : Obj} {H : Heap → Prop} {Q : Value → Shared → Prop} (B : Begins v o H) (h1 : H s.heap)
    (h : ∀ h', IsEnum h' (s.heap.objs.size + 1) s.heap.objs.size 0 .none → h'.get? s.heap.objs.size = some o → h'.objs.size = s.heap.objs.size + 2 →
      (∀ b o, s.heap.get? b = some o → h'.get? b = some o) → Q (.ref (s.heap.objs.size + 1)) { s with heap := h' }) :
    wpAny (model prog w) A (call (.type "enumerate") [v]) Q E s := by
  refine callType_new F.called_enumerate (by decide) (F.typeCall_enumerate_1 _) (F.newCall_enumerate_1 _) (fun obj => F.args_object_init_2 obj _) F.entry_enumerate_new
    (meets_enum1 B) ⟨h1, ?_⟩
  have hz : (s.heap.push o).objs.size = s.heap.objs.size + 1 := Heap.size_push ..
  show _ ∧ _
  rw [hz]
  have he : IsEnum ((s.heap.push o).push { cls := .type "enumerate", data := .fields #[.none, .bool false, .ref s.heap.objs.size, rawInt 0, .none, .none] }) (s.heap.objs.size + 1) s.heap.objs.size 0 .none := by
    have := Heap.get?_push_size (s.heap.push o) (o := { cls := .type "enumerate", data := .fields #[.none, .bool false, .ref s.heap.objs.size, rawInt 0, .none, .none] }) rfl
    rw [hz] at this; exact this
  refine ⟨⟨_, he, rfl⟩, h _ he (Heap.get?_push_of_some _ (Heap.get?_push_size _ B.free)) (by rw [Heap.size_push, hz]) fun b o x => Heap.get?_push_of_some _ (Heap.get?_push_of_some _ x)⟩
end
/-- the tuple at a as it stands at each turn, each item in a new pair -/
def IteT (K : PySem.W.Frag) (a : Addr) : It :=
  ⟨fun i H => ∃ (xs : List V) (x : V), SqT K H a xs ∧ xs[i]? = some x, fun i H v H' => ∃ T x, v = .ref T ∧ H T = none ∧ H' = upd H T (.tup [.int (i : Nat), x]) ∧ ∀ xs, SqT K H a xs → xs[i]? = some x, fun i H => ∃ xs : List V, SqT K H a xs ∧ xs.length ≤ i⟩
end Sh

namespace Sh
open PySem PySem.Spec PyProof.Rows L2
section
variable {prog : Program} {w : World} {A : Around} {E : Value → Shared → Prop} {s : Shared}
theorem enum_endT {e it t : Addr} {n : Nat} {i : Int} {old : Value} {items : Array Value} {Q : Option Value → Shared → Prop} (hh : A.handled = none)
    (he : IsEnum s.heap e it i old) (hit : s.heap.IsTupleIter it t n) (ht : s.heap.IsTuple t items) (hx : items[n]? = none)
    (hQ : ∀ h', Heap.ExtBut it s.heap h' → Q none { s with heap := h' }) : wpAny (model prog w) A (pyNext (.ref e)) Q E s := by
  have hT : s.TypeIs (.ref e) "enumerate" := ⟨_, he, rfl⟩
  unfold pyNext
  refine wpAny_bind (wpAny_attempt (wpAny_callSpecial?_slot (name := Str.ofString "__next__") hT F.slot_enumerate_next
    (wpAny_call_entry F.slot_enumerate_next hT F.entry_enumerate_next ?_ (F.args_enumerate_next_1 _))))
  show wpAny _ _ (field (.ref e) 2 >>= _) _ _ _
  refine wpAny_bind (wpAny_field he rfl (x := .ref it) rfl ?_)
  refine wpAny_bind (wpAny_nextOf_tuple_end (show _ = none from hh) hit ht hx fun h' x he' hx' => ?_)
  obtain ⟨o, ho, hc⟩ := hx'
  refine wpAny_bind (wpAny_isInstance (T := "StopIteration") (b := true) ⟨o, ho, hc⟩ isSubtype_stop ?_)
  exact wpAny_pure (hQ _ he')
end
theorem turn_enumT {P : Program} {w : World} {K : PySem.W.Frag} {elts : List Expr} {kk : Nat} {tpos : Pos} (a e it : Addr) :
    Turn P w K (.Tuple elts kk tpos) (IteT K a) [e, it] e (fun i h => (∃ old, IsEnum h e it ((i : Nat) : Int) old) ∧ h.IsTupleIter it a i ∧ e ≠ it ∧ a ≠ it ∧ e ≠ a) where
  mem := by simp
  obj := fun i h st b hb => by
    obtain ⟨⟨old, he⟩, ⟨o, ho, hc, hd⟩, _⟩ := st
    have e' : b = e ∨ b = it := by simpa using hb
    rcases e' with z | z
    · rw [z]; exact ⟨_, he, fun v q => nomatch q⟩
    · rw [z]; exact ⟨o, ho, fun v q => by rw [hd] at q; cases q⟩
  keep := fun i h h' st k => let ⟨⟨old, he⟩, hi, hne⟩ := st; ⟨⟨old, k e (by simp) _ he⟩, hi.at fun o q => k it (by simp) o q, hne⟩
  item := by
    intro X hP hw hK hc i pins s σ H E I hf st hg
    subst hP hw hK
    obtain ⟨⟨old, he⟩, hit, hne, hai, hea⟩ := st
    obtain ⟨xs, x, hq, hx⟩ := hg
    obtain ⟨its, rv, p, hz⟩ := I.tuple hq
    obtain ⟨u, hu, ru⟩ := rv.get hx
    have hel : e < s.heap.objs.size := Heap.lt_size he
    have hil : it < s.heap.objs.size := by obtain ⟨_, q, _⟩ := hit; exact Heap.lt_size q
    have D := Draws.tuple (prog := X.prog) (w := X.w) (A := X.A.in1) (show X.A.in1.handled = none from I.ok.hd hc) it a hai its.toArray
    have hlt : i < its.toArray.size := by
      have q := (List.getElem?_eq_some_iff.mp hu).1
      simpa using q
    refine wpAny_pyNext_enum_itemC D he ⟨hit, p⟩ hlt hne (by simp [hne, hea]) fun u' h' tk hP ho hst' hT hsz hk => ?_
    have eu : u' = u := by
      have q : its.toArray[i]? = some u' := hP
      have q2 : its.toArray[i]? = some u := by simpa using hu
      exact Option.some.inj (q.symm.trans q2)
    subst eu
    obtain ⟨hit', _⟩ := hst'
    refine ⟨_, rfl, wpAny_letOwnedTupleGo_enum (s := { s with heap := h', toks := tk + 1 }) ho fun h'' he' sb => ?_⟩
    have hT2 : h''.get? s.heap.objs.size = some { cls := .type "tuple", data := .seq #[.int i tk, u'] } := (sb.2 _ (Nat.ne_of_gt hel)).trans hT
    have new : ObjOk X.prog X.w (upd H s.heap.objs.size (.tup [.int (i : Nat), x])) h'' s.heap.objs.size (.tup [.int (i : Nat), x]) :=
      ⟨by show 2 ≤ sizeLine; decide, [.int i tk, u'], .cons ⟨_, rfl⟩ (.cons ru .nil), ⟨_, hT2, rfl, _, rfl⟩⟩
    have I1 : Inv X pins σ (upd H s.heap.objs.size (.tup [.int (i : Nat), x])) { s with heap := h'', toks := tk + 1 } :=
      I.turnedNew (ch := [e, it]) (fun b ob hb q => (sb.2 b (fun z => hb (by simp [z]))).trans (hk b ob (fun z => hb (by simp [z])) (fun z => hb (by simp [z])) q)) hf (Nat.le_refl _) new
    refine ⟨.ref s.heap.objs.size, _, I1, rfl, ⟨_, x, rfl, I.hok.fresh (Nat.le_refl _), rfl, fun ys hy => by rw [I.tuple_inj hy hq]; exact hx⟩, ⟨⟨u', ?_⟩, hit'.at fun o q => (sb.2 it (Ne.symm hne)).trans q, hne, hai, hea⟩, fun b hb => ?_⟩
    · have e1 : ((i + 1 : Nat) : Int) = (i : Int) + 1 := by omega
      rw [e1]; exact he'
    · have hb' : b < s.heap.objs.size := by
        have e' : b = e ∨ b = it := by simpa using hb
        rcases e' with z | z
        · rw [z]; exact hel
        · rw [z]; exact hil
      rw [upd_ne (Nat.ne_of_lt hb')]
      exact (hf b hb).1
  done := by
    intro X hP hw hK hc i pins s σ H E I hf st hg
    subst hP hw hK
    obtain ⟨⟨old, he⟩, hit, hne, hai, hea⟩ := st
    obtain ⟨xs, hq, hx⟩ := hg
    obtain ⟨its, rv, p, hz⟩ := I.tuple hq
    obtain ⟨f0, f1, f2, f3, f4, f5⟩ := hf it (by simp)
    have hl := rv.length
    exact enum_endT (I.ok.hd hc) he hit p (by simp; omega) fun h' eb => ⟨rfl, I.turned (t' := s.toks) (fun b o hb q => eb b o hb q) f0 f1 f3 f4 f5⟩
  self := fun A i s Q E st h => let ⟨⟨_, he⟩, _⟩ := st; wpAny_pyIter_enum he h
def ItE (K : PySem.W.Frag) (H0 : Hp) (a : Addr) (xs : List V) (J : It) : Prop := (J = Ite K a ∧ SqL K H0 a xs) ∨ (J = IteT K a ∧ SqT K H0 a xs)
def iEnumA (K : PySem.W.Frag) (ta : TA) : TI := fun σ H R => ta σ H fun vs H1 => ∃ (a : Addr) (xs : List V) (H0 : Hp), vs = [.ref a] ∧ SqA K H0 a xs ∧ Kp a H0 H1 ∧ ∀ J, ItE K H0 a xs J → R J H1
theorem pi_enumA {X : Cx} {e : Expr} {ta : TA} {p pos tpos : Pos} {elts : List Expr} {kk : Nat} (hg : Gl X "enumerate") (hm : X.mg "enumerate" = none) (ha : PA X [e] ta) (hs : starEach [e] X.env = [(false, eval e X.env)] := by rfl) :
    PI X (.Tuple elts kk tpos) (.Call (.Name "enumerate" p) [e] [] pos) (iEnumA X.K ta) := by
  refine ⟨fun pins s σ H R I h => ?_⟩
  refine Call_ (ld_blt I hg hm boot_enumerate (PyProof.Rows.callWith_type1 (thn (ha.run pos pins s σ H _ I h) fun us s1 ⟨vs, H1, I1, r1, q1⟩ => ?_) hs rfl))
  obtain ⟨a, xs, H0, ex, hs0, hk, q1⟩ := q1
  subst ex
  cases r1 with
  | cons r rr =>
    cases rr
    cases r
    have fr : ∀ b ∈ [s1.heap.objs.size + 1, s1.heap.objs.size], FpOk X pins H1 b := fun b hb => by
      have e' : b = s1.heap.objs.size + 1 ∨ b = s1.heap.objs.size := by simpa using hb
      have hle : s1.heap.objs.size ≤ b := by
        rcases e' with z | z
        · rw [z]; exact Nat.le_add_right _ _
        · rw [z]; exact Nat.le_refl _
      exact I1.fpOk hle (I1.hok.fresh hle)
    rcases hs0 with hq | hq
    · have q := q1 _ (.inl ⟨rfl, hq⟩)
      replace hq := hk.sl hq
      obtain ⟨its, rv, p', hz⟩ := I1.list hq
      refine call_enumerate_list p'.isList fun h' he hit hsz hk => wpAny_pyIter_enum he ?_
      have I2 : Inv X pins σ H1 { s1 with heap := h' } := I1.kept (t' := s1.toks) hk
      exact ⟨s1.heap.objs.size + 1, [s1.heap.objs.size + 1, s1.heap.objs.size], _, _, H1, rfl, I2, turn_enum a (s1.heap.objs.size + 1) s1.heap.objs.size, ⟨⟨.none, he⟩, hit, Nat.succ_ne_self _⟩, fr, q⟩
    · have q := q1 _ (.inr ⟨rfl, hq⟩)
      replace hq := hk.st hq
      obtain ⟨its, rv, p', hz⟩ := I1.tuple hq
      have al : a < s1.heap.objs.size := by obtain ⟨_, q, _⟩ := id p'; exact Heap.lt_size q
      refine enum1_begins (begins_tuple a its.toArray) p' fun h' he hit hsz hk => wpAny_pyIter_enum he ?_
      have I2 : Inv X pins σ H1 { s1 with heap := h' } := I1.kept (t' := s1.toks) hk
      exact ⟨s1.heap.objs.size + 1, [s1.heap.objs.size + 1, s1.heap.objs.size], _, _, H1, rfl, I2, turn_enumT a (s1.heap.objs.size + 1) s1.heap.objs.size, ⟨⟨.none, he⟩, ⟨_, hit, rfl, rfl⟩, Nat.succ_ne_self _, Nat.ne_of_lt al, Nat.ne_of_gt (Nat.lt_succ_of_lt al)⟩, fr, q⟩
theorem walk_enumT {K : PySem.W.Frag} {a : Addr} {xs : List V} : Walk (IteT K a) xs.length (fun H => SqT K H a xs) (YPair (fun i => some (.int (i : Nat))) (fun i => xs[i]?)) := by
  refine ⟨fun i _ hi q => ⟨xs, xs[i], q, by simp [hi]⟩, fun _ q => ⟨xs, q, Nat.le_refl _⟩, fun i H v H' _ q y => ?_⟩
  obtain ⟨T, x, h1, h2, h3, h4⟩ := y
  exact ⟨T, .int (i : Nat), x, h1, h2, h3, rfl, h4 xs q⟩
theorem ItE.walk {K : PySem.W.Frag} {H0 : Hp} {a : Addr} {xs : List V} {J : It} (h : ItE K H0 a xs J) : ∃ G : Hp → Prop, (∀ H', Kp a H0 H' → G H') ∧ Walk J xs.length G (YPair (fun i => some (.int (i : Nat))) (fun i => xs[i]?)) := by
  rcases h with ⟨rfl, q⟩ | ⟨rfl, q⟩
  · exact ⟨_, fun _ k => k.sl q, walk_enum⟩
  · exact ⟨_, fun _ k => k.st q, walk_enumT⟩
theorem walk_zipT {K : PySem.W.Frag} {a b : Addr} {xs ys : List V} {n : Nat} (hn : n = min xs.length ys.length) : Walk (RZ.ItzT K a b) n (fun H => SqT K H a xs ∧ SqT K H b ys) (YPair (fun i => xs[i]?) (fun i => ys[i]?)) := by
  subst hn
  refine ⟨fun i _ hi q => ?_, fun _ q => ⟨xs, ys, q.1, q.2, by omega⟩, fun i H v H' _ q y => ?_⟩
  · have h1 : i < xs.length := by omega
    have h2 : i < ys.length := by omega
    exact ⟨xs, ys, xs[i], ys[i], q.1, q.2, by simp [h1], by simp [h2]⟩
  · obtain ⟨T, x, z, h1, h2, h3, h4, h5⟩ := y
    exact ⟨T, x, z, h1, h2, h3, h4 xs q.1, h5 ys q.2⟩
end Sh

namespace Sh
open PySem PySem.Spec PyProof.Rows L2
/-- a def of the top: where it stands, and the global name -/
structure Df (K : PySem.W.Frag) (mg : Str → Option Value) (x : Str) (st : Stmt) : Prop where
  ex : ∃ (f : Addr) (fd : FuncData), Fun K x x st f fd ∧ mg x = some (.ref f)
/-- it keeps its promise -/
structure Ok (P : Program) (w : World) (K : PySem.W.Frag) (mg : Str → Option Value) (base : Heap) (k : Nat) (x : Str) (st : Stmt) (ps : List Str) (sp : Sp) : Prop where
  ex : ∃ (f : Addr) (fd : FuncData), Fun K x x st f fd ∧ mg x = some (.ref f) ∧ Binds K fd ps [] ∧ FnOk P w K mg base CX0 k f fd ps sp
section
variable {P : Program} {w : World} {K : PySem.W.Frag} {mg : Str → Option Value} {base : Heap}
theorem Df.ok {x : Str} {st : Stmt} {N ps : List Str} {k : Nat} {sp : Sp} (D : Df K mg x st) (S : FnScope N ps (defScope st))
    (hb : ∀ (kV doc pm : Value) (an : Option Addr) (cdv ct : Value) (us : List Value), us.length = ps.length → bindArgs (PySem.W.fnOf x x (defArgs st) (defBody st) (defScope st) .none kV doc pm an cdv ct) ⟨us, []⟩ = pure (ps.zip us))
    (len : ∀ vs H Q E, sp vs H Q E → vs.length = ps.length)
    (hbody : ∀ (f : Addr) (cdv : Value) (A : Around) (outer : List Env) (s : Shared) (H : Hp) (vs : List V) (Q : VK) (E : XK), Room k (A.deeper (envOfC x (defScope st) s.heap.objs.size f cdv)) → sp vs H Q E →
      ∃ t, PSs (cxOf CX0 P w K mg base N x (defScope st) f cdv A outer s H E).nox (defBody st) t ∧ t { nx := fun _ H' => Q .non H', rt := Q } (start N vs) H) : Ok P w K mg base (k + 1) x st ps sp := by
  obtain ⟨f, fd, F, g⟩ := D.ex
  exact ⟨f, fd, F, g, F.binds hb, F.ok S len (fun cdv A outer s H vs Q E hr h => hbody f cdv A outer s H vs Q E hr h)⟩
theorem Ok.mono {x : Str} {st : Stmt} {ps : List Str} {j k : Nat} {sp : Sp} (O : Ok P w K mg base j x st ps sp) (h : j ≤ k) : Ok P w K mg base k x st ps sp := by
  obtain ⟨f, fd, F, g, b, G⟩ := O.ex
  exact ⟨f, fd, F, g, b, G.mono h⟩
theorem Ok.imp {x : Str} {st : Stmt} {ps : List Str} {k : Nat} {sp sp' : Sp} (O : Ok P w K mg base k x st ps sp) (h : ∀ vs H Q E, sp' vs H Q E → sp vs H Q E) : Ok P w K mg base k x st ps sp' := by
  obtain ⟨f, fd, F, g, b, G⟩ := O.ex
  exact ⟨f, fd, F, g, b, G.imp h⟩
end
/-- the values at the places js -/
def pk {α : Type} (js : List Nat) (l : List α) : List α := js.filterMap fun j => l[j]?
theorem vals_get : ∀ {vs : List V} {us : List Value} (j : Nat), Vals vs us → (vs[j]? = none ∧ us[j]? = none) ∨ ∃ v u, vs[j]? = some v ∧ us[j]? = some u ∧ RelV v u
  | _, _, _, .nil => .inl ⟨by simp, by simp⟩
  | _, _, 0, .cons r _ => .inr ⟨_, _, rfl, rfl, r⟩
  | _, _, j + 1, .cons _ t => by simpa using vals_get j t
theorem vals_app : ∀ {vs zs : List V} {us ws : List Value}, Vals vs us → Vals zs ws → Vals (vs ++ zs) (us ++ ws)
  | _, _, _, _, .nil, h => h
  | _, _, _, _, .cons r t, h => .cons r (vals_app t h)
theorem vals_pk {vs : List V} {us : List Value} (h : Vals vs us) : ∀ js : List Nat, Vals (pk js vs) (pk js us)
  | [] => .nil
  | j :: js => by
    unfold pk
    rcases vals_get j h with ⟨a, b⟩ | ⟨v, u, a, b, r⟩
    · rw [List.filterMap_cons_none a, List.filterMap_cons_none b]
      exact vals_pk h js
    · rw [List.filterMap_cons_some a, List.filterMap_cons_some b]
      exact .cons r (vals_pk h js)
section
variable {X : Cx} {k : Nat} {x : Str} {st : Stmt} {ps : List Str} {sp : Sp} {e : Expr} {es : List Expr} {t tk : TA} {p pos : Pos} {kws : List Keyword} {ks : List Str}
/-- f(e, ..) -/
theorem pe_fn (O : Ok X.prog X.w X.K X.mg X.base k x st ps sp) (hr : Room k X.A) (ha : PA X (e :: es) t) (hg : Gl X x := by rfl)
    (hdb : (x == ("__debug__" : Str)) = false := by decide) (he : starEach (e :: es) X.env = (false, eval e X.env) :: starEach es X.env := by rfl) (hpl : (backTo pos (starEach es X.env)).any (·.1) = false := by rfl) :
    PE X (.Call (.Name x p) (e :: es) [] pos) (tCall sp [] E0 t) := by
  obtain ⟨f, fd, F, g, b, G⟩ := O.ex
  exact pe_call G hr hg g F.kp b .nil pass0 ha hdb he hpl
/-- f(e, .., k = v, ..): the parameters are the places js of all that is handed in -/
def tCallJ (js : List Nat) (n : Nat) (sp : Sp) (t tk : TA) : TE := fun σ H Q => t σ H fun vs H1 => tk σ H1 fun zs H2 => (vs.length + zs.length = n ∧ zs.length = n - vs.length) ∧ sp (pk js (vs ++ zs)) H2 Q E0
theorem run_fnJ {pins : List (Addr × Obj)} {σ : L2.St} {H : Hp} {s : Shared} {Q : VK} {us ws : List Value} {vs zs : List V} {js : List Nat} {f : Addr} {fd : FuncData} (F : Fun X.K x x st f fd) (G : FnOk X.prog X.w X.K X.mg X.base CX0 k f fd ps sp) (hr : Room k X.A)
    (hb : ∀ (kV doc pm : Value) (an : Option Addr) (cdv ct : Value), bindArgs (PySem.W.fnOf x x (defArgs st) (defBody st) (defScope st) .none kV doc pm an cdv ct) ⟨us, ks.zip ws⟩ = pure (ps.zip (pk js (us ++ ws))))
    (I : Inv X pins σ H s) (r : Vals vs us) (rz : Vals zs ws) (h : sp (pk js (vs ++ zs)) H Q E0) : wpAny (model X.prog X.w) X.A (call (.ref f) us (ks.zip ws)) (EP X pins σ Q) X.xe s := by
  obtain ⟨oc, od, kV, doc, pm, an, cdv, ct, osl, rfl, lk, hcd⟩ := F.ex
  refine wpAny_call (codeAny_mono (G.run X.A X.stack s H ⟨us, ks.zip ws⟩ (pk js (us ++ ws)) (pk js (vs ++ zs)) Q E0 hr I.env0 (.of_eq (hb kV doc pm an cdv ct)) (vals_pk (vals_app r rz) js) h) fun r s' hq => ?_)
  cases r with
  | error e => exact pass0 pins σ H s e s' I hq
  | ok fl =>
    cases fl with
    | ret u => exact I.after hq
    | next => exact False.elim hq
    | brk => exact False.elim hq
    | cont => exact False.elim hq
/-- f(k = v, ..) -/
theorem pe_fnK0 (js : List Nat) (O : Ok X.prog X.w X.K X.mg X.base k x st ps sp) (hr : Room k X.A)
    (hb : ∀ (kV doc pm : Value) (an : Option Addr) (cdv ct : Value) (ws : List Value), ws.length = ks.length → bindArgs (PySem.W.fnOf x x (defArgs st) (defBody st) (defScope st) .none kV doc pm an cdv ct) ⟨[], ks.zip ws⟩ = pure (ps.zip (pk js ws)))
    (hkw : PK X kws tk) (hg : Gl X x := by rfl) (hall : (backToKw pos (keywordEach kws X.env)).all (·.1.isSome) = true := by rfl) (hks : (backToKw pos (keywordEach kws X.env)).filterMap (·.1) = ks := by rfl) (hdb : (x == ("__debug__" : Str)) = false := by decide)
    (hpl : ((backTo pos (starEach [] X.env)).any (·.1) || (backToKw pos (keywordEach kws X.env)).any (·.1.isNone)) = false := by rfl) :
    PE X (.Call (.Name x p) [] kws pos) (tCallJ js ks.length sp tNil tk) := by
  obtain ⟨f, fd, F, g, b, G⟩ := O.ex
  refine ⟨fun pins s σ H Q I h => ?_⟩
  refine wpAny_Call_Name_kw (ld_glob I hg g ?_ hdb)
  refine PySem.W.callWith_KW0 (h₀ := X.base) I.ok.mod.kin F.kp hall ?_ hpl
  refine thn (hkw.run pos pins s σ H _ I h) fun ws s2 ⟨zs, H2, I2, rz, l2, q2⟩ => ⟨I2.kIn, ?_⟩
  rw [hks]
  exact run_fnJ (us := []) (vs := []) (js := js) F G hr (fun kV doc pm an cdv ct => hb kV doc pm an cdv ct ws (rz.length.symm.trans l2.2)) I2 .nil rz q2
/-- f(e, .., k = v, ..), n positional ones -/
theorem pe_fnK (js : List Nat) (n : Nat) (O : Ok X.prog X.w X.K X.mg X.base k x st ps sp) (hr : Room k X.A)
    (hb : ∀ (kV doc pm : Value) (an : Option Addr) (cdv ct : Value) (us ws : List Value), us.length = n → ws.length = ks.length → bindArgs (PySem.W.fnOf x x (defArgs st) (defBody st) (defScope st) .none kV doc pm an cdv ct) ⟨us, ks.zip ws⟩ = pure (ps.zip (pk js (us ++ ws))))
    (ha : PA X (e :: es) t) (hkw : PK X kws tk) (hg : Gl X x := by rfl) (hall : (backToKw pos (keywordEach kws X.env)).all (·.1.isSome) = true := by rfl) (hks : (backToKw pos (keywordEach kws X.env)).filterMap (·.1) = ks := by rfl)
    (hdb : (x == ("__debug__" : Str)) = false := by decide) (he : starEach (e :: es) X.env = (false, eval e X.env) :: starEach es X.env := by rfl)
    (hpl : ((backTo pos (starEach (e :: es) X.env)).any (·.1) || (backToKw pos (keywordEach kws X.env)).any (·.1.isNone)) = false := by rfl) :
    PE X (.Call (.Name x p) (e :: es) kws pos) (fun σ H Q => t σ H fun vs H1 => tk σ H1 fun zs H2 => (vs.length = n ∧ zs.length = ks.length) ∧ sp (pk js (vs ++ zs)) H2 Q E0) := by
  obtain ⟨f, fd, F, g, b, G⟩ := O.ex
  refine ⟨fun pins s σ H Q I h => ?_⟩
  refine wpAny_Call_Name_kw (ld_glob I hg g ?_ hdb)
  refine PySem.W.callWith_KW (h₀ := X.base) I.ok.mod.kin F.kp hall (thn (ha.run pos pins s σ H _ I h) fun us s1 ⟨vs, H1, I1, r, q⟩ => ?_) hpl he
  refine thn (hkw.run pos pins s1 σ H1 _ I1 q) fun ws s2 ⟨zs, H2, I2, rz, ⟨l1, l2⟩, q2⟩ => ⟨I2.kIn, ?_⟩
  rw [hks]
  exact run_fnJ (js := js) F G hr (fun kV doc pm an cdv ct => hb kV doc pm an cdv ct us ws (r.length.symm.trans l1) (rz.length.symm.trans l2)) I2 r rz q2
end
theorem tyes {σ : L2.St} {H : Hp} {Q : Bool → Hp → Prop} (h : Q true H) : tYes σ H Q := h
/-! ### xs[a:b:c] -/
def pickV (xs : List V) (lo hi st : Option Int) : List V := pk (sliceRange (sliceBounds lo hi st xs.length).1 (sliceBounds lo hi st xs.length).2.1 (sliceBounds lo hi st xs.length).2.2) xs
theorem pick_vals {xs : List V} {us : List Value} (r : Vals xs us) (lo hi st : Option Int) : Vals (pickV xs lo hi st) (slicePick us.toArray lo hi st).toList := by
  have e := vals_pk r (sliceRange (sliceBounds lo hi st xs.length).1 (sliceBounds lo hi st xs.length).2.1 (sliceBounds lo hi st xs.length).2.2)
  have e2 : (slicePick us.toArray lo hi st).toList = pk (sliceRange (sliceBounds lo hi st xs.length).1 (sliceBounds lo hi st xs.length).2.1 (sliceBounds lo hi st xs.length).2.2) us := by
    unfold slicePick pk
    rw [List.size_toArray, ← r.length]
    simp
  rw [e2]
  exact e
section
variable {X : Cx}
def tStep (K : PySem.W.Frag) (te : TE) (tl th ts : TO) : TE := fun σ H Q => te σ H fun x H1 => tl σ H1 fun l H2 => th σ H2 fun u H3 => ts σ H3 fun o H4 => ∃ a xs, x = .ref a ∧ SqL K H4 a xs ∧ o ≠ some 0 ∧ (pickV xs l u o).length ≤ sizeLine ∧ ∀ p, H4 p = none → Q (.ref p) (upd H4 p (.lst (pickV xs l u o)))
theorem pe_step {e st : Expr} {lo hi : Option Expr} {te : TE} {tl th ts : TO} {p3 pos : Pos} (he : PE X e te) (hlo : PO X lo tl) (hhi : PO X hi th) (hst : PO X (some st) ts) : PE X (.Subscript e (.Slice lo hi (some st) p3) pos) (tStep X.K te tl th ts) := by
  refine ⟨fun pins s σ H Q I h => ?_⟩
  refine Subscript_ (thn (he.run pins s σ H _ I h) fun v s1 ⟨x, H1, I1, r1, q1⟩ => ?_)
  refine wpAny_Slice (thn (hlo.run pins s1 σ H1 _ I1 q1) fun vl s2 ⟨l, H2, I2, pl, q2⟩ => ?_)
  refine thn (hhi.run pins s2 σ H2 _ I2 q2) fun vu s3 ⟨u, H3, I3, pu, q3⟩ => ?_
  refine thn (hst.run pins s3 σ H3 _ I3 q3) fun vs s4 ⟨o, H4, I4, ps, q4⟩ => ?_
  obtain ⟨a, xs, ex, hx, h0, hz2, q⟩ := q4
  subst ex
  cases r1
  have I5 : Inv X pins σ H4 { s4 with heap := s4.heap.push { cls := .type "slice", data := .fields #[vl, vu, vs] } } := I4.kept (t' := s4.toks) fun b ob q => Heap.get?_push_of_some _ q
  obtain ⟨its, r, ht, hz⟩ := I5.list hx
  have hlen := r.length
  show wpAny (model X.prog X.w) X.A (subscriptTail e (.Slice lo hi (some st) p3) (.ref a) (.ref s4.heap.objs.size)) (EP X pins σ Q) X.xe { s4 with heap := s4.heap.push { cls := .type "slice", data := .fields #[vl, vu, vs] } }
  refine tail_any (ops := [.ref a, .ref s4.heap.objs.size]) ht.isList.typeIs (PySem.slot_list_getitem.lookup) ?_ (by with_unfolding_all rfl)
  refine wpAny_getItem_list_slice ht.isList (Heap.IsSliceOf.new _ vl vu vs) pl pu ps h0 ?_ (by rw [List.size_toArray]; omega)
  refine ⟨.ref _, _, I5.laid (t' := s4.toks) (o := .lst (pickV xs l u o)) (fun b ob q => Heap.get?_push_of_some _ q) (Nat.le_refl _) ?_, rfl, q _ (I5.hok.fresh (Nat.le_refl _))⟩
  exact ⟨hz2, (slicePick its.toArray l u o).toList, 0, pick_vals r l u o, Heap.get?_push_size _ rfl⟩
end
/-! ### set(t) of a tuple of ints, as a thing that stands -/
def rSetT (K : PySem.W.Frag) (w : World) : List V → Hp → VK → Prop := fun xs H Q => ∃ (q : Addr) (ns : List Int), xs = [.ref q] ∧ SqT K H q (ns.map V.int) ∧ ns.length ≤ 1000 ∧ ∀ (a : Addr) (c : Nat), H a = none → c ≤ ns.length → Q (.ref a) (upd H a (SetO w a (fun j => decide (j ∈ ns)) c))
theorem cr_setT {X : Cx} (hc : X.calm = true) : CallR X (.type "set") (rSetT X.K X.w) := by
  intro pins s σ H xs us Q I r h
  obtain ⟨q, ns, rfl, hq, hl, k⟩ := h
  rw [Vals.ref1 r]
  obtain ⟨its, rv, pt, hz⟩ := I.tuple hq
  have hi : IntsAre its.toArray.toList ns := ints_of_vals rv
  refine call_set_tupI ns (I.ok.hd hc) (show s.heap.IsTuple q its.toArray from pt) hi (by unfold scanBound; omega) fun h' tk c R1 hcn kk => ?_
  exact ⟨.ref _, upd H s.heap.objs.size (SetO X.w s.heap.objs.size _ c), I.laid (t' := tk) kk (Nat.le_refl _) (setO_new R1), rfl, k _ _ (I.hok.fresh (Nat.le_refl _)) hcn⟩
theorem cr_setTw {X : Cx} (w : World) (hc : X.calm = true) (hw : X.w = w := by rfl) : CallR X (.type "set") (rSetT X.K w) := hw ▸ cr_setT hc
theorem cr_sortedSetw {X : Cx} (w : World) (hc : X.calm = true) (hw : X.w = w := by rfl) : CallR X (.builtin "sorted") (rSortedSet w) := hw ▸ cr_sortedSet hc
/-- names of Python's own that the top leaves alone -/
structure Bt (mg : Str → Option Value) : Prop where
  len_ : mg "len" = none
  range_ : mg "range" = none
  abs_ : mg "abs" = none
  int_ : mg "int" = none
  min_ : mg "min" = none
  max_ : mg "max" = none
  list_ : mg "list" = none
  tuple_ : mg "tuple" = none
  all_ : mg "all" = none
  any_ : mg "any" = none
  sorted_ : mg "sorted" = none
  sum_ : mg "sum" = none
  repr_ : mg "repr" = none
  zip_ : mg "zip" = none
  enumerate_ : mg "enumerate" = none
  isinstance_ : mg "isinstance" = none
  reversed_ : mg "reversed" = none
  str_ : mg "str" = none
  bool_ : mg "bool" = none
  set_ : mg "set" = none
end Sh

/-! a[i] += e of a list; for i in reversed(range(..)) -/
namespace Sh
open PySem PySem.Spec PyProof.Rows L2
section
variable {X : Cx}
def rGetN (K : PySem.W.Frag) : V → V → Hp → VK → Prop := fun o i H Q => ∃ (p : Addr) (xs : List V) (j : Nat) (v : V), o = .ref p ∧ i = .int (j : Int) ∧ SqL K H p xs ∧ xs[j]? = some v ∧ Q v H
theorem pget_nat : PGet X (rGetN X.K) := by
  intro pins s σ H o i ov iv Q I ro ri h
  obtain ⟨p, xs, j, v, rfl, rfl, hq, hj, q⟩ := h
  cases ro
  obtain ⟨t, rfl⟩ := ri
  obtain ⟨its, r, pl, hz⟩ := I.list hq
  obtain ⟨u, hu, ru⟩ := r.get hj
  have jl := (List.getElem?_eq_some_iff.mp hj).1
  have sz := sizeLine_eq
  refine wpAny_getItem_list (x := u) pl.isList (by omega) (by omega) ?_ ⟨v, H, I, ru, q⟩
  rw [Int.toNat_natCast]
  simpa using hu
end
end Sh

/-! a lambda of one parameter: made, handed to a def, called there -/
namespace Sh
open PySem PySem.Spec PyProof.Rows L2 LamX
/-- one parameter q; all else that it names is captured, or global -/
structure LamS1 (sc lam : Scope) (q : Str) : Prop where
  fnk : lam.kind = .function
  noco : lam.isCoroutine = false
  nogen : lam.isGenerator = false
  par : lam.names.lookup q = some .local
  nocell : ∀ z ∈ lam.names, z.2 ≠ .cell
  alone : ∀ z ∈ lam.names, z.2 = .local → z.1 = q
  from_ : ∀ z ∈ lam.names, z.2 = .free → sc.names.lookup z.1 = some .cell ∨ sc.names.lookup z.1 = some .free
def lamS1B (sc lam : Scope) (q : Str) : Bool :=
  decide (lam.kind = .function) && (!lam.isCoroutine && (!lam.isGenerator && (decide (lam.names.lookup q = some .local) && lam.names.all fun z => !decide (z.2 = .cell) && ((!decide (z.2 = .local) || decide (z.1 = q)) && (!decide (z.2 = .free) || (decide (sc.names.lookup z.1 = some .cell) || decide (sc.names.lookup z.1 = some .free)))))))
theorem lamS1_by {sc lam : Scope} {q : Str} (h : lamS1B sc lam q = true) : LamS1 sc lam q := by
  have two : ∀ {x y : Bool}, (x && y) = true → x = true ∧ y = true := fun w => Bool.and_eq_true_iff.mp w
  have no : ∀ {x : Bool}, (!x) = true → x = false := fun {x} w => by cases x <;> first | rfl | cases w
  unfold lamS1B at h
  obtain ⟨a1, h⟩ := two h
  obtain ⟨a2, h⟩ := two h
  obtain ⟨a3, h⟩ := two h
  obtain ⟨a4, h⟩ := two h
  have each := List.all_eq_true.mp h
  refine ⟨of_decide_eq_true a1, no a2, no a3, of_decide_eq_true a4, fun z hz => ?_, fun z hz e => ?_, fun z hz e => ?_⟩
  · exact of_decide_eq_false (no (two (each z hz)).1)
  · have w := (two (two (each z hz)).2).1
    rw [decide_eq_true e] at w
    exact of_decide_eq_true ((Bool.or_eq_true_iff.mp w).resolve_left (fun n => by cases n))
  · have w := (two (two (each z hz)).2).2
    rw [decide_eq_true e] at w
    have w2 := (Bool.or_eq_true_iff.mp w).resolve_left (fun n => by cases n)
    rcases Bool.or_eq_true_iff.mp w2 with y | y
    · exact .inl (of_decide_eq_true y)
    · exact .inr (of_decide_eq_true y)
theorem LamS1.has {X : Cx} {lam : Scope} {q : Str} (L : LamS1 X.env.scope lam q) (ok : X.Ok) : ∀ z ∈ lam.names, z.2 = .free → ∃ a, X.env.cells.lookup z.1 = some a := fun z hz e => ok.has _ (L.from_ z hz e)
/-- where the lambda's body runs: the maker's names, its parameter behind them -/
def lamCx1 (X : Cx) (B : Around) (fr : List Env) (t : Shared) (J : Hp) (lam : Scope) (f c' : Addr) (q : Str) : Cx :=
  let en := lamEnv X lam t.heap.objs.size f c'
  { prog := X.prog, w := X.w, K := X.K, mg := X.mg, base := X.base, A := B.deeper en, N := X.N ++ [q], s_0 := t, H_0 := J, env := en, outer := fr, stack := en :: fr, ex := [], fn := fun _ => false, calm := true, pn := [],
    xe := fun e r => wpAny (model X.prog X.w) (B.deeper en) (leaving en e) (fun _ r' => CX0 fr J t E0 e r') (fun e' r' => CX0 fr J t E0 e' r') r }
section
variable {X : Cx} {pins : List (Addr × Obj)} {σ : L2.St} {G J : Hp} {s t : Shared}
/-- what is captured is the maker's own cell -/
theorem cap_cell {lam : Scope} {q : Str} (L : LamS1 X.env.scope lam q) (ok : X.Ok) {n : Str} {a : Addr} (e : (cloFrom X.env.cells lam.names []).lookup n = some a) : X.env.cells.lookup n = some a := by
  rcases cloFrom_mem (PySem.mem_of_lookup e) with bad | ⟨isF, ea⟩
  · cases bad
  · obtain ⟨a', ha⟩ := L.has ok _ isF rfl
    have ha' : X.env.cells.lookup n = some a' := ha
    rw [ea, ha'] <;> rfl
theorem cap_there {lam : Scope} {n : Str} (e : lam.names.lookup n = some .free) : ∃ a, (cloFrom X.env.cells lam.names []).lookup n = some a :=
  mem_lookup (cloFrom_has (cells := X.env.cells) (acc := []) (PySem.mem_of_lookup e))
theorem lam_start1 {B : Around} {fr : List Env} {lam : Scope} {f c' : Addr} {q : Str} {h2 : Heap} {tk : Nat} {v : V} {u : Value} (I : Inv X pins σ G s) (L : LamS1 X.env.scope lam q) (nq : q ∉ X.N) (at0 : Env0 X.prog X.w X.K X.mg X.base B fr t J) (calm : B.handled = none)
    (un : Un (frs X.stack) [] G J s.heap t.heap) (rv : RelV v u) (hns : h2.Ns t.heap.objs.size fun n => ([(q, u)] : List (Str × Value)).reverse.lookup n) (grow : ∀ b o, t.heap.get? b = some o → h2.get? b = some o) :
    Inv (lamCx1 X B fr t J lam f c' q) [] (σ ++ [some v]) J { t with heap := h2, toks := tk } := by
  have own : ∀ {n a}, (lamEnv X lam t.heap.objs.size f c').cells.lookup n = some a → X.env.cells.lookup n = some a := fun e => cap_cell L I.ok e
  have stays : ∀ {a : Addr} {z : Option Value}, G a = none → s.heap.IsCell a z → h2.IsCell a z := by
    rintro a z ga ⟨o, ho, hd⟩
    obtain ⟨sl, w⟩ := un.any ho ga List.not_mem_nil
    exact ⟨_, grow _ _ w, hd⟩
  have none_ex : ∀ b : Addr, b ∉ (lamCx1 X B fr t J lam f c' q).ex := fun b => List.not_mem_nil
  have okay : (lamCx1 X B fr t J lam f c' q).Ok := by
    constructor
    case mod => exact at0.mod
    case kind => exact L.fnk
    case glob => rfl
    case blt => rfl
    case above => exact Nat.le_refl _
    case inj => exact fun n m a e1 e2 => I.ok.inj n m a (own e1) (own e2)
    case has =>
      intro n hn
      rcases hn with hn | hn
      · exact absurd rfl (L.nocell _ (PySem.mem_of_lookup (show lam.names.lookup n = some .cell from hn)))
      · exact cap_there (show lam.names.lookup n = some .free from hn)
    case cab => exact fun n a z _ => absurd (show false = true from z) Bool.false_ne_true
    case hd => exact fun _ => calm
    case frames => exact Around.frames_deeper at0.frames
    case stk => exact .inr ⟨rfl, rfl⟩
    case exf => exact fun b z => absurd z (none_ex b)
    case bs => exact at0.bs
    case bsz => exact at0.bsz
    case noex => exact fun b _ _ => none_ex b
    case exfs => exact fun b z => absurd z (none_ex b)
    case funs => exact at0.funs
    case frf => exact at0.frf
  constructor
  case ok => exact okay
  case os => rfl
  case bare => exact at0.bare
  case base => exact Un.kept grow
  case loc =>
    refine ⟨_, hns, fun i n z e1 e2 vis => ?_⟩
    have at1 : (X.N ++ [q])[i]? = some n := e1
    by_cases low : i < X.N.length
    · rw [List.getElem?_append_left low] at at1
      rw [List.getElem?_append_left (I.len ▸ low)] at e2
      have nn : n ≠ q := fun w => nq (w ▸ List.mem_of_getElem? at1)
      rcases (show Vis lam n from vis) with w | w | w
      · exact absurd (L.alone _ (PySem.mem_of_lookup w) rfl) nn
      · exact absurd rfl (L.nocell _ (PySem.mem_of_lookup w))
      · have par := L.from_ _ (PySem.mem_of_lookup w) rfl
        obtain ⟨mm, _, look⟩ := I.loc
        obtain ⟨u', r', lk⟩ := look i n z at1 e2 (.inr par)
        obtain ⟨a, ea⟩ := cap_there (X := X) w
        refine ⟨u', r', .inr ⟨.inr w, a, ea, ?_⟩⟩
        rcases lk with ⟨loc', _⟩ | ⟨_, a2, e3, cell⟩
        · have loc2 : X.env.scope.names.lookup n = some .local := loc'
          rcases par with y | y
          · rw [show X.env.scope.names.lookup n = _ from y] at loc2
            cases loc2
          · rw [show X.env.scope.names.lookup n = _ from y] at loc2
            cases loc2
        · obtain rfl : a = a2 := Option.some.inj ((own ea).symm.trans e3)
          exact stays (I.freeC n a e3) cell
    · have last : i = X.N.length := by
        have := (List.getElem?_eq_some_iff.mp at1).1
        rw [List.length_append, List.length_singleton] at this
        omega
      subst last
      rw [List.getElem?_concat_length] at at1
      rw [← I.len, List.getElem?_concat_length] at e2
      obtain rfl : q = n := Option.some.inj at1
      obtain rfl : v = z := Option.some.inj (Option.some.inj e2)
      exact ⟨u, rv, .inl ⟨L.par, by simp⟩⟩
  case cell =>
    intro n a e
    obtain ⟨z, w⟩ := I.cell n a (own e)
    exact ⟨z, stays (I.freeC n a (own e)) w⟩
  case free => exact at0.hok.fresh (Nat.le_refl _)
  case freeC =>
    intro n a e
    obtain ⟨z, o, w, _⟩ := I.cell n a (own e)
    exact un.free a o w (I.freeC n a (own e)) List.not_mem_nil
  case pin => exact fun p hp => absurd (show p ∈ ([] : List (Addr × Obj)) ++ [] from hp) (by simp)
  case hok => exact at0.hok.kept grow
  case len =>
    show (σ ++ [some v]).length = (X.N ++ [q]).length
    rw [List.length_append, List.length_append, I.len]
    rfl
end
/-- a function object that stands at f since the state (s, H): called at any later one it does as sp says -/
structure LamAt (P : Program) (w : World) (K : PySem.W.Frag) (mg : Str → Option Value) (base : Heap) (k : Nat) (f : Addr) (s : Shared) (H : Hp) (stk : List Env) (sp : V → Hp → VK → Prop) : Prop where
  fn : ∃ oc od fd sl, s.heap.get? f = some ⟨oc, od, .func fd, sl⟩
  new : H f = none
  nofr : f ∉ frs stk
  run : ∀ (A : Around) (outer : List Env) (s1 : Shared) (HZ : Hp) (u : Value) (v : V) (Q : VK), Room k A → Env0 P w K mg base A outer s1 HZ → Un (frs stk) [] H HZ s.heap s1.heap → RelV v u → sp v HZ Q →
    codeAny (model P w) A (.call (.ref f) ⟨[u], []⟩) (CR CX0 outer P w HZ s1 Q E0) s1
section
variable {X : Cx} {pins : List (Addr × Obj)} {σ : L2.St} {G : Hp} {s : Shared}
theorem lam_at {f c' : Addr} {pm ctv : Value} {params : Arguments} {body : Expr} {lam : Scope} {q : Str} {k : Nat} {tb : TE} (I : Inv X pins σ G s) (L : LamS1 X.env.scope lam q) (nq : q ∉ X.N)
    (stands : s.heap.get? f = some (PySem.W.kla_obj "<lambda>" (X.env.qual ++ "<lambda>") params body lam (cloFrom X.env.cells lam.names []) pm c' ctv)) (gf : G f = none) (nfr : f ∉ frs X.stack)
    (binds : ∀ u : Value, bindArgs (PySem.W.kla_fn "<lambda>" (X.env.qual ++ "<lambda>") params body lam (cloFrom X.env.cells lam.names []) pm (.ref c') ctv) ⟨[u], []⟩ = pure [(q, u)])
    (runs : ∀ (B : Around) (fr : List Env) (t : Shared) (J : Hp), Room k (B.deeper (lamEnv X lam t.heap.objs.size f c')) → PE (lamCx1 X B fr t J lam f c' q) body tb) :
    LamAt X.prog X.w X.K X.mg X.base (k + 1) f s G X.stack (fun v J Q => J c' = some (CodeO c' (X.env.qual ++ "<lambda>")) ∧ tb (σ ++ [some v]) J Q) := by
  refine ⟨⟨_, _, _, _, stands⟩, gf, nfr, fun B fr t J u v Q rm at0 un rv wish => ?_⟩
  obtain ⟨code, does⟩ := wish
  have still := un.keep f _ stands gf nfr List.not_mem_nil
  obtain ⟨⟨oc, cs, tq, w1, w2, w3⟩, _, _⟩ := at0.hok c' _ code
  have nol : t.heap.NoLimit := at0.mod.nolimit.keeps fun b o e => (at0.bs b o e).1
  refine PySem.W.kla_callFunE rm.depth still rfl L.noco L.nogen rfl ⟨c', oc, cs, tq, rfl, w1, w2, w3⟩ ?_
  rw [binds]
  refine wpAny_pure (wpAny_newFunctionEnv L.nocell (fun y hy => by rw [List.mem_singleton.mp hy]; exact L.par) (fun h2 hns hsb => ?_) L.fnk)
  refine ⟨nol.fresh _ hsb, ?_⟩
  have grow : ∀ b o, t.heap.get? b = some o → h2.get? b = some o := by
    intro b o e
    exact hsb.extBut b o (Nat.ne_of_lt (Heap.lt_size e)) (Heap.get?_push_of_some _ e)
  have start := lam_start1 (tk := t.toks + ([(q, u)] : List (Str × Value)).length) I L nq at0 rm.hd un rv hns grow (f := f) (c' := c')
  refine PySem.W.kla_codeExpr (env := lamEnv X lam t.heap.objs.size f c') (wpAny_mono ((runs B fr t J (rm.deeper _)).run [] _ _ J Q start does) (fun z t' hz => ?_) fun e t' hz => hz)
  obtain ⟨z2, J2, K2, rz, q2⟩ := hz
  exact ⟨z2, J2, K2.os, K2.bare, K2.base, K2.hok, rz, q2⟩
/-- a call of it by a name that holds it, in a def entered at that state -/
theorem pe_callLam {Z : Cx} {k i : Nat} {f : Addr} {s : Shared} {H : Hp} {stk : List Env} {sp : V → Hp → VK → Prop} {a : Str} {e : Expr} {te : TE} {p1 p2 : Pos} (LA : LamAt Z.prog Z.w Z.K Z.mg Z.base k f s H stk sp)
    (hs : Z.s_0 = s) (hH : Z.H_0 = H) (hfs : Z.fs = frs stk) (hx : Z.ex = []) (hr : Room k Z.A) (hN : Z.N[i]? = some a) (hv : Vis Z.env.scope a) (he : PE Z e te)
    (hst : starEach [e] Z.env = (false, eval e Z.env) :: starEach [] Z.env := by rfl) (hd : (a == ("__debug__" : Str)) = false := by decide) (hcd : (a == ("__classdict__" : Str)) = false := by decide) :
    PE Z (.Call (.Name a p1) [e] [] p2) (fun σ H Q => σ[i]? = some (some (.ref f)) ∧ te σ H fun v H1 => sp v H1 Q) := by
  refine ⟨fun pinsZ sZ τ HZ Q IZ h => ?_⟩
  obtain ⟨hs0, ht⟩ := h
  have fnAt : ∀ {pins : List (Addr × Obj)} {σ' : L2.St} {H' : Hp} {s' : Shared}, Inv Z pins σ' H' s' → PySem.W.FnAt f s'.heap := fun {pins σ' H' s'} J => by
    obtain ⟨oc, od, fd, sl, q⟩ := LA.fn
    have b := J.base
    rw [hfs, hx, hs, hH] at b
    exact ⟨oc, od, fd, sl, b.keep f _ q LA.new LA.nofr (by simp)⟩
  refine wpAny_Call_Name_kw (thn ((pe_var (pos := p1) (i := i) hN hv hd hcd).run pinsZ sZ τ HZ (fun v H1 => v = .ref f ∧ H1 = HZ) IZ ⟨.ref f, hs0, rfl, rfl⟩) fun u s1 ⟨v, H1, I1, r1, q1⟩ => ?_)
  obtain ⟨ev, eH⟩ := q1
  subst ev
  rw [eH] at I1
  obtain rfl : u = .ref f := r1
  refine PySem.W.callWith_F (fnAt I1) ?_ hst
  rw [hst]
  show wpAny _ _ (spliced ((false, eval e Z.env) :: backTo p2 (starEach [] Z.env))) _ _ s1
  refine Calls.spliced_cons (thn (he.run pinsZ s1 τ HZ _ I1 ht) fun u2 s2 ⟨v, H2, I2, ru, q⟩ => ?_)
  refine Calls.spliced_nil ⟨fnAt I2, ?_⟩
  have un : Un (frs stk) [] H H2 s.heap s2.heap := by
    have b := I2.base
    rw [hfs, hx, hs, hH] at b
    exact b
  refine wpAny_call (codeAny_mono (LA.run Z.A Z.stack s2 H2 u2 v Q hr I2.env0 un ru q) fun y s3 hq => ?_)
  cases y with
  | error e => exact hq.elim
  | ok fl =>
    cases fl with
    | ret u => exact I2.after hq
    | next => exact hq.elim
    | brk => exact hq.elim
    | cont => exact hq.elim
end
/-- a def that is handed such a function object and another thing -/
structure OkLam (P : Program) (w : World) (K : PySem.W.Frag) (mg : Str → Option Value) (base : Heap) (k j : Nat) (x : Str) (st : Stmt) (ps : List Str) (TT : (V → Hp → VK → Prop) → V → Hp → VK → Prop) : Prop where
  ex : ∃ (g : Addr) (fd : FuncData), Fun K x x st g fd ∧ mg x = some (.ref g) ∧ Binds K fd ps [] ∧ ps.length = 2 ∧ ∀ (A : Around) (outer : List Env) (s : Shared) (H : Hp) (f : Addr) (v : V) (u : Value) (Q : VK) (sp : V → Hp → VK → Prop), Room k A → Env0 P w K mg base A outer s H →
    BindsTo s fd ⟨[.ref f, u], []⟩ (ps.zip [.ref f, u]) → RelV v u → LamAt P w K mg base j f s H outer sp → TT sp v H Q → codeAny (model P w) A (.call (.ref g) ⟨[.ref f, u], []⟩) (CR CX0 outer P w H s Q E0) s
section
variable {P : Program} {w : World} {K : PySem.W.Frag} {mg : Str → Option Value} {base : Heap}
theorem OkLam.mono {x : Str} {st : Stmt} {ps : List Str} {i k j : Nat} {TT : (V → Hp → VK → Prop) → V → Hp → VK → Prop} (O : OkLam P w K mg base i j x st ps TT) (h : i ≤ k) : OkLam P w K mg base k j x st ps TT := by
  obtain ⟨g, fd, F, hg, b, l, G⟩ := O.ex
  exact ⟨g, fd, F, hg, b, l, fun A outer s H f v u Q sp hr => G A outer s H f v u Q sp (hr.mono h)⟩
theorem Df.okLam {x : Str} {st : Stmt} {N : List Str} {a b : Str} {k j : Nat} {TT : (V → Hp → VK → Prop) → V → Hp → VK → Prop} (D : Df K mg x st) (S : FnScope N [a, b] (defScope st))
    (hb : ∀ (kV doc pm : Value) (an : Option Addr) (cdv ct : Value) (us : List Value), us.length = [a, b].length → bindArgs (PySem.W.fnOf x x (defArgs st) (defBody st) (defScope st) .none kV doc pm an cdv ct) ⟨us, []⟩ = pure ([a, b].zip us))
    (hbody : ∀ (g : Addr) (cdv : Value) (A : Around) (outer : List Env) (s : Shared) (H : Hp) (f : Addr) (v : V) (Q : VK) (sp : V → Hp → VK → Prop), Room k (A.deeper (envOfC x (defScope st) s.heap.objs.size g cdv)) → LamAt P w K mg base j f s H outer sp → TT sp v H Q →
      ∃ t, PSs (cxOf CX0 P w K mg base N x (defScope st) g cdv A outer s H E0).nox (defBody st) t ∧ t { nx := fun _ H' => Q .non H', rt := Q } (start N [.ref f, v]) H) : OkLam P w K mg base (k + 1) j x st [a, b] TT := by
  obtain ⟨g, fd, F, hg⟩ := D.ex
  have F0 := F
  obtain ⟨oc, od, kV, doc, pm, an, cdv, ct, osl, rfl, lk, hcd⟩ := F.ex
  refine ⟨g, _, F0, hg, F0.binds hb, rfl, fun A outer s H f v u Q sp hr e0 bnd rv LA h => ?_⟩
  refine LamX.run_ofS (N := N) (ps := [a, b]) (us := [.ref f, u]) (vs := [.ref f, v]) lk hcd S hr e0 bnd (.cons rfl (.cons rv .nil)) rfl fun hr' => ?_
  obtain ⟨t, ht, hq⟩ := hbody g cdv A outer s H f v Q sp hr' LA h
  exact ⟨t, ht.nox, hq⟩
end
def tLam2 (T : List (Addr × Str)) (q : Str) (TT : (V → Hp → VK → Prop) → V → Hp → VK → Prop) (tb te2 : TE) : TE := fun σ H Q => Tabs T H ∧ ∀ (c' : Addr) (H1 : Hp), ExtN H H1 → Tabs T H1 → H1 c' = some (CodeO c' q) →
  te2 σ H1 fun v2 H2 => TT (fun v HZ Q' => HZ c' = some (CodeO c' q) ∧ tb (σ ++ [some v]) HZ Q') v2 H2 Q
section
variable {X : Cx}
/-- what is made stands: it may be pinned -/
theorem lam_pin {pins : List (Addr × Obj)} {σ : L2.St} {H : Hp} {s : Shared} {f : Addr} {o : Obj} (I : Inv X pins σ H s) (hf : s.heap.get? f = some o) (hd : ∃ fd, o.data = .func fd) (hn : H f = none) (nf : f ∉ frs X.stack) : Inv X ((f, o) :: pins) σ H s := by
  obtain ⟨fd, hd⟩ := hd
  refine I.pins_of fun q hq => ?_
  rcases List.mem_cons.mp hq with rfl | hq
  · refine ⟨hf, hn, fun z => ?_, fun z => ?_, fun v z => ?_⟩
    · obtain ⟨m, ⟨oL, es, ep, e, d, _⟩, _⟩ := I.loc
      have z' : f = X.env.locals := z
      rw [← z', hf] at e
      cases e
      rw [hd] at d
      cases d
    · refine nf ?_
      rcases I.ok.stk with e | ⟨e, hfr⟩
      · rw [e]
        exact z
      · rw [e]
        unfold frs
        rw [List.filterMap_cons, hfr]
        exact List.mem_cons_of_mem _ z
    · have z' : o.data = .cell v := z
      rw [hd] at z'
      cases z'
  · exact I.pin q (List.mem_append_right _ hq)
/-- x(lambda p: body, e2) -/
theorem pe_lamcall2 {T : List (Addr × Str)} {k j : Nat} {x a b : Str} {st : Stmt} {TT : (V → Hp → VK → Prop) → V → Hp → VK → Prop} {c Pt : Addr} {params : Arguments} {body e2 : Expr} {scope : Scope} {p : Str} {tb te2 : TE} {lpos p1 pos : Pos}
    (O : OkLam X.prog X.w X.K X.mg X.base k (j + 1) x st [a, b] TT) (hr : Room k X.A) (TB : TabB X.base X.mg c Pt) (hcode : X.env.code = .ref c) (hm : (Pt, X.env.qual ++ "<lambda>") ∈ T) (hu : ∀ q ∈ T, q.1 = Pt → q.2 = X.env.qual ++ "<lambda>")
    (L : LamS1 X.env.scope scope p) (hp : p ∉ X.N) (hdef : defaultsOf params X.env = ([], []))
    (hbind : ∀ (f c' : Addr) (pm ctv u : Value), bindArgs (PySem.W.kla_fn "<lambda>" (X.env.qual ++ "<lambda>") params body scope (cloFrom X.env.cells scope.names []) pm (.ref c') ctv) ⟨[u], []⟩ = pure [(p, u)])
    (hbody : ∀ (A : Around) (outer : List Env) (s' : Shared) (H' : Hp) (f c' : Addr), Room j (A.deeper (lamEnv X scope s'.heap.objs.size f c')) → PE (lamCx1 X A outer s' H' scope f c' p) body tb) (he2 : PE X e2 te2)
    (hg : Gl X x := by rfl) (hdb : (x == ("__debug__" : Str)) = false := by decide) (hs2 : starEach [e2] X.env = (false, eval e2 X.env) :: starEach [] X.env := by rfl) :
    PE X (.Call (.Name x p1) [.Lambda params body scope lpos, e2] [] pos) (tLam2 T (X.env.qual ++ "<lambda>") TT tb te2) := by
  refine ⟨fun pins s σ H Q I h => ?_⟩
  obtain ⟨hT, h⟩ := h
  obtain ⟨g, fd, F, mgx, bd, _, G⟩ := O.ex
  refine wpAny_Call_Name_kw (ld_glob I hg mgx ?_ hdb)
  refine PySem.W.callWith_K (h₀ := X.base) I.ok.mod.kin F.kp ?_ (by rfl) ?_
  · show wpAny _ _ (spliced ((false, eval (.Lambda params body scope lpos) X.env) :: backTo pos (starEach [e2] X.env))) _ _ s
    refine Calls.spliced_cons (lam_make2 I TB hcode hm hu hT hdef (L.has I.ok) fun f c' pm' ctv H1 s1 I1 eN T1 hf hfn hfr hco => ?_)
    have I1' := lam_pin I1 hf ⟨_, rfl⟩ hfn hfr
    rw [hs2]
    show wpAny _ _ (spliced ((false, eval e2 X.env) :: backTo pos (starEach [] X.env))) _ _ s1
    refine Calls.spliced_cons (thn (he2.run _ s1 σ H1 _ I1' (h c' H1 eN T1 hco)) fun u2 s2 ⟨v2, H2, I2, r2, q2⟩ => ?_)
    refine Calls.spliced_nil ⟨I2.kIn, ?_⟩
    obtain ⟨hf2, hn2, _⟩ := I2.pin (f, _) (List.mem_append_right _ (List.mem_cons_self))
    have I3 : Inv X pins σ H2 s2 := I2.pins_of fun q hq => I2.pin q (List.mem_append_right _ (List.mem_cons_of_mem _ hq))
    have LA := lam_at (k := j) I3 L hp hf2 hn2 hfr (hbind f c' pm' ctv) (fun A outer s' H' hr' => hbody A outer s' H' f c' hr')
    have bnd : BindsTo s2 fd ⟨[.ref f, u2], []⟩ ([a, b].zip [.ref f, u2]) := by
      have z := bd s2 [.ref f, u2] I3.kIn rfl
      simpa using z
    refine wpAny_call (codeAny_mono (G X.A X.stack s2 H2 f v2 u2 Q _ hr I3.env0 bnd r2 LA q2) fun y s3 hq => ?_)
    cases y with
    | error e => exact hq.elim
    | ok fl =>
      cases fl with
      | ret u => exact I3.after hq
      | next => exact hq.elim
      | brk => exact hq.elim
      | cont => exact hq.elim
  · rw [hs2]
    rfl
end
/-! ### what stands but for tables -/
section
variable {K : PySem.W.Frag} {H H' : Hp} {a : Addr} {xs : List V}
theorem ext_same (s : Same H H') : ExtN H H' := fun b o h _ => s b o h
theorem ext_tupl {xs : List V} {p : Addr} (e : ExtN H H') (x : H p = some (.tup xs)) : H' p = some (.tup xs) := e _ _ x fun _ z => by cases z
theorem ext_lst {xs : List V} {p : Addr} (e : ExtN H H') (x : H p = some (.lst xs)) : H' p = some (.lst xs) := e _ _ x fun _ z => by cases z
theorem ext_tup (e : ExtN H H') (h : SqT K H a xs) : SqT K H' a xs := by
  rcases h with (h | ⟨o, h⟩) | h
  · exact .inl (.inl (e _ _ h fun _ z => by cases z))
  · exact .inl (.inr ⟨o, e _ _ h fun _ z => by cases z⟩)
  · exact .inr h
theorem ext_seq (e : ExtN H H') (h : SqL K H a xs) : SqL K H' a xs := by
  rcases h with (h | ⟨o, h⟩) | h
  · exact .inl (.inl (e _ _ h fun _ z => by cases z))
  · exact .inl (.inr ⟨o, e _ _ h fun _ z => by cases z⟩)
  · exact .inr h
theorem ext_sqA (e : ExtN H H') (h : SqA K H a xs) : SqA K H' a xs := by
  rcases h with h | h
  · exact .inl (ext_seq e h)
  · exact .inr (ext_tup e h)
theorem ext_new (e : ExtN H H') (h : H' a = none) : H a = none ∨ ∃ ps, H a = some (.tbl ps) := by
  cases q : H a with
  | none => exact .inl rfl
  | some o =>
    by_cases z : ∀ ps, o ≠ .tbl ps
    · rw [e a o q z] at h
      cases h
    · refine .inr ?_
      cases o with
      | tbl ps => exact ⟨ps, rfl⟩
      | _ => exact absurd (fun _ z => by cases z) z
theorem tabs_same {T : List (Addr × Str)} (t : Tabs T H) (s : Same H H') : Tabs T H' := t.ext s
/-- the tables stand where but one object, no table and no code, has changed -/
theorem tabs_put {T : List (Addr × Str)} {b : Addr} {o : HO} (t : Tabs T H) (hb : ∃ xs, H b = some (.lst xs)) : Tabs T (upd H b o) := fun p hp => by
  obtain ⟨xs, hb⟩ := hb
  obtain ⟨ps, h1, h2, h3⟩ := t p hp
  refine ⟨ps, by rw [upd_ne (ne_of h1 hb (by intro z; cases z))]; exact h1, h2, fun pos cv hc => ?_⟩
  obtain ⟨c, e1, e2⟩ := h3 pos cv hc
  exact ⟨c, e1, by rw [upd_ne (ne_of e2 hb (by intro z; unfold CodeO at z; cases z))]; exact e2⟩
end
/-- a def of the top whose code object stands at c -/
structure DfC (K : PySem.W.Frag) (mg : Str → Option Value) (x : Str) (st : Stmt) (c : Addr) : Prop where
  ex : ∃ (f : Addr) (fd : FuncData), Fun K x x st f fd ∧ mg x = some (.ref f) ∧ fd.code = .ref c
theorem DfC.df {K : PySem.W.Frag} {mg : Str → Option Value} {x : Str} {st : Stmt} {c : Addr} (D : DfC K mg x st c) : Df K mg x st := let ⟨f, fd, a, b, _⟩ := D.ex; ⟨f, fd, a, b⟩
theorem DfC.ok {P : Program} {w : World} {K : PySem.W.Frag} {mg : Str → Option Value} {base : Heap} {x : Str} {st : Stmt} {N ps : List Str} {k : Nat} {sp : Sp} {c : Addr} (D : DfC K mg x st c) (S : FnScope N ps (defScope st))
    (hb : ∀ (kV doc pm : Value) (an : Option Addr) (cdv ct : Value) (us : List Value), us.length = ps.length → bindArgs (PySem.W.fnOf x x (defArgs st) (defBody st) (defScope st) .none kV doc pm an cdv ct) ⟨us, []⟩ = pure (ps.zip us))
    (len : ∀ vs H Q E, sp vs H Q E → vs.length = ps.length)
    (hbody : ∀ (f : Addr) (A : Around) (outer : List Env) (s : Shared) (H : Hp) (vs : List V) (Q : VK) (E : XK), Room k (A.deeper (envOfC x (defScope st) s.heap.objs.size f (.ref c))) → sp vs H Q E →
      ∃ t, PSs (cxOf CX0 P w K mg base N x (defScope st) f (.ref c) A outer s H E).nox (defBody st) t ∧ t { nx := fun _ H' => Q .non H', rt := Q } (start N vs) H) : Ok P w K mg base (k + 1) x st ps sp := by
  obtain ⟨f, fd, F, g, hc⟩ := D.ex
  have F0 := F
  obtain ⟨oc, od, kV, doc, pm, an, cdv, ct, osl, rfl, lk, hcd⟩ := F.ex
  obtain rfl : cdv = .ref c := hc
  refine ⟨f, _, F0, g, F0.binds hb, fn_of lk hcd S len fun A outer s H vs Q E hr hsp => ?_⟩
  obtain ⟨t, h, q⟩ := hbody f A outer s H vs Q E hr hsp
  exact ⟨t, h.nox, q⟩
end Sh

namespace Sh
open PySem PySem.Spec PyProof.Rows L2
/-! ### the text by places -/
def topS (i : Nat) : Stmt := PySem.Challenge.pw_shoalmates_k46_great_seas_counted.main.body.getD i (.Pass ⟨0, 0, 0, 0⟩)
end Sh

namespace Sh
open PySem PySem.Spec PyProof.Rows L2
/-! ### what is drawn from -/
def BoxOk (xs : List V) (n : Nat) : Prop := ∃ b0 b1 b2 : Int, xs = [.int b0, .int b1, .int b2] ∧ 0 ≤ b0 ∧ 0 ≤ b1 ∧ b1 < 4611686018427387904 ∧ 0 ≤ b2 ∧ b2 + (n : Int) ≤ 1099511627776
def BoxAt (H : Hp) (b : Addr) (n : Nat) : Prop := ∃ xs, H b = some (.lst xs) ∧ BoxOk xs n
theorem BoxOk.mono {xs : List V} {n m : Nat} (h : BoxOk xs n) (l : m ≤ n) : BoxOk xs m := by
  obtain ⟨b0, b1, b2, e, h0, h1, h2, h3, h4⟩ := h
  exact ⟨b0, b1, b2, e, h0, h1, h2, h3, by omega⟩
theorem BoxAt.mono {H : Hp} {b : Addr} {n m : Nat} (h : BoxAt H b n) (l : m ≤ n) : BoxAt H b m := let ⟨xs, e, k⟩ := h; ⟨xs, e, k.mono l⟩
theorem BoxAt.same {H H' : Hp} {b : Addr} {n : Nat} (h : BoxAt H b n) (s : Same H H') : BoxAt H' b n := let ⟨xs, e, k⟩ := h; ⟨xs, s _ _ e, k⟩
theorem BoxAt.some {H : Hp} {b : Addr} {n : Nat} (h : BoxAt H b n) : H b ≠ none := fun z => by
  obtain ⟨xs, e, _⟩ := h
  rw [e] at z
  cases z
/-- a new place is not the box -/
theorem BoxAt.ne {H : Hp} {b p : Addr} {n : Nat} (h : BoxAt H b n) (z : H p = none) : b ≠ p := let ⟨_, e, _⟩ := h; ne_of_none e z
def spTake : Sp := fun vs H Q _ => ∃ (b : Addr) (n : Nat) (span : Int), vs = [.ref b, .int span] ∧ 0 < span ∧ span < 1152921504606846976 ∧ BoxAt H b (n + 1) ∧ ∀ (v : Int) (xs : List V), 0 ≤ v → v < span → BoxOk xs n → Q (.int v) (upd H b (.lst xs))
abbrev s__law_take : Stmt := topS 30
theorem sc__law_take : FnScope (["_law_box_here", "_law_span", "_law_found", "_law_once", "_law_twice"] : List Str) (["_law_box_here", "_law_span"] : List Str) (defScope s__law_take) := ⟨rfl, rfl, rfl, by decide +kernel, rfl, by decide +kernel, by decide +kernel⟩
theorem b__law_take (kV doc pm : Value) (an : Option Addr) (cdv ct : Value) (us : List Value) (hl : us.length = (["_law_box_here", "_law_span"] : List Str).length) : bindArgs (PySem.W.fnOf "_law_take" "_law_take" (defArgs s__law_take) (defBody s__law_take) (defScope s__law_take) .none kV doc pm an cdv ct) ⟨us, []⟩ = pure ((["_law_box_here", "_law_span"] : List Str).zip us) :=
  match us, hl with | [_, _], _ => rfl
section
variable {P : Program} {w : World} {K : PySem.W.Frag} {mg : Str → Option Value} {base : Heap}
theorem ok_take {k : Nat} (D : Df K mg "_law_take" s__law_take) (T : Bt mg) : Ok P w K mg base (k + 1) "_law_take" s__law_take ["_law_box_here", "_law_span"] spTake := by
  refine D.ok sc__law_take b__law_take (fun vs H Q E h => ?_) (fun f cdv A outer s H vs Q E hr h => ?_)
  · obtain ⟨b, n, span, rfl, _⟩ := h
    rfl
  · obtain ⟨b, n, span, rfl, s0, s1, ⟨xs, hb, b0, b1, b2, rfl, h0, h1, h1', h2, h3⟩, q⟩ := h
    refine ⟨_, (pss_cons (ps_if (pt_cmpR op_gt (pe_ix ix_lt (pv 0) pe_int (fun _ _ => rfl)) pe_int (nomark _))
        (pss_cons (ps_set (i := 2) sc__law_take.nd rfl (.inl rfl) (pe_op op_mod (pe_ix ix_lt (pv 0) pe_int (fun _ _ => rfl)) (pv 1)))
          (pss_cons (ps_asg (pe_op op_fdivW (pe_ix ix_lt (pv 0) pe_int (fun _ _ => rfl)) (pv 1)) (pg_sub (pv 0) pe_int set_list))
          (pss_one (ps_ret (pv 2)))))
        pss_nil)
      (pss_cons (ps_asg (pe_op op_add (pe_ix ix_lt (pv 0) pe_int (fun _ _ => rfl)) pe_int) (pg_sub (pv 0) pe_int set_list))
      (pss_cons (ps_set (i := 3) sc__law_take.nd rfl (.inl rfl) (pe_op op_mod (pe_op op_mul (pe_op op_add (pe_ix ix_lt (pv 0) pe_int (fun _ _ => rfl)) (pe_op op_mul pe_int (pe_ix ix_lt (pv 0) pe_int (fun _ _ => rfl)))) (pe_op op_add pe_int (pe_ix ix_lt (pv 0) pe_int (fun _ _ => rfl)))) pe_int))
      (pss_cons (ps_set (i := 4) sc__law_take.nd rfl (.inl rfl) (pe_op op_mod (pe_op op_mul (pe_op op_add (pe_op op_add (pv 3) (pe_ix ix_lt (pv 0) pe_int (fun _ _ => rfl))) (pe_op op_fdiv (pe_ix ix_lt (pv 0) pe_int (fun _ _ => rfl)) pe_int)) (pe_op op_add (pe_op op_mod (pv 3) pe_int) pe_int)) pe_int))
      (pss_one (ps_ret (pe_op op_mod (pe_op op_fdiv (pe_op op_mod (pe_op op_add (pe_op op_mul (pv 4) pe_int) (pv 3)) pe_int) pe_int) (pv 1)))))))), ?_⟩
    have hq : SqA K H b [.int b0, .int b1, .int b2] := SqA.l hb
    refine ⟨_, rfl, b, _, 0, .int b0, rfl, rfl, hq, rfl, b0, 0, rfl, rfl, _, rfl, ite2 (fun c => ?_) (fun c => ?_)⟩
    · have c0 : 0 < b0 := of_decide_eq_true c
      refine ⟨_, rfl, b, _, 0, .int b0, rfl, rfl, hq, rfl, _, rfl, b0, span, rfl, rfl, s0, ?_⟩
      refine ⟨_, rfl, b, _, 0, .int b0, rfl, rfl, hq, rfl, _, rfl, b0, span, rfl, rfl, wide_div (b := 60) s0 (show span.natAbs < 1152921504606846976 by omega) (by decide) (by decide), ?_⟩
      refine ⟨_, rfl, b, _, 0, 0, rfl, rfl, hb, rfl, ?_⟩
      refine ⟨_, rfl, ?_⟩
      exact q _ _ (Int.emod_nonneg _ (by omega)) (Int.emod_lt_of_pos _ s0) ⟨b0 / span, b1, b2, rfl, Int.ediv_nonneg h0 (by omega), h1, h1', h2, by omega⟩
    · refine ⟨_, rfl, b, _, 2, .int b2, rfl, rfl, hq, rfl, b2, 1, rfl, rfl, ?_⟩
      refine ⟨_, rfl, b, _, 2, 2, rfl, rfl, hb, rfl, ?_⟩
      have hq2 : SqA K (upd H b (.lst [.int b0, .int b1, .int (b2 + 1)])) b [.int b0, .int b1, .int (b2 + 1)] := SqA.l upd_same
      have m1 : 0 ≤ (b1 + 48271 * (b2 + 1)) * (39373 + (b2 + 1)) % 2147483647 := Int.emod_nonneg _ (by decide)
      have m2 : (b1 + 48271 * (b2 + 1)) * (39373 + (b2 + 1)) % 2147483647 < 2147483647 := Int.emod_lt_of_pos _ (by decide)
      refine ⟨_, rfl, b, _, 1, .int b1, rfl, rfl, hq2, rfl, _, rfl, b, _, 2, .int (b2 + 1), rfl, rfl, hq2, rfl, 48271, b2 + 1, rfl, rfl, .inl ⟨by decide, by decide⟩, b1, _, rfl, rfl, ?_⟩
      refine ⟨_, rfl, b, _, 2, .int (b2 + 1), rfl, rfl, hq2, rfl, 39373, b2 + 1, rfl, rfl, _, _, rfl, rfl, .inr ⟨by omega, by omega⟩, _, 2147483647, rfl, rfl, (show (0 : Int) < 2147483647 by decide), ?_⟩
      dsimp only
      generalize (b1 + 48271 * (b2 + 1)) * (39373 + (b2 + 1)) % 2147483647 = once at m1 m2
      have o1 : 0 ≤ once % 40009 := Int.emod_nonneg _ (by decide)
      have o2 : once % 40009 < 40009 := Int.emod_lt_of_pos _ (by decide)
      refine ⟨_, rfl, _, rfl, b, _, 2, .int (b2 + 1), rfl, rfl, hq2, rfl, once, b2 + 1, rfl, rfl, _, rfl, b, _, 1, .int b1, rfl, rfl, hq2, rfl, b1, 1000003, rfl, rfl, ⟨by decide, by decide⟩, _, _, rfl, rfl, ?_⟩
      refine ⟨_, rfl, once, 40009, rfl, rfl, (show (0 : Int) < 40009 by decide), _, 7, rfl, rfl, _, _, rfl, rfl, .inr ⟨by omega, by omega⟩, _, 2147483629, rfl, rfl, (show (0 : Int) < 2147483629 by decide), ?_⟩
      dsimp only
      have t1 : 0 ≤ (once + (b2 + 1) + b1 / 1000003) * (once % 40009 + 7) % 2147483629 := Int.emod_nonneg _ (by decide)
      have t2 : (once + (b2 + 1) + b1 / 1000003) * (once % 40009 + 7) % 2147483629 < 2147483629 := Int.emod_lt_of_pos _ (by decide)
      generalize (once + (b2 + 1) + b1 / 1000003) * (once % 40009 + 7) % 2147483629 = twice at t1 t2
      refine ⟨_, rfl, twice, 48271, rfl, rfl, .inl ⟨by omega, by omega⟩, _, rfl, _, once, rfl, rfl, _, 2147483587, rfl, rfl, (show (0 : Int) < 2147483587 by decide), _, 64, rfl, rfl, ⟨by decide, by decide⟩, _, rfl, _, span, rfl, rfl, s0, ?_⟩
      exact q _ _ (Int.emod_nonneg _ (by omega)) (Int.emod_lt_of_pos _ s0) ⟨b0, b1, b2 + 1, rfl, h0, h1, h1', by omega, by omega⟩
end
end Sh

namespace Sh
open PySem PySem.Spec PyProof.Rows L2
theorem SqA.at {K : PySem.W.Frag} {H : Hp} {b l : Addr} {o : HO} {xs : List V} (n : l ≠ b) (h : SqA K H l xs) : SqA K (upd H b o) l xs := by
  rcases h with ((h | ⟨z, h⟩) | h) | ((h | ⟨z, h⟩) | h)
  · exact .inl (.inl (.inl (by rw [upd_ne n]; exact h)))
  · exact .inl (.inl (.inr ⟨z, by rw [upd_ne n]; exact h⟩))
  · exact .inl (.inr h)
  · exact .inr (.inl (.inl (by rw [upd_ne n]; exact h)))
  · exact .inr (.inl (.inr ⟨z, by rw [upd_ne n]; exact h⟩))
  · exact .inr (.inr h)
theorem at_nat {xs : List V} {i : Int} {j : Nat} {v : V} (e : i = (j : Int)) (h : xs[j]? = some v) : atI xs i = some v := L2.at_of e h
theorem b01 (c : Bool) : (0 : Int) ≤ if c = true then 1 else 0 := by cases c <;> decide
theorem b01' (c : Bool) : (-(2 ^ 64) : Int) < (if c = true then 1 else 0) ∧ (if c = true then 1 else 0) < (2 ^ 64 : Int) := by cases c <;> decide
/-- a cell of the script: some int -/
def spCellAt (K : PySem.W.Frag) : Sp := fun vs H Q _ => ∃ (l : Addr) (ns : List Int) (j : Nat), vs = [.ref l, .int (j : Int)] ∧ SqL K H l (ns.map V.int) ∧ ∀ z : Int, Q (.int z) H
abbrev s__law_cell_at : Stmt := topS 28
theorem sc__law_cell_at : FnScope (["_law_script", "_law_k"] : List Str) (["_law_script", "_law_k"] : List Str) (defScope s__law_cell_at) := ⟨rfl, rfl, rfl, by decide +kernel, rfl, by decide +kernel, by decide +kernel⟩
theorem b__law_cell_at (kV doc pm : Value) (an : Option Addr) (cdv ct : Value) (us : List Value) (hl : us.length = (["_law_script", "_law_k"] : List Str).length) : bindArgs (PySem.W.fnOf "_law_cell_at" "_law_cell_at" (defArgs s__law_cell_at) (defBody s__law_cell_at) (defScope s__law_cell_at) .none kV doc pm an cdv ct) ⟨us, []⟩ = pure ((["_law_script", "_law_k"] : List Str).zip us) :=
  match us, hl with | [_, _], _ => rfl
def spBox (K : PySem.W.Frag) : Sp := fun vs H Q _ => ∃ (l : Addr) (ns : List Int) (j : Nat), vs = [.ref l, .int (j : Int)] ∧ j ≤ 100 ∧ SqL K H l (ns.map V.int) ∧ ∀ (p : Addr) (xs : List V), H p = none → BoxOk xs 549755813888 → Q (.ref p) (upd H p (.lst xs))
abbrev s__law_box : Stmt := topS 29
theorem sc__law_box : FnScope (["_law_script", "_law_k", "_law_core"] : List Str) (["_law_script", "_law_k"] : List Str) (defScope s__law_box) := ⟨rfl, rfl, rfl, by decide +kernel, rfl, by decide +kernel, by decide +kernel⟩
theorem b__law_box (kV doc pm : Value) (an : Option Addr) (cdv ct : Value) (us : List Value) (hl : us.length = (["_law_script", "_law_k"] : List Str).length) : bindArgs (PySem.W.fnOf "_law_box" "_law_box" (defArgs s__law_box) (defBody s__law_box) (defScope s__law_box) .none kV doc pm an cdv ct) ⟨us, []⟩ = pure ((["_law_script", "_law_k"] : List Str).zip us) :=
  match us, hl with | [_, _], _ => rfl
section
variable {P : Program} {w : World} {K : PySem.W.Frag} {mg : Str → Option Value} {base : Heap}
theorem ok_cell_at {k : Nat} (D : Df K mg "_law_cell_at" s__law_cell_at) (T : Bt mg) : Ok P w K mg base (k + 1) "_law_cell_at" s__law_cell_at ["_law_script", "_law_k"] (spCellAt K) := by
  refine D.ok sc__law_cell_at b__law_cell_at (fun vs H Q E h => ?_) (fun f cdv A outer s H vs Q E hr h => ?_)
  · obtain ⟨l, ns, j, rfl, _⟩ := h
    rfl
  · obtain ⟨l, ns, j, rfl, hs, q⟩ := h
    refine ⟨_, (pss_cons (ps_if (pt_cmpR op_lt (pv 1) (pe_callB call_len_seq (by rfl) T.len_ PySem.boot_len (pa_cons (pv 0) pa_nil)) (nomark _))
        (pss_one (ps_ret (pe_ix ix_lt (pv 0) (pv 1) (fun _ _ => rfl))))
        pss_nil)
      (pss_one (ps_ret pe_int))), ?_⟩
    refine ⟨_, rfl, _, rfl, l, _, rfl, .inl hs, _, _, rfl, rfl, _, rfl, ite2 (fun c => ?_) (fun c => ?_)⟩
    · have c0 : (j : Int) < ((ns.map V.int).length : Int) := of_decide_eq_true c
      rw [List.length_map] at c0
      have c1 : j < ns.length := by omega
      refine ⟨_, rfl, _, rfl, l, _, _, .int ns[j], rfl, rfl, .inl hs, at_nat rfl (by simp [c1]), q _⟩
    · exact q 0
theorem ok_box {k : Nat} (D : Df K mg "_law_box" s__law_box) (T : Bt mg) (O__law_cell_at : Ok P w K mg base k "_law_cell_at" s__law_cell_at ["_law_script", "_law_k"] (spCellAt K)) : Ok P w K mg base (k + 1) "_law_box" s__law_box ["_law_script", "_law_k"] (spBox K) := by
  refine D.ok sc__law_box b__law_box (fun vs H Q E h => ?_) (fun f cdv A outer s H vs Q E hr h => ?_)
  · obtain ⟨l, ns, j, rfl, _⟩ := h
    rfl
  · obtain ⟨l, ns, j, rfl, hj, hs, q⟩ := h
    refine ⟨_, (pss_cons (ps_set (i := 2) sc__law_box.nd rfl (.inl rfl) (pe_fn O__law_cell_at (hr.mono (by omega)) (pa_cons (pv 0) (pa_cons (pv 1) pa_nil))))
      (pss_one (ps_ret (pe_lst (pa_cons (pe_op op_mul (pe_callB call_abs (by rfl) T.abs_ (by decide +kernel) (pa_cons (pv 2) pa_nil)) (pe_callTy call_int1 (by rfl) T.int_ (by decide +kernel) (pa_cons (pe_cmpR op_ge (pe_callB call_abs (by rfl) T.abs_ (by decide +kernel) (pa_cons (pv 2) pa_nil)) (pe_op (op_powC 1000000000000000000) pe_int pe_int) (nomark _)) pa_nil))) (pa_cons (pe_op op_add (pe_op op_add (pe_op op_mod (pv 2) pe_int) (pe_op op_mul pe_int (pv 1))) pe_int) (pa_cons pe_int pa_nil))))))), ?_⟩
    refine ⟨_, rfl, _, rfl, l, ns, j, rfl, hs, fun z => ?_⟩
    have z1 : 0 ≤ z % 2305843009213693951 := Int.emod_nonneg _ (by decide)
    have z2 : z % 2305843009213693951 < 2305843009213693951 := Int.emod_lt_of_pos _ (by decide)
    have za : 0 ≤ (if z < 0 then -z else z) := by split <;> omega
    refine ⟨_, rfl, z, rfl, _, rfl, z, rfl, 10, 18, rfl, rfl, ⟨⟨by decide, by decide, by decide⟩, by decide⟩, _, _, rfl, rfl, .inr ⟨_, rfl, ?_⟩⟩
    refine ⟨_, _, rfl, rfl, .inr (b01' _), ?_⟩
    refine ⟨_, rfl, z, _, rfl, rfl, (show (0 : Int) < 2305843009213693951 by decide), _, rfl, 39373, (j : Int), rfl, rfl, .inl ⟨by decide, by decide⟩, _, _, rfl, rfl, _, 17, rfl, rfl, ?_⟩
    refine ⟨(by show 3 ≤ sizeLine; decide), fun p np => ?_⟩
    refine q p _ np ⟨_, _, 0, rfl, ?_, by omega, by omega, by omega, by omega⟩
    exact Int.mul_nonneg za (b01 _)
end
/-! ### one of some -/
def spOf (K : PySem.W.Frag) : Sp := fun vs H Q _ => ∃ (b l : Addr) (n : Nat) (xs : List V), vs = [.ref b, .ref l] ∧ SqA K H l xs ∧ l ≠ b ∧ 0 < xs.length ∧ xs.length < 1000000 ∧ BoxAt H b (n + 1) ∧ ∀ (v : V) (ys : List V), v ∈ xs → BoxOk ys n → Q v (upd H b (.lst ys))
abbrev s__law_of : Stmt := topS 32
theorem sc__law_of : FnScope (["_law_box_here", "_law_some"] : List Str) (["_law_box_here", "_law_some"] : List Str) (defScope s__law_of) := ⟨rfl, rfl, rfl, by decide +kernel, rfl, by decide +kernel, by decide +kernel⟩
theorem b__law_of (kV doc pm : Value) (an : Option Addr) (cdv ct : Value) (us : List Value) (hl : us.length = (["_law_box_here", "_law_some"] : List Str).length) : bindArgs (PySem.W.fnOf "_law_of" "_law_of" (defArgs s__law_of) (defBody s__law_of) (defScope s__law_of) .none kV doc pm an cdv ct) ⟨us, []⟩ = pure ((["_law_box_here", "_law_some"] : List Str).zip us) :=
  match us, hl with | [_, _], _ => rfl
section
variable {P : Program} {w : World} {K : PySem.W.Frag} {mg : Str → Option Value} {base : Heap}
theorem ok_of {k : Nat} (D : Df K mg "_law_of" s__law_of) (T : Bt mg) (O__law_take : Ok P w K mg base k "_law_take" s__law_take ["_law_box_here", "_law_span"] spTake) : Ok P w K mg base (k + 1) "_law_of" s__law_of ["_law_box_here", "_law_some"] (spOf K) := by
  refine D.ok sc__law_of b__law_of (fun vs H Q E h => ?_) (fun f cdv A outer s H vs Q E hr h => ?_)
  · obtain ⟨b, l, n, xs, rfl, _⟩ := h
    rfl
  · obtain ⟨b, l, n, xs, rfl, hl, hne, l0, l1, hb, q⟩ := h
    refine ⟨_, (pss_one (ps_ret (pe_ix ix_lt (pv 1) (pe_fn O__law_take (hr.mono (by omega)) (pa_cons (pv 0) (pa_cons (pe_callB call_len_seq (by rfl) T.len_ PySem.boot_len (pa_cons (pv 1) pa_nil)) pa_nil))) (fun _ _ => rfl)))), ?_⟩
    refine ⟨_, rfl, _, rfl, _, rfl, l, xs, rfl, hl, b, n, _, rfl, by omega, by omega, hb, fun v ys v0 v1 hy => ?_⟩
    have hi : v.toNat < xs.length := by omega
    refine ⟨l, xs, v, xs[v.toNat], rfl, rfl, SqA.at hne hl, at_nat (j := v.toNat) (by omega) (by simp [hi]), ?_⟩
    exact q _ _ (List.getElem_mem hi) hy
end
end Sh

namespace Sh
open PySem PySem.Spec PyProof.Rows L2
/-! ### what is told is what is due -/
def tyS : PyData → String
  | .none => "NoneType" | .bool _ => "bool" | .int _ => "int" | .str _ => "str" | .list _ => "list" | .tuple _ => "tuple" | .dict _ => "dict"
/-- at most so deep, no longer than a hundred thousand -/
def Lv : Nat → PyData → Prop
  | 0, _ => False
  | _ + 1, .none => True
  | _ + 1, .bool _ => True
  | _ + 1, .int _ => True
  | _ + 1, .str _ => True
  | n + 1, .list ds => ds.length ≤ 100000 ∧ ∀ e ∈ ds, Lv n e
  | n + 1, .tuple ds => ds.length ≤ 100000 ∧ ∀ e ∈ ds, Lv n e
  | _ + 1, .dict _ => False
theorem lv_ints {n : Nat} (ns : List Int) (h : ns.length ≤ 100000) : Lv (n + 2) (.list (ns.map .int)) := ⟨by rw [List.length_map]; exact h, fun e he => by
  obtain ⟨i, _, rfl⟩ := List.mem_map.mp he
  exact trivial⟩
theorem lv_intsT {n : Nat} (ns : List Int) (h : ns.length ≤ 100000) : Lv (n + 2) (.tuple (ns.map .int)) := ⟨by rw [List.length_map]; exact h, fun e he => by
  obtain ⟨i, _, rfl⟩ := List.mem_map.mp he
  exact trivial⟩
section
variable {K : PySem.W.Frag} {H : Hp}
theorem ty_list {a : Addr} {xs : List V} (h : SqL K H a xs) : TyX K H (.ref a) (.type "list") := by
  rcases h with (h | ⟨o, h⟩) | ⟨o, its, n, h, c, _⟩
  · exact .base (.lst h)
  · exact .base (.frz h)
  · exact .kList h c
theorem ty_tup {a : Addr} {xs : List V} (h : SqT K H a xs) : TyX K H (.ref a) (.type "tuple") := by
  rcases h with (h | ⟨o, h⟩) | ⟨o, its, n, h, c, _⟩
  · exact .base (.tup h)
  · exact .fTuple h
  · exact .kTuple h c
theorem ty_of {v : V} {d : PyData} (h : Dp K H v d) : TyX K H v (.type (tyS d)) := by
  cases h with
  | non => exact .base .non
  | bl b => exact .base (.bl b)
  | int i => exact .base (.int i)
  | str x => exact .base (.str x)
  | lst h _ => exact ty_list h
  | tup h _ => exact ty_tup h
theorem kit2 {t a b : String} {r1 r2 r : Bool} (h1 : kitB t a = some r1) (h2 : kitB t b = some r2) (hr : (r1 || r2) = r) : PySem.W.kitAny K (.type t) [.type a, .type b] = some r := by
  refine kitAny_cons (b := r1) (kit_ty h1) (fun e => ?_) (fun e => ?_)
  · refine kitAny_cons (b := r2) (kit_ty h2) (fun e2 => ?_) (fun e2 => ?_)
    · rw [← hr, e, e2]
      exact kitAny_nil
    · rw [← hr, e, e2]
      all_goals rfl
  · rw [← hr, e]
    all_goals rfl
end
def spSame (K : PySem.W.Frag) (n : Nat) : Sp := fun vs H Q _ => ∃ (x y : V) (d : PyData), vs = [x, y] ∧ Dp K H x d ∧ Dp K H y d ∧ Lv n d ∧ ∀ H', Same H H' → Q (.bl true) H'
abbrev s__law_same : Stmt := topS 33
theorem sc__law_same : FnScope (["_law_found", "_law_due_here", "_law_a", "_law_b"] : List Str) (["_law_found", "_law_due_here"] : List Str) (defScope s__law_same) := ⟨rfl, rfl, rfl, by decide +kernel, rfl, by decide +kernel, by decide +kernel⟩
theorem b__law_same (kV doc pm : Value) (an : Option Addr) (cdv ct : Value) (us : List Value) (hl : us.length = (["_law_found", "_law_due_here"] : List Str).length) : bindArgs (PySem.W.fnOf "_law_same" "_law_same" (defArgs s__law_same) (defBody s__law_same) (defScope s__law_same) .none kV doc pm an cdv ct) ⟨us, []⟩ = pure ((["_law_found", "_law_due_here"] : List Str).zip us) :=
  match us, hl with | [_, _], _ => rfl
section
variable {P : Program} {w : World} {K : PySem.W.Frag} {mg : Str → Option Value} {base : Heap}
theorem same0 (D : Df K mg "_law_same" s__law_same) : Ok P w K mg base 0 "_law_same" s__law_same ["_law_found", "_law_due_here"] (spSame K 0) := by
  obtain ⟨f, fd, F, g⟩ := D.ex
  refine ⟨f, fd, F, g, F.binds b__law_same, ⟨fun vs H Q E h => ?_, fun A outer s H args us vs Q E hr he hb hv h => ?_⟩⟩
  · obtain ⟨x, y, d, _, _, _, lv, _⟩ := h
    cases d <;> exact lv.elim
  · obtain ⟨x, y, d, _, _, _, lv, _⟩ := h
    cases d <;> exact lv.elim
set_option maxHeartbeats 4000000 in
theorem same1 {m : Nat} (D : Df K mg "_law_same" s__law_same) (T : Bt mg) (O__law_same : Ok P w K mg base m "_law_same" s__law_same ["_law_found", "_law_due_here"] (spSame K m)) : Ok P w K mg base (m + 1) "_law_same" s__law_same ["_law_found", "_law_due_here"] (spSame K (m + 1)) := by
  refine D.ok sc__law_same b__law_same (fun vs H Q E h => ?_) (fun f cdv A outer s H vs Q E hr h => ?_)
  · obtain ⟨x, y, d, rfl, _⟩ := h
    rfl
  · obtain ⟨x, y, d, rfl, hx, hy, lv, q⟩ := h
    refine ⟨_, (pss_cons (ps_if (pt_val (pe_callB call_isiT (by rfl) T.isinstance_ (by decide +kernel) (pa_cons (pv 1) (pa_cons (pe_tup (pa_cons (pe_bltn (v := .ty "list") (by rfl) T.list_ (by decide +kernel) rfl) (pa_cons (pe_bltn (v := .ty "tuple") (by rfl) T.tuple_ (by decide +kernel) rfl) pa_nil))) pa_nil))))
        (pss_cons (ps_if (PW.pt (pw_or (pt_cmpR op_ne (pe_callB call_isi (by rfl) T.isinstance_ (by decide +kernel) (pa_cons (pv 0) (pa_cons (pe_bltn (v := .ty "list") (by rfl) T.list_ (by decide +kernel) rfl) pa_nil))) (pe_callB call_isi (by rfl) T.isinstance_ (by decide +kernel) (pa_cons (pv 1) (pa_cons (pe_bltn (v := .ty "list") (by rfl) T.list_ (by decide +kernel) rfl) pa_nil))) (nomark _)) (pw_or1 (pt_cmpR op_ne (pe_callB call_isi (by rfl) T.isinstance_ (by decide +kernel) (pa_cons (pv 0) (pa_cons (pe_bltn (v := .ty "tuple") (by rfl) T.tuple_ (by decide +kernel) rfl) pa_nil))) (pe_callB call_isi (by rfl) T.isinstance_ (by decide +kernel) (pa_cons (pv 1) (pa_cons (pe_bltn (v := .ty "tuple") (by rfl) T.tuple_ (by decide +kernel) rfl) pa_nil))) (nomark _)))))
            (pss_one (ps_ret pe_bl))
            pss_nil)
          (pss_one (ps_ret (pe_and (pe_cmpR op_eq (pe_callB call_len_seq (by rfl) T.len_ PySem.boot_len (pa_cons (pv 0) pa_nil)) (pe_callB call_len_seq (by rfl) T.len_ PySem.boot_len (pa_cons (pv 1) pa_nil)) (nomark _)) (pe_one (pe_callB (cr_all rfl) (by rfl) T.all_ (by decide +kernel) (pa_cons (pe_lc (own := [("_law_a", 2), ("_law_b", 3)]) (g := (gSeq K 2 (gCons (gName 2) (gCons (gName 3) gNil)))) (tt := tYes) (by rfl) sc__law_same.nd (RZ.pi_zipA (by rfl) T.zip_ (pa_cons (pv 0) (pa_cons (pv 1) pa_nil))) (blkOk_by (own := [("_law_a", 2), ("_law_b", 3)]) (N := (["_law_found", "_law_due_here", "_law_a", "_law_b"] : List Str)) (sc := defScope s__law_same) (by decide +kernel)) (fun _ _ _ _ _ => (pg_seq rfl (pgs_cons (pg_name (i := 2) sc__law_same.nd rfl (.inl rfl)) (pgs_cons (pg_name (i := 3) sc__law_same.nd rfl (.inl rfl)) pgs_nil)))) (fun _ _ _ _ _ => pts_nil) (fun _ _ _ _ _ => (pe_fn O__law_same (hr.mono (by omega)) (pa_cons (pv 2) (pa_cons (pv 3) pa_nil))))) pa_nil)))))))
        pss_nil)
      (pss_cons (ps_if (PW.pt (pw_or (pt_cmpR op_isN (pv 1) pe_non (nomark _)) (pw_or1 (pt_val (pe_callB call_isiT (by rfl) T.isinstance_ (by decide +kernel) (pa_cons (pv 1) (pa_cons (pe_tup (pa_cons (pe_bltn (v := .ty "bool") (by rfl) T.bool_ (by decide +kernel) rfl) (pa_cons (pe_bltn (v := .ty "str") (by rfl) T.str_ (by decide +kernel) rfl) pa_nil))) pa_nil)))))))
        (pss_one (ps_ret (pe_and (pe_cmpR op_eq (pv 0) (pv 1) (nomark _)) (pe_and (pe_cmpR op_eq (pe_callB call_isi (by rfl) T.isinstance_ (by decide +kernel) (pa_cons (pv 0) (pa_cons (pe_bltn (v := .ty "bool") (by rfl) T.bool_ (by decide +kernel) rfl) pa_nil))) (pe_callB call_isi (by rfl) T.isinstance_ (by decide +kernel) (pa_cons (pv 1) (pa_cons (pe_bltn (v := .ty "bool") (by rfl) T.bool_ (by decide +kernel) rfl) pa_nil))) (nomark _)) (pe_one (pe_cmpR op_eq (pe_cmpR op_isN (pv 0) pe_non (nomark _)) (pe_cmpR op_isN (pv 1) pe_non (nomark _)) (nomark _)))))))
        pss_nil)
      (pss_one (ps_ret (pe_and (pe_callB call_isi (by rfl) T.isinstance_ (by decide +kernel) (pa_cons (pv 0) (pa_cons (pe_bltn (v := .ty "int") (by rfl) T.int_ (by decide +kernel) rfl) pa_nil))) (pe_and (pe_not (pe_callB call_isi (by rfl) T.isinstance_ (by decide +kernel) (pa_cons (pv 0) (pa_cons (pe_bltn (v := .ty "bool") (by rfl) T.bool_ (by decide +kernel) rfl) pa_nil)))) (pe_one (pe_cmpR op_eq (pv 0) (pv 1) (nomark _))))))))), ?_⟩
    refine ⟨_, rfl, (by show 2 ≤ sizeLine; decide), fun tp ntp => ?_⟩
    have s1 : Same H (upd H tp (.tup [.ty "list", .ty "tuple"])) := same_new ntp
    generalize eH1 : upd H tp (.tup [.ty "list", .ty "tuple"]) = H1 at s1
    have htp : H1 tp = some (.tup [.ty "list", .ty "tuple"]) := by rw [← eH1, upd_same]
    clear eH1 ntp
    cases d with
    | dict kvs => exact lv.elim
    | list ds =>
      obtain ⟨a, xs, hsx, hax⟩ : ∃ a xs, SqL K H1 a xs ∧ DpAll K H1 xs ds ∧ x = .ref a := by cases hx with | lst h a => exact ⟨_, _, s1.seq h, DpAll.same s1 a, rfl⟩
      obtain ⟨b, ys, hsy, hay⟩ : ∃ a xs, SqL K H1 a xs ∧ DpAll K H1 xs ds ∧ y = .ref a := by cases hy with | lst h a => exact ⟨_, _, s1.seq h, DpAll.same s1 a, rfl⟩
      obtain ⟨hax, rfl⟩ := hax
      obtain ⟨hay, rfl⟩ := hay
      have lx : xs.length = ds.length := DpAll.len hax
      have ly : ys.length = ds.length := DpAll.len hay
      refine ⟨.ref b, tp, [.ty "list", .ty "tuple"], .type "list", [.type "list", .type "tuple"], true, rfl, htp, .cons (.ty _) (.cons (.ty _) .nil), ty_list hsy, kit2 (r1 := true) (r2 := false) (by decide +kernel) (by decide +kernel) rfl, _, rfl, iteT ?_⟩
      refine ⟨_, rfl, .ref a, .ty "list", .type "list", .type "list", true, rfl, .ty _, ty_list hsx, kit_ty (by decide +kernel), _, rfl, .ref b, .ty "list", .type "list", .type "list", true, rfl, .ty _, ty_list hsy, kit_ty (by decide +kernel), rfl, _, rfl, iteNS rfl ?_⟩
      refine ⟨_, rfl, .ref a, .ty "tuple", .type "list", .type "tuple", false, rfl, .ty _, ty_list hsx, kit_ty (by decide +kernel), _, rfl, .ref b, .ty "tuple", .type "list", .type "tuple", false, rfl, .ty _, ty_list hsy, kit_ty (by decide +kernel), rfl, _, rfl, iteNS rfl ?_⟩
      refine ⟨_, rfl, a, xs, rfl, .inl hsx, _, rfl, b, ys, rfl, .inl hsy, rfl, _, rfl, ?_⟩
      rw [if_pos (decide_eq_true (by rw [lx, ly]))]
      refine ⟨_, rfl, _, rfl, a, b, xs, ys, rfl, .inl ⟨hsx, hsy, fun C nC => ?_⟩⟩
      refine lc_it (walk_zip (n := ds.length) (by rw [lx, ly]; exact (Nat.min_self _).symm)) (fun i H' => Same H1 H' ∧ H' C = some (.lst ((List.replicate i true).map V.bl))) ⟨same_new nC, upd_same⟩ (fun i H' _ p => ⟨p.1.seq hsx, p.1.seq hsy⟩) ?_ ?_
      · rintro i z H2 H3 hi ⟨sm, hC⟩ ⟨t, u, v, rfl, nt, rfl, gu, gv⟩
        have sm2 : Same H1 (upd H2 t (.tup [u, v])) := sm.trans (same_new nt)
        obtain ⟨e, ge, he⟩ := DpAll.get (DpAll.same sm2 hax) gu
        obtain ⟨e', ge', he'⟩ := DpAll.get (DpAll.same sm2 hay) gv
        obtain rfl : e = e' := Option.some.inj (ge.symm.trans ge')
        refine ⟨t, [u, v], rfl, SqA.t upd_same, rfl, u, [v], rfl, v, [], rfl, rfl, rfl, tyes (iteT ?_)⟩
        refine ⟨_, rfl, _, rfl, u, v, e, rfl, he, he', lv.2 e (List.mem_of_getElem? ge), fun H4 s4 => ?_⟩
        refine ⟨_, s4 _ _ (by rw [upd_ne (ne_of_none hC nt)]; exact hC), ?_, fun p o ho => ?_, ?_⟩
        · have h1 := lv.1
          rw [List.length_map, List.length_replicate]
          exact Nat.lt_of_lt_of_le hi (Nat.le_trans h1 (by decide))
        · have np : p ≠ C := ne_of_none ho nC
          rw [upd_ne np]
          exact s4 _ _ (sm2 _ _ ho)
        · rw [upd_same, List.replicate_succ', List.map_append]
          rfl
      · rintro H2 ⟨sm, hC⟩
        refine ⟨C, _, rfl, SqL.of hC, ?_⟩
        have e : (List.replicate ds.length true).all id = true := by simp
        rw [e]
        exact q _ (s1.trans sm)
    | tuple ds =>
      obtain ⟨a, xs, hsx, hax⟩ : ∃ a xs, SqT K H1 a xs ∧ DpAll K H1 xs ds ∧ x = .ref a := by cases hx with | tup h a => exact ⟨_, _, Same.tup s1 h, DpAll.same s1 a, rfl⟩
      obtain ⟨b, ys, hsy, hay⟩ : ∃ a xs, SqT K H1 a xs ∧ DpAll K H1 xs ds ∧ y = .ref a := by cases hy with | tup h a => exact ⟨_, _, Same.tup s1 h, DpAll.same s1 a, rfl⟩
      obtain ⟨hax, rfl⟩ := hax
      obtain ⟨hay, rfl⟩ := hay
      have lx : xs.length = ds.length := DpAll.len hax
      have ly : ys.length = ds.length := DpAll.len hay
      refine ⟨.ref b, tp, [.ty "list", .ty "tuple"], .type "tuple", [.type "list", .type "tuple"], true, rfl, htp, .cons (.ty _) (.cons (.ty _) .nil), ty_tup hsy, kit2 (r1 := false) (r2 := true) (by decide +kernel) (by decide +kernel) rfl, _, rfl, iteT ?_⟩
      refine ⟨_, rfl, .ref a, .ty "list", .type "tuple", .type "list", false, rfl, .ty _, ty_tup hsx, kit_ty (by decide +kernel), _, rfl, .ref b, .ty "list", .type "tuple", .type "list", false, rfl, .ty _, ty_tup hsy, kit_ty (by decide +kernel), rfl, _, rfl, iteNS rfl ?_⟩
      refine ⟨_, rfl, .ref a, .ty "tuple", .type "tuple", .type "tuple", true, rfl, .ty _, ty_tup hsx, kit_ty (by decide +kernel), _, rfl, .ref b, .ty "tuple", .type "tuple", .type "tuple", true, rfl, .ty _, ty_tup hsy, kit_ty (by decide +kernel), rfl, _, rfl, iteNS rfl ?_⟩
      refine ⟨_, rfl, a, xs, rfl, .inr hsx, _, rfl, b, ys, rfl, .inr hsy, rfl, _, rfl, ?_⟩
      rw [if_pos (decide_eq_true (by rw [lx, ly]))]
      refine ⟨_, rfl, _, rfl, a, b, xs, ys, rfl, .inr ⟨hsx, hsy, fun C nC => ?_⟩⟩
      refine lc_it (walk_zipT (n := ds.length) (by rw [lx, ly]; exact (Nat.min_self _).symm)) (fun i H' => Same H1 H' ∧ H' C = some (.lst ((List.replicate i true).map V.bl))) ⟨same_new nC, upd_same⟩ (fun i H' _ p => ⟨Same.tup p.1 hsx, Same.tup p.1 hsy⟩) ?_ ?_
      · rintro i z H2 H3 hi ⟨sm, hC⟩ ⟨t, u, v, rfl, nt, rfl, gu, gv⟩
        have sm2 : Same H1 (upd H2 t (.tup [u, v])) := sm.trans (same_new nt)
        obtain ⟨e, ge, he⟩ := DpAll.get (DpAll.same sm2 hax) gu
        obtain ⟨e', ge', he'⟩ := DpAll.get (DpAll.same sm2 hay) gv
        obtain rfl : e = e' := Option.some.inj (ge.symm.trans ge')
        refine ⟨t, [u, v], rfl, SqA.t upd_same, rfl, u, [v], rfl, v, [], rfl, rfl, rfl, tyes (iteT ?_)⟩
        refine ⟨_, rfl, _, rfl, u, v, e, rfl, he, he', lv.2 e (List.mem_of_getElem? ge), fun H4 s4 => ?_⟩
        refine ⟨_, s4 _ _ (by rw [upd_ne (ne_of_none hC nt)]; exact hC), ?_, fun p o ho => ?_, ?_⟩
        · have h1 := lv.1
          rw [List.length_map, List.length_replicate]
          exact Nat.lt_of_lt_of_le hi (Nat.le_trans h1 (by decide))
        · have np : p ≠ C := ne_of_none ho nC
          rw [upd_ne np]
          exact s4 _ _ (sm2 _ _ ho)
        · rw [upd_same, List.replicate_succ', List.map_append]
          rfl
      · rintro H2 ⟨sm, hC⟩
        refine ⟨C, _, rfl, SqL.of hC, ?_⟩
        have e : (List.replicate ds.length true).all id = true := by simp
        rw [e]
        exact q _ (s1.trans sm)
    | int i =>
      cases hx; cases hy
      refine ⟨.int i, tp, [.ty "list", .ty "tuple"], .type "int", [.type "list", .type "tuple"], false, rfl, htp, .cons (.ty _) (.cons (.ty _) .nil), .base (.int i), kit2 (r1 := false) (r2 := false) (by decide +kernel) (by decide +kernel) rfl, _, rfl, iteF ?_⟩
      refine ⟨_, rfl, rfl, _, rfl, iteF ?_⟩
      refine ⟨_, rfl, (by show 2 ≤ sizeLine; decide), fun tq ntq => ?_⟩
      refine ⟨.int i, tq, [.ty "bool", .ty "str"], .type "int", [.type "bool", .type "str"], false, rfl, upd_same, .cons (.ty _) (.cons (.ty _) .nil), .base (.int i), kit2 (r1 := false) (r2 := false) (by decide +kernel) (by decide +kernel) rfl, _, rfl, iteF ?_⟩
      refine ⟨_, rfl, .int i, .ty "int", .type "int", .type "int", true, rfl, .ty _, .base (.int i), kit_ty (by decide +kernel), _, rfl, iteT ?_⟩
      refine ⟨_, rfl, .int i, .ty "bool", .type "int", .type "bool", false, rfl, .ty _, .base (.int i), kit_ty (by decide +kernel), _, rfl, _, rfl, iteT ?_⟩
      refine ⟨_, rfl, _, rfl, rfl, ?_⟩
      rw [decide_eq_true rfl]
      exact q _ (s1.trans (same_new ntq))
    | none =>
      cases hx; cases hy
      refine ⟨.non, tp, [.ty "list", .ty "tuple"], .type "NoneType", [.type "list", .type "tuple"], false, rfl, htp, .cons (.ty _) (.cons (.ty _) .nil), .base .non, kit2 (r1 := false) (r2 := false) (by decide +kernel) (by decide +kernel) rfl, _, rfl, iteF ?_⟩
      refine ⟨_, rfl, rfl, _, rfl, iteT (iteT ?_)⟩
      refine ⟨_, rfl, _, rfl, rfl, _, rfl, iteT ?_⟩
      refine ⟨_, rfl, .non, .ty "bool", .type "NoneType", .type "bool", false, rfl, .ty _, .base .non, kit_ty (by decide +kernel), _, rfl, .non, .ty "bool", .type "NoneType", .type "bool", false, rfl, .ty _, .base .non, kit_ty (by decide +kernel), rfl, _, rfl, iteT ?_⟩
      refine ⟨_, rfl, rfl, _, rfl, rfl, rfl, ?_⟩
      exact q _ s1
    | bool c =>
      cases hx; cases hy
      refine ⟨.bl c, tp, [.ty "list", .ty "tuple"], .type "bool", [.type "list", .type "tuple"], false, rfl, htp, .cons (.ty _) (.cons (.ty _) .nil), .base (.bl c), kit2 (r1 := false) (r2 := false) (by decide +kernel) (by decide +kernel) rfl, _, rfl, iteF ?_⟩
      refine ⟨_, rfl, rfl, _, rfl, iteF ?_⟩
      refine ⟨_, rfl, (by show 2 ≤ sizeLine; decide), fun tq ntq => ?_⟩
      refine ⟨.bl c, tq, [.ty "bool", .ty "str"], .type "bool", [.type "bool", .type "str"], true, rfl, upd_same, .cons (.ty _) (.cons (.ty _) .nil), .base (.bl c), kit2 (r1 := true) (r2 := false) (by decide +kernel) (by decide +kernel) rfl, _, rfl, iteT ?_⟩
      refine ⟨_, rfl, _, rfl, rfl, _, rfl, ?_⟩
      rw [if_pos (decide_eq_true rfl)]
      refine ⟨_, rfl, .bl c, .ty "bool", .type "bool", .type "bool", true, rfl, .ty _, .base (.bl c), kit_ty (by decide +kernel), _, rfl, .bl c, .ty "bool", .type "bool", .type "bool", true, rfl, .ty _, .base (.bl c), kit_ty (by decide +kernel), rfl, _, rfl, iteT ?_⟩
      refine ⟨_, rfl, rfl, _, rfl, rfl, rfl, ?_⟩
      exact q _ (s1.trans (same_new ntq))
    | str c =>
      cases hx; cases hy
      refine ⟨.str c, tp, [.ty "list", .ty "tuple"], .type "str", [.type "list", .type "tuple"], false, rfl, htp, .cons (.ty _) (.cons (.ty _) .nil), .base (.str c), kit2 (r1 := false) (r2 := false) (by decide +kernel) (by decide +kernel) rfl, _, rfl, iteF ?_⟩
      refine ⟨_, rfl, rfl, _, rfl, iteF ?_⟩
      refine ⟨_, rfl, (by show 2 ≤ sizeLine; decide), fun tq ntq => ?_⟩
      refine ⟨.str c, tq, [.ty "bool", .ty "str"], .type "str", [.type "bool", .type "str"], true, rfl, upd_same, .cons (.ty _) (.cons (.ty _) .nil), .base (.str c), kit2 (r1 := false) (r2 := true) (by decide +kernel) (by decide +kernel) rfl, _, rfl, iteT ?_⟩
      refine ⟨_, rfl, _, rfl, rfl, _, rfl, ?_⟩
      rw [if_pos (decide_eq_true rfl)]
      refine ⟨_, rfl, .str c, .ty "bool", .type "str", .type "bool", false, rfl, .ty _, .base (.str c), kit_ty (by decide +kernel), _, rfl, .str c, .ty "bool", .type "str", .type "bool", false, rfl, .ty _, .base (.str c), kit_ty (by decide +kernel), rfl, _, rfl, iteT ?_⟩
      refine ⟨_, rfl, rfl, _, rfl, rfl, rfl, ?_⟩
      exact q _ (s1.trans (same_new ntq))
theorem ok_same (D : Df K mg "_law_same" s__law_same) (T : Bt mg) : ∀ m : Nat, Ok P w K mg base m "_law_same" s__law_same ["_law_found", "_law_due_here"] (spSame K m)
  | 0 => same0 D
  | m + 1 => same1 D T (ok_same D T m)
end
end Sh

namespace Sh
open PySem PySem.Spec PyProof.Rows L2
/-! ### a drawn sea -/
theorem But.put {b p : Addr} {H H' : Hp} {o : HO} (h : But b H H') (n : H p = none) : But b H (upd H' p o) := fun a x na e => by
  rw [upd_ne (ne_of_none e n)]
  exact h a x na e
theorem But.box {b : Addr} {H H' : Hp} {o : HO} (h : But b H H') : But b H (upd H' b o) := fun a x na e => by
  rw [upd_ne na]
  exact h a x na e
theorem BoxAt.put {H : Hp} {b : Addr} {n : Nat} {xs : List V} (h : BoxOk xs n) : BoxAt (upd H b (.lst xs)) b n := ⟨xs, upd_same, h⟩
theorem BoxAt.at {H : Hp} {b p : Addr} {n : Nat} {o : HO} (h : BoxAt H b n) (ne : b ≠ p) : BoxAt (upd H p o) b n := let ⟨xs, e, k⟩ := h; ⟨xs, by rw [upd_ne ne]; exact e, k⟩
structure SeaOk (most : Nat) (h t : Int) (ds : List Int) : Prop where
  h0 : 0 ≤ h
  h1 : h ≤ 1000000000000
  t0 : 0 ≤ t
  t1 : t ≤ 1000000000000
  l0 : 0 < ds.length
  l1 : ds.length ≤ most
  d0 : ∀ d ∈ ds, 0 ≤ d ∧ d ≤ 1000000000000
def spSea : Sp := fun vs H Q _ => ∃ (b : Addr) (n most : Nat), vs = [.ref b, .int (most : Int)] ∧ 0 < most ∧ most ≤ 60 ∧ BoxAt H b (n + 200) ∧
  ∀ (H' : Hp) (p q : Addr) (h t : Int) (ds : List Int), But b H H' → BoxAt H' b n → H p = none → H q = none → H' p = some (.tup [.int h, .int t, .ref q]) → H' q = some (.tup (ds.map V.int)) → SeaOk most h t ds → Q (.ref p) H'
section
variable {P : Program} {w : World} {K : PySem.W.Frag} {mg : Str → Option Value} {base : Heap}
/-- a new object, a draw: what stands, stands -/
theorem al {b p : Addr} {H Hc : Hp} {n : Nat} {o : HO} (u : But b H Hc) (x : BoxAt Hc b n) (np : Hc p = none) : But b H (upd Hc p o) ∧ BoxAt (upd Hc p o) b n ∧ upd Hc p o p = some o ∧ p ≠ b :=
  ⟨fun a z na e => by rw [upd_ne (ne_of_none (u a z na e) np)]; exact u a z na e, x.at (x.ne np), upd_same, (x.ne np).symm⟩
theorem tk {b : Addr} {H Hc : Hp} {n : Nat} {ys : List V} (u : But b H Hc) (y : BoxOk ys n) : But b H (upd Hc b (.lst ys)) ∧ BoxAt (upd Hc b (.lst ys)) b n := ⟨u.box, .put y⟩
theorem But.free {b p : Addr} {H H' : Hp} (u : But b H H') (n : p ≠ b) (h : H' p = none) : H p = none := by
  cases e : H p with
  | none => rfl
  | some o =>
    rw [u p o n e] at h
    cases h
theorem two_of {ns : List Int} (h : ns.length = 2) : ∃ a b, ns = [a, b] := by
  match ns, h with
  | [a, b], _ => exact ⟨a, b, rfl⟩
theorem ints_mem {v : V} {ns : List Int} (h : v ∈ ns.map V.int) : ∃ i ∈ ns, v = .int i := by
  obtain ⟨i, hi, e⟩ := List.mem_map.mp h
  exact ⟨i, hi, e.symm⟩
theorem ne_box {H : Hp} {b p : Addr} {n : Nat} (h : BoxAt H b n) (z : H p = none) : p ≠ b := (h.ne z).symm
end
end Sh

namespace Sh
open PySem PySem.Spec PyProof.Rows L2
/-! ### what many laws ask -/
/-- a sea (list or tuple) is handed in -/
def SeaA (K : PySem.W.Frag) (H : Hp) (v : V) (h t : Int) (ds : List Int) : Prop := ∃ p q, v = .ref p ∧ SqA K H p [.int h, .int t, .ref q] ∧ SqA K H q (ds.map V.int)
theorem SeaA.same {K : PySem.W.Frag} {H H' : Hp} {v : V} {h t : Int} {ds : List Int} (s : SeaA K H v h t ds) (e : Same H H') : SeaA K H' v h t ds := let ⟨p, q, a, b, c⟩ := s; ⟨p, q, a, Same.sqA e b, Same.sqA e c⟩
theorem lay_ints : ∀ ns : List Int, PyData.canLayAll0 (ns.map .int) = true ∧ PyData.depthAll (ns.map .int) = 0
  | [] => ⟨rfl, rfl⟩
  | n :: ns => by
    obtain ⟨a, b⟩ := lay_ints ns
    constructor
    · show (PyData.canLay0 (.int n) && PyData.canLayAll0 (ns.map .int)) = true
      rw [a]
      rfl
    · show max (PyData.depth (.int n)) (PyData.depthAll (ns.map .int)) = 0
      rw [b]
      rfl
theorem shaped_ints (ns : List Int) : SeqAt.shaped (.list (ns.map .int)) = true := by
  obtain ⟨a, b⟩ := lay_ints ns
  unfold SeqAt.shaped
  rw [show PyData.canLay0 (.list (ns.map .int)) = PyData.canLayAll0 (ns.map .int) from rfl, show PyData.depth (.list (ns.map .int)) = PyData.depthAll (ns.map .int) + 1 from rfl, a, b]
  rfl
theorem flat_ints (ns : List Int) : (ns.map V.int).all flatV = true := by
  rw [List.all_map]
  exact List.all_eq_true.mpr fun _ _ => rfl
theorem same_over {H H1 : Hp} {p : Addr} {o : HO} (s : Same H H1) (n : H p = none) : Same H (upd H1 p o) := fun a x e => by
  rw [upd_ne (ne_of_none e n)]
  exact s _ _ e
end Sh

namespace Sh
open PySem PySem.Spec PyProof.Rows L2
/-! ### standings as lists of ships -/
def ni (L : List Nat) : List V := L.map fun (i : Nat) => V.int (i : Int)
theorem ni_len (L : List Nat) : (ni L).length = L.length := by unfold ni; simp
theorem ni_get {L : List Nat} {i : Nat} (h : i < L.length) : (ni L)[i]? = some (.int ((L[i] : Nat) : Int)) := by unfold ni; simp [h]
theorem ni_app (L M : List Nat) : ni (L ++ M) = ni L ++ ni M := by unfold ni; simp
theorem ni_ints (L : List Nat) : ni L = (L.map fun (i : Nat) => (i : Int)).map V.int := by unfold ni; simp
theorem ni_flat (L : List Nat) : (ni L).all flatV = true := by unfold ni; rw [List.all_map]; exact List.all_eq_true.mpr fun _ _ => rfl
/-- a rising lot of ships below c -/
structure Lot (c : Nat) (L : List Nat) : Prop where
  up : L.Pairwise (· < ·)
  lt : ∀ i ∈ L, i < c
theorem up_len : ∀ {L : List Nat} {lo c : Nat}, L.Pairwise (· < ·) → (∀ i ∈ L, lo ≤ i ∧ i < c) → L.length ≤ c - lo
  | [], _, _, _, _ => Nat.zero_le _
  | a :: r, lo, c, h, hb => by
    obtain ⟨h1, h2⟩ := List.pairwise_cons.mp h
    have ha := hb a List.mem_cons_self
    have := up_len (lo := a + 1) (c := c) h2 fun i hi => ⟨h1 i hi, (hb i (List.mem_cons_of_mem _ hi)).2⟩
    rw [List.length_cons]
    omega
theorem Lot.len {c : Nat} {L : List Nat} (h : Lot c L) : L.length ≤ c := up_len (lo := 0) h.up fun i hi => ⟨Nat.zero_le _, h.lt i hi⟩
theorem Lot.nil (c : Nat) : Lot c [] := ⟨.nil, fun _ h => by cases h⟩
theorem Lot.all (c : Nat) : Lot c (List.range c) := ⟨List.pairwise_lt_range, fun _ h => List.mem_range.mp h⟩
theorem Lot.filter {c : Nat} {L : List Nat} (h : Lot c L) (p : Nat → Bool) : Lot c (L.filter p) := ⟨h.up.filter p, fun i hi => h.lt i (List.mem_filter.mp hi).1⟩
theorem rgV_ni (n : Nat) : rgV 0 (n : Int) = ni (List.range n) := by
  unfold rgV ni
  rw [show ((n : Int) - 0).toNat = n by omega]
  refine List.map_congr_left fun i _ => ?_
  rw [Int.zero_add]
theorem dp_ni {K : PySem.W.Frag} {H : Hp} {a : Addr} {L : List Nat} (h : H a = some (.lst (ni L))) : Dp K H (.ref a) (.list ((L.map fun (i : Nat) => (i : Int)).map .int)) := by
  rw [ni_ints] at h
  exact .lst (SqL.of h) (DpAll.ints _)
end Sh

namespace Sh
open PySem PySem.Spec PyProof.Rows L2
/-! ### a drawn lot -/
def spLot : Sp := fun vs H Q _ => ∃ (b : Addr) (n c : Nat), vs = [.ref b, .int (c : Int)] ∧ c ≤ 60 ∧ BoxAt H b (n + 100) ∧
  ∀ (H' : Hp) (p : Addr) (L : List Nat), But b H H' → BoxAt H' b n → H p = none → H' p = some (.tup (ni L)) → Lot c L → Q (.ref p) H'
abbrev s__law_lot : Stmt := topS 34
theorem sc__law_lot : FnScope (["_law_box_here", "_law_count", "_law_odds", "_law_whom"] : List Str) (["_law_box_here", "_law_count"] : List Str) (defScope s__law_lot) := ⟨rfl, rfl, rfl, by decide +kernel, rfl, by decide +kernel, by decide +kernel⟩
theorem b__law_lot (kV doc pm : Value) (an : Option Addr) (cdv ct : Value) (us : List Value) (hl : us.length = (["_law_box_here", "_law_count"] : List Str).length) : bindArgs (PySem.W.fnOf "_law_lot" "_law_lot" (defArgs s__law_lot) (defBody s__law_lot) (defScope s__law_lot) .none kV doc pm an cdv ct) ⟨us, []⟩ = pure ((["_law_box_here", "_law_count"] : List Str).zip us) :=
  match us, hl with | [_, _], _ => rfl
section
variable {P : Program} {w : World} {K : PySem.W.Frag} {mg : Str → Option Value} {base : Heap}
theorem ok_lot {k : Nat} (D : Df K mg "_law_lot" s__law_lot) (T : Bt mg) (O__law_take : Ok P w K mg base k "_law_take" s__law_take ["_law_box_here", "_law_span"] spTake) (O__law_of : Ok P w K mg base k "_law_of" s__law_of ["_law_box_here", "_law_some"] (spOf K)) :
    Ok P w K mg base (k + 1) "_law_lot" s__law_lot ["_law_box_here", "_law_count"] spLot := by
  refine D.ok sc__law_lot b__law_lot (fun vs H Q E h => ?_) (fun f cdv A outer s H vs Q E hr h => ?_)
  · obtain ⟨b, n, c, rfl, _⟩ := h
    rfl
  · obtain ⟨b, n, c, rfl, c60, hb, q⟩ := h
    refine ⟨_, (pss_cons (ps_set (i := 2) sc__law_lot.nd rfl (.inr rfl) (pe_fn O__law_of (hr.mono (by omega)) (pa_cons (pv 0) (pa_cons (pe_lst (pa_cons pe_int (pa_cons pe_int (pa_cons pe_int (pa_cons pe_int (pa_cons pe_int pa_nil)))))) pa_nil))))
      (pss_cons (ps_if (pt_cmpR op_eq (pe_fn O__law_take (hr.mono (by omega)) (pa_cons (pv 0) (pa_cons pe_int pa_nil))) pe_int (nomark _))
        (pss_one (ps_ret (pe_ifExp (pt_cmpR op_eq (pe_fn O__law_take (hr.mono (by omega)) (pa_cons (pv 0) (pa_cons pe_int pa_nil))) pe_int (nomark _)) (pe_tupRg (by rfl) (by rfl) T.tuple_ (prg_1 (by rfl) T.range_ (pv 1))) (pe_tup pa_nil))))
        pss_nil)
      (pss_one (ps_ret (pe_callTy call_tuple_of (by rfl) T.tuple_ (by decide +kernel) (pa_cons (pe_lc (own := [("_law_whom", 3)]) (g := (gName 3)) (by rfl) sc__law_lot.nd (pi_range1 (by rfl) T.range_ (pa_cons (pv 1) pa_nil)) (blkOk_by (own := [("_law_whom", 3)]) (N := (["_law_box_here", "_law_count", "_law_odds", "_law_whom"] : List Str)) (sc := defScope s__law_lot) (by decide +kernel)) (fun _ _ _ _ _ => (pg_name (i := 3) sc__law_lot.nd rfl (.inl rfl))) (fun _ _ _ _ _ => (pts_one (pt_cmpR op_eq (pe_fn O__law_take (hr.mono (by omega)) (pa_cons (pv 0) (pa_cons (pv 2) pa_nil))) pe_int (nomark _)))) (fun _ _ _ _ _ => (pv 3))) pa_nil)))))), ?_⟩
    -- odds
    refine ⟨_, rfl, (by show 5 ≤ sizeLine; decide), fun l nl => ?_⟩
    obtain ⟨u1, x1, e1, n1⟩ := al (o := .lst [.int 1, .int 2, .int 2, .int 3, .int 4]) (But.refl b H) hb nl
    refine ⟨b, l, n + 99, _, rfl, SqA.l upd_same, n1, (by show 0 < 5; decide), (by show 5 < 1000000; decide), x1.mono (by omega), fun v ys hv y => ?_⟩
    obtain ⟨o, o0, o1, rfl⟩ : ∃ o : Int, 1 ≤ o ∧ o ≤ 4 ∧ v = .int o := by
      have e5 : v = .int 1 ∨ v = .int 2 ∨ v = .int 3 ∨ v = .int 4 := by simpa using hv
      rcases e5 with e | e | e | e
      · exact ⟨1, by decide, by decide, e⟩
      · exact ⟨2, by decide, by decide, e⟩
      · exact ⟨3, by decide, by decide, e⟩
      · exact ⟨4, by decide, by decide, e⟩
    obtain ⟨u2, x2⟩ := tk u1 y
    generalize upd (upd H l (.lst [.int 1, .int 2, .int 2, .int 3, .int 4])) b (.lst ys) = H2 at u2 x2
    -- take(box, 8) == 0
    refine ⟨_, rfl, b, n + 98, 8, rfl, by decide, by decide, x2.mono (by omega), fun v ys v0 v1 y => ?_⟩
    obtain ⟨u3, x3⟩ := tk u2 y
    generalize upd H2 b (.lst ys) = H3 at u3 x3
    refine ⟨rfl, _, rfl, ite2 (fun _ => ?_) (fun _ => ?_)⟩
    · refine ⟨_, rfl, b, n + 97, 2, rfl, by decide, by decide, x3.mono (by omega), fun v ys v0 v1 y => ?_⟩
      obtain ⟨u4, x4⟩ := tk u3 y
      generalize upd H3 b (.lst ys) = H4 at u4 x4
      refine ⟨rfl, _, rfl, ite2 (fun _ => ?_) (fun _ => ?_)⟩
      · refine ⟨_, rfl, _, rfl, .of_le (by omega) (by omega) (by omega) (by omega), fun p np => ?_⟩
        rw [rgV_ni]
        obtain ⟨u5, x5, e5, n5⟩ := al (o := .tup (ni (List.range c))) u4 x4 np
        exact q _ p _ u5 (x5.mono (by omega)) (u4.free n5 np) e5 (Lot.all c)
      · refine ⟨Nat.zero_le _, fun p np => ?_⟩
        obtain ⟨u5, x5, e5, n5⟩ := al (o := .tup []) u4 x4 np
        exact q _ p [] u5 (x5.mono (by omega)) (u4.free n5 np) e5 (Lot.nil c)
    · refine ⟨_, rfl, _, rfl, by omega, by omega, fun C nC => ?_⟩
      rw [show ((c : Int)).toNat = c by omega]
      have nCb : C ≠ b := (x3.ne nC).symm
      refine lc_range (fun i Hc => ∃ L : List Nat, But b H3 Hc ∧ BoxAt Hc b (n + 98 - i) ∧ Hc C = some (.lst (ni L)) ∧ Lot i L) ?_ ?_ ?_
      · exact ⟨[], (al (But.refl b H3) x3 nC).1, (al (But.refl b H3) x3 nC).2.1, upd_same, Lot.nil 0⟩
      · rintro i Hc hi ⟨L, uc, xc, hC, hL⟩
        refine ⟨rfl, ?_⟩
        refine ⟨_, rfl, _, rfl, b, n + 98 - i - 1, o, rfl, by omega, by omega, xc.mono (by omega), fun v ys v0 v1 y => ?_⟩
        obtain ⟨ud, xd⟩ := tk uc y
        have hD : upd Hc b (.lst ys) C = some (.lst (ni L)) := by rw [upd_ne nCb]; exact hC
        generalize upd Hc b (.lst ys) = Hd at ud xd hD
        refine ⟨rfl, _, rfl, ite2 (fun _ => ?_) (fun _ => ?_)⟩
        · refine ⟨_, rfl, _, hD, ?_, L ++ [i], ?_, ?_, ?_, ?_⟩
          · rw [ni_len]
            exact small1000 (by have := hL.len; omega)
          · exact fun a z na e => by rw [upd_ne (ne_of_none e nC)]; exact ud a z na e
          · exact (xd.at (x3.ne nC)).mono (by omega)
          · rw [upd_same, ni_app]
            exact congrArg (fun z => some (HO.lst (ni L ++ [V.int z]))) (Int.zero_add (i : Int))
          · refine ⟨List.pairwise_append.mpr ⟨hL.up, List.pairwise_singleton _ _, fun a ha z hz => ?_⟩, fun a ha => ?_⟩
            · rw [List.mem_singleton.mp hz]
              exact hL.lt a ha
            · rcases List.mem_append.mp ha with z | z
              · have := hL.lt a z
                omega
              · rw [List.mem_singleton.mp z]
                omega
        · exact ⟨L, ud, xd.mono (by omega), hD, hL.up, fun a ha => Nat.lt_succ_of_lt (hL.lt a ha)⟩
      · rintro H4 ⟨L, u4', x4, h4, hL⟩
        have u4 := u3.trans u4'
        refine ⟨C, _, rfl, .inl ⟨SqL.of h4, fun p np => ?_⟩⟩
        obtain ⟨u5, x5, e5, n5⟩ := al (o := .tup (ni L)) u4 x4 np
        exact q _ p L u5 (x5.mono (by omega)) (u4.free n5 np) e5 hL
end
end Sh

namespace Sh
open PySem PySem.Spec PyProof.Rows L2
/-! ### who may go -/
/-- how many others lie here -/
def near (L : List Nat) (i : Nat) : Nat := (L.filter fun j => !decide (j = i)).length
def mayB (h t : Int) (ds : List Int) (L : List Nat) (i : Nat) : Bool := decide (ds.getD i 0 ≤ h + (near L i : Int)) && decide (ds.getD i 0 ≤ t + (ds.length : Int) - 1 - (near L i : Int))
def lets (h t : Int) (ds : List Int) (L : List Nat) (n : Nat) : List Nat := (List.range n).filter (mayB h t ds L)
theorem filter_succ (p : Nat → Bool) (n : Nat) : (List.range (n + 1)).filter p = (List.range n).filter p ++ (if p n = true then [n] else []) := by
  rw [List.range_succ, List.filter_append]
  congr 1
  by_cases h : p n = true
  · rw [if_pos h, List.filter_cons_of_pos h]
    rfl
  · rw [if_neg h, List.filter_cons_of_neg h]
    rfl
theorem filter_len (p : Nat → Bool) (n : Nat) : ((List.range n).filter p).length ≤ n := Nat.le_trans (List.length_filter_le _ _) (by simp)
theorem take_succ_get {α : Type} {L : List α} {i : Nat} (h : i < L.length) : L.take (i + 1) = L.take i ++ [L[i]] := by rw [List.take_add_one, List.getElem?_eq_getElem h]; rfl
/-- a standing is handed in -/
def LotA (K : PySem.W.Frag) (H : Hp) (v : V) (L : List Nat) : Prop := ∃ p, v = .ref p ∧ SqA K H p (ni L)
theorem LotA.same {K : PySem.W.Frag} {H H' : Hp} {v : V} {L : List Nat} (s : LotA K H v L) (e : Same H H') : LotA K H' v L := let ⟨p, a, b⟩ := s; ⟨p, a, Same.sqA e b⟩
end Sh

namespace Sh
open PySem PySem.Spec PyProof.Rows L2
/-! ### who is afloat -/
theorem Lot.mem_eq {c : Nat} {L : List Nat} (h : Lot c L) : L = (List.range c).filter fun j => decide (j ∈ L) := by
  have h2 : Lot c ((List.range c).filter fun j => decide (j ∈ L)) := (Lot.all c).filter _
  refine List.Perm.eq_of_pairwise (le := (· < ·)) (fun a b _ _ h1 h2 => absurd (Nat.lt_trans h1 h2) (Nat.lt_irrefl _)) h.up h2.up ?_
  refine (List.perm_ext_iff_of_nodup (h.up.imp Nat.ne_of_lt) (h2.up.imp Nat.ne_of_lt)).mpr fun a => ?_
  rw [List.mem_filter, List.mem_range, decide_eq_true_eq]
  exact ⟨fun q => ⟨h.lt a q, q⟩, fun q => q.2⟩
theorem filter_filter_len (p q : Nat → Bool) : ∀ l : List Nat, (l.filter p).length = (l.filter fun j => p j && q j).length + (l.filter fun j => p j && !q j).length
  | [] => rfl
  | a :: l => by
    have ih := filter_filter_len p q l
    cases hp : p a <;> cases hq : q a <;> simp [List.filter_cons, hp, hq, ih] <;> omega
/-- how many mates: here, or there -/
def mates (c : Nat) (L : List Nat) (i : Nat) : List Nat := (List.range c).filter fun j => !decide (j = i) && (decide (j ∈ L) == decide (i ∈ L))
theorem near_in {c : Nat} {L : List Nat} (h : Lot c L) (i : Nat) : near L i = ((List.range c).filter fun j => decide (j ∈ L) && !decide (j = i)).length := by
  unfold near
  conv => lhs; rw [h.mem_eq]
  rw [List.filter_filter]
  congr 1
  refine List.filter_congr fun a _ => ?_
  cases decide (a ∈ L) <;> cases decide (a = i) <;> rfl
theorem mates_here {c : Nat} {L : List Nat} (h : Lot c L) {i : Nat} (hi : i ∈ L) : (mates c L i).length = near L i := by
  rw [near_in h, mates]
  congr 1
  refine List.filter_congr fun a _ => ?_
  rw [decide_eq_true hi]
  cases decide (a ∈ L) <;> cases decide (a = i) <;> rfl
theorem one_of {c i : Nat} (hi : i < c) : ((List.range c).filter fun j => decide (j = i)).length = 1 := by
  have e : ((List.range c).filter fun j => decide (j = i)) = [i] := by
    refine List.Perm.eq_of_pairwise (le := (· < ·)) (fun a b _ _ h1 h2 => absurd (Nat.lt_trans h1 h2) (Nat.lt_irrefl _)) (List.pairwise_lt_range.filter _) (List.pairwise_singleton _ _) ?_
    refine (List.perm_ext_iff_of_nodup ((List.pairwise_lt_range.filter _).imp Nat.ne_of_lt) (by simp)).mpr fun a => ?_
    rw [List.mem_filter, List.mem_range, decide_eq_true_eq, List.mem_singleton]
    exact ⟨fun q => q.2, fun q => ⟨q ▸ hi, q⟩⟩
  rw [e]
  rfl
theorem mates_there {c : Nat} {L : List Nat} (h : Lot c L) {i : Nat} (hc : i < c) (hi : i ∉ L) : ((mates c L i).length : Int) = (c : Int) - 1 - (near L i : Int) := by
  have e1 := filter_filter_len (fun j => !decide (j = i)) (fun j => decide (j ∈ L)) (List.range c)
  have e2 := filter_filter_len (fun _ => true) (fun j => decide (j = i)) (List.range c)
  have e3 : ((List.range c).filter fun j => true && decide (j = i)).length = 1 := one_of hc
  have e4 : ((List.range c).filter fun _ => true).length = c := by rw [List.filter_eq_self.mpr fun _ _ => rfl, List.length_range]
  have e5 : ((List.range c).filter fun j => !decide (j = i) && decide (j ∈ L)).length = near L i := by
    rw [near_in h]
    congr 1
    exact List.filter_congr fun a _ => Bool.and_comm _ _
  have e6 : ((List.range c).filter fun j => !decide (j = i) && !decide (j ∈ L)).length = (mates c L i).length := by
    unfold mates
    congr 1
    refine List.filter_congr fun a _ => ?_
    rw [decide_eq_false hi]
    cases decide (a ∈ L) <;> cases decide (a = i) <;> rfl
  have e7 : ((List.range c).filter fun j => true && !decide (j = i)).length = ((List.range c).filter fun j => !decide (j = i)).length := rfl
  rw [e5, e6] at e1
  rw [e3, e4, e7] at e2
  omega
/-- afloat where it lies -/
def aflB (h t : Int) (ds : List Int) (L : List Nat) (i : Nat) : Bool := if i ∈ L then decide (ds.getD i 0 ≤ h + (near L i : Int)) else decide (ds.getD i 0 ≤ t + ((ds.length : Int) - 1 - (near L i : Int)))
def afl (h t : Int) (ds : List Int) (L : List Nat) (n : Nat) : List Nat := (List.range n).filter (aflB h t ds L)
theorem aflB_mates {h t : Int} {ds : List Int} {L : List Nat} {i : Nat} (hL : Lot ds.length L) (hi : i < ds.length) :
    aflB h t ds L i = decide (ds.getD i 0 ≤ (if i ∈ L then h else t) + ((mates ds.length L i).length : Int)) := by
  unfold aflB
  by_cases z : i ∈ L
  · rw [if_pos z, if_pos z, mates_here hL z]
  · rw [if_neg z, if_neg z, mates_there hL hi z]
theorem in_ni {i : Nat} {L : List Nat} : inV (.int (i : Int)) (ni L) = decide (i ∈ L) := by
  unfold inV ni
  rw [List.any_map, Bool.eq_iff_iff, List.any_eq_true, decide_eq_true_eq]
  constructor
  · rintro ⟨x, hx, e⟩
    have e' : ((x : Int) == (i : Int)) = true := e
    have : x = i := by have := beq_iff_eq.mp e'; omega
    rw [← this]
    exact hx
  · intro hx
    exact ⟨i, hx, beq_self_eq_true (i : Int)⟩
def spAfl (K : PySem.W.Frag) : Sp := fun vs H Q _ => ∃ (v l : V) (h t : Int) (ds : List Int) (L : List Nat), vs = [v, l] ∧ SeaA K H v h t ds ∧ LotA K H l L ∧ ds.length ≤ 1000 ∧ Lot ds.length L ∧
  ∀ (H' : Hp) (p : Addr), Same H H' → H p = none → H' p = some (.lst (ni (afl h t ds L ds.length))) → Q (.ref p) H'
/-- the same of who may go: of a standing -/
def spMay (K : PySem.W.Frag) : Sp := fun vs H Q _ => ∃ (v l : V) (h t : Int) (ds : List Int) (L : List Nat), vs = [v, l] ∧ SeaA K H v h t ds ∧ LotA K H l L ∧ ds.length ≤ 1000 ∧ Lot ds.length L ∧
  ∀ (H' : Hp) (p : Addr), Same H H' → H p = none → H' p = some (.lst (ni (lets h t ds L ds.length))) → Q (.ref p) H'
end Sh

namespace Sh
open PySem PySem.Spec PyProof.Rows L2
theorem eqv_nil (ns : List Int) : PyData.eqv (.list (ns.map .int)) (.list []) = ns.isEmpty := by cases ns <;> rfl
end Sh

namespace Sh
open PySem PySem.Spec PyProof.Rows L2
/-! ### the program: steps -/
def mk (h t : Int) (k : Nat) (s : Int) : Int := if t + ((k : Int) - 1 - s) < h + s then t + ((k : Int) - 1 - s) else h + s
def gs (m : Int) (ds : List Int) (n : Nat) : List Nat := (List.range n).filter fun i => decide (ds.getD i 0 ≤ m)
def topI (h t : Int) (k : Nat) : Int := if (if (t + ((k : Int) - 1) - h) / 2 < (k : Int) - 1 then (t + ((k : Int) - 1) - h) / 2 else (k : Int) - 1) > 0 then (if (t + ((k : Int) - 1) - h) / 2 < (k : Int) - 1 then (t + ((k : Int) - 1) - h) / 2 else (k : Int) - 1) else 0
def lowI (h d : Int) : Int := if d - h > 0 then d - h else 0
def highI (t : Int) (k : Nat) (d : Int) : Int := if t + ((k : Int) - 1) - d < (k : Int) - 1 then t + ((k : Int) - 1) - d else (k : Int) - 1
def spMark (K : PySem.W.Frag) : Sp := fun vs H Q _ => ∃ (v : V) (h t s : Int) (ds : List Int), vs = [v, .int s] ∧ SeaA K H v h t ds ∧ Q (.int (mk h t ds.length s)) H
def spGoers (K : PySem.W.Frag) : Sp := fun vs H Q _ => ∃ (v : V) (h t s : Int) (ds : List Int), vs = [v, .int s] ∧ SeaA K H v h t ds ∧ ds.length ≤ 1000 ∧
  ∀ (H' : Hp) (p : Addr), Same H H' → H p = none → H' p = some (.lst (((gs (mk h t ds.length s) ds ds.length).map fun (i : Nat) => (i : Int)).map V.int)) → Q (.ref p) H'
def spTop (K : PySem.W.Frag) : Sp := fun vs H Q _ => ∃ (v : V) (h t : Int) (ds : List Int), vs = [v] ∧ SeaA K H v h t ds ∧ Q (.int (topI h t ds.length)) H
def spWindow (K : PySem.W.Frag) : Sp := fun vs H Q _ => ∃ (v : V) (h t d : Int) (j : Nat) (ds : List Int), vs = [v, .int (j : Int)] ∧ SeaA K H v h t ds ∧ ds[j]? = some d ∧
  (lowI h d > highI t ds.length d → Q .non H) ∧ (¬ lowI h d > highI t ds.length d → ∀ p, H p = none → Q (.ref p) (upd H p (.tup [.int (lowI h d), .int (highI t ds.length d)])))
theorem gs_succ {m : Int} {ds : List Int} {n : Nat} : gs m ds (n + 1) = gs m ds n ++ (if ds.getD n 0 ≤ m then [n] else []) := by
  unfold gs
  rw [List.range_succ, List.filter_append]
  congr 1
  by_cases h : ds.getD n 0 ≤ m
  · rw [if_pos h, List.filter_cons_of_pos (by simpa using h)]
    rfl
  · rw [if_neg h, List.filter_cons_of_neg (by simpa using h)]
    rfl
theorem gs_len {m : Int} {ds : List Int} {n : Nat} : (gs m ds n).length ≤ n := by
  unfold gs
  exact Nat.le_trans (List.length_filter_le _ _) (by simp)
theorem mk_alt (h t : Int) (k : Nat) (s : Int) : (if t + (k : Int) - 1 - s < h + s then t + (k : Int) - 1 - s else h + s) = mk h t k s := by
  unfold mk
  rw [show t + (k : Int) - 1 - s = t + ((k : Int) - 1 - s) by omega]
end Sh

namespace Sh
open PySem PySem.Spec PyProof.Rows L2
/-! ### steps: the mathematics -/
def ml (h t : Int) (k n : Nat) : List Int := (List.range n).map fun (i : Nat) => mk h t k (i : Int)
theorem ml_succ (h t : Int) (k n : Nat) : ml h t k (n + 1) = ml h t k n ++ [mk h t k (n : Int)] := by
  unfold ml
  rw [List.range_succ, List.map_append]
  rfl
theorem ml_len (h t : Int) (k n : Nat) : (ml h t k n).length = n := by
  unfold ml
  simp
theorem ml_get {h t : Int} {k n i : Nat} (hi : i < n) : (ml h t k n)[i]? = some (mk h t k (i : Int)) := by
  unfold ml
  simp [hi]
theorem top_lo (h t : Int) (k : Nat) : 0 ≤ topI h t k := by
  unfold topI
  split <;> omega
theorem top_hi (h t : Int) {k : Nat} (hk : 0 < k) : topI h t k < (k : Int) := by
  unfold topI
  repeat' split
  all_goals omega
theorem top_max (h t : Int) {k i : Nat} (hi : i < k) : mk h t k (i : Int) ≤ mk h t k (topI h t k) := by
  unfold mk topI
  repeat' split
  all_goals omega
theorem top_least (h t : Int) {k i : Nat} (hi : (i : Int) < topI h t k) : mk h t k (i : Int) < mk h t k (topI h t k) := by
  unfold mk topI at *
  repeat' split
  all_goals (repeat' split at hi)
  all_goals omega
theorem win_iff (h t d : Int) {k i : Nat} (hi : i < k) : d ≤ mk h t k (i : Int) ↔ lowI h d ≤ (i : Int) ∧ (i : Int) ≤ highI t k d := by
  unfold mk lowI highI
  constructor
  · intro z
    split at z <;> (constructor <;> split <;> omega)
  · intro z
    split <;> (obtain ⟨z1, z2⟩ := z; split at z1 <;> split at z2 <;> omega)
/-- the steps at which it may go -/
def fl (h t d : Int) (k n : Nat) : List Nat := (List.range n).filter fun (i : Nat) => decide (d ≤ mk h t k (i : Int))
theorem fl_succ {h t d : Int} {k n : Nat} : fl h t d k (n + 1) = fl h t d k n ++ (if d ≤ mk h t k (n : Int) then [n] else []) := by
  unfold fl
  rw [List.range_succ, List.filter_append]
  congr 1
  by_cases z : d ≤ mk h t k (n : Int)
  · rw [if_pos z, List.filter_cons_of_pos (by simpa using z)]
    rfl
  · rw [if_neg z, List.filter_cons_of_neg (by simpa using z)]
    rfl
theorem fl_len {h t d : Int} {k n : Nat} : (fl h t d k n).length ≤ n := by
  unfold fl
  exact Nat.le_trans (List.length_filter_le _ _) (by simp)
theorem fl_mem {h t d : Int} {k i : Nat} : i ∈ fl h t d k k ↔ i < k ∧ lowI h d ≤ (i : Int) ∧ (i : Int) ≤ highI t k d := by
  unfold fl
  rw [List.mem_filter, List.mem_range, decide_eq_true_eq]
  constructor
  · rintro ⟨a, b⟩
    exact ⟨a, (win_iff h t d a).mp b⟩
  · rintro ⟨a, b⟩
    exact ⟨a, (win_iff h t d a).mpr b⟩
theorem fl_sorted (h t d : Int) (k : Nat) : (fl h t d k k).Pairwise (· < ·) := by
  unfold fl
  exact List.Pairwise.filter _ List.pairwise_lt_range
theorem high_lt (t d : Int) {k : Nat} (hk : 0 < k) : highI t k d < (k : Int) := by
  unfold highI
  split <;> omega
theorem low_nn (h d : Int) : 0 ≤ lowI h d := by
  unfold lowI
  split <;> omega
theorem fl_nil {h t d : Int} {k : Nat} (z : lowI h d > highI t k d) : fl h t d k k = [] := by
  cases e : fl h t d k k with
  | nil => rfl
  | cons x r =>
    have m : x ∈ fl h t d k k := by rw [e]; exact List.mem_cons_self
    obtain ⟨_, a, b⟩ := fl_mem.mp m
    omega
/-- a rising list has its least first, its greatest last -/
theorem fl_ends {h t d : Int} {k : Nat} (hk : 0 < k) (z : ¬ lowI h d > highI t k d) : ∃ (l : List Nat) (r : List Nat) (a b : Nat), fl h t d k k = a :: r ∧ fl h t d k k = l ++ [b] ∧ (a : Int) = lowI h d ∧ (b : Int) = highI t k d := by
  have hh := high_lt t d hk
  have hl := low_nn h d
  have ml' : (lowI h d).toNat ∈ fl h t d k k := fl_mem.mpr ⟨by omega, by omega, by omega⟩
  have mh : (highI t k d).toNat ∈ fl h t d k k := fl_mem.mpr ⟨by omega, by omega, by omega⟩
  have ne : fl h t d k k ≠ [] := List.ne_nil_of_mem ml'
  have st := fl_sorted h t d k
  obtain ⟨a, r, e1⟩ : ∃ a r, fl h t d k k = a :: r := by
    cases e : fl h t d k k with
    | nil => exact absurd e ne
    | cons x r => exact ⟨x, r, rfl⟩
  have e2 : fl h t d k k = (fl h t d k k).dropLast ++ [(fl h t d k k).getLast ne] := (List.dropLast_concat_getLast ne).symm
  refine ⟨_, r, a, _, e1, e2, ?_, ?_⟩
  · have ma : a ∈ fl h t d k k := by rw [e1]; exact List.mem_cons_self
    obtain ⟨_, g1, g2⟩ := fl_mem.mp ma
    have le : a ≤ (lowI h d).toNat := by
      rw [e1] at ml' st
      rcases List.mem_cons.mp ml' with q | q
      · omega
      · have := (List.pairwise_cons.mp st).1 _ q
        omega
    omega
  · have mb := List.getLast_mem ne
    obtain ⟨_, g1, g2⟩ := fl_mem.mp mb
    have le : (highI t k d).toNat ≤ (fl h t d k k).getLast ne := by
      have st2 := st
      rw [e2] at mh st2
      rcases List.mem_append.mp mh with q | q
      · have := (List.pairwise_append.mp st2).2.2 _ q _ List.mem_cons_self
        omega
      · have : (highI t k d).toNat = (fl h t d k k).getLast ne := by simpa using q
        omega
    omega
end Sh

namespace Sh
open PySem PySem.Spec PyProof.Rows L2
/-! ### sorted lists of ships -/
theorem nat_list {c : Nat} : ∀ {ns : List Int}, (∀ z ∈ ns, 0 ≤ z ∧ z < (c : Int)) → ∃ L : List Nat, ns = L.map (fun (i : Nat) => (i : Int)) ∧ ∀ i ∈ L, i < c
  | [], _ => ⟨[], rfl, fun _ h => by cases h⟩
  | z :: ns, h => by
    obtain ⟨L, e, hL⟩ := nat_list (ns := ns) fun y hy => h y (List.mem_cons_of_mem _ hy)
    have hz := h z List.mem_cons_self
    refine ⟨z.toNat :: L, ?_, fun i hi => ?_⟩
    · rw [List.map_cons, ← e]
      congr 1
      omega
    · rcases List.mem_cons.mp hi with q | q
      · omega
      · exact hL i q
theorem map_inj {L M : List Nat} (h : (L.map fun (i : Nat) => (i : Int)).Perm (M.map fun (i : Nat) => (i : Int))) : L.Perm M := by
  have h2 := h.map Int.toNat
  rw [List.map_map, List.map_map] at h2
  have e : (Int.toNat ∘ fun (i : Nat) => (i : Int)) = id := by
    funext i
    exact Int.toNat_natCast i
  rw [e, List.map_id, List.map_id] at h2
  exact h2
/-- sorted ints that are a rearrangement of different ships: a lot -/
theorem lot_sorted {c : Nat} {ns : List Int} {M : List Nat} (pm : ns.Perm (M.map fun (i : Nat) => (i : Int))) (up : ns.Pairwise (· ≤ ·)) (nd : M.Nodup) (lt : ∀ i ∈ M, i < c) :
    ∃ L : List Nat, ns = L.map (fun (i : Nat) => (i : Int)) ∧ L.Perm M ∧ Lot c L := by
  obtain ⟨L, rfl, hL⟩ := nat_list (c := c) (ns := ns) fun z hz => by
    obtain ⟨i, hi, rfl⟩ := List.mem_map.mp (pm.mem_iff.mp hz)
    have := lt i hi
    omega
  have p2 := map_inj pm
  refine ⟨L, rfl, p2, ?_, hL⟩
  have ndL : L.Nodup := p2.nodup_iff.mpr nd
  have up2 : L.Pairwise (· ≤ ·) := by
    rw [List.pairwise_map] at up
    exact up.imp fun h => by omega
  exact (up2.and ndL).imp fun h => Nat.lt_of_le_of_ne h.1 h.2
theorem cut_take (xs : List V) (l : Nat) : cutV xs none (some (l : Int)) = xs.take l := by
  unfold cutV
  rw [HT.sIx_none, HT.sIx_nat]
  show (xs.drop 0).take (min l xs.length - 0) = xs.take l
  rw [List.drop_zero, Nat.sub_zero]
  by_cases h : l ≤ xs.length
  · rw [Nat.min_eq_left h]
  · rw [Nat.min_eq_right (by omega), List.take_length, List.take_of_length_le (by omega)]
theorem near_out {L : List Nat} {i : Nat} (h : i ∉ L) : near L i = L.length := by
  unfold near
  rw [List.filter_eq_self.mpr fun a ha => ?_]
  have : ¬ a = i := fun e => h (e ▸ ha)
  simpa using this
theorem near_perm {L M : List Nat} (i : Nat) (h : L.Perm M) : near L i = near M i := (h.filter _).length_eq
theorem near_add {L : List Nat} {i : Nat} (h : i ∉ L) : near (L ++ [i]) i = L.length := by
  rw [← near_out h]
  unfold near
  rw [List.filter_append]
  simp
end Sh

namespace Th
/-! ### counting ships below k -/
def cnt (k : Nat) (S : Nat → Bool) : Nat := (List.range k).countP S
theorem cnt_zero (S : Nat → Bool) : cnt 0 S = 0 := rfl
theorem cnt_succ (k : Nat) (S : Nat → Bool) : cnt (k + 1) S = cnt k S + (if S k = true then 1 else 0) := by
  unfold cnt
  rw [List.range_succ, List.countP_append]
  congr 1
  cases h : S k <;> simp [h]
theorem cnt_le (k : Nat) (S : Nat → Bool) : cnt k S ≤ k := by
  induction k with
  | zero => exact Nat.le_refl _
  | succ k ih => rw [cnt_succ]; split <;> omega
theorem cnt_congr {k : Nat} {S U : Nat → Bool} (h : ∀ i, i < k → S i = U i) : cnt k S = cnt k U := by
  induction k with
  | zero => rfl
  | succ k ih => rw [cnt_succ, cnt_succ, ih fun i hi => h i (by omega), h k (by omega)]
theorem cnt_mono {k : Nat} {S U : Nat → Bool} (h : ∀ i, i < k → S i = true → U i = true) : cnt k S ≤ cnt k U := by
  induction k with
  | zero => exact Nat.le_refl _
  | succ k ih =>
    have := ih fun i hi => h i (by omega)
    rw [cnt_succ, cnt_succ]
    by_cases e : S k = true
    · rw [if_pos e, if_pos (h k (by omega) e)]
      omega
    · rw [if_neg e]
      omega
/-- as many, and all of the one among the other: the same -/
theorem cnt_eq {k : Nat} {S U : Nat → Bool} (h : ∀ i, i < k → S i = true → U i = true) (e : cnt k U ≤ cnt k S) : ∀ i, i < k → U i = true → S i = true := by
  induction k with
  | zero => intro i hi; omega
  | succ k ih =>
    have hm := cnt_mono (k := k) fun i hi => h i (by omega)
    rw [cnt_succ, cnt_succ] at e
    intro i hi hu
    by_cases ek : S k = true
    · have uk := h k (by omega) ek
      rw [if_pos ek, if_pos uk] at e
      by_cases z : i = k
      · rw [z]; exact ek
      · exact ih (fun i hi => h i (by omega)) (by omega) i (by omega) hu
    · rw [if_neg ek] at e
      by_cases uk : U k = true
      · rw [if_pos uk] at e
        omega
      · rw [if_neg uk] at e
        by_cases z : i = k
        · rw [z] at hu; exact absurd hu uk
        · exact ih (fun i hi => h i (by omega)) (by omega) i (by omega) hu
theorem cnt_ex {k : Nat} {S U : Nat → Bool} (e : cnt k S < cnt k U) : ∃ i, i < k ∧ U i = true ∧ S i = false := by
  induction k with
  | zero => rw [cnt_zero, cnt_zero] at e; omega
  | succ k ih =>
    rw [cnt_succ, cnt_succ] at e
    by_cases uk : U k = true
    · by_cases sk : S k = true
      · rw [if_pos uk, if_pos sk] at e
        obtain ⟨i, h1, h2⟩ := ih (by omega)
        exact ⟨i, by omega, h2⟩
      · exact ⟨k, by omega, uk, by simpa using sk⟩
    · rw [if_neg uk] at e
      obtain ⟨i, h1, h2⟩ := ih (by omega)
      exact ⟨i, by omega, h2⟩
theorem cnt_pos_ex {k : Nat} {S : Nat → Bool} (e : 0 < cnt k S) : ∃ i, i < k ∧ S i = true := by
  induction k with
  | zero => rw [cnt_zero] at e; omega
  | succ k ih =>
    by_cases sk : S k = true
    · exact ⟨k, by omega, sk⟩
    · rw [cnt_succ, if_neg sk] at e
      obtain ⟨i, h1, h2⟩ := ih (by omega)
      exact ⟨i, by omega, h2⟩
def flip (S : Nat → Bool) (i : Nat) : Nat → Bool := fun j => if j = i then !S j else S j
theorem flip_self (S : Nat → Bool) (i : Nat) : flip S i i = !S i := by unfold flip; rw [if_pos rfl]
theorem flip_ne (S : Nat → Bool) {i j : Nat} (h : j ≠ i) : flip S i j = S j := by unfold flip; rw [if_neg h]
theorem flip_flip (S : Nat → Bool) (i : Nat) : flip (flip S i) i = S := by
  funext j
  by_cases h : j = i
  · subst h
    rw [flip_self, flip_self, Bool.not_not]
  · rw [flip_ne _ h, flip_ne _ h]
theorem cnt_flip_up {k : Nat} {S : Nat → Bool} {i : Nat} (hi : i < k) (h : S i = false) : cnt k (flip S i) = cnt k S + 1 := by
  induction k with
  | zero => omega
  | succ k ih =>
    rw [cnt_succ, cnt_succ]
    by_cases z : i = k
    · subst z
      rw [flip_self, h]
      rw [cnt_congr (k := i) (S := flip S i) (U := S) fun j hj => flip_ne S (by omega)]
      simp
    · rw [ih (by omega), flip_ne S (show k ≠ i by omega)]
      omega
theorem cnt_flip_dn {k : Nat} {S : Nat → Bool} {i : Nat} (hi : i < k) (h : S i = true) : cnt k (flip S i) + 1 = cnt k S := by
  have e : flip S i i = false := by rw [flip_self, h]; rfl
  have := cnt_flip_up hi e
  rw [flip_flip] at this
  omega
theorem cnt_pos {k : Nat} {S : Nat → Bool} {i : Nat} (hi : i < k) (h : S i = true) : 0 < cnt k S := by
  have := cnt_flip_dn hi h
  omega
theorem cnt_or_not {k : Nat} (S U : Nat → Bool) : cnt k (fun i => S i || U i) = cnt k S + cnt k (fun i => U i && !S i) := by
  induction k with
  | zero => rfl
  | succ k ih =>
    rw [cnt_succ, cnt_succ, cnt_succ, ih]
    cases S k <;> cases U k <;> simp <;> omega
theorem cnt_split {k : Nat} (S U : Nat → Bool) : cnt k S = cnt k (fun i => S i && U i) + cnt k (fun i => S i && !U i) := by
  induction k with
  | zero => rfl
  | succ k ih =>
    rw [cnt_succ, cnt_succ, cnt_succ, ih]
    cases S k <;> cases U k <;> simp <;> omega
theorem cnt_not {k : Nat} (S : Nat → Bool) : cnt k S + cnt k (fun i => !S i) = k := by
  induction k with
  | zero => rfl
  | succ k ih =>
    rw [cnt_succ, cnt_succ]
    cases S k <;> simp <;> omega

/-! ### crossings -/
section
variable (k : Nat) (G : Nat → Nat → Bool)
inductive Step : (Nat → Bool) → (Nat → Bool) → Prop
  | up {S : Nat → Bool} {i : Nat} (hi : i < k) (hs : S i = false) (hg : G (cnt k S) i = true) : Step S (flip S i)
  | dn {S : Nat → Bool} {i : Nat} (hi : i < k) (hs : S i = true) (hg : G (cnt k S - 1) i = true) : Step S (flip S i)
inductive Reach : (Nat → Bool) → (Nat → Bool) → Prop
  | refl (S : Nat → Bool) : Reach S S
  | step {S U W : Nat → Bool} : Reach S U → Step k G U W → Reach S W
end
section
variable {k : Nat} {G : Nat → Nat → Bool} {S U W : Nat → Bool}
theorem Step.symm (h : Step k G S U) : Step k G U S := by
  cases h with
  | @up i hi hs hg =>
    have e : Step k G (flip S i) (flip (flip S i) i) := .dn hi (by rw [flip_self, hs]; rfl) (by rw [cnt_flip_up hi hs, Nat.add_sub_cancel]; exact hg)
    rwa [flip_flip] at e
  | @dn i hi hs hg =>
    have e : Step k G (flip S i) (flip (flip S i) i) := .up hi (by rw [flip_self, hs]; rfl) (by have := cnt_flip_dn hi hs; rw [show cnt k (flip S i) = cnt k S - 1 by omega]; exact hg)
    rwa [flip_flip] at e
theorem Reach.trans (a : Reach k G S U) (b : Reach k G U W) : Reach k G S W := by
  induction b with
  | refl => exact a
  | step _ s ih => exact .step ih s
theorem Reach.one (s : Step k G S U) : Reach k G S U := .step (.refl _) s
theorem Reach.symm (a : Reach k G S U) : Reach k G U S := by
  induction a with
  | refl => exact .refl _
  | step _ s ih => exact (Reach.one s.symm).trans ih
/-- whatever every crossing keeps -/
theorem Reach.inv {P : (Nat → Bool) → Prop} (hp : ∀ S U, P S → Step k G S U → P U) (a : Reach k G S U) (h : P S) : P U := by
  induction a with
  | refl => exact h
  | step _ s ih => exact hp _ _ ih s
/-! ### filled from below -/
/-- between a and b goers grow -/
def Grow (G : Nat → Nat → Bool) (b : Nat) : Prop := ∀ s s' i, s ≤ s' → s' ≤ b → G s i = true → G s' i = true
/-- S can be filled to N, if at each number on the way somebody lacks -/
theorem fill {T : Nat} (gr : Grow G T) (N : Nat) (hN : N ≤ T + 1) (h0 : cnt k S ≤ N) (hl : ∀ n, cnt k S ≤ n → n < N → n < cnt k (fun i => S i || G n i)) :
    ∃ U, Reach k G S U ∧ cnt k U = N ∧ (∀ i, S i = true → U i = true) ∧ ∀ i, i < k → U i = true → S i = true ∨ (0 < N ∧ G (N - 1) i = true) := by
  induction N with
  | zero => exact ⟨S, .refl _, by omega, fun _ h => h, fun _ _ h => .inl h⟩
  | succ N ih =>
    by_cases e : cnt k S = N + 1
    · exact ⟨S, .refl _, e, fun _ h => h, fun _ _ h => .inl h⟩
    · obtain ⟨U, r, c, h1, h2⟩ := ih (by omega) (by omega) fun n a b => hl n a (by omega)
      have hlt := hl N (by omega) (by omega)
      obtain ⟨i, hi, g, u⟩ := cnt_ex (k := k) (S := U) (U := fun i => S i || G N i) (by omega)
      have gi : G N i = true := by
        cases hs : S i with
        | true => rw [h1 i hs] at u; cases u
        | false => rw [hs] at g; exact g
      refine ⟨flip U i, r.step (.up hi u (by rw [c]; exact gi)), by rw [cnt_flip_up hi u, c], fun j hj => ?_, fun j hj hf => ?_⟩
      · by_cases z : j = i
        · subst z
          rw [h1 j hj] at u
          cases u
        · rw [flip_ne _ z]
          exact h1 j hj
      · by_cases z : j = i
        · exact .inr ⟨by omega, by rw [z]; exact gi⟩
        · rw [flip_ne _ z] at hf
          rcases h2 j hj hf with q | ⟨q, g2⟩
          · exact .inl q
          · exact .inr ⟨by omega, gr _ _ _ (by omega) (by omega) g2⟩
/-- stuck at N: the fullest one is S with all goers at N -/
theorem stuck {T N : Nat} (gr : Grow G T) (hN : N ≤ T) (h0 : cnt k S ≤ N) (hl : ∀ n, cnt k S ≤ n → n < N → n < cnt k (fun i => S i || G n i)) (hs : cnt k (fun i => S i || G N i) ≤ N) :
    ∃ U, Reach k G S U ∧ cnt k U = N ∧ ∀ i, i < k → U i = (S i || G N i) := by
  obtain ⟨U, r, c, h1, h2⟩ := fill gr N (by omega) h0 hl
  have hm : ∀ i, i < k → U i = true → (S i || G N i) = true := fun i hi hu => by
    rcases h2 i hi hu with q | ⟨_, q⟩
    · rw [q]; rfl
    · rw [gr _ _ _ (by omega) hN q, Bool.or_true]
  have he := cnt_eq (k := k) (S := U) (U := fun i => S i || G N i) hm (by omega)
  refine ⟨U, r, c, fun i hi => ?_⟩
  cases hu : U i with
  | true => exact (hm i hi hu).symm
  | false =>
    cases hq : (S i || G N i) with
    | false => rfl
    | true => rw [he i hi hq] at hu; cases hu
/-- under a low bar at N nobody gets out -/
theorem low_inv {T N : Nat} (gr : Grow G T) (hN : N ≤ T) {F : Nat → Bool} (hF : cnt k F = N) (hG : ∀ i, i < k → G N i = true → F i = true) :
    ∀ S U, (cnt k S ≤ N ∧ ∀ i, i < k → (S i || G N i) = F i) → Step k G S U → (cnt k U ≤ N ∧ ∀ i, i < k → (U i || G N i) = F i) := by
  rintro S U ⟨c, h⟩ s
  have sub : ∀ i, i < k → S i = true → F i = true := fun i hi hs => by rw [← h i hi, hs]; rfl
  cases s with
  | @up i hi hs hg =>
    by_cases z : cnt k S = N
    · exfalso
      rw [z] at hg
      have := cnt_eq sub (by omega) i hi (hG i hi hg)
      rw [hs] at this
      cases this
    · refine ⟨by rw [cnt_flip_up hi hs]; omega, fun j hj => ?_⟩
      by_cases e : j = i
      · subst e
        have gN := gr _ _ _ (by omega) hN hg
        rw [gN, Bool.or_true, hG j hj gN]
      · rw [flip_ne _ e]
        exact h j hj
  | @dn i hi hs hg =>
    have := cnt_flip_dn hi hs
    refine ⟨by omega, fun j hj => ?_⟩
    by_cases e : j = i
    · subst e
      have gN := gr _ _ _ (by omega) hN hg
      rw [gN, Bool.or_true, hG j hj gN]
    · rw [flip_ne _ e]
      exact h j hj
end
end Th
namespace Th
section
variable {k : Nat} {G : Nat → Nat → Bool} {S U W : Nat → Bool}
/-! ### met from the other basin -/
def co (S : Nat → Bool) : Nat → Bool := fun i => !S i
def dual (k : Nat) (G : Nat → Nat → Bool) : Nat → Nat → Bool := fun s i => G (k - 1 - s) i
theorem co_co (S : Nat → Bool) : co (co S) = S := by funext i; exact Bool.not_not _
theorem cnt_co (k : Nat) (S : Nat → Bool) : cnt k S + cnt k (co S) = k := cnt_not S
theorem flip_co (S : Nat → Bool) (i : Nat) : flip (co S) i = co (flip S i) := by
  funext j
  unfold co flip
  split <;> rfl
theorem Step.dual (h : Step k G S U) : Step k (dual k G) (co S) (co U) := by
  cases h with
  | @up i hi hs hg =>
    rw [← flip_co]
    have c1 := cnt_co k S
    have c2 := cnt_le k (flip S i)
    rw [cnt_flip_up hi hs] at c2
    refine .dn hi (by unfold co; rw [hs]; rfl) ?_
    unfold Th.dual
    rw [show k - 1 - (cnt k (co S) - 1) = cnt k S by omega]
    exact hg
  | @dn i hi hs hg =>
    rw [← flip_co]
    have c1 := cnt_co k S
    have c2 := cnt_pos hi hs
    refine .up hi (by unfold co; rw [hs]; rfl) ?_
    unfold Th.dual
    rw [show k - 1 - cnt k (co S) = cnt k S - 1 by omega]
    exact hg
theorem dual_dual_at {s : Nat} (hs : s < k) (i : Nat) : Th.dual k (Th.dual k G) s i = G s i := by
  unfold Th.dual
  rw [show k - 1 - (k - 1 - s) = s by omega]
theorem Reach.dual (h : Reach k G S U) : Reach k (Th.dual k G) (co S) (co U) := by
  induction h with
  | refl => exact .refl _
  | step _ s ih => exact .step ih s.dual
theorem Step.congr {G' : Nat → Nat → Bool} (hg : ∀ s i, s < k → G s i = G' s i) (h : Step k G S U) : Step k G' S U := by
  cases h with
  | @up i hi hs g =>
    have := cnt_le k (flip S i)
    rw [cnt_flip_up hi hs] at this
    exact .up hi hs (by rw [← hg _ _ (by omega)]; exact g)
  | @dn i hi hs g =>
    have := cnt_le k S
    have := cnt_pos hi hs
    exact .dn hi hs (by rw [← hg _ _ (by omega)]; exact g)
theorem Reach.congr {G' : Nat → Nat → Bool} (hg : ∀ s i, s < k → G s i = G' s i) (h : Reach k G S U) : Reach k G' S U := by
  induction h with
  | refl => exact .refl _
  | step _ s ih => exact .step ih (s.congr hg)
theorem Reach.codual (h : Reach k (Th.dual k G) (co S) (co U)) : Reach k G S U := by
  have h2 := h.dual
  rw [co_co, co_co] at h2
  exact h2.congr fun s i hs => dual_dual_at hs i
/-! ### at the top -/
structure Top (k : Nat) (G : Nat → Nat → Bool) (T : Nat) : Prop where
  lt : T < k
  up : Grow G T
  dn : ∀ s s' i, T ≤ s → s ≤ s' → s' < k → G s' i = true → G s i = true
theorem Top.all {T : Nat} (t : Top k G T) {s i : Nat} (hs : s < k) (h : G s i = true) : G T i = true := by
  by_cases z : s ≤ T
  · exact t.up s T i z (Nat.le_refl _) h
  · exact t.dn T s i (Nat.le_refl _) (by omega) hs h
theorem Top.dual {T : Nat} (t : Top k G T) : Top k (Th.dual k G) (k - 1 - T) := by
  have := t.lt
  refine ⟨by omega, fun s s' i a b g => ?_, fun s s' i a b c g => ?_⟩
  · exact t.dn (k - 1 - s') (k - 1 - s) i (by omega) (by omega) (by omega) g
  · exact t.up (k - 1 - s') (k - 1 - s) i (by omega) (by omega) g
/-- who isn't a goer at the top never goes -/
theorem fast_inv {T : Nat} (t : Top k G T) (h : Reach k G S U) : ∀ i, i < k → G T i = false → U i = S i := by
  intro i hi hg
  refine Reach.inv (P := fun W => W i = S i) (fun A B e s => ?_) h rfl
  cases s with
  | @up j hj hs g =>
    have c := cnt_le k (flip A j)
    rw [cnt_flip_up hj hs] at c
    have : i ≠ j := fun z => by
      subst z
      rw [t.all (by omega) g] at hg
      cases hg
    rw [flip_ne _ this]
    exact e
  | @dn j hj hs g =>
    have c := cnt_le k A
    have c2 := cnt_pos hj hs
    have : i ≠ j := fun z => by
      subst z
      rw [t.all (by omega) g] at hg
      cases hg
    rw [flip_ne _ this]
    exact e
def diff (k : Nat) (S U : Nat → Bool) : Nat := cnt k (fun i => S i && !U i)
theorem reach_out (h : Reach k G S U) : ∀ i, ¬ i < k → U i = S i := by
  intro i hi
  refine Reach.inv (P := fun W => W i = S i) (fun A B e s => ?_) h rfl
  cases s with
  | @up j hj hs g =>
    rw [flip_ne _ (show i ≠ j by omega)]
    exact e
  | @dn j hj hs g =>
    rw [flip_ne _ (show i ≠ j by omega)]
    exact e
/-- at the top's own number goers can be exchanged -/
theorem swap {T : Nat} (t : Top k G T) : ∀ (n : Nat) (S U : Nat → Bool), diff k S U ≤ n → cnt k S = T → cnt k U = T → (∀ i, i < k → G T i = false → U i = S i) → (∀ i, ¬ i < k → U i = S i) → Reach k G S U := by
  intro n
  induction n with
  | zero =>
    intro S U hd cs cu hf ho
    have hsub : ∀ i, i < k → S i = true → U i = true := fun i hi hs => by
      cases hu : U i with
      | true => rfl
      | false =>
        have := cnt_pos (k := k) (S := fun i => S i && !U i) hi (by show (S i && !U i) = true; rw [hs, hu]; rfl)
        unfold diff at hd
        omega
    have heq := cnt_eq hsub (by omega)
    have : U = S := by
      funext i
      by_cases hi : i < k
      · cases hs : S i with
        | true => exact hsub i hi hs
        | false =>
          cases hu : U i with
          | false => rfl
          | true => rw [heq i hi hu] at hs; cases hs
      · exact ho i hi
    rw [this]
    exact .refl _
  | succ n ih =>
    intro S U hd cs cu hf ho
    by_cases z : diff k S U = 0
    · exact ih S U (by omega) cs cu hf ho
    · obtain ⟨i, hi, h1⟩ := cnt_pos_ex (k := k) (S := fun i => S i && !U i) (by unfold diff at z; omega)
      have si : S i = true := by revert h1; cases S i <;> simp
      have ui : U i = false := by revert h1; cases U i <;> simp
      have e1 := cnt_split (k := k) S U
      have e2 := cnt_split (k := k) U S
      have e3 : cnt k (fun i => S i && U i) = cnt k (fun i => U i && S i) := cnt_congr fun i _ => Bool.and_comm _ _
      obtain ⟨j, hj, h2⟩ := cnt_pos_ex (k := k) (S := fun i => U i && !S i) (by unfold diff at z; omega)
      have uj : U j = true := by revert h2; cases U j <;> simp
      have sj : S j = false := by revert h2; cases S j <;> simp
      have gi : G T i = true := by
        cases g : G T i with
        | true => rfl
        | false => rw [hf i hi g, si] at ui; cases ui
      have gj : G T j = true := by
        cases g : G T j with
        | true => rfl
        | false => rw [hf j hj g, sj] at uj; cases uj
      have ij : i ≠ j := fun e => by rw [e, sj] at si; cases si
      have s1 : Step k G S (flip S j) := .up hj sj (by rw [cs]; exact gj)
      have c1 : cnt k (flip S j) = T + 1 := by rw [cnt_flip_up hj sj, cs]
      have s2 : Step k G (flip S j) (flip (flip S j) i) := .dn hi (by rw [flip_ne _ ij]; exact si) (by rw [c1, Nat.add_sub_cancel]; exact gi)
      have c2 := cnt_flip_dn (k := k) (S := flip S j) hi (by rw [flip_ne _ ij]; exact si)
      refine ((Reach.one s1).trans (Reach.one s2)).trans (ih _ U ?_ (by omega) cu (fun l hl g => ?_) (fun l hl => ?_))
      · have e : (fun l => flip (flip S j) i l && !U l) = flip (fun l => S l && !U l) i := by
          funext l
          by_cases li : l = i
          · subst li
            rw [flip_self, flip_self, flip_ne _ ij, si, ui]
            rfl
          · rw [flip_ne _ li, flip_ne _ li]
            by_cases lj : l = j
            · subst lj
              rw [flip_self, sj, uj]
              rfl
            · rw [flip_ne _ lj]
        unfold diff
        rw [e]
        have := cnt_flip_dn (k := k) (S := fun l => S l && !U l) hi h1
        unfold diff at hd
        omega
      · have li : l ≠ i := fun e => by rw [e, gi] at g; cases g
        have lj : l ≠ j := fun e => by rw [e, gj] at g; cases g
        rw [flip_ne _ li, flip_ne _ lj]
        exact hf l hl g
      · rw [flip_ne _ (show l ≠ i by omega), flip_ne _ (show l ≠ j by omega)]
        exact ho l hl
/-! ### which lot a standing is in -/
/-- from below it gets to the top's number -/
def Rises (k : Nat) (G : Nat → Nat → Bool) (T : Nat) (S : Nat → Bool) : Prop := cnt k S ≤ T ∧ ∀ n, cnt k S ≤ n → n < T → n < cnt k (fun i => S i || G n i)
/-- from above -/
def Sinks (k : Nat) (G : Nat → Nat → Bool) (T : Nat) (S : Nat → Bool) : Prop := T < cnt k S ∧ ∀ s, T ≤ s → s < cnt k S → cnt k (fun i => S i && !G s i) ≤ s
theorem Rises.to {T : Nat} (t : Top k G T) (h : Rises k G T S) : ∃ U, Reach k G S U ∧ cnt k U = T := by
  obtain ⟨U, r, c, _⟩ := fill t.up T (by omega) h.1 h.2
  exact ⟨U, r, c⟩
theorem co_or (S : Nat → Bool) (f : Nat → Bool) : (fun i => co S i || f i) = co (fun i => S i && !f i) := by
  funext i
  show (!S i || f i) = !(S i && !f i)
  cases S i <;> cases f i <;> rfl
theorem Sinks.to {T : Nat} (t : Top k G T) (h : Sinks k G T S) : ∃ U, Reach k G S U ∧ cnt k U = T := by
  have tl := t.lt
  have c0 := cnt_co k S
  have cle := cnt_le k S
  obtain ⟨h1, h2⟩ := h
  obtain ⟨U, r, c, _⟩ := fill (k := k) (G := Th.dual k G) (S := co S) t.dual.up (k - 1 - T + 1) (by omega) (by omega) fun n a b => by
    have e : (fun i => co S i || Th.dual k G n i) = co (fun i => S i && !G (k - 1 - n) i) := co_or S _
    rw [e]
    have q := h2 (k - 1 - n) (by omega) (by omega)
    have c1 := cnt_co k (fun i => S i && !G (k - 1 - n) i)
    omega
  refine ⟨co U, ?_, ?_⟩
  · refine Reach.codual ?_
    rw [co_co]
    exact r
  · have := cnt_co k U
    omega
/-- two that get to the top's number and have the same fast ones here come to one another -/
theorem open_reach {T : Nat} (t : Top k G T) (hS : Rises k G T S ∨ Sinks k G T S) (hU : Rises k G T U ∨ Sinks k G T U) (hf : ∀ i, i < k → G T i = false → U i = S i) (ho : ∀ i, ¬ i < k → U i = S i) : Reach k G S U := by
  obtain ⟨S', rS, cS⟩ := hS.elim (fun h => h.to t) (fun h => h.to t)
  obtain ⟨U', rU, cU⟩ := hU.elim (fun h => h.to t) (fun h => h.to t)
  refine rS.trans (Reach.trans ?_ rU.symm)
  refine swap t _ S' U' (Nat.le_refl _) cS cU (fun i hi g => ?_) (fun i hi => ?_)
  · rw [fast_inv t rS i hi g, fast_inv t rU i hi g, hf i hi g]
  · rw [reach_out rS i hi, reach_out rU i hi, ho i hi]
/-- the first number at which filling is stuck -/
def StuckLow (k : Nat) (G : Nat → Nat → Bool) (N : Nat) (S : Nat → Bool) : Prop := cnt k S ≤ N ∧ (∀ n, cnt k S ≤ n → n < N → n < cnt k (fun i => S i || G n i)) ∧ cnt k (fun i => S i || G N i) ≤ N
theorem StuckLow.full {N : Nat} (h : StuckLow k G N S) {T : Nat} (t : Top k G T) (hN : N ≤ T) : ∃ U, Reach k G S U ∧ cnt k U = N ∧ ∀ i, i < k → U i = (S i || G N i) := stuck t.up hN h.1 h.2.1 h.2.2
theorem StuckLow.cnt_full {N : Nat} (h : StuckLow k G N S) {T : Nat} (t : Top k G T) (hN : N ≤ T) : cnt k (fun i => S i || G N i) = N := by
  obtain ⟨U, _, c, e⟩ := h.full t hN
  exact (cnt_congr e).symm.trans c
/-- nobody leaves the lot under it -/
theorem StuckLow.under {N T : Nat} (h : StuckLow k G N S) (t : Top k G T) (hN : N ≤ T) (r : Reach k G S U) : cnt k U ≤ N ∧ ∀ i, i < k → (U i || G N i) = (S i || G N i) := by
  refine Reach.inv (P := fun W => cnt k W ≤ N ∧ ∀ i, i < k → (W i || G N i) = (S i || G N i)) (low_inv t.up hN (h.cnt_full t hN) fun i _ g => by rw [g, Bool.or_true]) r ⟨h.1, fun _ _ => rfl⟩
/-- all of a lot are stuck alike -/
theorem StuckLow.same {N T : Nat} (h : StuckLow k G N S) (t : Top k G T) (hN : N ≤ T) (r : Reach k G S U) : StuckLow k G N U := by
  obtain ⟨c, e⟩ := h.under t hN r
  have ce : cnt k (fun i => U i || G N i) = N := by
    rw [cnt_congr e]
    exact h.cnt_full t hN
  refine ⟨c, fun n a b => ?_, by omega⟩
  -- stuck earlier it would never get to S's fullest one
  by_cases z : n < cnt k (fun i => U i || G n i)
  · exact z
  · exfalso
    -- the first such number
    have ex : ∃ m, cnt k U ≤ m ∧ m < N ∧ ¬ m < cnt k (fun i => U i || G m i) ∧ ∀ m', cnt k U ≤ m' → m' < m → m' < cnt k (fun i => U i || G m' i) := by
      clear ce e
      induction n using Nat.strongRecOn with
      | _ n ih =>
        by_cases q : ∀ m', cnt k U ≤ m' → m' < n → m' < cnt k (fun i => U i || G m' i)
        · exact ⟨n, a, b, z, q⟩
        · have : ∃ m', cnt k U ≤ m' ∧ m' < n ∧ ¬ m' < cnt k (fun i => U i || G m' i) := by
            refine Classical.byContradiction fun w => q fun m' x y => ?_
            refine Classical.byContradiction fun v => w ⟨m', x, y, v⟩
          obtain ⟨m', x, y, v⟩ := this
          exact ih m' y x (by omega) v
    obtain ⟨m, x, y, v, u⟩ := ex
    have sl : StuckLow k G m U := ⟨x, u, by omega⟩
    obtain ⟨F, rF, cF, _⟩ := h.full t hN
    have := (sl.under t (by omega) (r.symm.trans rF)).1
    omega
theorem StuckLow.iff {N T : Nat} (h : StuckLow k G N S) (t : Top k G T) (hN : N ≤ T) (ho : ∀ i, ¬ i < k → U i = S i) : Reach k G S U ↔ StuckLow k G N U ∧ ∀ i, i < k → (U i || G N i) = (S i || G N i) := by
  constructor
  · intro r
    exact ⟨h.same t hN r, (h.under t hN r).2⟩
  · rintro ⟨hu, e⟩
    obtain ⟨A, rA, _, eA⟩ := h.full t hN
    obtain ⟨B, rB, _, eB⟩ := hu.full t hN
    have : A = B := by
      funext i
      by_cases hi : i < k
      · rw [eA i hi, eB i hi, e i hi]
      · rw [reach_out rA i hi, reach_out rB i hi, ho i hi]
    rw [this] at rA
    exact rA.trans rB.symm
/-- each standing of no more than the top's number is stuck below it, or gets there -/
theorem low_or {T : Nat} (h : cnt k S ≤ T) : (∃ N, N < T ∧ StuckLow k G N S) ∨ Rises k G T S := by
  by_cases q : ∀ n, cnt k S ≤ n → n < T → n < cnt k (fun i => S i || G n i)
  · exact .inr ⟨h, q⟩
  · refine .inl ?_
    have : ∃ m, cnt k S ≤ m ∧ m < T ∧ ¬ m < cnt k (fun i => S i || G m i) := by
      refine Classical.byContradiction fun w => q fun m' x y => ?_
      refine Classical.byContradiction fun v => w ⟨m', x, y, v⟩
    obtain ⟨n, a, b, z⟩ := this
    clear q
    induction n using Nat.strongRecOn with
    | _ n ih =>
      by_cases q : ∀ m', cnt k S ≤ m' → m' < n → m' < cnt k (fun i => S i || G m' i)
      · exact ⟨n, b, a, q, by omega⟩
      · have : ∃ m', cnt k S ≤ m' ∧ m' < n ∧ ¬ m' < cnt k (fun i => S i || G m' i) := by
          refine Classical.byContradiction fun w => q fun m' x y => ?_
          refine Classical.byContradiction fun v => w ⟨m', x, y, v⟩
        obtain ⟨m', x, y, v⟩ := this
        exact ih m' y x (by omega) v
end
end Th
namespace Th
section
variable {k : Nat} {G : Nat → Nat → Bool} {S U W : Nat → Bool}
/-- i may go at U -/
def May (k : Nat) (G : Nat → Nat → Bool) (U : Nat → Bool) (i : Nat) : Prop := G (if U i = true then cnt k U - 1 else cnt k U) i = true
theorem May.step {i : Nat} (hi : i < k) (h : May k G U i) : Step k G U (flip U i) := by
  unfold May at h
  cases e : U i with
  | true => rw [e, if_pos rfl] at h; exact .dn hi e h
  | false => rw [e, if_neg Bool.false_ne_true] at h; exact .up hi e h
/-- ever goes -/
def Moves (k : Nat) (G : Nat → Nat → Bool) (S : Nat → Bool) (i : Nat) : Prop := ∃ U, Reach k G S U ∧ May k G U i
theorem moves_low {N T i : Nat} (h : StuckLow k G N S) (t : Top k G T) (hN : N ≤ T) (hi : i < k) : Moves k G S i ↔ 0 < N ∧ G (N - 1) i = true := by
  constructor
  · rintro ⟨U, r, m⟩
    obtain ⟨c, e⟩ := h.under t hN r
    unfold May at m
    cases u : U i with
    | true =>
      rw [u, if_pos rfl] at m
      have := cnt_pos hi u
      exact ⟨by omega, t.up _ _ _ (by omega) (by omega) m⟩
    | false =>
      rw [u, if_neg Bool.false_ne_true] at m
      by_cases z : cnt k U = N
      · exfalso
        rw [z] at m
        have cf := h.cnt_full t hN
        have hsub : ∀ j, j < k → U j = true → (S j || G N j) = true := fun j hj uj => by rw [← e j hj, uj]; rfl
        have := cnt_eq hsub (by omega) i hi (by rw [m, Bool.or_true])
        rw [u] at this
        cases this
      · exact ⟨by omega, t.up _ _ _ (by omega) (by omega) m⟩
  · rintro ⟨n0, g⟩
    obtain ⟨F, r, c, e⟩ := h.full t hN
    refine ⟨F, r, ?_⟩
    have fi : F i = true := by rw [e i hi, t.up _ _ _ (show N - 1 ≤ N by omega) hN g, Bool.or_true]
    unfold May
    rw [fi, if_pos rfl, c]
    exact g
/-- gets to the top's number, and there's somebody out who may go there -/
theorem moves_open {T i : Nat} (t : Top k G T) (hS : Rises k G T S ∨ Sinks k G T S) (hc : T < cnt k (fun i => S i || G T i)) (hi : i < k) : Moves k G S i ↔ G T i = true := by
  constructor
  · rintro ⟨U, r, m⟩
    unfold May at m
    have := cnt_le k U
    by_cases u : U i = true
    · rw [if_pos u] at m
      have := cnt_pos hi u
      exact t.all (by omega) m
    · rw [if_neg u] at m
      have u' : U i = false := by simpa using u
      have c := cnt_le k (flip U i)
      rw [cnt_flip_up hi u'] at c
      exact t.all (by omega) m
  · intro g
    obtain ⟨U, r, c⟩ := hS.elim (fun h => h.to t) (fun h => h.to t)
    by_cases u : U i = true
    · -- somebody j is out: exchange them
      have hf := fast_inv t r
      have ce : cnt k (fun i => U i || G T i) = cnt k (fun i => S i || G T i) := cnt_congr fun j hj => by
        cases q : G T j with
        | true => rw [Bool.or_true, Bool.or_true]
        | false => rw [Bool.or_false, Bool.or_false, hf j hj q]
      obtain ⟨j, hj, h1, h2⟩ := cnt_ex (k := k) (S := U) (U := fun i => U i || G T i) (by omega)
      have gj : G T j = true := by rw [h2] at h1; exact h1
      have ij : i ≠ j := fun e => by rw [e, h2] at u; cases u
      have s1 : Step k G U (flip U j) := .up hj h2 (by rw [c]; exact gj)
      have c1 : cnt k (flip U j) = T + 1 := by rw [cnt_flip_up hj h2, c]
      refine ⟨flip U j, r.step s1, ?_⟩
      unfold May
      rw [flip_ne _ ij, u, if_pos rfl, c1, Nat.add_sub_cancel]
      exact g
    · refine ⟨U, r, ?_⟩
      unfold May
      rw [if_neg u, c]
      exact g
/-- stuck at some number up to N, or not before it -/
theorem stuck_or (N : Nat) : (∃ n, n < N ∧ StuckLow k G n S) ∨ ∀ n, cnt k S ≤ n → n < N → n < cnt k (fun i => S i || G n i) := by
  by_cases h : cnt k S ≤ N
  · rcases low_or (k := k) (G := G) (S := S) h with ⟨n, a, b⟩ | r
    · exact .inl ⟨n, a, b⟩
    · exact .inr r.2
  · exact .inr fun n a b => by omega
/-- the three sorts of lots -/
theorem sorts {T : Nat} (t : Top k G T) : (∃ N, N ≤ T ∧ StuckLow k G N S) ∨ (∃ N, N ≤ k - 1 - T ∧ StuckLow k (Th.dual k G) N (co S)) ∨ ((Rises k G T S ∨ Sinks k G T S) ∧ T < cnt k (fun i => S i || G T i)) := by
  have tl := t.lt
  by_cases h : cnt k S ≤ T
  · rcases stuck_or (k := k) (G := G) (S := S) (T + 1) with ⟨N, a, b⟩ | r
    · exact .inl ⟨N, by omega, b⟩
    · exact .inr (.inr ⟨.inl ⟨h, fun n a b => r n a (by omega)⟩, r T h (by omega)⟩)
  · have c0 := cnt_co k S
    rcases stuck_or (k := k) (G := Th.dual k G) (S := co S) (k - 1 - T + 1) with ⟨N, a, b⟩ | r
    · exact .inr (.inl ⟨N, by omega, b⟩)
    · refine .inr (.inr ⟨.inr ⟨by omega, fun s a b => ?_⟩, ?_⟩)
      · have cle := cnt_le k S
        have q := r (k - 1 - s) (by omega) (by omega)
        have e : (fun i => co S i || Th.dual k G (k - 1 - s) i) = co (fun i => S i && !G s i) := by
          rw [co_or]
          funext i
          show (!(S i && !Th.dual k G (k - 1 - s) i)) = !(S i && !G s i)
          have := dual_dual_at (G := G) (k := k) (s := s) (by omega) i
          unfold Th.dual at this ⊢
          rw [this]
        rw [e] at q
        have c1 := cnt_co k (fun i => S i && !G s i)
        omega
      · have := cnt_mono (k := k) (S := S) (U := fun i => S i || G T i) fun i _ hs => by show (S i || G T i) = true; rw [hs]; rfl
        omega
theorem may_co {i : Nat} (hi : i < k) : May k (Th.dual k G) (co U) i ↔ May k G U i := by
  have c0 := cnt_co k U
  have cl := cnt_le k U
  unfold May Th.dual
  cases u : U i with
  | true =>
    have := cnt_pos hi u
    have e : co U i = false := by unfold co; rw [u]; rfl
    rw [e, if_neg Bool.false_ne_true, if_pos rfl, show k - 1 - cnt k (co U) = cnt k U - 1 by omega]
  | false =>
    have e : co U i = true := by unfold co; rw [u]; rfl
    have := cnt_pos (S := co U) hi e
    rw [e, if_pos rfl, if_neg Bool.false_ne_true, show k - 1 - (cnt k (co U) - 1) = cnt k U by omega]
theorem moves_co {i : Nat} (hi : i < k) : Moves k (Th.dual k G) (co S) i ↔ Moves k G S i := by
  constructor
  · rintro ⟨U, r, m⟩
    refine ⟨co U, ?_, ?_⟩
    · refine Reach.codual ?_
      rw [co_co]
      exact r
    · rw [← may_co hi, co_co]
      exact m
  · rintro ⟨U, r, m⟩
    exact ⟨co U, r.dual, (may_co hi).mpr m⟩
/-- stuck from above at N (of the turned sea): who moves -/
theorem moves_high {N T i : Nat} (h : StuckLow k (Th.dual k G) N (co S)) (t : Top k G T) (hN : N ≤ k - 1 - T) (hi : i < k) : Moves k G S i ↔ 0 < N ∧ G (k - N) i = true := by
  have tl := t.lt
  rw [← moves_co hi, moves_low h t.dual hN hi]
  constructor
  · rintro ⟨a, b⟩
    refine ⟨a, ?_⟩
    unfold Th.dual at b
    rw [show k - N = k - 1 - (N - 1) by omega]
    exact b
  · rintro ⟨a, b⟩
    refine ⟨a, ?_⟩
    unfold Th.dual
    rw [show k - 1 - (N - 1) = k - N by omega]
    exact b
end
end Th
namespace Th
section
variable {k : Nat} {G : Nat → Nat → Bool} {S U W : Nat → Bool}
def Sub (k : Nat) (A B : Nat → Bool) : Prop := ∀ i, i < k → A i = true → B i = true
/-- so many of Z, such that each set of a nested family is among them or they among it -/
theorem chain (F : Nat → Nat → Bool) (P : Nat → Prop) (nest : ∀ s s', P s → P s' → Sub k (F s) (F s') ∨ Sub k (F s') (F s)) (Z : Nat → Bool) (inZ : ∀ s, P s → Sub k (F s) Z) :
    ∀ m, m ≤ cnt k Z → ∃ A : Nat → Bool, Sub k A Z ∧ cnt k A = m ∧ (∀ i, ¬ i < k → A i = false) ∧ ∀ s, P s → Sub k A (F s) ∨ Sub k (F s) A := by
  intro m
  induction m with
  | zero =>
    intro _
    have e : ∀ n, cnt n (fun _ => false) = 0 := fun n => by
      induction n with
      | zero => rfl
      | succ n ih => rw [cnt_succ, ih]; rfl
    exact ⟨fun _ => false, (fun _ _ h => by cases h), e k, (fun _ _ => rfl), fun s _ => .inl (fun _ _ h => by cases h)⟩
  | succ m ih =>
    intro hm
    obtain ⟨A, a1, a2, a3, a4⟩ := ih (by omega)
    -- a smallest set of the family that isn't among them, or Z
    have pick : ∃ i, i < k ∧ A i = false ∧ Z i = true ∧ ∀ s, P s → ¬ Sub k (F s) A → F s i = true := by
      -- by how many members
      have go : ∀ n, (∃ s, P s ∧ ¬ Sub k (F s) A ∧ cnt k (F s) ≤ n) → ∃ i, i < k ∧ A i = false ∧ Z i = true ∧ ∀ s, P s → ¬ Sub k (F s) A → F s i = true := by
        intro n
        induction n using Nat.strongRecOn with
        | _ n ih2 =>
          rintro ⟨s, ps, hs, hn⟩
          by_cases q : ∃ s', P s' ∧ ¬ Sub k (F s') A ∧ cnt k (F s') < cnt k (F s)
          · obtain ⟨s', ps', hs', hlt⟩ := q
            exact ih2 (cnt k (F s')) (by omega) ⟨s', ps', hs', Nat.le_refl _⟩
          · have : ∃ i, i < k ∧ F s i = true ∧ A i = false := by
              refine Classical.byContradiction fun w => hs fun i hi f => ?_
              cases e : A i with
              | true => rfl
              | false => exact absurd ⟨i, hi, f, e⟩ w
            obtain ⟨i, hi, f, e⟩ := this
            refine ⟨i, hi, e, inZ s ps i hi f, fun s' ps' hs' => ?_⟩
            rcases nest s s' ps ps' with w | w
            · exact w i hi f
            · have hge : cnt k (F s) ≤ cnt k (F s') := by
                refine Classical.byContradiction fun v => q ⟨s', ps', hs', by omega⟩
              exact cnt_eq w hge i hi f
      by_cases q : ∃ s, P s ∧ ¬ Sub k (F s) A
      · obtain ⟨s, ps, hs⟩ := q
        exact go _ ⟨s, ps, hs, Nat.le_refl _⟩
      · obtain ⟨i, hi, z, e⟩ := cnt_ex (k := k) (S := A) (U := Z) (by omega)
        exact ⟨i, hi, e, z, fun s ps hs => absurd ⟨s, ps, hs⟩ q⟩
    obtain ⟨i, hi, e, z, hp⟩ := pick
    refine ⟨flip A i, fun j hj h => ?_, by rw [cnt_flip_up hi e, a2], fun j hj => ?_, fun s ps => ?_⟩
    · by_cases q : j = i
      · rw [q]; exact z
      · rw [flip_ne _ q] at h
        exact a1 j hj h
    · rw [flip_ne _ (show j ≠ i by omega)]
      exact a3 j hj
    · by_cases q : Sub k (F s) A
      · refine .inr fun j hj h => ?_
        by_cases w : j = i
        · subst w
          have := q j hj h
          rw [e] at this
          cases this
        · rw [flip_ne _ w]
          exact q j hj h
      · rcases a4 s ps with w | w
        · refine .inl fun j hj h => ?_
          by_cases v : j = i
          · rw [v]; exact hp s ps q
          · rw [flip_ne _ v] at h
            exact w j hj h
        · exact absurd w q
theorem cnt_diff {A B : Nat → Bool} (h : Sub k B A) : cnt k (fun i => A i && !B i) + cnt k B = cnt k A := by
  have e := cnt_split (k := k) A B
  have e2 : cnt k (fun i => A i && B i) = cnt k B := cnt_congr fun i hi => by
    cases b : B i with
    | true => rw [h i hi b]; rfl
    | false => rw [Bool.and_false]
  omega
theorem cnt_none {A : Nat → Bool} (h : ∀ i, i < k → A i = false) : cnt k A = 0 := by
  have := cnt_congr (k := k) (S := A) (U := fun _ => false) h
  have e : ∀ n, cnt n (fun _ => false) = 0 := fun n => by
    induction n with
    | zero => rfl
    | succ n ih => rw [cnt_succ, ih]; rfl
  rw [this, e]
/-- how few can come to lie here, of a lot that is stuck at N -/
theorem low_counts {N T n : Nat} (h : StuckLow k G N S) (t : Top k G T) (hN : N ≤ T) (hn : n ≤ N) : (∃ U, Reach k G S U ∧ cnt k U = n) ↔ ∀ m, m < N → m + 1 ≤ n + cnt k (G m) := by
  constructor
  · rintro ⟨U, r, c⟩ m hm
    by_cases z : n ≤ m
    · have q := (h.same t hN r).2.1 m (by omega) hm
      have e := cnt_or_not (k := k) U (G m)
      have e2 := cnt_mono (k := k) (S := fun i => G m i && !U i) (U := G m) fun i _ hh => by revert hh; cases G m i <;> simp
      omega
    · omega
  · intro hc
    have cf := h.cnt_full t hN
    -- the goers at N, so many of them out: the shallowest ones
    have cR : cnt k (fun i => S i && !G N i) + cnt k (G N) = N := by
      have e := cnt_or_not (k := k) (G N) S
      have e1 : (fun i => G N i || S i) = (fun i => S i || G N i) := funext fun i => Bool.or_comm _ _
      rw [e1] at e
      omega
    have hle : N - n ≤ cnt k (G N) := by
      by_cases z : N = 0
      · omega
      · have q := hc (N - 1) (by omega)
        have := cnt_mono (k := k) (S := G (N - 1)) (U := G N) fun i _ g => t.up _ _ _ (by omega) hN g
        omega
    obtain ⟨A, a1, a2, a3, a4⟩ := chain (k := k) G (fun m => m ≤ N) (fun s s' hs hs' => by
      by_cases z : s ≤ s'
      · exact .inl fun i _ g => t.up _ _ _ z (by omega) g
      · exact .inr fun i _ g => t.up _ _ _ (by omega) (by omega) g) (G N) (fun s hs i _ g => t.up _ _ _ hs hN g) (N - n) hle
    -- all others of the fullest one
    have hout : ∀ i, ¬ i < k → (fun i => if i < k then (S i || G N i) && !A i else S i) i = S i := fun i hi => by show (if i < k then (S i || G N i) && !A i else S i) = S i; rw [if_neg hi]
    have hin : ∀ i, i < k → (fun i => if i < k then (S i || G N i) && !A i else S i) i = ((S i || G N i) && !A i) := fun i hi => by show (if i < k then (S i || G N i) && !A i else S i) = _; rw [if_pos hi]
    have subA : Sub k A (fun i => S i || G N i) := fun i hi q => by show (S i || G N i) = true; rw [a1 i hi q, Bool.or_true]
    have cU : cnt k (fun i => if i < k then (S i || G N i) && !A i else S i) = n := by
      rw [cnt_congr hin]
      have := cnt_diff subA
      omega
    have or_eq : ∀ i, i < k → ((fun i => if i < k then (S i || G N i) && !A i else S i) i || G N i) = (S i || G N i) := fun i hi => by
      rw [hin i hi]
      cases q : A i with
      | true =>
        have := a1 i hi q
        rw [this, Bool.or_true, Bool.or_true]
      | false => cases S i <;> cases G N i <;> rfl
    have sl : StuckLow k G N (fun i => if i < k then (S i || G N i) && !A i else S i) := by
      refine ⟨by omega, fun m x y => ?_, ?_⟩
      · have q := hc m y
        -- all of the fullest one but those of A that aren't goers at m
        have e1 : cnt k (fun i => (fun i => if i < k then (S i || G N i) && !A i else S i) i || G m i) = cnt k (fun i => (S i || G N i) && !(A i && !G m i)) := cnt_congr fun i hi => by
          rw [hin i hi]
          cases g : G m i with
          | true =>
            rw [t.up _ _ _ (show m ≤ N by omega) hN g]
            cases S i <;> cases A i <;> rfl
          | false => cases S i <;> cases G N i <;> cases A i <;> rfl
        have sub2 : Sub k (fun i => A i && !G m i) (fun i => S i || G N i) := fun i hi w => subA i hi (by have w' : (A i && !G m i) = true := w; revert w'; cases A i <;> simp)
        have e2 := cnt_diff sub2
        rw [e1]
        rcases a4 m (by omega) with w | w
        · have e3 : cnt k (fun i => A i && !G m i) = 0 := cnt_none fun i hi => by
            cases q : A i with
            | false => rfl
            | true => rw [w i hi q]; rfl
          omega
        · have e3 := cnt_diff w
          omega
      · rw [cnt_congr or_eq]
        omega
    exact ⟨_, (h.iff t hN hout).mpr ⟨sl, or_eq⟩, cU⟩
/-- how many can come to lie here, of a lot that gets to the top's number -/
theorem open_counts {T n : Nat} (t : Top k G T) (hS : Rises k G T S ∨ Sinks k G T S) (hn : T ≤ n) : (∃ U, Reach k G S U ∧ cnt k U = n) ↔ n ≤ cnt k (fun i => S i || G T i) ∧ ∀ s, T ≤ s → s < k → n ≤ s + cnt k (G s) := by
  obtain ⟨V, rV, cV⟩ := hS.elim (fun h => h.to t) (fun h => h.to t)
  have tl := t.lt
  constructor
  · rintro ⟨U, r, c⟩
    have sub : Sub k U (fun i => S i || G T i) := fun i hi u => by
      cases g : G T i with
      | true => show (S i || G T i) = true; rw [g, Bool.or_true]
      | false =>
        rw [fast_inv t r i hi g] at u
        show (S i || G T i) = true
        rw [u]; rfl
    refine ⟨by rw [← c]; exact cnt_mono sub, fun s hs hk => ?_⟩
    by_cases z : n ≤ s
    · omega
    · -- U isn't stuck from above
      have c0 := cnt_co k U
      have cle := cnt_le k U
      rcases stuck_or (k := k) (G := Th.dual k G) (S := co U) (k - 1 - T + 1) with ⟨N, a, b⟩ | q
      · exfalso
        have hr := (rV.symm.trans r).symm.dual
        have := (b.under t.dual (by omega) hr).1
        have c1 := cnt_co k V
        omega
      · have q2 := q (k - 1 - s) (by omega) (by omega)
        have e : (fun i => co U i || Th.dual k G (k - 1 - s) i) = co (fun i => U i && !G s i) := by
          rw [co_or]
          funext i
          show (!(U i && !Th.dual k G (k - 1 - s) i)) = !(U i && !G s i)
          have := dual_dual_at (G := G) (k := k) (s := s) hk i
          unfold Th.dual at this ⊢
          rw [this]
        rw [e] at q2
        have c1 := cnt_co k (fun i => U i && !G s i)
        have c2 := cnt_split (k := k) U (G s)
        have c3 := cnt_mono (k := k) (S := fun i => U i && G s i) (U := G s) fun i _ h => by revert h; cases U i <;> simp
        omega
  · rintro ⟨h1, h2⟩
    have cR : cnt k (fun i => S i && !G T i) + cnt k (G T) = cnt k (fun i => S i || G T i) := by
      have e := cnt_or_not (k := k) (G T) S
      have e1 : (fun i => G T i || S i) = (fun i => S i || G T i) := funext fun i => Bool.or_comm _ _
      rw [e1] at e
      omega
    have rT : cnt k (fun i => S i && !G T i) ≤ T := by
      refine Nat.le_trans (cnt_mono (U := V) fun i hi q => ?_) (Nat.le_of_eq cV)
      have q' : (S i && !G T i) = true := q
      have g : G T i = false := by revert q'; cases G T i <;> cases S i <;> simp
      have s : S i = true := by revert q'; cases G T i <;> cases S i <;> simp
      rw [fast_inv t rV i hi g]
      exact s
    obtain ⟨A, a1, a2, a3, a4⟩ := chain (k := k) G (fun s => T ≤ s ∧ s < k) (fun s s' hs hs' => by
      by_cases z : s ≤ s'
      · exact .inr fun i _ g => t.dn _ _ _ hs.1 z hs'.2 g
      · exact .inl fun i _ g => t.dn _ _ _ hs'.1 (by omega) hs.2 g) (G T) (fun s hs i _ g => t.dn _ _ _ (Nat.le_refl _) hs.1 hs.2 g) (n - cnt k (fun i => S i && !G T i)) (by omega)
    have hout : ∀ i, ¬ i < k → (fun i => if i < k then (S i && !G T i) || A i else S i) i = S i := fun i hi => by show (if i < k then (S i && !G T i) || A i else S i) = S i; rw [if_neg hi]
    have hin : ∀ i, i < k → (fun i => if i < k then (S i && !G T i) || A i else S i) i = ((S i && !G T i) || A i) := fun i hi => by show (if i < k then (S i && !G T i) || A i else S i) = _; rw [if_pos hi]
    have cU : cnt k (fun i => if i < k then (S i && !G T i) || A i else S i) = n := by
      rw [cnt_congr hin, cnt_or_not]
      have : cnt k (fun i => A i && !(S i && !G T i)) = cnt k A := cnt_congr fun i hi => by
        cases q : A i with
        | false => rfl
        | true => rw [a1 i hi q]; cases S i <;> rfl
      omega
    refine ⟨_, open_reach t hS ?_ (fun i hi g => ?_) hout, cU⟩
    · by_cases z : n = T
      · exact .inl ⟨by omega, fun m x y => by omega⟩
      · refine .inr ⟨by omega, fun s x y => ?_⟩
        rw [cU] at y
        have sk : s < k := by
          have := cnt_le k (fun i => if i < k then (S i && !G T i) || A i else S i)
          omega
        have q := h2 s x sk
        have e1 : cnt k (fun i => (fun i => if i < k then (S i && !G T i) || A i else S i) i && !G s i) ≤ cnt k (fun i => S i && !G T i) + cnt k (fun i => A i && !G s i) := by
          have e : cnt k (fun i => (fun i => if i < k then (S i && !G T i) || A i else S i) i && !G s i) ≤ cnt k (fun i => (S i && !G T i) || (A i && !G s i)) := cnt_mono fun i hi w => by
            rw [hin i hi] at w
            show ((S i && !G T i) || (A i && !G s i)) = true
            revert w
            cases S i <;> cases G T i <;> cases A i <;> cases G s i <;> simp
          have e2 := cnt_or_not (k := k) (fun i => S i && !G T i) (fun i => A i && !G s i)
          have e3 := cnt_mono (k := k) (S := fun i => (A i && !G s i) && !(S i && !G T i)) (U := fun i => A i && !G s i) fun i _ w => by revert w; cases (A i && !G s i) <;> simp
          omega
        rcases a4 s ⟨x, sk⟩ with w | w
        · have e3 : cnt k (fun i => A i && !G s i) = 0 := cnt_none fun i hi => by
            cases q : A i with
            | false => rfl
            | true => rw [w i hi q]; rfl
          omega
        · have e3 := cnt_diff w
          omega
    · show (if i < k then S i && !G T i || A i else S i) = S i
      rw [if_pos hi, g]
      cases q : A i with
      | true => rw [a1 i hi q] at g; cases g
      | false => cases S i <;> rfl
end
end Th

namespace Sh
open PySem PySem.Spec PyProof.Rows L2
def spRight : Sp := fun vs H Q _ => ∃ b : Addr, vs = [.ref b] ∧ BoxAt H b 100000 ∧ ∀ H', But b H H' → Q (.bl true) H'
end Sh

namespace Sh
open PySem PySem.Spec PyProof.Rows L2
/-! ### windows, goers, seas beside the box -/
theorem may_mk {h t : Int} {ds : List Int} {L : List Nat} {i : Nat} : mayB h t ds L i = decide (ds.getD i 0 ≤ mk h t ds.length (near L i : Int)) := by
  unfold mayB mk
  rw [Bool.eq_iff_iff, Bool.and_eq_true, decide_eq_true_eq, decide_eq_true_eq, decide_eq_true_eq]
  constructor
  · rintro ⟨a, b⟩
    split <;> omega
  · intro a
    split at a <;> omega
theorem in_lets {h t : Int} {ds : List Int} {L : List Nat} {i : Nat} (hi : i < ds.length) : inV (.int (i : Int)) (ni (lets h t ds L ds.length)) = mayB h t ds L i := by
  rw [in_ni, Bool.eq_iff_iff, decide_eq_true_eq]
  unfold lets
  rw [List.mem_filter, List.mem_range]
  exact ⟨fun q => q.2, fun q => ⟨hi, q⟩⟩
theorem in_gs {m : Int} {ds : List Int} {i : Nat} (hi : i < ds.length) : inV (.int (i : Int)) (((gs m ds ds.length).map fun (i : Nat) => (i : Int)).map V.int) = decide (ds.getD i 0 ≤ m) := by
  rw [← ni_ints, in_ni, Bool.eq_iff_iff, decide_eq_true_eq, decide_eq_true_eq]
  unfold gs
  rw [List.mem_filter, List.mem_range, decide_eq_true_eq]
  exact ⟨fun q => q.2, fun q => ⟨hi, q⟩⟩
/-- a sea that is none of the box -/
def SeaB (K : PySem.W.Frag) (H : Hp) (b : Addr) (v : V) (h t : Int) (ds : List Int) : Prop := ∃ p q, v = .ref p ∧ SqA K H p [.int h, .int t, .ref q] ∧ SqA K H q (ds.map V.int) ∧ p ≠ b ∧ q ≠ b
theorem SeaB.but {K : PySem.W.Frag} {H H' : Hp} {b : Addr} {v : V} {h t : Int} {ds : List Int} (s : SeaB K H b v h t ds) (u : But b H H') : SeaB K H' b v h t ds := let ⟨p, q, e, hp, hq, pb, qb⟩ := s; ⟨p, q, e, (Kp.ofB u pb).sa hp, (Kp.ofB u qb).sa hq, pb, qb⟩
theorem SeaB.a {K : PySem.W.Frag} {H : Hp} {b : Addr} {v : V} {h t : Int} {ds : List Int} (s : SeaB K H b v h t ds) : SeaA K H v h t ds := let ⟨p, q, e, hp, hq, _, _⟩ := s; ⟨p, q, e, hp, hq⟩
/-- a window as it is told: None, or a new pair -/
def WinAt (H H' : Hp) (sp : V) (lo hi : Int) : Prop := (lo > hi ∧ sp = .non) ∨ (¬ lo > hi ∧ ∃ a, sp = .ref a ∧ H a = none ∧ H' a = some (.tup [.int lo, .int hi]))
def spWin (K : PySem.W.Frag) : Sp := fun vs H Q _ => ∃ (v : V) (h t d : Int) (j : Nat) (ds : List Int), vs = [v, .int (j : Int)] ∧ SeaA K H v h t ds ∧ ds[j]? = some d ∧ ∀ (sp : V) (H' : Hp), Same H H' → WinAt H H' sp (lowI h d) (highI t ds.length d) → Q sp H'
theorem win_imp {K : PySem.W.Frag} (vs : List V) (H : Hp) (Q : VK) (E : XK) (z : spWin K vs H Q E) : spWindow K vs H Q E := by
  obtain ⟨v, h, t, d, j, ds, rfl, hv, hj, q⟩ := z
  exact ⟨v, h, t, d, j, ds, rfl, hv, hj, fun c => q .non H (Same.refl _) (.inl ⟨c, rfl⟩), fun c p np => q (.ref p) _ (same_new np) (.inr ⟨c, p, rfl, np, upd_same⟩)⟩
end Sh

namespace Sh
open PySem PySem.Spec PyProof.Rows L2
/-! ### lots as sets, crossings of lots -/
def mem (L : List Nat) : Nat → Bool := fun i => decide (i ∈ L)
theorem cnt_mem {c : Nat} {L : List Nat} (h : Lot c L) : Th.cnt c (mem L) = L.length := by
  unfold Th.cnt mem
  rw [List.countP_eq_length_filter]
  exact congrArg List.length h.mem_eq.symm
theorem mem_out {c : Nat} {L : List Nat} (h : Lot c L) {i : Nat} (hi : ¬ i < c) : mem L i = false := decide_eq_false fun z => hi (h.lt i z)
theorem lot_ext {c : Nat} {L M : List Nat} (h : Lot c L) (h' : Lot c M) (e : ∀ i, i < c → mem L i = mem M i) : L = M := by
  rw [h.mem_eq, h'.mem_eq]
  exact List.filter_congr fun i hi => e i (List.mem_range.mp hi)
/-- who goes at a step -/
def Gof (h t : Int) (ds : List Int) : Nat → Nat → Bool := fun s i => decide (ds.getD i 0 ≤ mk h t ds.length (s : Int))
theorem near_cnt {c : Nat} {L : List Nat} (h : Lot c L) {i : Nat} (hi : i < c) : near L i = if i ∈ L then L.length - 1 else L.length := by
  by_cases z : i ∈ L
  · rw [if_pos z, near_in h]
    have e := filter_filter_len (fun j => decide (j ∈ L)) (fun j => decide (j = i)) (List.range c)
    have e1 : ((List.range c).filter fun j => decide (j ∈ L)).length = L.length := congrArg List.length h.mem_eq.symm
    have e2 : ((List.range c).filter fun j => decide (j ∈ L) && decide (j = i)).length = 1 := by
      rw [← one_of hi]
      congr 1
      refine List.filter_congr fun a _ => ?_
      by_cases q : a = i
      · subst q
        rw [decide_eq_true z]
        rfl
      · rw [decide_eq_false q, Bool.and_false]
    omega
  · rw [if_neg z]
    exact near_out z
theorem may_G {h t : Int} {ds : List Int} {L : List Nat} {i : Nat} : mayB h t ds L i = Gof h t ds (near L i) i := may_mk
/-- the standing behind i's going over -/
def gone (L : List Nat) (i : Nat) : List Nat := if i ∈ L then L.filter (fun j => !decide (j = i)) else L.filter (fun j => decide (j < i)) ++ i :: L.filter (fun j => decide (i < j))
theorem gone_lot {c : Nat} {L : List Nat} (h : Lot c L) {i : Nat} (hi : i < c) : Lot c (gone L i) := by
  unfold gone
  split
  · exact h.filter _
  · refine ⟨List.pairwise_append.mpr ⟨h.up.filter _, List.pairwise_cons.mpr ⟨fun a ha => ?_, h.up.filter _⟩, fun a ha b hb => ?_⟩, fun a ha => ?_⟩
    · simpa using (List.mem_filter.mp ha).2
    · have h1 : a < i := by simpa using (List.mem_filter.mp ha).2
      rcases List.mem_cons.mp hb with q | q
      · omega
      · have : i < b := by simpa using (List.mem_filter.mp q).2
        omega
    · rcases List.mem_append.mp ha with q | q
      · exact h.lt a (List.mem_filter.mp q).1
      · rcases List.mem_cons.mp q with q | q
        · omega
        · exact h.lt a (List.mem_filter.mp q).1
theorem gone_mem {L : List Nat} {i : Nat} : mem (gone L i) = Th.flip (mem L) i := by
  funext j
  unfold mem gone
  by_cases z : i ∈ L
  · rw [if_pos z]
    by_cases e : j = i
    · subst e
      rw [Th.flip_self]
      simp [z]
    · rw [Th.flip_ne _ e]
      simp [e]
  · rw [if_neg z]
    by_cases e : j = i
    · subst e
      rw [Th.flip_self]
      simp [z]
    · rw [Th.flip_ne _ e]
      by_cases q : j < i
      · simp [e, q]
        omega
      · have : i < j := by omega
        simp [e, q, this]
/-- one comes to the other -/
def Rl (h t : Int) (ds : List Int) (L M : List Nat) : Prop := Th.Reach ds.length (Gof h t ds) (mem L) (mem M)
theorem rl_one {h t : Int} {ds : List Int} {L : List Nat} {i : Nat} (hL : Lot ds.length L) (hi : i < ds.length) (m : mayB h t ds L i = true) : Rl h t ds L (gone L i) := by
  unfold Rl
  rw [gone_mem]
  rw [may_G, near_cnt hL hi] at m
  refine .one ?_
  by_cases z : i ∈ L
  · rw [if_pos z] at m
    exact .dn hi (decide_eq_true z) (by rw [cnt_mem hL]; exact m)
  · rw [if_neg z] at m
    exact .up hi (decide_eq_false z) (by rw [cnt_mem hL]; exact m)
/-- behind its going over it may go back -/
theorem may_back {h t : Int} {ds : List Int} {L : List Nat} {i : Nat} (hL : Lot ds.length L) (hi : i < ds.length) : near (gone L i) i = near L i := by
  rw [near_cnt (gone_lot hL hi) hi, near_cnt hL hi]
  have m : mem (gone L i) i = !mem L i := by rw [gone_mem, Th.flip_self]
  have c1 := cnt_mem hL
  have c2 := cnt_mem (gone_lot hL hi)
  rw [gone_mem] at c2
  by_cases z : i ∈ L
  · have z2 : ¬ i ∈ gone L i := fun q => by
      have : mem (gone L i) i = true := decide_eq_true q
      rw [m, show mem L i = true from decide_eq_true z] at this
      cases this
    have := Th.cnt_flip_dn (k := ds.length) (S := mem L) hi (decide_eq_true z)
    rw [if_pos z, if_neg z2]
    omega
  · have z2 : i ∈ gone L i := by
      have : mem (gone L i) i = true := by rw [m, show mem L i = false from decide_eq_false z]; rfl
      exact of_decide_eq_true this
    have := Th.cnt_flip_up (k := ds.length) (S := mem L) hi (decide_eq_false z)
    rw [if_neg z, if_pos z2]
    omega
theorem top_of (h t : Int) (ds : List Int) (hk : 0 < ds.length) : Th.Top ds.length (Gof h t ds) (topI h t ds.length).toNat := by
  have t0 := top_lo h t ds.length
  have t1 := top_hi h t hk
  refine ⟨by omega, fun s s' i a b g => ?_, fun s s' i a b c g => ?_⟩
  · have g' : ds.getD i 0 ≤ mk h t ds.length (s : Int) := of_decide_eq_true g
    refine decide_eq_true (Int.le_trans g' ?_)
    have b' : (s' : Int) ≤ topI h t ds.length := by omega
    clear g g' t0 t1
    unfold mk topI at *
    repeat' split
    all_goals (repeat' split at b')
    all_goals omega
  · have g' : ds.getD i 0 ≤ mk h t ds.length (s' : Int) := of_decide_eq_true g
    refine decide_eq_true (Int.le_trans g' ?_)
    have b' : topI h t ds.length ≤ (s : Int) := by omega
    clear g g' t0 t1
    unfold mk topI at *
    repeat' split
    all_goals (repeat' split at b')
    all_goals omega
/-! ### what is told of it -/
def IsMost (h t : Int) (ds : List Int) (L : List Nat) (m : Nat) : Prop := (∃ M, Lot ds.length M ∧ Rl h t ds L M ∧ M.length = m) ∧ ∀ M, Lot ds.length M → Rl h t ds L M → M.length ≤ m
def IsLeast (h t : Int) (ds : List Int) (L : List Nat) (m : Nat) : Prop := (∃ M, Lot ds.length M ∧ Rl h t ds L M ∧ M.length = m) ∧ ∀ M, Lot ds.length M → Rl h t ds L M → m ≤ M.length
def IsMovers (h t : Int) (ds : List Int) (L ms : List Nat) : Prop := Lot ds.length ms ∧ ∀ i, i < ds.length → (i ∈ ms ↔ ∃ M, Lot ds.length M ∧ Rl h t ds L M ∧ mayB h t ds M i = true)
theorem IsMost.uniq {h t : Int} {ds : List Int} {L L' : List Nat} {m m' : Nat} (r : Rl h t ds L L') (a : IsMost h t ds L m) (b : IsMost h t ds L' m') : m = m' := by
  obtain ⟨⟨M, l1, r1, e1⟩, h1⟩ := a
  obtain ⟨⟨M', l2, r2, e2⟩, h2⟩ := b
  have := h1 M' l2 (r.trans r2)
  have := h2 M l1 (r.symm.trans r1)
  omega
theorem IsLeast.uniq {h t : Int} {ds : List Int} {L L' : List Nat} {m m' : Nat} (r : Rl h t ds L L') (a : IsLeast h t ds L m) (b : IsLeast h t ds L' m') : m = m' := by
  obtain ⟨⟨M, l1, r1, e1⟩, h1⟩ := a
  obtain ⟨⟨M', l2, r2, e2⟩, h2⟩ := b
  have := h1 M' l2 (r.trans r2)
  have := h2 M l1 (r.symm.trans r1)
  omega
theorem IsMovers.uniq {h t : Int} {ds : List Int} {L L' ms ms' : List Nat} (r : Rl h t ds L L') (a : IsMovers h t ds L ms) (b : IsMovers h t ds L' ms') : ms = ms' := by
  refine lot_ext a.1 b.1 fun i hi => ?_
  unfold mem
  rw [decide_eq_decide, a.2 i hi, b.2 i hi]
  exact ⟨fun ⟨M, l, q, m⟩ => ⟨M, l, r.symm.trans q, m⟩, fun ⟨M, l, q, m⟩ => ⟨M, l, r.trans q, m⟩⟩
/-- a sea whose draughts are a tuple is handed in -/
def SeaD (K : PySem.W.Frag) (H : Hp) (v : V) (h t : Int) (ds : List Int) : Prop := ∃ p q, v = .ref p ∧ SqA K H p [.int h, .int t, .ref q] ∧ SqT K H q (ds.map V.int)
theorem SeaD.same {K : PySem.W.Frag} {H H' : Hp} {v : V} {h t : Int} {ds : List Int} (s : SeaD K H v h t ds) (e : Same H H') : SeaD K H' v h t ds := let ⟨p, q, a, b, c⟩ := s; ⟨p, q, a, Same.sqA e b, Same.tup e c⟩
theorem SeaD.a {K : PySem.W.Frag} {H : Hp} {v : V} {h t : Int} {ds : List Int} (s : SeaD K H v h t ds) : SeaA K H v h t ds := let ⟨p, q, a, b, c⟩ := s; ⟨p, q, a, b, .inr c⟩
def spMost (K : PySem.W.Frag) : Sp := fun vs H Q _ => ∃ (v l : V) (h t : Int) (ds : List Int) (L : List Nat), vs = [v, l] ∧ SeaD K H v h t ds ∧ LotA K H l L ∧ ds.length ≤ 60 ∧ 0 < ds.length ∧ Lot ds.length L ∧ ∀ (H' : Hp) (m : Nat), Same H H' → IsMost h t ds L m → Q (.int (m : Int)) H'
def spLeast (K : PySem.W.Frag) : Sp := fun vs H Q _ => ∃ (v l : V) (h t : Int) (ds : List Int) (L : List Nat), vs = [v, l] ∧ SeaD K H v h t ds ∧ LotA K H l L ∧ ds.length ≤ 60 ∧ 0 < ds.length ∧ Lot ds.length L ∧ ∀ (H' : Hp) (m : Nat), Same H H' → IsLeast h t ds L m → Q (.int (m : Int)) H'
def spMovers (K : PySem.W.Frag) : Sp := fun vs H Q _ => ∃ (v l : V) (h t : Int) (ds : List Int) (L : List Nat), vs = [v, l] ∧ SeaD K H v h t ds ∧ LotA K H l L ∧ ds.length ≤ 60 ∧ 0 < ds.length ∧ Lot ds.length L ∧
  ∀ (H' : Hp) (p : Addr) (ms : List Nat), Same H H' → H p = none → H' p = some (.lst (ni ms)) → IsMovers h t ds L ms → Q (.ref p) H'
def spComes (K : PySem.W.Frag) : Sp := fun vs H Q _ => ∃ (v l m : V) (h t : Int) (ds : List Int) (L M : List Nat), vs = [v, l, m] ∧ SeaD K H v h t ds ∧ LotA K H l L ∧ LotA K H m M ∧ ds.length ≤ 60 ∧ 0 < ds.length ∧ Lot ds.length L ∧ Lot ds.length M ∧
  ∀ (H' : Hp) (b : Bool), Same H H' → (b = true ↔ Rl h t ds L M) → Q (.bl b) H'
/-! ### turned about -/
def away (c : Nat) (L : List Nat) : List Nat := (List.range c).filter fun i => !decide (i ∈ L)
theorem away_lot (c : Nat) (L : List Nat) : Lot c (away c L) := (Lot.all c).filter _
theorem mk_turn {h t : Int} {k s : Nat} (hs : s < k) : mk t h k (s : Int) = mk h t k ((k - 1 - s : Nat) : Int) := by
  unfold mk
  split <;> split <;> omega
theorem mem_away {c : Nat} {L : List Nat} {i : Nat} (hi : i < c) : mem (away c L) i = !mem L i := by
  unfold mem away
  rw [Bool.eq_iff_iff, decide_eq_true_eq, List.mem_filter, List.mem_range]
  simp [hi]
end Sh

namespace Sh
/-! ### fleets: sums over sorts, and ships one by one -/
abbrev Srt := Int × Nat × Nat
def mny (ss : List Srt) : Nat := (ss.map fun x => x.2.1 + x.2.2).sum
theorem mny_cons (x : Srt) (l : List Srt) : mny (x :: l) = x.2.1 + x.2.2 + mny l := by
  unfold mny
  rw [List.map_cons, List.sum_cons]
theorem mny_snoc (l : List Srt) (x : Srt) : mny (l ++ [x]) = mny l + (x.2.1 + x.2.2) := by
  unfold mny
  rw [List.map_append, List.sum_append]
  simp
def ourn (ss : List Srt) : Nat := (ss.map fun x => x.2.1).sum
def gmF (ss : List Srt) (m : Int) : Nat := ((ss.filter fun x => decide (x.1 ≤ m)).map fun x => x.2.1 + x.2.2).sum
def filF (ss : List Srt) (m : Int) : Nat := (ss.map fun x => x.2.1 + if x.1 ≤ m then x.2.2 else 0).sum
def fxF (ss : List Srt) (m : Int) : List Nat := (ss.filter fun x => decide (x.1 > m)).map fun x => x.2.1
def turnF (ss : List Srt) : List Srt := ss.map fun x => (x.1, x.2.2, x.2.1)
theorem mny_turn (ss : List Srt) : mny (turnF ss) = mny ss := by
  unfold mny turnF
  rw [List.map_map]
  congr 1
  exact List.map_congr_left fun x _ => Nat.add_comm _ _
theorem turn_turn (ss : List Srt) : turnF (turnF ss) = ss := by
  unfold turnF
  rw [List.map_map]
  exact (List.map_congr_left fun x _ => rfl).trans (List.map_id ss)
/-- the ships of a fleet one by one -/
structure Rp (ss : List Srt) (k : Nat) (D : Nat → Int) (S : Nat → Bool) : Prop where
  here : ∀ P : Int → Bool, ((ss.filter fun x => P x.1).map fun x => x.2.1).sum = Th.cnt k (fun i => P (D i) && S i)
  there : ∀ P : Int → Bool, ((ss.filter fun x => P x.1).map fun x => x.2.2).sum = Th.cnt k (fun i => P (D i) && !S i)
theorem sum_two (f g : Srt → Nat) : ∀ l : List Srt, (l.map fun x => f x + g x).sum = (l.map f).sum + (l.map g).sum
  | [] => rfl
  | a :: l => by
    simp only [List.map_cons, List.sum_cons, sum_two f g l]
    omega
theorem sum_filter (P : Srt → Bool) (f : Srt → Nat) : ∀ l : List Srt, (l.map fun x => if P x = true then f x else 0).sum = ((l.filter P).map f).sum
  | [] => rfl
  | a :: l => by
    cases h : P a <;> simp [h, sum_filter P f l]
section
variable {ss : List Srt} {k : Nat} {D : Nat → Int} {S : Nat → Bool}
theorem Rp.gm (r : Rp ss k D S) (m : Int) : gmF ss m = Th.cnt k (fun i => decide (D i ≤ m)) := by
  unfold gmF
  rw [sum_two (fun x => x.2.1) (fun x => x.2.2), r.here fun d => decide (d ≤ m), r.there fun d => decide (d ≤ m)]
  exact (Th.cnt_split _ S).symm
theorem Rp.ourn (r : Rp ss k D S) : ourn ss = Th.cnt k S := by
  have e := r.here fun _ => true
  rw [List.filter_eq_self.mpr fun _ _ => rfl] at e
  exact e
theorem Rp.mny (r : Rp ss k D S) : mny ss = k := by
  have e := r.there fun _ => true
  rw [List.filter_eq_self.mpr fun _ _ => rfl] at e
  unfold Sh.mny
  rw [sum_two (fun x => x.2.1) (fun x => x.2.2), e]
  have e2 := r.ourn
  unfold Sh.ourn at e2
  rw [e2]
  exact Th.cnt_not S
theorem Rp.fil (r : Rp ss k D S) (m : Int) : filF ss m = Th.cnt k (fun i => S i || decide (D i ≤ m)) := by
  unfold filF
  rw [sum_two (fun x => x.2.1) (fun x => if x.1 ≤ m then x.2.2 else 0)]
  have e1 := r.ourn
  unfold Sh.ourn at e1
  have e2 : (ss.map fun x => if x.1 ≤ m then x.2.2 else 0).sum = Th.cnt k (fun i => decide (D i ≤ m) && !S i) := by
    rw [← r.there fun d => decide (d ≤ m), ← sum_filter]
    congr 1
    refine List.map_congr_left fun x _ => ?_
    by_cases z : x.1 ≤ m
    · rw [if_pos z, if_pos (decide_eq_true z)]
    · rw [if_neg z, if_neg (by simpa using z)]
  rw [e1, e2, Th.cnt_or_not]
theorem Rp.fx (r : Rp ss k D S) (m : Int) : (fxF ss m).sum = Th.cnt k (fun i => S i && !decide (D i ≤ m)) := by
  unfold fxF
  rw [r.here fun d => decide (d > m)]
  refine Th.cnt_congr fun i _ => ?_
  rw [Bool.and_comm]
  congr 1
  by_cases z : D i ≤ m
  · rw [decide_eq_true z, decide_eq_false (by omega)]; rfl
  · rw [decide_eq_false z, decide_eq_true (by omega)]; rfl
theorem Rp.turn (r : Rp ss k D S) : Rp (turnF ss) k D (Th.co S) := by
  refine ⟨fun P => ?_, fun P => ?_⟩
  · have e := r.there P
    unfold turnF
    rw [List.filter_map, List.map_map]
    exact e
  · have e := r.here P
    unfold turnF
    rw [List.filter_map, List.map_map]
    refine Eq.trans e ?_
    refine Th.cnt_congr fun i _ => ?_
    unfold Th.co
    rw [Bool.not_not]
end
/-- who goes at a step -/
def Gd (h t : Int) (k : Nat) (D : Nat → Int) : Nat → Nat → Bool := fun s i => decide (D i ≤ mk h t k (s : Int))
theorem top_lo' (h t : Int) (k : Nat) : 0 ≤ topI h t k := by
  unfold topI
  split <;> omega
theorem top_hi' (h t : Int) {k : Nat} (hk : 0 < k) : topI h t k < (k : Int) := by
  unfold topI
  repeat' split
  all_goals omega
theorem mk_le {h t : Int} {k : Nat} {s s' : Int} (s0 : 0 ≤ s) (a : s ≤ s') (b : s' ≤ topI h t k) : mk h t k s ≤ mk h t k s' := by
  unfold mk topI at *
  repeat' split
  all_goals (repeat' split at b)
  all_goals omega
theorem mk_dn {h t : Int} {k : Nat} {s s' : Int} (c : topI h t k ≤ s) (a : s ≤ s') (d : s' < (k : Int)) : mk h t k s' ≤ mk h t k s := by
  unfold mk topI at *
  repeat' split
  all_goals (repeat' split at c)
  all_goals omega
theorem mk_turn' {h t : Int} {k : Nat} {s : Int} : mk t h k s = mk h t k ((k : Int) - 1 - s) := by
  unfold mk
  split <;> split <;> omega
/-- up to the top the water here bounds -/
theorem mk_low {h t : Int} {k : Nat} {s : Int} (s0 : 0 ≤ s) (b : s < topI h t k) : mk h t k s = h + s := by
  unfold mk topI at *
  repeat' split at b
  all_goals split
  all_goals omega
theorem mk_high {h t : Int} {k : Nat} {s : Int} (s0 : 0 ≤ s) (b : s < (k : Int) - 1 - topI h t k) : mk t h k s = t + s := by
  unfold mk topI at *
  repeat' split at b
  all_goals split
  all_goals omega
theorem top_D (h t : Int) {k : Nat} (D : Nat → Int) (hk : 0 < k) : Th.Top k (Gd h t k D) (topI h t k).toNat := by
  have t0 := top_lo' h t k
  have t1 := top_hi' h t hk
  refine ⟨by omega, fun s s' i a b g => ?_, fun s s' i a b c g => ?_⟩
  · have g' : D i ≤ mk h t k (s : Int) := of_decide_eq_true g
    exact decide_eq_true (Int.le_trans g' (mk_le (by omega) (by omega) (by omega)))
  · have g' : D i ≤ mk h t k (s' : Int) := of_decide_eq_true g
    exact decide_eq_true (Int.le_trans g' (mk_dn (by omega) (by omega) (by omega)))
theorem Gd_turn {h t : Int} {k : Nat} {D : Nat → Int} {s i : Nat} (hs : s < k) : Gd t h k D s i = Th.dual k (Gd h t k D) s i := by
  unfold Gd Th.dual
  rw [mk_turn', show ((k : Int) - 1 - (s : Int)) = ((k - 1 - s : Nat) : Int) by omega]
/-! ### stuck, by sums -/
def StuckF (h t : Int) (ss : List Srt) (N : Nat) : Prop := ourn ss ≤ N ∧ (∀ n : Nat, ourn ss ≤ n → n < N → n < filF ss (mk h t (mny ss) (n : Int))) ∧ filF ss (mk h t (mny ss) (N : Int)) ≤ N
theorem Rp.stuck {ss : List Srt} {k : Nat} {D : Nat → Int} {S : Nat → Bool} (r : Rp ss k D S) (h t : Int) (N : Nat) : StuckF h t ss N ↔ Th.StuckLow k (Gd h t k D) N S := by
  unfold StuckF Th.StuckLow
  rw [r.ourn, r.mny, r.fil]
  have e : ∀ n : Nat, filF ss (Sh.mk h t k (n : Int)) = Th.cnt k (fun i => S i || Gd h t k D n i) := fun n => r.fil _
  simp only [e]
  exact Iff.rfl
end Sh
namespace Th
theorem StuckLow.congr {k : Nat} {G G' : Nat → Nat → Bool} {S : Nat → Bool} {N : Nat} (hN : N < k) (e : ∀ s i, s < k → G s i = G' s i) (h : StuckLow k G N S) : StuckLow k G' N S := by
  have e2 : ∀ n, n < k → cnt k (fun i => S i || G n i) = cnt k (fun i => S i || G' n i) := fun n hn => cnt_congr fun i _ => by rw [e n i hn]
  refine ⟨h.1, fun n a b => ?_, ?_⟩
  · rw [← e2 n (by omega)]
    exact h.2.1 n a b
  · rw [← e2 N hN]
    exact h.2.2
/-- gets to the top's number, and somebody may go there -/
def Open (k : Nat) (G : Nat → Nat → Bool) (T : Nat) (S : Nat → Bool) : Prop := (Rises k G T S ∨ Sinks k G T S) ∧ T < cnt k (fun i => S i || G T i)
theorem Open.congr {k : Nat} {G G' : Nat → Nat → Bool} {T : Nat} {S : Nat → Bool} (hT : T < k) (e : ∀ s i, s < k → G s i = G' s i) (h : Open k G T S) : Open k G' T S := by
  have e2 : ∀ n, n < k → cnt k (fun i => S i || G n i) = cnt k (fun i => S i || G' n i) := fun n hn => cnt_congr fun i _ => by rw [e n i hn]
  have e3 : ∀ n, n < k → cnt k (fun i => S i && !G n i) = cnt k (fun i => S i && !G' n i) := fun n hn => cnt_congr fun i _ => by rw [e n i hn]
  have cl := cnt_le k S
  refine ⟨h.1.imp (fun q => ⟨q.1, fun n a b => ?_⟩) (fun q => ⟨q.1, fun s a b => ?_⟩), ?_⟩
  · rw [← e2 n (by omega)]
    exact q.2 n a b
  · rw [← e3 s (by omega)]
    exact q.2 s a b
  · rw [← e2 T hT]
    exact h.2
theorem cnt_and_or {k : Nat} (S f : Nat → Bool) : cnt k (fun i => S i && !f i) + cnt k f = cnt k (fun i => S i || f i) := by
  have e := cnt_or_not (k := k) f S
  have e1 : (fun i => f i || S i) = (fun i => S i || f i) := funext fun i => Bool.or_comm _ _
  rw [e1] at e
  omega
theorem Open.dual {k : Nat} {G : Nat → Nat → Bool} {T : Nat} {S : Nat → Bool} (t : Top k G T) (h : Open k G T S) : Open k (Th.dual k G) (k - 1 - T) (co S) := by
  have tl := t.lt
  have c0 := cnt_co k S
  have cle := cnt_le k S
  have key : ∀ n, n < k → cnt k (fun i => co S i && !Th.dual k G (k - 1 - n) i) + cnt k (fun i => S i || G n i) = k := fun n hn => by
    have e : (fun i => co S i && !Th.dual k G (k - 1 - n) i) = co (fun i => S i || G n i) := by
      funext i
      have := dual_dual_at (G := G) (k := k) (s := n) hn i
      unfold Th.dual at this
      show (!S i && !G (k - 1 - (k - 1 - n)) i) = !(S i || G n i)
      rw [this]
      cases S i <;> cases G n i <;> rfl
    rw [e, Nat.add_comm]
    exact cnt_co k _
  have key2 : ∀ n, n < k → cnt k (fun i => co S i || Th.dual k G (k - 1 - n) i) + cnt k (fun i => S i && !G n i) = k := fun n hn => by
    have e : (fun i => co S i || Th.dual k G (k - 1 - n) i) = co (fun i => S i && !G n i) := by
      rw [co_or]
      funext i
      have := dual_dual_at (G := G) (k := k) (s := n) hn i
      unfold Th.dual at this
      show (!(S i && !G (k - 1 - (k - 1 - n)) i)) = !(S i && !G n i)
      rw [this]
    rw [e, Nat.add_comm]
    exact cnt_co k _
  obtain ⟨rs, hc⟩ := h
  have hf : cnt k (fun i => S i && !G T i) ≤ T := by
    rcases rs with q | q
    · exact Nat.le_trans (cnt_mono fun i _ w => by revert w; cases S i <;> simp) q.1
    · exact q.2 T (Nat.le_refl _) q.1
  refine ⟨?_, ?_⟩
  · rcases rs with ⟨q1, q2⟩ | ⟨q1, q2⟩
    · refine .inr ⟨by omega, fun s a b => ?_⟩
      have hk := key (k - 1 - s) (by omega)
      rw [show k - 1 - (k - 1 - s) = s by omega] at hk
      have : k - 1 - s < cnt k (fun i => S i || G (k - 1 - s) i) := by
        by_cases z : k - 1 - s = T
        · rw [z]; exact hc
        · exact q2 _ (by omega) (by omega)
      omega
    · refine .inl ⟨by omega, fun n a b => ?_⟩
      have hk := key2 (k - 1 - n) (by omega)
      rw [show k - 1 - (k - 1 - n) = n by omega] at hk
      have := q2 (k - 1 - n) (by omega) (by omega)
      omega
  · have hk := key2 T tl
    omega
/-- how few can come to lie here, of a lot that gets to the top's number -/
theorem open_counts_low {k : Nat} {G : Nat → Nat → Bool} {T n : Nat} {S : Nat → Bool} (t : Top k G T) (h : Open k G T S) (hn : n ≤ T + 1) : (∃ U, Reach k G S U ∧ cnt k U = n) ↔ cnt k (fun i => S i && !G T i) ≤ n ∧ ∀ m, m ≤ T → m + 1 ≤ n + cnt k (G m) := by
  have tl := t.lt
  have hd := h.dual t
  have oc := open_counts (n := k - n) t.dual hd.1 (by omega)
  have e1 : (∃ U, Reach k G S U ∧ cnt k U = n) ↔ ∃ U, Reach k (Th.dual k G) (co S) U ∧ cnt k U = k - n := by
    constructor
    · rintro ⟨U, r, c⟩
      refine ⟨co U, r.dual, ?_⟩
      have := cnt_co k U
      omega
    · rintro ⟨U, r, c⟩
      refine ⟨co U, ?_, ?_⟩
      · refine Reach.codual ?_
        rw [co_co]
        exact r
      · have := cnt_co k U
        omega
  have e2 : cnt k (fun i => co S i || Th.dual k G (k - 1 - T) i) + cnt k (fun i => S i && !G T i) = k := by
    have e : (fun i => co S i || Th.dual k G (k - 1 - T) i) = co (fun i => S i && !G T i) := by
      rw [co_or]
      funext i
      have := dual_dual_at (G := G) (k := k) (s := T) tl i
      unfold Th.dual at this
      show (!(S i && !G (k - 1 - (k - 1 - T)) i)) = !(S i && !G T i)
      rw [this]
    rw [e, Nat.add_comm]
    exact cnt_co k _
  rw [e1, oc]
  constructor
  · rintro ⟨a, b⟩
    refine ⟨by omega, fun m hm => ?_⟩
    have := b (k - 1 - m) (by omega) (by omega)
    unfold Th.dual at this
    rw [show k - 1 - (k - 1 - m) = m by omega] at this
    have this' : k - n ≤ k - 1 - m + cnt k (G m) := this
    omega
  · rintro ⟨a, b⟩
    refine ⟨by omega, fun s hs hk => ?_⟩
    have := b (k - 1 - s) (by omega)
    show k - n ≤ s + cnt k (G (k - 1 - s))
    omega
def IsMin (k : Nat) (G : Nat → Nat → Bool) (S : Nat → Bool) (n : Nat) : Prop := (∃ U, Reach k G S U ∧ cnt k U = n) ∧ ∀ U, Reach k G S U → n ≤ cnt k U
def IsMax (k : Nat) (G : Nat → Nat → Bool) (S : Nat → Bool) (n : Nat) : Prop := (∃ U, Reach k G S U ∧ cnt k U = n) ∧ ∀ U, Reach k G S U → cnt k U ≤ n
theorem IsMin.co {k : Nat} {G : Nat → Nat → Bool} {S : Nat → Bool} {n : Nat} (h : IsMin k (Th.dual k G) (co S) n) : n ≤ k ∧ IsMax k G S (k - n) := by
  obtain ⟨⟨U, r, c⟩, hm⟩ := h
  have cu := cnt_le k U
  refine ⟨by omega, ⟨Th.co U, ?_, ?_⟩, fun W rW => ?_⟩
  · refine Reach.codual ?_
    rw [co_co]
    exact r
  · have := cnt_co k U
    omega
  · have := hm _ rW.dual
    have := cnt_co k W
    omega
theorem IsMin.congr {k : Nat} {G G' : Nat → Nat → Bool} {S : Nat → Bool} {n : Nat} (e : ∀ s i, s < k → G s i = G' s i) (h : IsMin k G S n) : IsMin k G' S n := by
  obtain ⟨⟨U, r, c⟩, hm⟩ := h
  exact ⟨⟨U, r.congr e, c⟩, fun W rW => hm W (rW.congr fun s i hs => (e s i hs).symm)⟩
theorem stuck_min_high {k : Nat} {G : Nat → Nat → Bool} {T N : Nat} {S : Nat → Bool} (t : Top k G T) (hN : N ≤ T) (h : StuckLow k G N S) : IsMax k G S N := by
  obtain ⟨U, r, c, _⟩ := h.full t hN
  exact ⟨⟨U, r, c⟩, fun W rW => (h.under t hN rW).1⟩
end Th
namespace Sh
/-! ### the least number, as it's told -/
/-- m is the greatest of what least_in looks at -/
def LeastI (h t : Int) (ss : List Srt) (step : Int) (m : Int) : Prop :=
  (m = ((fxF ss (mk h t (mny ss) step)).sum : Int) ∨ ∃ e : Int, (e = step ∨ (∃ x ∈ ss, e = x.1 - h ∧ e < step)) ∧ 0 < e ∧ m = e - (gmF ss (mk h t (mny ss) (e - 1)) : Int)) ∧
  ((fxF ss (mk h t (mny ss) step)).sum : Int) ≤ m ∧ ∀ e : Int, (e = step ∨ (∃ x ∈ ss, e = x.1 - h ∧ e < step)) → 0 < e → e - (gmF ss (mk h t (mny ss) (e - 1)) : Int) ≤ m
/-- the ends are enough -/
theorem least_ends {h t : Int} {ss : List Srt} {N : Nat} {m0 : Int} (hm : ∀ m : Nat, m < N → mk h t (mny ss) (m : Int) = h + m)
    (ub : ∀ e : Int, (e = (N : Int) ∨ (∃ x ∈ ss, e = x.1 - h ∧ e < (N : Int))) → 0 < e → e - (gmF ss (mk h t (mny ss) (e - 1)) : Int) ≤ m0) :
    ∀ (j m : Nat), m < N → N - m = j → (m : Int) + 1 - (gmF ss (mk h t (mny ss) (m : Int)) : Int) ≤ m0 := by
  intro j
  induction j with
  | zero => intro m a b; omega
  | succ j ih =>
    intro m a b
    by_cases z : m + 1 = N
    · have := ub N (.inl rfl) (by omega)
      rw [show (N : Int) - 1 = (m : Int) by omega] at this
      omega
    · by_cases q : ∃ x ∈ ss, x.1 - h = (m : Int) + 1
      · obtain ⟨x, hx, e⟩ := q
        have := ub ((m : Int) + 1) (.inr ⟨x, hx, e.symm, by omega⟩) (by omega)
        rw [show (m : Int) + 1 - 1 = (m : Int) by omega] at this
        exact this
      · have i2 := ih (m + 1) (by omega) (by omega)
        rw [hm (m + 1) (by omega)] at i2
        rw [hm m a]
        have e : gmF ss (h + ((m + 1 : Nat) : Int)) = gmF ss (h + (m : Int)) := by
          unfold gmF
          congr 2
          refine List.filter_congr fun x hx => ?_
          rw [decide_eq_decide]
          have : ¬ x.1 - h = (m : Int) + 1 := fun w => q ⟨x, hx, w⟩
          omega
        rw [e] at i2
        omega
section
variable {ss : List Srt} {k : Nat} {D : Nat → Int} {S : Nat → Bool} {h t : Int}
theorem least_low (r : Rp ss k D S) {T N : Nat} (tp : Th.Top k (Gd h t k D) T) (hN : N ≤ T) (sl : Th.StuckLow k (Gd h t k D) N S) (hm : ∀ m : Nat, m < N → mk h t k (m : Int) = h + m) {m0 : Int} (L : LeastI h t ss (N : Int) m0) :
    ∃ n : Nat, m0 = (n : Int) ∧ Th.IsMin k (Gd h t k D) S n := by
  obtain ⟨l1, l2, l3⟩ := L
  have km := r.mny
  have hends := least_ends (h := h) (t := t) (ss := ss) (N := N) (by rw [km]; exact hm) l3
  have efx := r.fx (mk h t (mny ss) (N : Int))
  rw [km] at efx hends l1 l2 l3
  have gme : ∀ m : Nat, gmF ss (mk h t k (m : Int)) = Th.cnt k (Gd h t k D m) := fun m => r.gm _
  have fxle : (fxF ss (mk h t k (N : Int))).sum ≤ Th.cnt k S := by
    rw [efx]
    exact Th.cnt_mono fun i _ w => by revert w; cases S i <;> simp
  have m0N : m0 ≤ (N : Int) := by
    have := sl.1
    rcases l1 with e | ⟨e, he, e0, e1⟩
    · omega
    · rcases he with he | ⟨x, _, _, he⟩ <;> omega
  have cond : ∀ m, m < N → m + 1 ≤ m0.toNat + Th.cnt k (Gd h t k D m) := fun m a => by
    have := hends _ m a rfl
    rw [gme] at this
    omega
  refine ⟨m0.toNat, by omega, (Th.low_counts sl tp hN (by omega)).mpr cond, fun U rU => ?_⟩
  have ur := sl.under tp hN rU
  have lc := (Th.low_counts sl tp hN ur.1).mp ⟨U, rU, rfl⟩
  rcases l1 with e | ⟨e, he, e0, e1⟩
  · have : Th.cnt k (fun i => S i && !Gd h t k D N i) ≤ Th.cnt k U := Th.cnt_mono fun i hi w => by
      have := ur.2 i hi
      revert w this
      cases S i <;> cases U i <;> cases Gd h t k D N i <;> simp
    have e3 : (fxF ss (mk h t k (N : Int))).sum = Th.cnt k (fun i => S i && !Gd h t k D N i) := efx
    omega
  · have eN : e ≤ (N : Int) := by rcases he with he | ⟨x, _, _, he⟩ <;> omega
    have := lc (e - 1).toNat (by omega)
    rw [show e - 1 = (((e - 1).toNat : Nat) : Int) by omega, gme] at e1
    omega
theorem least_open (r : Rp ss k D S) {T : Nat} (tp : Th.Top k (Gd h t k D) T) (op : Th.Open k (Gd h t k D) T S) (hm : ∀ m : Nat, m < T → mk h t k (m : Int) = h + m) {m0 : Int} (L : LeastI h t ss (T : Int) m0) :
    ∃ n : Nat, m0 = (n : Int) ∧ Th.IsMin k (Gd h t k D) S n := by
  obtain ⟨l1, l2, l3⟩ := L
  have km := r.mny
  have hends := least_ends (h := h) (t := t) (ss := ss) (N := T) (by rw [km]; exact hm) l3
  have efx := r.fx (mk h t (mny ss) (T : Int))
  rw [km] at efx hends l1 l2 l3
  have e3 : (fxF ss (mk h t k (T : Int))).sum = Th.cnt k (fun i => S i && !Gd h t k D T i) := efx
  have gme : ∀ m : Nat, gmF ss (mk h t k (m : Int)) = Th.cnt k (Gd h t k D m) := fun m => r.gm _
  have fT : Th.cnt k (fun i => S i && !Gd h t k D T i) ≤ T := by
    rcases op.1 with q | q
    · exact Nat.le_trans (Th.cnt_mono fun i _ w => by revert w; cases S i <;> simp) q.1
    · exact q.2 T (Nat.le_refl _) q.1
  have m0N : m0 ≤ (T : Int) := by
    rcases l1 with e | ⟨e, he, e0, e1⟩
    · omega
    · rcases he with he | ⟨x, _, _, he⟩ <;> omega
  have ca := Th.cnt_and_or (k := k) S (Gd h t k D T)
  have opc := op.2
  refine ⟨m0.toNat, by omega, (Th.open_counts_low tp op (by omega)).mpr ⟨by omega, fun m a => ?_⟩, fun U rU => ?_⟩
  · by_cases z : m = T
    · subst z
      omega
    · have := hends _ m (by omega) rfl
      rw [gme] at this
      omega
  · by_cases z : Th.cnt k U ≤ T + 1
    · have lc := (Th.open_counts_low tp op z).mp ⟨U, rU, rfl⟩
      rcases l1 with e | ⟨e, he, e0, e1⟩
      · have := lc.1
        omega
      · have eN : e ≤ (T : Int) := by rcases he with he | ⟨x, _, _, he⟩ <;> omega
        have := lc.2 (e - 1).toNat (by omega)
        rw [show e - 1 = (((e - 1).toNat : Nat) : Int) by omega, gme] at e1
        omega
    · omega
end
end Sh

namespace Sh
open PySem PySem.Spec PyProof.Rows L2
theorem may_May {h t : Int} {ds : List Int} {L : List Nat} {i : Nat} (hL : Lot ds.length L) (hi : i < ds.length) : mayB h t ds L i = true ↔ Th.May ds.length (Gof h t ds) (mem L) i := by
  rw [may_G, near_cnt hL hi]
  unfold Th.May
  rw [cnt_mem hL]
  unfold mem
  by_cases z : i ∈ L
  · rw [if_pos z, decide_eq_true z, if_pos rfl]
  · rw [if_neg z, decide_eq_false z, if_neg Bool.false_ne_true]
/-- the lot of a set -/
def lotOf (c : Nat) (U : Nat → Bool) : List Nat := (List.range c).filter U
theorem lotOf_lot (c : Nat) (U : Nat → Bool) : Lot c (lotOf c U) := (Lot.all c).filter _
theorem lotOf_mem {c : Nat} {U : Nat → Bool} {i : Nat} (hi : i < c) : mem (lotOf c U) i = U i := by
  unfold mem lotOf
  rw [Bool.eq_iff_iff, decide_eq_true_eq, List.mem_filter, List.mem_range]
  exact ⟨fun q => q.2, fun q => ⟨hi, q⟩⟩
theorem lotOf_eq {h t : Int} {ds : List Int} {L : List Nat} {U : Nat → Bool} (hL : Lot ds.length L) (r : Th.Reach ds.length (Gof h t ds) (mem L) U) : mem (lotOf ds.length U) = U := by
  funext i
  by_cases hi : i < ds.length
  · exact lotOf_mem hi
  · rw [Th.reach_out r i hi, mem_out hL hi, mem_out (lotOf_lot _ _) hi]
/-- to be one of those that ever go, by lots or by sets -/
theorem ex_moves {h t : Int} {ds : List Int} {L : List Nat} (hL : Lot ds.length L) {i : Nat} (hi : i < ds.length) : (∃ M, Lot ds.length M ∧ Rl h t ds L M ∧ mayB h t ds M i = true) ↔ Th.Moves ds.length (Gof h t ds) (mem L) i := by
  constructor
  · rintro ⟨M, l, r, m⟩
    exact ⟨mem M, r, (may_May l hi).mp m⟩
  · rintro ⟨U, r, m⟩
    have e := lotOf_eq hL r
    refine ⟨lotOf ds.length U, lotOf_lot _ _, ?_, ?_⟩
    · unfold Rl
      rw [e]
      exact r
    · rw [may_May (lotOf_lot _ _) hi, e]
      exact m
theorem movers_moves {h t : Int} {ds : List Int} {L ms : List Nat} (hL : Lot ds.length L) (im : IsMovers h t ds L ms) {i : Nat} (hi : i < ds.length) : i ∈ ms ↔ Th.Moves ds.length (Gof h t ds) (mem L) i := by
  rw [im.2 i hi, ex_moves hL hi]
/-- the most, the least, by sets -/
theorem isMost_of {h t : Int} {ds : List Int} {L : List Nat} {n : Nat} (hL : Lot ds.length L) (q : Th.IsMax ds.length (Gof h t ds) (mem L) n) : IsMost h t ds L n := by
  obtain ⟨⟨U, r, c⟩, hm⟩ := q
  have e := lotOf_eq hL r
  refine ⟨⟨lotOf ds.length U, lotOf_lot _ _, ?_, ?_⟩, fun M l rM => ?_⟩
  · unfold Rl
    rw [e]
    exact r
  · rw [← cnt_mem (lotOf_lot _ _), e]
    exact c
  · rw [← cnt_mem l]
    exact hm _ rM
theorem isLeast_of {h t : Int} {ds : List Int} {L : List Nat} {n : Nat} (hL : Lot ds.length L) (q : Th.IsMin ds.length (Gof h t ds) (mem L) n) : IsLeast h t ds L n := by
  obtain ⟨⟨U, r, c⟩, hm⟩ := q
  have e := lotOf_eq hL r
  refine ⟨⟨lotOf ds.length U, lotOf_lot _ _, ?_, ?_⟩, fun M l rM => ?_⟩
  · unfold Rl
    rw [e]
    exact r
  · rw [← cnt_mem (lotOf_lot _ _), e]
    exact c
  · rw [← cnt_mem l]
    exact hm _ rM
end Sh

/-! set(xs) of a list of ints, by the walk of the list -/
namespace Sh
open PySem PySem.Spec PyProof.Rows L2
section
variable {P : Program} {w : World} {A : Around} {E : Value → Shared → Prop} {s : Shared}
/-- a set as it is born -/
abbrev Bare (w : World) : Obj := { cls := .type "set", dict := none, data := .set #[] 0 (.fresh 0 0 (!w.params.followText "set-order")) }
/-- what is left: a set of the ints; all that stood stands -/
def Made (w : World) (s : Shared) (ns : List Int) (t : Shared) : Prop := ∃ (h' : Heap) (tk c : Nat), t = { s with heap := h', toks := tk } ∧ SetR w h' s.heap.objs.size (fun j => decide (j ∈ ns)) c ∧ c ≤ ns.length ∧ ∀ b o, s.heap.get? b = some o → h'.get? b = some o
/-- the ints of the list, one by one, into the set that was born at the end of the heap -/
theorem fill_lst {A3 : Around} {l : Addr} {items : Array Value} {ns : List Int} {R : Result → Shared → Prop} (hh : A3.in1.handled = none) (hl : s.heap.IsList l items) (hit : IntsAre items.toList ns) (hb : ns.length + 1 < scanBound)
    (hR : ∀ t, Made w s ns t → R (.ok (.ret .none)) t) :
    codeAny (model P w) A3 (.builtin "set.update.loop" ⟨[.ref s.heap.objs.size, .ref (s.heap.push (Bare w)).objs.size], []⟩) R { s with heap := (s.heap.push (Bare w)).push { cls := .type "list_iterator", data := .fields #[.ref l, .int 0 0] } } := by
  have n1 : items.size = ns.length := by rw [← Array.length_toList]; exact hit.length
  obtain ⟨ol, e1, e2, e3⟩ := id hl
  have l1 : l < s.heap.objs.size := Heap.lt_size e1
  have z1 : (s.heap.push (Bare w)).objs.size = s.heap.objs.size + 1 := Heap.size_push ..
  have l2 : l ≠ (s.heap.push (Bare w)).objs.size := by rw [z1]; exact Nat.ne_of_lt (Nat.lt_succ_of_lt l1)
  have vals : ∀ (i : Nat) (v : Value), items[i]? = some v → ∃ k t, ns[i]? = some k ∧ v = .int k t := by
    intro i v hv
    have hi : i < ns.length := n1 ▸ (Array.getElem?_eq_some_iff.mp hv).1
    obtain ⟨t, e⟩ := IntsAre.int_at hit i v (by rw [Array.getElem?_toList]; exact hv)
    exact ⟨ns[i], t, List.getElem?_eq_getElem hi, by rw [e, List.getD_eq_getElem?_getD, List.getElem?_eq_getElem hi]; rfl⟩
  have born : ((s.heap.push (Bare w)).push { cls := .type "list_iterator", data := .fields #[.ref l, .int 0 0] }).get? s.heap.objs.size = some (Bare w) := Heap.get?_push_of_some _ (Heap.get?_push_size _ rfl)
  refine set_update_ints ((Walks.list hh _ l l2 items).toS) s.heap.objs.size (by rw [z1]; simp only [List.mem_cons, List.not_mem_nil, or_false, not_or]; exact ⟨Nat.ne_of_lt (Nat.lt_succ_self _), Nat.ne_of_gt l1⟩) ns n1 hb vals (items.size - 0) 0 _ (by omega) (Nat.zero_le _) ⟨⟨_, Heap.get?_push_size _ rfl, rfl, rfl⟩, (hl.push _).push _⟩ ⟨0, Nat.le_refl 0, setR_new_at born⟩ ?_
  rintro ⟨h', g2, d', tk', os'⟩ c' mv hc' hS'
  obtain rfl : g2 = s.gens := mv.gens
  obtain rfl : d' = s.drawn := mv.drawn
  obtain rfl : os' = s.os := mv.os
  refine hR _ ⟨h', tk', c', rfl, hS', by omega, fun b o e => ?_⟩
  have b0 := Heap.lt_size e
  exact mv.heap b o (by rw [z1]; simp only [List.mem_cons, List.not_mem_nil, or_false, not_or]; exact ⟨Nat.ne_of_lt b0, Nat.ne_of_lt (Nat.lt_succ_of_lt b0)⟩) (Heap.get?_push_of_some _ (Heap.get?_push_of_some _ e))
set_option maxHeartbeats 4000000 in
/-- set(xs) -/
theorem call_set_lst {l : Addr} {items : Array Value} {ns : List Int} {Q : Value → Shared → Prop} (hh : A.handled = none) (hl : s.heap.IsList l items) (hit : IntsAre items.toList ns) (hb : ns.length + 1 < scanBound)
    (h : ∀ t, Made w s ns t → Q (.ref s.heap.objs.size) t) : wpAny (model P w) A (call (.type "set") [.ref l]) Q E s := by
  have ⟨_, _, m1⟩ := F.called_set.mro; have m2 := F.called_set.made; have m3 := F.called_set.sub; have m4 := F.called_set.notType; have m5 := F.called_set.canCreate; have m6 := F.typeCall_set_1 (.ref l)
  refine wpAny_call (codeAny_of_tree (show wpAny _ _ (callAny (.type "set") _) _ _ _ from wpAny_pure ⟨Code.quiet_builtin _ (by decide +kernel), codeAny_builtin F.entry_type_call ?_⟩))
  rw [Around.under_plain (weight_type_call_type "set" [.ref l] []) rfl]
  repeat (any_goals (first | assumption | wp_step))
  refine codeAny_mono (code_set_led1 (.ref l) (E := E) (Q₁ := fun x t => x = .ref s.heap.objs.size ∧ t = { s with heap := s.heap.push (Bare w) }) ⟨rfl, rfl⟩) fun r t hr => ?_
  rcases r with e | fl
  · exact hr
  · rcases fl with x | _ | _ | _
    all_goals try exact hr.elim
    obtain ⟨rfl, rfl⟩ := hr
    have born : (s.heap.push (Bare w)).get? s.heap.objs.size = some (Bare w) := Heap.get?_push_size _ rfl
    have ty : Shared.TypeIs { s with heap := s.heap.push (Bare w) } (.ref s.heap.objs.size) "set" := ⟨_, born, rfl⟩
    have i1 := F.called_set.init.lookup; have i2 := F.called_set.init.bind (.ref s.heap.objs.size)
    repeat (any_goals (first | assumption | wp_step))
    refine codeAny_mono (codeAny_call_builtin (R := wants (fun x t => x = .none ∧ Made w s ns t) E) F.called_set.init.plain F.entry_set_init (check_set_init_1 ty ?_)) fun r2 t2 hr2 => ?_
    · obtain ⟨⟨ocls, odict, odata, oslots⟩, e1, e2, nl, e3⟩ := id hl
      simp only at e2 e3
      subst e2 e3
      have l1 : (s.heap.push (Bare w)).IsList l items := hl.push _
      have e4 : (s.heap.push (Bare w)).get? l = some { cls := .type "list", dict := odict, data := .seq items nl, slots := oslots } := Heap.get?_push_of_some _ e1
      have f1 := F.sub_list_set; have f2 := F.sub_list_frozenset; have f3 : (Value.type "list" == Value.type "dict") = false := by decide
      unfold Builtin.«set.__init__» noKeywords Builtin.Frozenset.updateFrom
      generalize eI : pyIter = it; wp_walk; subst eI
      refine wpAny_pyIter_list l1 (wpAny_bind (wpAny_runValue (fill_lst (by simp [hh]) hl hit hb fun t m => ?_)))
      exact wpAny_pure (wpAny_pure ⟨rfl, m⟩)
    · rcases r2 with e | fl
      · exact hr2
      · rcases fl with x | _ | _ | _
        all_goals try exact hr2.elim
        obtain ⟨rfl, m⟩ := hr2
        repeat (any_goals (first | assumption | wp_step))
        exact h _ m
/-- the members, each once -/
theorem SetR.keys {h : Heap} {a : Addr} {ns : List Int} {c : Nat} (R : SetR w h a (fun j => decide (j ∈ ns)) c) : ∃ ks : List Int, ks.Nodup ∧ (∀ k, k ∈ ks ↔ k ∈ ns) ∧ c = ks.length := by
  obtain ⟨o, es, ep, t, _, _, _, _, nd, hm, _, _, hn, _⟩ := R
  refine ⟨es.toList.map keyOf, nd, fun k => ?_, ?_⟩
  · rw [← hm k, decide_eq_true_eq]
  · rw [List.length_map, Array.length_toList, hn]
/-- set(xs) of a list or a tuple of ints, as a thing that stands -/
def rSetA (K : PySem.W.Frag) (w : World) : List V → Hp → VK → Prop := fun xs H Q => ∃ (q : Addr) (ns : List Int), xs = [.ref q] ∧ SqA K H q (ns.map V.int) ∧ ns.length ≤ 1000 ∧ ∀ (a : Addr) (ks : List Int), H a = none → ks.Nodup → (∀ k, k ∈ ks ↔ k ∈ ns) → Q (.ref a) (upd H a (SetO w a (fun j => decide (j ∈ ns)) ks.length))
theorem cr_setA {X : Cx} (hc : X.calm = true) : CallR X (.type "set") (rSetA X.K X.w) := by
  intro pins s σ H xs us Q I r h
  obtain ⟨q, ns, rfl, hq | hq, hl, k⟩ := h
  · rw [Vals.ref1 r]
    obtain ⟨its, rv, pl, hz⟩ := I.list hq
    refine call_set_lst (ns := ns) (I.ok.hd hc) pl.isList (ints_of_vals rv) (by unfold scanBound; omega) ?_
    rintro t ⟨h', tk, c, rfl, R1, hcn, kk⟩
    obtain ⟨ks, k1, k2, rfl⟩ := SetR.keys R1
    exact ⟨.ref _, upd H s.heap.objs.size (SetO X.w s.heap.objs.size _ ks.length), I.laid (t' := tk) kk (Nat.le_refl _) (setO_new R1), rfl, k _ _ (I.hok.fresh (Nat.le_refl _)) k1 k2⟩
  · rw [Vals.ref1 r]
    obtain ⟨its, rv, pt, hz⟩ := I.tuple hq
    refine call_set_tupI ns (I.ok.hd hc) (show s.heap.IsTuple q its.toArray from pt) (ints_of_vals rv) (by unfold scanBound; omega) fun h' tk c R1 hcn kk => ?_
    obtain ⟨ks, k1, k2, rfl⟩ := SetR.keys R1
    exact ⟨.ref _, upd H s.heap.objs.size (SetO X.w s.heap.objs.size _ ks.length), I.laid (t' := tk) kk (Nat.le_refl _) (setO_new R1), rfl, k _ _ (I.hok.fresh (Nat.le_refl _)) k1 k2⟩
theorem cr_setAw {X : Cx} (w : World) (hc : X.calm = true) (hw : X.w = w := by rfl) : CallR X (.type "set") (rSetA X.K w) := hw ▸ cr_setA hc
end
end Sh

namespace Sh
open PySem PySem.Spec PyProof.Rows L2
/-! ### all that a standing comes to, layer by layer: the mathematics -/
def kL (L : List Nat) : List Key := L.map fun (i : Nat) => Sum.inl (i : Int)
theorem kL_ni (L : List Nat) : (kL L).map kV = ni L := by
  unfold kL ni
  rw [List.map_map]
  rfl
theorem kL_inj {L M : List Nat} (h : kL L = kL M) : L = M := by
  have e := congrArg (List.map fun k : Key => match k with | .inl i => i.toNat | .inr _ => 0) h
  unfold kL at e
  rw [List.map_map, List.map_map] at e
  have id' : ((fun k : Key => match k with | .inl i => i.toNat | .inr _ => 0) ∘ fun (i : Nat) => (Sum.inl (i : Int) : Key)) = id := by
    funext i
    exact Int.toNat_natCast i
  rw [id', List.map_id, List.map_id] at e
  exact e
/-- an entry: a standing, how far -/
def ent (p : List Nat × Nat) : List Key × V := (kL p.1, .int (p.2 : Int))
theorem val_none {F : List (List Nat × Nat)} {M : List Nat} : valV (F.map ent) (kL M) = none ↔ ¬ M ∈ F.map (·.1) := by
  induction F with
  | nil => exact ⟨fun _ h => (by cases h), fun _ => rfl⟩
  | cons p F ih =>
    rw [List.map_cons, List.map_cons]
    by_cases e : kL p.1 = kL M
    · rw [valV_pos e]
      exact ⟨fun h => (by cases h), fun h => absurd (by rw [kL_inj e]; exact List.mem_cons_self) h⟩
    · rw [valV_neg e, ih]
      have ne : M ≠ p.1 := fun z => e (by rw [z])
      rw [List.mem_cons]
      exact ⟨fun h z => z.elim ne h, fun h z => h (.inr z)⟩
theorem val_some {F : List (List Nat × Nat)} {M : List Nat} (h : M ∈ F.map (·.1)) : ∃ n : Nat, valV (F.map ent) (kL M) = some (.int (n : Int)) := by
  induction F with
  | nil => cases h
  | cons p F ih =>
    rw [List.map_cons]
    by_cases e : kL p.1 = kL M
    · exact ⟨p.2, by rw [valV_pos e]; rfl⟩
    · rw [valV_neg e]
      rcases List.mem_cons.mp h with z | z
      · exact absurd (by rw [z]) e
      · exact ih z
/-- all lots of so many ships -/
def allLots : Nat → List (List Nat)
  | 0 => [[]]
  | c + 1 => allLots c ++ (allLots c).map fun L => L ++ [c]
theorem allLots_len : ∀ c, (allLots c).length = 2 ^ c
  | 0 => rfl
  | c + 1 => by
    show (allLots c ++ (allLots c).map fun L => L ++ [c]).length = 2 ^ (c + 1)
    rw [List.length_append, List.length_map, allLots_len c, Nat.pow_succ]
    omega
theorem lot_all : ∀ {c : Nat} {L : List Nat}, Lot c L → L ∈ allLots c
  | 0, L, h => by
    cases L with
    | nil => exact List.mem_cons_self
    | cons a r => exact absurd (h.lt a List.mem_cons_self) (by omega)
  | c + 1, L, h => by
    show L ∈ allLots c ++ (allLots c).map fun L => L ++ [c]
    by_cases z : c ∈ L
    · refine List.mem_append.mpr (.inr (List.mem_map.mpr ⟨L.filter (fun i => decide (i < c)), lot_all ⟨h.up.filter _, fun i hi => of_decide_eq_true (List.mem_filter.mp hi).2⟩, ?_⟩))
      refine lot_ext (c := c + 1) ⟨List.pairwise_append.mpr ⟨h.up.filter _, List.pairwise_singleton _ _, fun a ha b hb => ?_⟩, fun i hi => ?_⟩ h fun i hi => ?_
      · rw [List.mem_singleton.mp hb]
        exact of_decide_eq_true (List.mem_filter.mp ha).2
      · rcases List.mem_append.mp hi with q | q
        · exact h.lt i (List.mem_filter.mp q).1
        · rw [List.mem_singleton.mp q]
          omega
      · unfold mem
        rw [decide_eq_decide, List.mem_append, List.mem_filter, List.mem_singleton, decide_eq_true_eq]
        constructor
        · rintro (q | q)
          · exact q.1
          · rw [q]; exact z
        · intro q
          by_cases e : i = c
          · exact .inr e
          · exact .inl ⟨q, by omega⟩
    · refine List.mem_append.mpr (.inl (lot_all ⟨h.up, fun i hi => ?_⟩))
      have := h.lt i hi
      have : i ≠ c := fun e => z (e ▸ hi)
      omega
theorem nodup_len {α : Type} [DecidableEq α] : ∀ {l m : List α}, l.Nodup → (∀ x ∈ l, x ∈ m) → l.length ≤ m.length
  | [], _, _, _ => Nat.zero_le _
  | a :: l, m, nd, h => by
    obtain ⟨n1, n2⟩ := List.nodup_cons.mp nd
    have ha := h a List.mem_cons_self
    have e := nodup_len (l := l) (m := m.erase a) n2 fun x hx => (List.mem_erase_of_ne (fun e : x = a => n1 (e ▸ hx))).mpr (h x (List.mem_cons_of_mem _ hx))
    rw [List.length_erase_of_mem ha] at e
    have : 0 < m.length := List.length_pos_iff.mpr (List.ne_nil_of_mem ha)
    rw [List.length_cons]
    omega
/-- what has been found so far -/
structure Lay (h t : Int) (ds : List Int) (L : List Nat) (F : List (List Nat × Nat)) : Prop where
  lot : ∀ M ∈ F.map (·.1), Lot ds.length M ∧ Rl h t ds L M
  nd : (F.map (·.1)).Nodup
  beg : L ∈ F.map (·.1)
theorem Lay.len {h t : Int} {ds : List Int} {L : List Nat} {F : List (List Nat × Nat)} (y : Lay h t ds L F) : F.length ≤ 2 ^ ds.length := by
  have := nodup_len y.nd (m := allLots ds.length) fun M hM => lot_all (y.lot M hM).1
  rw [List.length_map, allLots_len] at this
  exact this
theorem Lay.one {h t : Int} {ds : List Int} {L : List Nat} (hL : Lot ds.length L) : Lay h t ds L [(L, 0)] := ⟨fun M hM => by
  obtain rfl : M = L := List.mem_singleton.mp hM
  exact ⟨hL, .refl _⟩, by simp, List.mem_cons_self⟩
theorem Lay.add {h t : Int} {ds : List Int} {L : List Nat} {F : List (List Nat × Nat)} (y : Lay h t ds L F) {M : List Nat} {n : Nat} (a : Lot ds.length M) (b : Rl h t ds L M) (c : ¬ M ∈ F.map (·.1)) : Lay h t ds L (F ++ [(M, n)]) := by
  refine ⟨fun X hX => ?_, ?_, ?_⟩
  · rw [List.map_append] at hX
    rcases List.mem_append.mp hX with z | z
    · exact y.lot X z
    · obtain rfl : X = M := List.mem_singleton.mp z
      exact ⟨a, b⟩
  · rw [List.map_append]
    refine List.nodup_append.mpr ⟨y.nd, by simp, fun x hx z hz => ?_⟩
    have e : z = M := List.mem_singleton.mp hz
    exact fun q => c (by rw [← e, ← q]; exact hx)
  · rw [List.map_append]
    exact List.mem_append.mpr (.inl y.beg)
/-- closed under all crossings -/
def Closed (h t : Int) (ds : List Int) (X : List (List Nat)) : Prop := ∀ M ∈ X, ∀ i, i < ds.length → mayB h t ds M i = true → gone M i ∈ X
theorem Lay.all {h t : Int} {ds : List Int} {L : List Nat} {F : List (List Nat × Nat)} (y : Lay h t ds L F) (hL : Lot ds.length L) (c : Closed h t ds (F.map (·.1))) {M : List Nat} (hM : Lot ds.length M) : M ∈ F.map (·.1) ↔ Rl h t ds L M := by
  constructor
  · exact fun h => (y.lot M h).2
  · intro r
    have key : ∀ {U : Nat → Bool}, Th.Reach ds.length (Gof h t ds) (mem L) U → lotOf ds.length U ∈ F.map (·.1) := fun {U} r => by
      induction r with
      | refl =>
        rw [show lotOf ds.length (mem L) = L from lot_ext (lotOf_lot _ _) hL fun i hi => lotOf_mem hi]
        exact y.beg
      | @step B W rB st ih =>
        have eB := lotOf_eq hL rB
        have lB := lotOf_lot ds.length B
        have cB := cnt_mem lB
        rw [eB] at cB
        have fin : ∀ i, i < ds.length → Gof h t ds (if B i = true then Th.cnt ds.length B - 1 else Th.cnt ds.length B) i = true → lotOf ds.length (Th.flip B i) ∈ F.map (·.1) := fun i hi g => by
          have mb : mayB h t ds (lotOf ds.length B) i = true := by
            rw [may_May lB hi, eB]
            exact g
          have e : lotOf ds.length (Th.flip B i) = gone (lotOf ds.length B) i := lot_ext (lotOf_lot _ _) (gone_lot lB hi) fun j hj => by
            rw [lotOf_mem hj, gone_mem, eB]
          rw [e]
          exact c _ ih i hi mb
        cases st with
        | @up i hi hs hg => exact fin i hi (by rw [hs, if_neg Bool.false_ne_true]; exact hg)
        | @dn i hi hs hg => exact fin i hi (by rw [hs, if_pos rfl]; exact hg)
    have := key r
    rw [show lotOf ds.length (mem M) = M from lot_ext (lotOf_lot _ _) hM fun i hi => lotOf_mem hi] at this
    exact this
theorem shaped_lots (Ls : List (List Nat)) : SeqAt.shaped (.list (Ls.map fun M => .tuple ((M.map fun (i : Nat) => (i : Int)).map .int))) = true := by
  have a : PyData.canLayAll0 (Ls.map fun M => .tuple ((M.map fun (i : Nat) => (i : Int)).map .int)) = true ∧ PyData.depthAll (Ls.map fun M => .tuple ((M.map fun (i : Nat) => (i : Int)).map .int)) ≤ 1 := by
    induction Ls with
    | nil => exact ⟨rfl, Nat.zero_le _⟩
    | cons M Ls ih =>
      obtain ⟨l1, l2⟩ := lay_ints (M.map fun (i : Nat) => (i : Int))
      constructor
      · show (PyData.canLayAll0 ((M.map fun (i : Nat) => (i : Int)).map .int) && _) = true
        rw [l1, ih.1]
        rfl
      · show max (PyData.depthAll ((M.map fun (i : Nat) => (i : Int)).map .int) + 1) _ ≤ 1
        rw [l2]
        exact Nat.max_le.mpr ⟨Nat.le_refl _, ih.2⟩
  unfold SeqAt.shaped
  rw [show PyData.canLay0 (.list (Ls.map fun M => .tuple ((M.map fun (i : Nat) => (i : Int)).map .int))) = _ from a.1, show PyData.depth (.list (Ls.map fun M => .tuple ((M.map fun (i : Nat) => (i : Int)).map .int))) = PyData.depthAll (Ls.map fun M => .tuple ((M.map fun (i : Nat) => (i : Int)).map .int)) + 1 from rfl]
  have : PyData.depthAll (Ls.map fun M => .tuple ((M.map fun (i : Nat) => (i : Int)).map .int)) + 1 ≤ 64 := by omega
  simpa using this
theorem dp_lots {K : PySem.W.Frag} {H : Hp} : ∀ {Ls : List (Addr × List Nat)}, (∀ p ∈ Ls, H p.1 = some (.tup (ni p.2))) → DpAll K H (Ls.map fun p => V.ref p.1) ((Ls.map (·.2)).map fun M => .tuple ((M.map fun (i : Nat) => (i : Int)).map .int))
  | [], _ => .nil
  | p :: Ls, h => by
    refine .cons ?_ (dp_lots fun q hq => h q (List.mem_cons_of_mem _ hq))
    have e := h p List.mem_cons_self
    rw [ni_ints] at e
    exact .tup (SqT.of e) (DpAll.ints _)
theorem eqv_lnil (Ls : List PyData) : PyData.eqv (.list Ls) (.list []) = Ls.isEmpty := by cases Ls <;> rfl
end Sh

namespace Sh
open PySem PySem.Spec PyProof.Rows L2
/-! ### the program: water -/
def spMarkOf : Sp := fun vs H Q _ => ∃ (h t s : Int) (n : Nat), vs = [.int h, .int t, .int (n : Int), .int s] ∧ Q (.int (mk h t n s)) H
def spTopOf : Sp := fun vs H Q _ => ∃ (h t : Int) (n : Nat), vs = [.int h, .int t, .int (n : Int)] ∧ Q (.int (topI h t n)) H
abbrev s_mark_of : Stmt := topS 1
theorem sc_mark_of : FnScope (["here", "there", "many", "step"] : List Str) (["here", "there", "many", "step"] : List Str) (defScope s_mark_of) := ⟨rfl, rfl, rfl, by decide +kernel, rfl, by decide +kernel, by decide +kernel⟩
theorem b_mark_of (kV doc pm : Value) (an : Option Addr) (cdv ct : Value) (us : List Value) (hl : us.length = (["here", "there", "many", "step"] : List Str).length) : bindArgs (PySem.W.fnOf "mark_of" "mark_of" (defArgs s_mark_of) (defBody s_mark_of) (defScope s_mark_of) .none kV doc pm an cdv ct) ⟨us, []⟩ = pure ((["here", "there", "many", "step"] : List Str).zip us) :=
  match us, hl with | [_, _, _, _], _ => rfl
abbrev s_top_of : Stmt := topS 2
theorem sc_top_of : FnScope (["here", "there", "many", "last", "meeting"] : List Str) (["here", "there", "many"] : List Str) (defScope s_top_of) := ⟨rfl, rfl, rfl, by decide +kernel, rfl, by decide +kernel, by decide +kernel⟩
theorem b_top_of (kV doc pm : Value) (an : Option Addr) (cdv ct : Value) (us : List Value) (hl : us.length = (["here", "there", "many"] : List Str).length) : bindArgs (PySem.W.fnOf "top_of" "top_of" (defArgs s_top_of) (defBody s_top_of) (defScope s_top_of) .none kV doc pm an cdv ct) ⟨us, []⟩ = pure ((["here", "there", "many"] : List Str).zip us) :=
  match us, hl with | [_, _, _], _ => rfl
section
variable {P : Program} {w : World} {K : PySem.W.Frag} {mg : Str → Option Value} {base : Heap}
theorem ok_mark_of {k : Nat} (D : Df K mg "mark_of" s_mark_of) (T : Bt mg) : Ok P w K mg base (k + 1) "mark_of" s_mark_of ["here", "there", "many", "step"] spMarkOf := by
  refine D.ok sc_mark_of b_mark_of (fun vs H Q E h => ?_) (fun f cdv A outer s H vs Q E hr h => ?_)
  · obtain ⟨h, t, s, n, rfl, _⟩ := h
    rfl
  · obtain ⟨h, t, s, n, rfl, k⟩ := h
    refine ⟨_, (pss_one (ps_ret (pe_callB (call_min2 rfl) (by rfl) T.min_ (by decide +kernel) (pa_cons (pe_op op_add (pv 0) (pv 3)) (pa_cons (pe_op op_sub (pe_op op_sub (pe_op op_add (pv 1) (pv 2)) pe_int) (pv 3)) pa_nil))))), ?_⟩
    refine ⟨_, rfl, _, rfl, h, s, rfl, rfl, _, rfl, _, rfl, t, _, rfl, rfl, _, 1, rfl, rfl, _, rfl, _, s, rfl, rfl, _, _, rfl, ?_⟩
    rw [← mk_alt] at k
    exact k
theorem ok_top_of {k : Nat} (D : Df K mg "top_of" s_top_of) (T : Bt mg) : Ok P w K mg base (k + 1) "top_of" s_top_of ["here", "there", "many"] spTopOf := by
  refine D.ok sc_top_of b_top_of (fun vs H Q E h => ?_) (fun f cdv A outer s H vs Q E hr h => ?_)
  · obtain ⟨h, t, n, rfl, _⟩ := h
    rfl
  · obtain ⟨h, t, n, rfl, k⟩ := h
    refine ⟨_, (pss_cons (ps_set (i := 3) sc_top_of.nd rfl (.inl rfl) (pe_op op_sub (pv 2) pe_int))
      (pss_cons (ps_set (i := 4) sc_top_of.nd rfl (.inl rfl) (pe_op op_fdiv (pe_op op_sub (pe_op op_add (pv 1) (pv 3)) (pv 0)) pe_int))
      (pss_one (ps_ret (pe_callB (call_max2 rfl) (by rfl) T.max_ (by decide +kernel) (pa_cons pe_int (pa_cons (pe_callB (call_min2 rfl) (by rfl) T.min_ (by decide +kernel) (pa_cons (pv 3) (pa_cons (pv 4) pa_nil))) pa_nil))))))), ?_⟩
    refine ⟨_, rfl, _, 1, rfl, rfl, ?_⟩
    refine ⟨_, rfl, _, rfl, t, _, rfl, rfl, _, rfl, _, h, rfl, rfl, _, 2, rfl, rfl, ⟨by decide, by decide⟩, ?_⟩
    refine ⟨_, rfl, _, rfl, _, _, rfl, 0, _, rfl, ?_⟩
    exact k
end
end Sh

namespace Sh
open PySem PySem.Spec PyProof.Rows L2
/-! ### the program: steps -/
section
variable {P : Program} {w : World} {K : PySem.W.Frag} {mg : Str → Option Value} {base : Heap}
end
end Sh

namespace Sh
open PySem PySem.Spec PyProof.Rows L2
/-! ### fleets as they are handed in -/
def SrtV (x : Srt) : List V := [.int x.1, .int (x.2.1 : Int), .int (x.2.2 : Int)]
def SrtsA (K : PySem.W.Frag) (H : Hp) (rs : List Addr) (ss : List Srt) : Prop := rs.length = ss.length ∧ ∀ (i : Nat) (r : Addr) (x : Srt), rs[i]? = some r → ss[i]? = some x → SqA K H r (SrtV x)
theorem SrtsA.same {K : PySem.W.Frag} {H H' : Hp} {rs : List Addr} {ss : List Srt} (w : SrtsA K H rs ss) (e : Same H H') : SrtsA K H' rs ss := ⟨w.1, fun i r x a b => Same.sqA e (w.2 i r x a b)⟩
theorem srt_at {K : PySem.W.Frag} {H : Hp} {rs : List Addr} {ss : List Srt} {i : Nat} {v : V} (w : SrtsA K H rs ss) (g : (rs.map V.ref)[i]? = some v) : ∃ (r : Addr) (hi : i < ss.length), v = .ref r ∧ SqA K H r (SrtV ss[i]) := by
  rw [List.getElem?_map] at g
  cases e : rs[i]? with
  | none => rw [e] at g; cases g
  | some r =>
    rw [e] at g
    have hi : i < rs.length := (List.getElem?_eq_some_iff.mp e).1
    have hi2 : i < ss.length := w.1 ▸ hi
    exact ⟨r, hi2, (Option.some.inj g).symm, w.2 i r _ e (List.getElem?_eq_getElem hi2)⟩
/-- a fleet (lists or tuples) is handed in -/
def FltA (K : PySem.W.Frag) (H : Hp) (v : V) (h t : Int) (ss : List Srt) : Prop := ∃ (p q : Addr) (rs : List Addr), v = .ref p ∧ SqA K H p [.int h, .int t, .ref q] ∧ SqA K H q (rs.map V.ref) ∧ SrtsA K H rs ss
theorem FltA.same {K : PySem.W.Frag} {H H' : Hp} {v : V} {h t : Int} {ss : List Srt} (s : FltA K H v h t ss) (e : Same H H') : FltA K H' v h t ss := let ⟨p, q, rs, a, b, c, d⟩ := s; ⟨p, q, rs, a, Same.sqA e b, Same.sqA e c, d.same e⟩
/-- new sorts, as tuples -/
def SrtsN (H : Hp) (rs : List Addr) (ss : List Srt) : Prop := rs.length = ss.length ∧ ∀ (i : Nat) (r : Addr) (x : Srt), rs[i]? = some r → ss[i]? = some x → H r = some (.tup (SrtV x))
theorem SrtsN.a {K : PySem.W.Frag} {H : Hp} {rs : List Addr} {ss : List Srt} (w : SrtsN H rs ss) : SrtsA K H rs ss := ⟨w.1, fun i r x a b => SqA.t (w.2 i r x a b)⟩
theorem SrtsN.same {H H' : Hp} {rs : List Addr} {ss : List Srt} (w : SrtsN H rs ss) (e : Same H H') : SrtsN H' rs ss := ⟨w.1, fun i r x a b => e _ _ (w.2 i r x a b)⟩
theorem SrtsN.put {H : Hp} {rs : List Addr} {ss : List Srt} {C : Addr} {xs ys : List V} (w : SrtsN H rs ss) (h : H C = some (.lst xs)) : SrtsN (upd H C (.lst ys)) rs ss := ⟨w.1, fun i r x a b => by
  have q := w.2 i r x a b
  rw [upd_ne (ne_of q h (by intro z; cases z))]
  exact q⟩
theorem SrtsN.push {H : Hp} {rs : List Addr} {ss : List Srt} {u : Addr} {x : Srt} (w : SrtsN H rs ss) (n : H u = none) : SrtsN (upd H u (.tup (SrtV x))) (rs ++ [u]) (ss ++ [x]) := by
  refine ⟨by rw [List.length_append, List.length_append, w.1]; rfl, fun i r y a b => ?_⟩
  by_cases z : i < rs.length
  · rw [List.getElem?_append_left z] at a
    rw [List.getElem?_append_left (by rw [← w.1]; exact z)] at b
    exact same_new n _ _ (w.2 i r y a b)
  · have e : i = rs.length := by
      have := (List.getElem?_eq_some_iff.mp a).1
      rw [List.length_append] at this
      simp at this
      omega
    subst e
    rw [List.getElem?_append_right (Nat.le_refl _), Nat.sub_self] at a
    rw [List.getElem?_append_right (by rw [w.1]; exact Nat.le_refl _), w.1, Nat.sub_self] at b
    obtain rfl : u = r := Option.some.inj a
    obtain rfl : x = y := Option.some.inj b
    exact upd_same
theorem SrtsN.push' {H : Hp} {rs : List Addr} {ss : List Srt} {u : Addr} {x : Srt} {o : HO} (w : SrtsN H rs ss) (n : H u = none) (e : o = .tup (SrtV x)) : SrtsN (upd H u o) (rs ++ [u]) (ss ++ [x]) := by
  subst e
  exact w.push n
end Sh

namespace Sh
open PySem PySem.Spec PyProof.Rows L2
/-! ### the program: lots, of fleets as they are handed in -/
theorem isum (f : Srt → Nat) : ∀ l : List Srt, (l.map fun x => (f x : Int)).sum = ((l.map f).sum : Int)
  | [] => rfl
  | a :: l => by
    rw [List.map_cons, List.sum_cons, isum f l, List.map_cons, List.sum_cons]
    rfl
theorem tm {β : Type} (f : Srt → β) {ss : List Srt} {i : Nat} (hi : i < ss.length) : (ss.take (i + 1)).map f = (ss.take i).map f ++ [f ss[i]] := by rw [take_succ_get hi, List.map_append]; rfl
theorem tfm {β : Type} (p : Srt → Bool) (f : Srt → β) {ss : List Srt} {i : Nat} (hi : i < ss.length) : ((ss.take (i + 1)).filter p).map f = ((ss.take i).filter p).map f ++ (if p ss[i] = true then [f ss[i]] else []) := by
  rw [take_succ_get hi, List.filter_append, List.map_append]
  congr 1
  by_cases c : p ss[i] = true
  · rw [if_pos c, List.filter_cons_of_pos c]; rfl
  · rw [if_neg c, List.filter_cons_of_neg c]; rfl
theorem take_le {ss : List Srt} {i : Nat} (hi : i < ss.length) : (ss.take i).length < ss.length := by rw [List.length_take]; omega
theorem tf_le {p : Srt → Bool} {ss : List Srt} {i : Nat} (hi : i < ss.length) : ((ss.take i).filter p).length < ss.length := Nat.lt_of_le_of_lt (List.length_filter_le _ _) (take_le hi)
def spShips (K : PySem.W.Frag) : Sp := fun vs H Q _ => ∃ (v : V) (h t : Int) (ss : List Srt), vs = [v] ∧ FltA K H v h t ss ∧ ss.length ≤ 1000 ∧ ∀ H', Same H H' → Q (.int (mny ss : Int)) H'
def spMarkIn (K : PySem.W.Frag) : Sp := fun vs H Q _ => ∃ (v : V) (h t s : Int) (ss : List Srt), vs = [v, .int s] ∧ FltA K H v h t ss ∧ ss.length ≤ 1000 ∧ ∀ H', Same H H' → Q (.int (mk h t (mny ss) s)) H'
def spGoersMany (K : PySem.W.Frag) : Sp := fun vs H Q _ => ∃ (v : V) (h t s : Int) (ss : List Srt), vs = [v, .int s] ∧ FltA K H v h t ss ∧ ss.length ≤ 1000 ∧ ∀ H', Same H H' → Q (.int (gmF ss (mk h t (mny ss) s) : Int)) H'
def spTopIn (K : PySem.W.Frag) : Sp := fun vs H Q _ => ∃ (v : V) (h t : Int) (ss : List Srt), vs = [v] ∧ FltA K H v h t ss ∧ ss.length ≤ 1000 ∧ ∀ H', Same H H' → Q (.int (topI h t (mny ss))) H'
def spFilled (K : PySem.W.Frag) : Sp := fun vs H Q _ => ∃ (v : V) (h t s : Int) (ss : List Srt), vs = [v, .int s] ∧ FltA K H v h t ss ∧ ss.length ≤ 1000 ∧ ∀ H', Same H H' → Q (.int (filF ss (mk h t (mny ss) s) : Int)) H'
/-- marks rise up to top -/
def Rise (h t : Int) (n : Nat) (top : Int) : Prop := ∀ s s' : Int, 0 ≤ s → s ≤ s' → s' ≤ top → mk h t n s ≤ mk h t n s'
def spLowStop (K : PySem.W.Frag) : Sp := fun vs H Q _ => ∃ (v : V) (h t top : Int) (ss : List Srt), vs = [v, .int top] ∧ FltA K H v h t ss ∧ ss.length ≤ 1000 ∧ Rise h t (mny ss) top ∧
  (∀ (H' : Hp) (N : Nat), Same H H' → (N : Int) ≤ top → StuckF h t ss N → Q (.int (N : Int)) H') ∧ (∀ H', Same H H' → (∀ N : Nat, (N : Int) ≤ top → ¬ StuckF h t ss N) → Q .non H')
def spTurnedF (K : PySem.W.Frag) : Sp := fun vs H Q _ => ∃ (v : V) (h t : Int) (ss : List Srt), vs = [v] ∧ FltA K H v h t ss ∧ ss.length ≤ 1000 ∧ ∀ (H' : Hp) (z : V), Same H H' → FltA K H' z t h (turnF ss) → Q z H'
theorem fil_mono {ss : List Srt} {m m' : Int} (e : m ≤ m') : filF ss m ≤ filF ss m' := by
  unfold filF
  induction ss with
  | nil => exact Nat.le_refl _
  | cons a l ih =>
    simp only [List.map_cons, List.sum_cons]
    have : (if a.1 ≤ m then a.2.2 else 0) ≤ (if a.1 ≤ m' then a.2.2 else 0) := by
      by_cases z : a.1 ≤ m
      · rw [if_pos z, if_pos (by omega)]
        exact Nat.le_refl _
      · rw [if_neg z]
        exact Nat.zero_le _
    omega
theorem fil_ge {ss : List Srt} {m : Int} : ourn ss ≤ filF ss m := by
  unfold filF ourn
  induction ss with
  | nil => exact Nat.le_refl _
  | cons a l ih =>
    simp only [List.map_cons, List.sum_cons]
    omega
theorem fil_le {ss : List Srt} {m : Int} : filF ss m ≤ mny ss := by
  unfold filF mny
  induction ss with
  | nil => exact Nat.le_refl _
  | cons a l ih =>
    simp only [List.map_cons, List.sum_cons]
    have : (if a.1 ≤ m then a.2.2 else 0) ≤ a.2.2 := by split <;> omega
    omega
abbrev s_ships_many : Stmt := topS 10
theorem sc_ships_many : FnScope (["fleet", "draught", "ours", "theirs"] : List Str) (["fleet"] : List Str) (defScope s_ships_many) := ⟨rfl, rfl, rfl, by decide +kernel, rfl, by decide +kernel, by decide +kernel⟩
theorem b_ships_many (kV doc pm : Value) (an : Option Addr) (cdv ct : Value) (us : List Value) (hl : us.length = (["fleet"] : List Str).length) : bindArgs (PySem.W.fnOf "ships_many" "ships_many" (defArgs s_ships_many) (defBody s_ships_many) (defScope s_ships_many) .none kV doc pm an cdv ct) ⟨us, []⟩ = pure ((["fleet"] : List Str).zip us) :=
  match us, hl with | [_], _ => rfl
abbrev s_mark_in : Stmt := topS 11
theorem sc_mark_in : FnScope (["fleet", "step", "here", "there", "sorts"] : List Str) (["fleet", "step"] : List Str) (defScope s_mark_in) := ⟨rfl, rfl, rfl, by decide +kernel, rfl, by decide +kernel, by decide +kernel⟩
theorem b_mark_in (kV doc pm : Value) (an : Option Addr) (cdv ct : Value) (us : List Value) (hl : us.length = (["fleet", "step"] : List Str).length) : bindArgs (PySem.W.fnOf "mark_in" "mark_in" (defArgs s_mark_in) (defBody s_mark_in) (defScope s_mark_in) .none kV doc pm an cdv ct) ⟨us, []⟩ = pure ((["fleet", "step"] : List Str).zip us) :=
  match us, hl with | [_, _], _ => rfl
abbrev s_goers_many : Stmt := topS 12
theorem sc_goers_many : FnScope (["fleet", "step", "mark", "draught", "ours", "theirs"] : List Str) (["fleet", "step"] : List Str) (defScope s_goers_many) := ⟨rfl, rfl, rfl, by decide +kernel, rfl, by decide +kernel, by decide +kernel⟩
theorem b_goers_many (kV doc pm : Value) (an : Option Addr) (cdv ct : Value) (us : List Value) (hl : us.length = (["fleet", "step"] : List Str).length) : bindArgs (PySem.W.fnOf "goers_many" "goers_many" (defArgs s_goers_many) (defBody s_goers_many) (defScope s_goers_many) .none kV doc pm an cdv ct) ⟨us, []⟩ = pure ((["fleet", "step"] : List Str).zip us) :=
  match us, hl with | [_, _], _ => rfl
abbrev s_top_in : Stmt := topS 13
theorem sc_top_in : FnScope (["fleet", "here", "there", "sorts"] : List Str) (["fleet"] : List Str) (defScope s_top_in) := ⟨rfl, rfl, rfl, by decide +kernel, rfl, by decide +kernel, by decide +kernel⟩
theorem b_top_in (kV doc pm : Value) (an : Option Addr) (cdv ct : Value) (us : List Value) (hl : us.length = (["fleet"] : List Str).length) : bindArgs (PySem.W.fnOf "top_in" "top_in" (defArgs s_top_in) (defBody s_top_in) (defScope s_top_in) .none kV doc pm an cdv ct) ⟨us, []⟩ = pure ((["fleet"] : List Str).zip us) :=
  match us, hl with | [_], _ => rfl
abbrev s_filled_at : Stmt := topS 14
theorem sc_filled_at : FnScope (["fleet", "step", "mark", "draught", "ours", "theirs"] : List Str) (["fleet", "step"] : List Str) (defScope s_filled_at) := ⟨rfl, rfl, rfl, by decide +kernel, rfl, by decide +kernel, by decide +kernel⟩
theorem b_filled_at (kV doc pm : Value) (an : Option Addr) (cdv ct : Value) (us : List Value) (hl : us.length = (["fleet", "step"] : List Str).length) : bindArgs (PySem.W.fnOf "filled_at" "filled_at" (defArgs s_filled_at) (defBody s_filled_at) (defScope s_filled_at) .none kV doc pm an cdv ct) ⟨us, []⟩ = pure ((["fleet", "step"] : List Str).zip us) :=
  match us, hl with | [_, _], _ => rfl
abbrev s_low_stop : Stmt := topS 15
theorem sc_low_stop : FnScope (["fleet", "top", "step", "filled", "draught", "ours", "theirs"] : List Str) (["fleet", "top"] : List Str) (defScope s_low_stop) := ⟨rfl, rfl, rfl, by decide +kernel, rfl, by decide +kernel, by decide +kernel⟩
theorem b_low_stop (kV doc pm : Value) (an : Option Addr) (cdv ct : Value) (us : List Value) (hl : us.length = (["fleet", "top"] : List Str).length) : bindArgs (PySem.W.fnOf "low_stop" "low_stop" (defArgs s_low_stop) (defBody s_low_stop) (defScope s_low_stop) .none kV doc pm an cdv ct) ⟨us, []⟩ = pure ((["fleet", "top"] : List Str).zip us) :=
  match us, hl with | [_, _], _ => rfl
abbrev s_turned_fleet : Stmt := topS 9
theorem sc_turned_fleet : FnScope (["fleet", "here", "there", "sorts", "draught", "ours", "theirs"] : List Str) (["fleet"] : List Str) (defScope s_turned_fleet) := ⟨rfl, rfl, rfl, by decide +kernel, rfl, by decide +kernel, by decide +kernel⟩
theorem b_turned_fleet (kV doc pm : Value) (an : Option Addr) (cdv ct : Value) (us : List Value) (hl : us.length = (["fleet"] : List Str).length) : bindArgs (PySem.W.fnOf "turned_fleet" "turned_fleet" (defArgs s_turned_fleet) (defBody s_turned_fleet) (defScope s_turned_fleet) .none kV doc pm an cdv ct) ⟨us, []⟩ = pure ((["fleet"] : List Str).zip us) :=
  match us, hl with | [_], _ => rfl
section
variable {P : Program} {w : World} {K : PySem.W.Frag} {mg : Str → Option Value} {base : Heap}
theorem ok_ships {k : Nat} (D : Df K mg "ships_many" s_ships_many) (T : Bt mg) : Ok P w K mg base (k + 1) "ships_many" s_ships_many ["fleet"] (spShips K) := by
  refine D.ok sc_ships_many b_ships_many (fun vs H Q E h => ?_) (fun f cdv A outer s H vs Q E hr h => ?_)
  · obtain ⟨v, h, t, ss, rfl, _⟩ := h
    rfl
  · obtain ⟨v, h, t, ss, rfl, ⟨p, q, rs, rfl, hp, hq, hs⟩, l1, k⟩ := h
    refine ⟨_, (pss_one (ps_ret (pe_callB (cr_sum rfl) (by rfl) T.sum_ (by decide +kernel) (pa_cons (pe_lc (own := [("draught", 1), ("ours", 2), ("theirs", 3)]) (g := (gSeq K 3 (gCons (gName 1) (gCons (gName 2) (gCons (gName 3) gNil))))) (tt := tYes) (by rfl) sc_ships_many.nd (pi_seq (pe_ix ix_lt (pv 0) pe_int (fun _ _ => rfl))) (blkOk_by (own := [("draught", 1), ("ours", 2), ("theirs", 3)]) (N := (["fleet", "draught", "ours", "theirs"] : List Str)) (sc := defScope s_ships_many) (by decide +kernel)) (fun _ _ _ _ _ => (pg_seq rfl (pgs_cons (pg_name (i := 1) sc_ships_many.nd rfl (.inl rfl)) (pgs_cons (pg_name (i := 2) sc_ships_many.nd rfl (.inl rfl)) (pgs_cons (pg_name (i := 3) sc_ships_many.nd rfl (.inl rfl)) pgs_nil))))) (fun _ _ _ _ _ => pts_nil) (fun _ _ _ _ _ => (pe_op op_add (pv 2) (pv 3)))) pa_nil)))), ?_⟩
    refine ⟨_, rfl, p, _, 2, .ref q, rfl, rfl, hp, rfl, q, _, H, rfl, hq, Kp.refl _ _, fun J hJ C nC => ?_⟩
    obtain ⟨G, g, W⟩ := hJ.walk
    refine lc_it W (fun i H' => Same H H' ∧ H' C = some (.lst (((ss.take i).map fun x => ((x.2.1 + x.2.2 : Nat) : Int)).map V.int))) ⟨same_new nC, upd_same⟩ (fun i H' _ z => g H' (.ofS z.1)) ?_ ?_
    · rintro i x H1 H2 _ ⟨sm, hC⟩ ⟨rfl, gx⟩
      obtain ⟨r, hi, rfl, hr1⟩ := srt_at (hs.same sm) gx
      refine ⟨r, _, rfl, hr1, rfl, _, _, rfl, _, _, rfl, _, _, rfl, rfl, rfl, tyes (iteT ⟨_, rfl, _, rfl, _, _, rfl, rfl, _, hC, ?_, same_over sm nC, ?_⟩)⟩
      · rw [List.length_map, List.length_map]
        exact Nat.lt_of_lt_of_le (take_le hi) (Nat.le_trans l1 (by decide))
      · rw [upd_same, tm _ hi, List.map_append]
        rfl
    · rintro H1 ⟨sm, hC⟩
      rw [List.length_map, hs.1, List.take_length] at hC
      refine ⟨C, _, rfl, SqL.of hC, ?_⟩
      rw [isum]
      exact k H1 sm
theorem ok_mark_in {k : Nat} (D : Df K mg "mark_in" s_mark_in) (T : Bt mg) (O_mark_of : Ok P w K mg base k "mark_of" s_mark_of ["here", "there", "many", "step"] spMarkOf) (O_ships_many : Ok P w K mg base k "ships_many" s_ships_many ["fleet"] (spShips K)) :
    Ok P w K mg base (k + 1) "mark_in" s_mark_in ["fleet", "step"] (spMarkIn K) := by
  refine D.ok sc_mark_in b_mark_in (fun vs H Q E h => ?_) (fun f cdv A outer s H vs Q E hr h => ?_)
  · obtain ⟨v, h, t, s, ss, rfl, _⟩ := h
    rfl
  · obtain ⟨v, h, t, s, ss, rfl, hv, l1, k⟩ := h
    obtain ⟨p, q, rs, rfl, hp, hq, hs⟩ := id hv
    refine ⟨_, (pss_cons (ps_asg (pv 0) (pg_seq rfl (pgs_cons (pg_name (i := 2) sc_mark_in.nd rfl (.inl rfl)) (pgs_cons (pg_name (i := 3) sc_mark_in.nd rfl (.inl rfl)) (pgs_cons (pg_name (i := 4) sc_mark_in.nd rfl (.inl rfl)) pgs_nil)))))
      (pss_one (ps_ret (pe_fn O_mark_of (hr.mono (by omega)) (pa_cons (pv 2) (pa_cons (pv 3) (pa_cons (pe_fn O_ships_many (hr.mono (by omega)) (pa_cons (pv 0) pa_nil)) (pa_cons (pv 1) pa_nil)))))))), ?_⟩
    refine ⟨_, rfl, p, _, rfl, hp, rfl, _, _, rfl, _, _, rfl, _, _, rfl, rfl, ?_⟩
    exact ⟨_, rfl, _, rfl, _, rfl, .ref p, h, t, ss, rfl, hv, l1, fun H' s1 => ⟨_, rfl, h, t, s, mny ss, rfl, k H' s1⟩⟩
theorem ok_top_in {k : Nat} (D : Df K mg "top_in" s_top_in) (T : Bt mg) (O_top_of : Ok P w K mg base k "top_of" s_top_of ["here", "there", "many"] spTopOf) (O_ships_many : Ok P w K mg base k "ships_many" s_ships_many ["fleet"] (spShips K)) :
    Ok P w K mg base (k + 1) "top_in" s_top_in ["fleet"] (spTopIn K) := by
  refine D.ok sc_top_in b_top_in (fun vs H Q E h => ?_) (fun f cdv A outer s H vs Q E hr h => ?_)
  · obtain ⟨v, h, t, ss, rfl, _⟩ := h
    rfl
  · obtain ⟨v, h, t, ss, rfl, hv, l1, k⟩ := h
    obtain ⟨p, q, rs, rfl, hp, hq, hs⟩ := id hv
    refine ⟨_, (pss_cons (ps_asg (pv 0) (pg_seq rfl (pgs_cons (pg_name (i := 1) sc_top_in.nd rfl (.inl rfl)) (pgs_cons (pg_name (i := 2) sc_top_in.nd rfl (.inl rfl)) (pgs_cons (pg_name (i := 3) sc_top_in.nd rfl (.inl rfl)) pgs_nil)))))
      (pss_one (ps_ret (pe_fn O_top_of (hr.mono (by omega)) (pa_cons (pv 1) (pa_cons (pv 2) (pa_cons (pe_fn O_ships_many (hr.mono (by omega)) (pa_cons (pv 0) pa_nil)) pa_nil))))))), ?_⟩
    refine ⟨_, rfl, p, _, rfl, hp, rfl, _, _, rfl, _, _, rfl, _, _, rfl, rfl, ?_⟩
    exact ⟨_, rfl, _, rfl, _, rfl, .ref p, h, t, ss, rfl, hv, l1, fun H' s1 => ⟨h, t, mny ss, rfl, k H' s1⟩⟩
theorem ok_goers_many {k : Nat} (D : Df K mg "goers_many" s_goers_many) (T : Bt mg) (O_mark_in : Ok P w K mg base k "mark_in" s_mark_in ["fleet", "step"] (spMarkIn K)) :
    Ok P w K mg base (k + 1) "goers_many" s_goers_many ["fleet", "step"] (spGoersMany K) := by
  refine D.ok sc_goers_many b_goers_many (fun vs H Q E h => ?_) (fun f cdv A outer s H vs Q E hr h => ?_)
  · obtain ⟨v, h, t, s, ss, rfl, _⟩ := h
    rfl
  · obtain ⟨v, h, t, s, ss, rfl, hv, l1, k⟩ := h
    refine ⟨_, (pss_cons (ps_set (i := 2) sc_goers_many.nd rfl (.inr rfl) (pe_fn O_mark_in (hr.mono (by omega)) (pa_cons (pv 0) (pa_cons (pv 1) pa_nil))))
      (pss_one (ps_ret (pe_callB (cr_sum rfl) (by rfl) T.sum_ (by decide +kernel) (pa_cons (pe_lc (own := [("draught", 3), ("ours", 4), ("theirs", 5)]) (g := (gSeq K 3 (gCons (gName 3) (gCons (gName 4) (gCons (gName 5) gNil))))) (by rfl) sc_goers_many.nd (pi_seq (pe_ix ix_lt (pv 0) pe_int (fun _ _ => rfl))) (blkOk_by (own := [("draught", 3), ("ours", 4), ("theirs", 5)]) (N := (["fleet", "step", "mark", "draught", "ours", "theirs"] : List Str)) (sc := defScope s_goers_many) (by decide +kernel)) (fun _ _ _ _ _ => (pg_seq rfl (pgs_cons (pg_name (i := 3) sc_goers_many.nd rfl (.inl rfl)) (pgs_cons (pg_name (i := 4) sc_goers_many.nd rfl (.inl rfl)) (pgs_cons (pg_name (i := 5) sc_goers_many.nd rfl (.inl rfl)) pgs_nil))))) (fun _ _ _ _ _ => (pts_one (pt_cmpR op_le (pv 3) (pv 2) (nomark _)))) (fun _ _ _ _ _ => (pe_op op_add (pv 4) (pv 5)))) pa_nil))))), ?_⟩
    refine ⟨_, rfl, _, rfl, v, h, t, s, ss, rfl, hv, l1, fun H0 s0 => ?_⟩
    obtain ⟨p, q, rs, rfl, hp, hq, hs⟩ := hv.same s0
    generalize mk h t (mny ss) s = m at k
    refine ⟨_, rfl, p, _, 2, .ref q, rfl, rfl, hp, rfl, q, _, H0, rfl, hq, Kp.refl _ _, fun J hJ C nC => ?_⟩
    obtain ⟨G, g, W⟩ := hJ.walk
    refine lc_it W (fun i H' => Same H0 H' ∧ H' C = some (.lst ((((ss.take i).filter fun x => decide (x.1 ≤ m)).map fun x => ((x.2.1 + x.2.2 : Nat) : Int)).map V.int))) ⟨same_new nC, upd_same⟩ (fun i H' _ z => g H' (.ofS z.1)) ?_ ?_
    · rintro i x H1 H2 _ ⟨sm, hC⟩ ⟨rfl, gx⟩
      obtain ⟨r, hi, rfl, hr1⟩ := srt_at (hs.same sm) gx
      refine ⟨r, _, rfl, hr1, rfl, _, _, rfl, _, _, rfl, _, _, rfl, rfl, rfl, _, rfl, _, rfl, _, _, rfl, rfl, _, rfl, ite2 (fun c => ⟨_, rfl, _, rfl, _, _, rfl, rfl, _, hC, ?_, same_over sm nC, ?_⟩) (fun c => ⟨sm, ?_⟩)⟩
      · rw [List.length_map, List.length_map]
        exact Nat.lt_of_lt_of_le (tf_le hi) (Nat.le_trans l1 (by decide))
      · rw [upd_same, tfm _ _ hi, if_pos c, List.map_append]
        rfl
      · rw [hC, tfm _ _ hi, if_neg c, List.append_nil]
    · rintro H1 ⟨sm, hC⟩
      rw [List.length_map, hs.1, List.take_length] at hC
      refine ⟨C, _, rfl, SqL.of hC, ?_⟩
      rw [isum]
      exact k H1 (s0.trans sm)
theorem ok_filled {k : Nat} (D : Df K mg "filled_at" s_filled_at) (T : Bt mg) (O_mark_in : Ok P w K mg base k "mark_in" s_mark_in ["fleet", "step"] (spMarkIn K)) :
    Ok P w K mg base (k + 1) "filled_at" s_filled_at ["fleet", "step"] (spFilled K) := by
  refine D.ok sc_filled_at b_filled_at (fun vs H Q E h => ?_) (fun f cdv A outer s H vs Q E hr h => ?_)
  · obtain ⟨v, h, t, s, ss, rfl, _⟩ := h
    rfl
  · obtain ⟨v, h, t, s, ss, rfl, hv, l1, k⟩ := h
    refine ⟨_, (pss_cons (ps_set (i := 2) sc_filled_at.nd rfl (.inr rfl) (pe_fn O_mark_in (hr.mono (by omega)) (pa_cons (pv 0) (pa_cons (pv 1) pa_nil))))
      (pss_one (ps_ret (pe_callB (cr_sum rfl) (by rfl) T.sum_ (by decide +kernel) (pa_cons (pe_lc (own := [("draught", 3), ("ours", 4), ("theirs", 5)]) (g := (gSeq K 3 (gCons (gName 3) (gCons (gName 4) (gCons (gName 5) gNil))))) (tt := tYes) (by rfl) sc_filled_at.nd (pi_seq (pe_ix ix_lt (pv 0) pe_int (fun _ _ => rfl))) (blkOk_by (own := [("draught", 3), ("ours", 4), ("theirs", 5)]) (N := (["fleet", "step", "mark", "draught", "ours", "theirs"] : List Str)) (sc := defScope s_filled_at) (by decide +kernel)) (fun _ _ _ _ _ => (pg_seq rfl (pgs_cons (pg_name (i := 3) sc_filled_at.nd rfl (.inl rfl)) (pgs_cons (pg_name (i := 4) sc_filled_at.nd rfl (.inl rfl)) (pgs_cons (pg_name (i := 5) sc_filled_at.nd rfl (.inl rfl)) pgs_nil))))) (fun _ _ _ _ _ => pts_nil) (fun _ _ _ _ _ => (pe_op op_add (pv 4) (pe_ifExp (pt_cmpR op_le (pv 3) (pv 2) (nomark _)) (pv 5) pe_int)))) pa_nil))))), ?_⟩
    refine ⟨_, rfl, _, rfl, v, h, t, s, ss, rfl, hv, l1, fun H0 s0 => ?_⟩
    obtain ⟨p, q, rs, rfl, hp, hq, hs⟩ := hv.same s0
    generalize mk h t (mny ss) s = m at k
    refine ⟨_, rfl, p, _, 2, .ref q, rfl, rfl, hp, rfl, q, _, H0, rfl, hq, Kp.refl _ _, fun J hJ C nC => ?_⟩
    obtain ⟨G, g, W⟩ := hJ.walk
    refine lc_it W (fun i H' => Same H0 H' ∧ H' C = some (.lst (((ss.take i).map fun x => ((x.2.1 + if x.1 ≤ m then x.2.2 else 0 : Nat) : Int)).map V.int))) ⟨same_new nC, upd_same⟩ (fun i H' _ z => g H' (.ofS z.1)) ?_ ?_
    · rintro i x H1 H2 _ ⟨sm, hC⟩ ⟨rfl, gx⟩
      obtain ⟨r, hi, rfl, hr1⟩ := srt_at (hs.same sm) gx
      have len : (((ss.take i).map fun x => ((x.2.1 + if x.1 ≤ m then x.2.2 else 0 : Nat) : Int)).map V.int).length < sizeLine := by
        rw [List.length_map, List.length_map]
        exact Nat.lt_of_lt_of_le (take_le hi) (Nat.le_trans l1 (by decide))
      refine ⟨r, _, rfl, hr1, rfl, _, _, rfl, _, _, rfl, _, _, rfl, rfl, rfl, tyes (iteT ⟨_, rfl, _, rfl, _, rfl, _, _, rfl, rfl, _, rfl, ite2 (fun c => ⟨_, rfl, _, _, rfl, rfl, _, hC, len, same_over sm nC, ?_⟩) (fun c => ⟨_, _, rfl, rfl, _, hC, len, same_over sm nC, ?_⟩)⟩)⟩
      · have c0 : ss[i].1 ≤ m := of_decide_eq_true c
        rw [upd_same, tm _ hi, List.map_append, if_pos c0]
        rfl
      · have c0 : ¬ ss[i].1 ≤ m := fun z => c (decide_eq_true z)
        rw [upd_same, tm _ hi, List.map_append, if_neg c0]
        rfl
    · rintro H1 ⟨sm, hC⟩
      rw [List.length_map, hs.1, List.take_length] at hC
      refine ⟨C, _, rfl, SqL.of hC, ?_⟩
      rw [isum]
      exact k H1 (s0.trans sm)
theorem ok_low_stop {k : Nat} (D : Df K mg "low_stop" s_low_stop) (T : Bt mg) (O_filled_at : Ok P w K mg base k "filled_at" s_filled_at ["fleet", "step"] (spFilled K)) :
    Ok P w K mg base (k + 1) "low_stop" s_low_stop ["fleet", "top"] (spLowStop K) := by
  refine D.ok sc_low_stop b_low_stop (fun vs H Q E h => ?_) (fun f cdv A outer s H vs Q E hr h => ?_)
  · obtain ⟨v, h, t, top, ss, rfl, _⟩ := h
    rfl
  · obtain ⟨v, h, t, top, ss, rfl, hv, l1, ris, k1, k2⟩ := h
    refine ⟨_, (pss_cons (ps_set (i := 2) sc_low_stop.nd rfl (.inl rfl) (pe_callB (cr_sum rfl) (by rfl) T.sum_ (by decide +kernel) (pa_cons (pe_lc (own := [("draught", 4), ("ours", 5), ("theirs", 6)]) (g := (gSeq K 3 (gCons (gName 4) (gCons (gName 5) (gCons (gName 6) gNil))))) (tt := tYes) (by rfl) sc_low_stop.nd (pi_seq (pe_ix ix_lt (pv 0) pe_int (fun _ _ => rfl))) (blkOk_by (own := [("draught", 4), ("ours", 5), ("theirs", 6)]) (N := (["fleet", "top", "step", "filled", "draught", "ours", "theirs"] : List Str)) (sc := defScope s_low_stop) (by decide +kernel)) (fun _ _ _ _ _ => (pg_seq rfl (pgs_cons (pg_name (i := 4) sc_low_stop.nd rfl (.inl rfl)) (pgs_cons (pg_name (i := 5) sc_low_stop.nd rfl (.inl rfl)) (pgs_cons (pg_name (i := 6) sc_low_stop.nd rfl (.inl rfl)) pgs_nil))))) (fun _ _ _ _ _ => pts_nil) (fun _ _ _ _ _ => (pv 5))) pa_nil)))
      (pss_cons (ps_while PassesOwn.never (pt_cmpR op_le (pv 2) (pv 1) (nomark _))
        (pss_cons (ps_set (i := 3) sc_low_stop.nd rfl (.inl rfl) (pe_fn O_filled_at (hr.mono (by omega)) (pa_cons (pv 0) (pa_cons (pv 2) pa_nil))))
          (pss_cons (ps_if (pt_cmpR op_eq (pv 3) (pv 2) (nomark _))
            (pss_one (ps_ret (pv 2)))
            pss_nil)
          (pss_one (ps_set (i := 2) sc_low_stop.nd rfl (.inl rfl) (pv 3))))))
      (pss_one (ps_ret pe_non)))), ?_⟩
    obtain ⟨p, q, rs, rfl, hp, hq, hs⟩ := id hv
    refine ⟨_, rfl, p, _, 2, .ref q, rfl, rfl, hp, rfl, q, _, H, rfl, hq, Kp.refl _ _, fun J hJ C nC => ?_⟩
    obtain ⟨G, g, W⟩ := hJ.walk
    refine lc_it W (fun i H' => Same H H' ∧ H' C = some (.lst (((ss.take i).map fun x => ((x.2.1 : Nat) : Int)).map V.int))) ⟨same_new nC, upd_same⟩ (fun i H' _ z => g H' (.ofS z.1)) ?_ ?_
    · rintro i x H1 H2 _ ⟨sm, hC⟩ ⟨rfl, gx⟩
      obtain ⟨r, hi, rfl, hr1⟩ := srt_at (hs.same sm) gx
      refine ⟨r, _, rfl, hr1, rfl, _, _, rfl, _, _, rfl, _, _, rfl, rfl, rfl, tyes (iteT ⟨_, rfl, _, hC, ?_, same_over sm nC, ?_⟩)⟩
      · rw [List.length_map, List.length_map]
        exact Nat.lt_of_lt_of_le (take_le hi) (Nat.le_trans l1 (by decide))
      · rw [upd_same, tm _ hi, List.map_append]
        rfl
    rintro H1 ⟨sm, hC⟩
    rw [List.length_map, hs.1, List.take_length] at hC
    refine ⟨C, _, rfl, SqL.of hC, ?_⟩
    rw [isum]
    -- the loop: step is no less than those here; at no step between is it stuck
    refine ⟨fun m σ H' => ∃ (y : Option V) (n : Nat), σ = [some (.ref p), some (.int top), some (.int (n : Int)), y, none, none, none] ∧ Same H H' ∧ ourn ss ≤ n ∧ n ≤ mny ss ∧ mny ss - n = m ∧ (∀ j : Nat, ourn ss ≤ j → j < n → (j : Int) ≤ top → j < filF ss (mk h t (mny ss) (j : Int))) ∧ ((n : Int) ≤ top → n ≤ filF ss (mk h t (mny ss) (n : Int))),
      ⟨_, none, ourn ss, rfl, sm, Nat.le_refl _, ?_, rfl, fun j a b => by omega, fun _ => fil_ge⟩, ?_⟩
    · exact Nat.le_trans (fil_ge (m := 0)) fil_le
    rintro m σ H2 ⟨y, n, rfl, s2, n0, n1, rfl, hj, hn⟩
    refine ⟨_, rfl, _, rfl, _, _, rfl, rfl, _, rfl, ite2 (fun c => ?_) (fun c => ?_)⟩
    · have c0 : (n : Int) ≤ top := of_decide_eq_true c
      refine ⟨fun σ' H' => ∃ (y : Option V) (n' : Nat), σ' = [some (.ref p), some (.int top), some (.int (n' : Int)), y, none, none, none] ∧ Same H H' ∧ ourn ss ≤ n' ∧ n' ≤ mny ss ∧ n < n' ∧ (∀ j : Nat, ourn ss ≤ j → j < n' → (j : Int) ≤ top → j < filF ss (mk h t (mny ss) (j : Int))) ∧ ((n' : Int) ≤ top → n' ≤ filF ss (mk h t (mny ss) (n' : Int))),
        fun σ' H' ⟨y', n', z1, z2, z3, z4, z5, z6, z7⟩ => ⟨_, by omega, y', n', z1, z2, z3, z4, rfl, z6, z7⟩, ?_⟩
      refine ⟨_, rfl, _, rfl, .ref p, h, t, (n : Int), ss, rfl, hv.same s2, l1, fun H3 s3 => ?_⟩
      have s23 := s2.trans s3
      refine ⟨_, rfl, _, rfl, rfl, _, rfl, ite2 (fun c2 => ?_) (fun c2 => ?_)⟩
      · have e : (filF ss (mk h t (mny ss) (n : Int)) : Int) = (n : Int) := V.int.inj (of_decide_eq_true c2)
        exact ⟨_, rfl, k1 H3 n s23 c0 ⟨n0, fun j a b => hj j a b (by omega), by omega⟩⟩
      · have e : ¬ (filF ss (mk h t (mny ss) (n : Int)) : Int) = (n : Int) := fun z => c2 (decide_eq_true (by rw [z]))
        have hn' := hn c0
        refine ⟨_, rfl, _, filF ss (mk h t (mny ss) (n : Int)), rfl, s23, fil_ge, fil_le, by omega, fun j a b d => ?_, fun d => ?_⟩
        · by_cases z : j < n
          · exact hj j a z d
          · have := fil_mono (ss := ss) (ris (n : Int) (j : Int) (by omega) (by omega) d)
            omega
        · exact fil_mono (ris _ _ (by omega) (by omega) d)
    · have c0 : ¬ (n : Int) ≤ top := fun z => c (decide_eq_true z)
      refine k2 H2 s2 fun N a ⟨b1, b2, b3⟩ => ?_
      have := hj N b1 (by omega) a
      omega
theorem ok_turned_fleet {k : Nat} (D : Df K mg "turned_fleet" s_turned_fleet) (T : Bt mg) : Ok P w K mg base (k + 1) "turned_fleet" s_turned_fleet ["fleet"] (spTurnedF K) := by
  refine D.ok sc_turned_fleet b_turned_fleet (fun vs H Q E h => ?_) (fun f cdv A outer s H vs Q E hr h => ?_)
  · obtain ⟨v, h, t, ss, rfl, _⟩ := h
    rfl
  · obtain ⟨v, h, t, ss, rfl, hv, l1, k⟩ := h
    obtain ⟨p, q, rs, rfl, hp, hq, hs⟩ := id hv
    refine ⟨_, (pss_cons (ps_asg (pv 0) (pg_seq rfl (pgs_cons (pg_name (i := 1) sc_turned_fleet.nd rfl (.inl rfl)) (pgs_cons (pg_name (i := 2) sc_turned_fleet.nd rfl (.inl rfl)) (pgs_cons (pg_name (i := 3) sc_turned_fleet.nd rfl (.inl rfl)) pgs_nil)))))
      (pss_one (ps_ret (pe_tup (pa_cons (pv 2) (pa_cons (pv 1) (pa_cons (pe_callTy call_tuple_of (by rfl) T.tuple_ (by decide +kernel) (pa_cons (pe_lc (own := [("draught", 4), ("ours", 5), ("theirs", 6)]) (g := (gSeq K 3 (gCons (gName 4) (gCons (gName 5) (gCons (gName 6) gNil))))) (tt := tYes) (by rfl) sc_turned_fleet.nd (pi_seq (pv 3)) (blkOk_by (own := [("draught", 4), ("ours", 5), ("theirs", 6)]) (N := (["fleet", "here", "there", "sorts", "draught", "ours", "theirs"] : List Str)) (sc := defScope s_turned_fleet) (by decide +kernel)) (fun _ _ _ _ _ => (pg_seq rfl (pgs_cons (pg_name (i := 4) sc_turned_fleet.nd rfl (.inl rfl)) (pgs_cons (pg_name (i := 5) sc_turned_fleet.nd rfl (.inl rfl)) (pgs_cons (pg_name (i := 6) sc_turned_fleet.nd rfl (.inl rfl)) pgs_nil))))) (fun _ _ _ _ _ => pts_nil) (fun _ _ _ _ _ => (pe_tup (pa_cons (pv 4) (pa_cons (pv 6) (pa_cons (pv 5) pa_nil)))))) pa_nil)) pa_nil))))))), ?_⟩
    refine ⟨_, rfl, p, _, rfl, hp, rfl, _, _, rfl, _, _, rfl, _, _, rfl, rfl, ?_⟩
    refine ⟨_, rfl, _, rfl, _, rfl, q, _, H, rfl, hq, Kp.refl _ _, fun J hJ C nC => ?_⟩
    obtain ⟨G, g, W⟩ := hJ.walk
    refine lc_it W (fun i H' => Same H H' ∧ ∃ us : List Addr, H' C = some (.lst (us.map V.ref)) ∧ SrtsN H' us (turnF (ss.take i))) ⟨same_new nC, [], upd_same, ?_⟩ (fun i H' _ z => g H' (.ofS z.1)) ?_ ?_
    · exact ⟨rfl, fun i r x a _ => by simp at a⟩
    · rintro i x H1 H2 _ ⟨sm, us, hC, hu⟩ ⟨rfl, gx⟩
      obtain ⟨r, hi, rfl, hr1⟩ := srt_at (hs.same sm) gx
      have lu : us.length = i := by
        rw [hu.1]
        unfold turnF
        rw [List.length_map, List.length_take]
        omega
      refine ⟨r, _, rfl, hr1, rfl, _, _, rfl, _, _, rfl, _, _, rfl, rfl, rfl, tyes (iteT ⟨_, rfl, _, rfl, _, rfl, (by show 3 ≤ sizeLine; decide), fun u nu => ⟨_, same_new nu _ _ hC, ?_, ?_, us ++ [u], ?_, ?_⟩⟩)⟩
      · rw [List.length_map, lu]
        exact Nat.lt_of_lt_of_le hi (Nat.le_trans l1 (by decide))
      · exact same_over (sm.trans (same_new nu)) nC
      · rw [upd_same, List.map_append]
        rfl
      · have e : turnF (ss.take (i + 1)) = turnF (ss.take i) ++ [(ss[i].1, ss[i].2.2, ss[i].2.1)] := tm _ hi
        rw [e]
        exact (hu.push (x := (ss[i].1, ss[i].2.2, ss[i].2.1)) nu).put (same_new nu _ _ hC)
    · rintro H1 ⟨sm, us, hC, hu⟩
      rw [List.length_map, hs.1, List.take_length] at hu
      refine ⟨C, _, rfl, .inl ⟨SqL.of hC, fun a na => ⟨(by show 3 ≤ sizeLine; decide), fun b nb => ?_⟩⟩⟩
      have s1 : Same H1 (upd H1 a (.tup (us.map V.ref))) := same_new na
      have s2 := s1.trans (same_new nb (o := .tup [.int t, .int h, .ref a]))
      exact k _ _ (sm.trans s2) ⟨b, a, us, rfl, SqA.t upd_same, SqA.t (same_new nb _ _ upd_same), (hu.same s2).a⟩
end
end Sh

namespace Sh
open PySem PySem.Spec PyProof.Rows L2
/-! ### which lot: its kind and its step -/
/-- constants of the top -/
structure Cn (mg : Str → Option Value) : Prop where
  low : ∃ t, mg "LOW" = some (.str "low" t)
  high : ∃ t, mg "HIGH" = some (.str "high" t)
  top : ∃ t, mg "TOP" = some (.str "top" t)
structure Ck (mg : Str → Option Value) (K : PySem.W.Frag) (w : World) : Prop where
  kinds : ∃ a, mg "TURNED_KINDS" = some (.ref a) ∧ KDct K w a "low" (.str "high") ∧ KDct K w a "high" (.str "low") ∧ KDct K w a "top" (.str "top")
section
variable {K : PySem.W.Frag} {mg : Str → Option Value} {w : World}
theorem with_cn {R : Prop} {h : Heap} {t1 t2 t3 : Tok} (X : K.In h) (G : h.Ns mainGlobals mg) (a : PySem.W.nsIn K mainGlobals "LOW" = some (some (.str "low" t1))) (b : PySem.W.nsIn K mainGlobals "HIGH" = some (some (.str "high" t2)))
    (c : PySem.W.nsIn K mainGlobals "TOP" = some (some (.str "top" t3))) (r : Cn mg → R) : R := r ⟨⟨_, PySem.W.mg_of X G a⟩, ⟨_, PySem.W.mg_of X G b⟩, ⟨_, PySem.W.mg_of X G c⟩⟩
theorem with_ck {R : Prop} {h : Heap} {p : Addr} {es : Array DictEntry} {n : Nat} {t1 t2 t3 : Tok} (X : K.In h) (G : h.Ns mainGlobals mg) (a : PySem.W.nsIn K mainGlobals "TURNED_KINDS" = some (some (.ref p))) (l : K.lookup p = some ⟨.type "dict", none, .dict es n, #[]⟩)
    (k : PySem.W.KeysLit w.params es.toList) (d1 : PySem.W.nsIn K p "low" = some (some (.str "high" t1))) (d2 : PySem.W.nsIn K p "high" = some (some (.str "low" t2))) (d3 : PySem.W.nsIn K p "top" = some (some (.str "top" t3))) (r : Ck mg K w → R) : R :=
  r ⟨⟨p, PySem.W.mg_of X G a, ⟨es, n, _, l, k, d1, _, rfl⟩, ⟨es, n, _, l, k, d2, _, rfl⟩, ⟨es, n, _, l, k, d3, _, rfl⟩⟩⟩
end
inductive Kd where
  | low | high | top
def Kd.str : Kd → Str
  | .low => "low"
  | .high => "high"
  | .top => "top"
def Kd.turn : Kd → Kd
  | .low => .high
  | .high => .low
  | .top => .top
theorem Kd.str_inj {a b : Kd} (h : a.str = b.str) : a = b := by
  cases a <;> cases b <;> first | rfl | (exfalso; revert h; decide)
/-- the lot of a fleet -/
def LotF (h t : Int) (ss : List Srt) : Kd → Int → Prop
  | .low, s => ∃ N : Nat, s = (N : Int) ∧ (N : Int) ≤ topI h t (mny ss) ∧ StuckF h t ss N
  | .high, s => ∃ N : Nat, s = (mny ss : Int) - 1 - (N : Int) ∧ (N : Int) ≤ (mny ss : Int) - 1 - topI h t (mny ss) ∧ StuckF t h (turnF ss) N
  | .top, s => s = topI h t (mny ss) ∧ (∀ N : Nat, (N : Int) ≤ topI h t (mny ss) → ¬ StuckF h t ss N) ∧ ∀ N : Nat, (N : Int) ≤ (mny ss : Int) - 1 - topI h t (mny ss) → ¬ StuckF t h (turnF ss) N
/-- a lot told or handed in -/
def LtA (K : PySem.W.Frag) (H : Hp) (v : V) (kd : Kd) (s : Int) : Prop := ∃ p, v = .ref p ∧ SqA K H p [.str kd.str, .int s]
theorem LtA.same {K : PySem.W.Frag} {H H' : Hp} {v : V} {kd : Kd} {s : Int} (l : LtA K H v kd s) (e : Same H H') : LtA K H' v kd s := let ⟨p, a, b⟩ := l; ⟨p, a, Same.sqA e b⟩
theorem rise_top (h t : Int) (n : Nat) : Rise h t n (topI h t n) := fun _ _ a b c => mk_le a b c
theorem rise_turn (h t : Int) (n : Nat) : Rise t h n ((n : Int) - 1 - topI h t n) := fun s s' a b c => by
  rw [mk_turn' (h := h) (t := t), mk_turn' (h := h) (t := t)]
  exact mk_dn (by omega) (by omega) (by omega)
theorem isumN : ∀ l : List Nat, (l.map fun (n : Nat) => (n : Int)).sum = (l.sum : Int)
  | [] => rfl
  | a :: l => by
    rw [List.map_cons, List.sum_cons, isumN l, List.sum_cons]
    rfl
def spLotOf (K : PySem.W.Frag) : Sp := fun vs H Q _ => ∃ (v : V) (h t : Int) (ss : List Srt), vs = [v] ∧ FltA K H v h t ss ∧ ss.length ≤ 1000 ∧
  ∀ (H' : Hp) (p : Addr) (kd : Kd) (s : Int), Same H H' → H p = none → H' p = some (.tup [.str kd.str, .int s]) → LotF h t ss kd s → Q (.ref p) H'
def spTurnedLot (K : PySem.W.Frag) : Sp := fun vs H Q _ => ∃ (v l : V) (h t s : Int) (ss : List Srt) (kd : Kd), vs = [v, l] ∧ FltA K H v h t ss ∧ ss.length ≤ 1000 ∧ LtA K H l kd s ∧
  ∀ (H' : Hp) (z : V), Same H H' → LtA K H' z kd.turn ((mny ss : Int) - 1 - s) → Q z H'
def spFixed (K : PySem.W.Frag) : Sp := fun vs H Q _ => ∃ (v l : V) (h t s : Int) (ss : List Srt) (kd : Kd), vs = [v, l] ∧ FltA K H v h t ss ∧ ss.length ≤ 1000 ∧ LtA K H l kd s ∧
  ∀ (H' : Hp) (p : Addr), Same H H' → H p = none → H' p = some (.lst (((fxF ss (mk h t (mny ss) s)).map fun (n : Nat) => (n : Int)).map V.int)) → Q (.ref p) H'
def spLeastIn (K : PySem.W.Frag) : Sp := fun vs H Q _ => ∃ (v l : V) (h t s : Int) (ss : List Srt) (kd : Kd), vs = [v, l] ∧ FltA K H v h t ss ∧ ss.length ≤ 1000 ∧ LtA K H l kd s ∧
  (kd = .high → ∀ H', Same H H' → Q (.int (s + 1)) H') ∧ (kd ≠ .high → ∀ (H' : Hp) (m : Int), Same H H' → LeastI h t ss s m → Q (.int m) H')
def spMostIn (K : PySem.W.Frag) : Sp := fun vs H Q _ => ∃ (v l : V) (h t s : Int) (ss : List Srt) (kd : Kd), vs = [v, l] ∧ FltA K H v h t ss ∧ ss.length ≤ 1000 ∧ LtA K H l kd s ∧
  (kd = .low → ∀ H', Same H H' → Q (.int s) H') ∧ (kd ≠ .low → ∀ (H' : Hp) (m : Int), Same H H' → LeastI t h (turnF ss) ((mny ss : Int) - 1 - s) m → Q (.int ((mny ss : Int) - m)) H')
/-- the step next to which one goes -/
def nextS : Kd → Int → Int
  | .low, s => s - 1
  | .high, s => s + 1
  | .top, s => s
def spMoving (K : PySem.W.Frag) : Sp := fun vs H Q _ => ∃ (v l : V) (h t s : Int) (ss : List Srt) (kd : Kd), vs = [v, l] ∧ FltA K H v h t ss ∧ ss.length ≤ 1000 ∧ LtA K H l kd s ∧
  ((nextS kd s < 0 ∨ (mny ss : Int) ≤ nextS kd s) → ∀ H', Same H H' → Q .non H') ∧ (0 ≤ nextS kd s → nextS kd s < (mny ss : Int) → ∀ H', Same H H' → Q (.int (mk h t (mny ss) (nextS kd s))) H')
abbrev s_lot_of : Stmt := topS 16
theorem sc_lot_of : FnScope (["fleet", "last", "top", "stop"] : List Str) (["fleet"] : List Str) (defScope s_lot_of) := ⟨rfl, rfl, rfl, by decide +kernel, rfl, by decide +kernel, by decide +kernel⟩
theorem b_lot_of (kV doc pm : Value) (an : Option Addr) (cdv ct : Value) (us : List Value) (hl : us.length = (["fleet"] : List Str).length) : bindArgs (PySem.W.fnOf "lot_of" "lot_of" (defArgs s_lot_of) (defBody s_lot_of) (defScope s_lot_of) .none kV doc pm an cdv ct) ⟨us, []⟩ = pure ((["fleet"] : List Str).zip us) :=
  match us, hl with | [_], _ => rfl
abbrev s_turned_lot : Stmt := topS 17
theorem sc_turned_lot : FnScope (["fleet", "lot", "kind", "step"] : List Str) (["fleet", "lot"] : List Str) (defScope s_turned_lot) := ⟨rfl, rfl, rfl, by decide +kernel, rfl, by decide +kernel, by decide +kernel⟩
theorem b_turned_lot (kV doc pm : Value) (an : Option Addr) (cdv ct : Value) (us : List Value) (hl : us.length = (["fleet", "lot"] : List Str).length) : bindArgs (PySem.W.fnOf "turned_lot" "turned_lot" (defArgs s_turned_lot) (defBody s_turned_lot) (defScope s_turned_lot) .none kV doc pm an cdv ct) ⟨us, []⟩ = pure ((["fleet", "lot"] : List Str).zip us) :=
  match us, hl with | [_, _], _ => rfl
abbrev s_fixed_ones : Stmt := topS 18
theorem sc_fixed_ones : FnScope (["fleet", "lot", "mark", "draught", "ours", "theirs"] : List Str) (["fleet", "lot"] : List Str) (defScope s_fixed_ones) := ⟨rfl, rfl, rfl, by decide +kernel, rfl, by decide +kernel, by decide +kernel⟩
theorem b_fixed_ones (kV doc pm : Value) (an : Option Addr) (cdv ct : Value) (us : List Value) (hl : us.length = (["fleet", "lot"] : List Str).length) : bindArgs (PySem.W.fnOf "fixed_ones" "fixed_ones" (defArgs s_fixed_ones) (defBody s_fixed_ones) (defScope s_fixed_ones) .none kV doc pm an cdv ct) ⟨us, []⟩ = pure ((["fleet", "lot"] : List Str).zip us) :=
  match us, hl with | [_, _], _ => rfl
section
variable {P : Program} {w : World} {K : PySem.W.Frag} {mg : Str → Option Value} {base : Heap}
theorem ok_lot_of {k : Nat} (D : Df K mg "lot_of" s_lot_of) (T : Bt mg) (C : Cn mg) (O_ships_many : Ok P w K mg base k "ships_many" s_ships_many ["fleet"] (spShips K)) (O_top_in : Ok P w K mg base k "top_in" s_top_in ["fleet"] (spTopIn K))
    (O_low_stop : Ok P w K mg base k "low_stop" s_low_stop ["fleet", "top"] (spLowStop K)) (O_turned_fleet : Ok P w K mg base k "turned_fleet" s_turned_fleet ["fleet"] (spTurnedF K)) : Ok P w K mg base (k + 1) "lot_of" s_lot_of ["fleet"] (spLotOf K) := by
  obtain ⟨_, g_LOW⟩ := C.low
  obtain ⟨_, g_HIGH⟩ := C.high
  obtain ⟨_, g_TOP⟩ := C.top
  refine D.ok sc_lot_of b_lot_of (fun vs H Q E h => ?_) (fun f cdv A outer s H vs Q E hr h => ?_)
  · obtain ⟨v, h, t, ss, rfl, _⟩ := h
    rfl
  · obtain ⟨v, h, t, ss, rfl, hv, l1, k⟩ := h
    refine ⟨_, (pss_cons (ps_set (i := 1) sc_lot_of.nd rfl (.inl rfl) (pe_op op_sub (pe_fn O_ships_many (hr.mono (by omega)) (pa_cons (pv 0) pa_nil)) pe_int))
      (pss_cons (ps_set (i := 2) sc_lot_of.nd rfl (.inl rfl) (pe_fn O_top_in (hr.mono (by omega)) (pa_cons (pv 0) pa_nil)))
      (pss_cons (ps_set (i := 3) sc_lot_of.nd rfl (.inl rfl) (pe_fn O_low_stop (hr.mono (by omega)) (pa_cons (pv 0) (pa_cons (pv 2) pa_nil))))
      (pss_cons (ps_if (pt_cmpR op_notN (pv 3) pe_non (nomark _))
        (pss_one (ps_ret (pe_tup (pa_cons (pe_glob (v := .str "low") (by rfl) g_LOW ⟨_, rfl⟩) (pa_cons (pv 3) pa_nil)))))
        pss_nil)
      (pss_cons (ps_set (i := 3) sc_lot_of.nd rfl (.inl rfl) (pe_fn O_low_stop (hr.mono (by omega)) (pa_cons (pe_fn O_turned_fleet (hr.mono (by omega)) (pa_cons (pv 0) pa_nil)) (pa_cons (pe_op op_sub (pv 1) (pv 2)) pa_nil))))
      (pss_cons (ps_if (pt_cmpR op_notN (pv 3) pe_non (nomark _))
        (pss_one (ps_ret (pe_tup (pa_cons (pe_glob (v := .str "high") (by rfl) g_HIGH ⟨_, rfl⟩) (pa_cons (pe_op op_sub (pv 1) (pv 3)) pa_nil)))))
        pss_nil)
      (pss_one (ps_ret (pe_tup (pa_cons (pe_glob (v := .str "top") (by rfl) g_TOP ⟨_, rfl⟩) (pa_cons (pv 2) pa_nil))))))))))), ?_⟩
    refine ⟨_, rfl, v, h, t, ss, rfl, hv, l1, fun H1 s1 => ⟨_, 1, rfl, rfl, ?_⟩⟩
    refine ⟨_, rfl, v, h, t, ss, rfl, hv.same s1, l1, fun H2 s2 => ?_⟩
    have s02 := s1.trans s2
    refine ⟨_, rfl, _, rfl, v, h, t, topI h t (mny ss), ss, rfl, hv.same s02, l1, rise_top _ _ _, fun H3 N s3 a b => ?_, fun H3 s3 no => ?_⟩
    · refine ⟨_, rfl, rfl, _, rfl, iteT ⟨_, rfl, (by show 2 ≤ sizeLine; decide), fun p np => ?_⟩⟩
      have s03 := s02.trans s3
      exact k _ p .low (N : Int) (s03.trans (same_new np)) (s03.free np) upd_same ⟨N, rfl, a, b⟩
    · have s03 := s02.trans s3
      refine ⟨_, rfl, rfl, _, rfl, iteF ?_⟩
      refine ⟨_, rfl, v, h, t, ss, rfl, hv.same s03, l1, fun H4 z s4 hz => ?_⟩
      have s04 := s03.trans s4
      refine ⟨_, rfl, _, rfl, _, _, rfl, rfl, z, t, h, (mny ss : Int) - 1 - topI h t (mny ss), turnF ss, rfl, hz, ?_, ?_, fun H5 N s5 a b => ?_, fun H5 s5 no2 => ?_⟩
      · unfold turnF
        rw [List.length_map]
        exact l1
      · rw [mny_turn]
        exact rise_turn h t _
      · refine ⟨_, rfl, rfl, _, rfl, iteT ⟨_, rfl, _, rfl, _, _, rfl, rfl, (by show 2 ≤ sizeLine; decide), fun p np => ?_⟩⟩
        have s05 := s04.trans s5
        exact k _ p .high _ (s05.trans (same_new np)) (s05.free np) upd_same ⟨N, rfl, a, b⟩
      · refine ⟨_, rfl, rfl, _, rfl, iteF ⟨_, rfl, (by show 2 ≤ sizeLine; decide), fun p np => ?_⟩⟩
        have s05 := s04.trans s5
        exact k _ p .top _ (s05.trans (same_new np)) (s05.free np) upd_same ⟨rfl, no, no2⟩
theorem ok_turned_lot {k : Nat} (D : Df K mg "turned_lot" s_turned_lot) (T : Bt mg) (C : Ck mg K w) (O_ships_many : Ok P w K mg base k "ships_many" s_ships_many ["fleet"] (spShips K)) : Ok P w K mg base (k + 1) "turned_lot" s_turned_lot ["fleet", "lot"] (spTurnedLot K) := by
  obtain ⟨a_TURNED_KINDS, g_TURNED_KINDS, d1, d2, d3⟩ := C.kinds
  refine D.ok sc_turned_lot b_turned_lot (fun vs H Q E h => ?_) (fun f cdv A outer s H vs Q E hr h => ?_)
  · obtain ⟨v, l, h, t, s, ss, kd, rfl, _⟩ := h
    rfl
  · obtain ⟨v, l, h, t, s, ss, kd, rfl, hv, l1, ⟨p, rfl, hp⟩, k⟩ := h
    have dd : KDct K w a_TURNED_KINDS kd.str (.str kd.turn.str) := by
      cases kd
      · exact d1
      · exact d2
      · exact d3
    refine ⟨_, (pss_cons (ps_asg (pv 1) (pg_seq rfl (pgs_cons (pg_name (i := 2) sc_turned_lot.nd rfl (.inl rfl)) (pgs_cons (pg_name (i := 3) sc_turned_lot.nd rfl (.inl rfl)) pgs_nil))))
      (pss_one (ps_ret (pe_tup (pa_cons (pe_ix ix_kdict (pe_glob (v := .ref a_TURNED_KINDS) (by rfl) g_TURNED_KINDS rfl) (pv 2) (fun _ _ => rfl)) (pa_cons (pe_op op_sub (pe_op op_sub (pe_fn O_ships_many (hr.mono (by omega)) (pa_cons (pv 0) pa_nil)) pe_int) (pv 3)) pa_nil)))))), ?_⟩
    refine ⟨_, rfl, p, _, rfl, hp, rfl, _, _, rfl, _, _, rfl, rfl, ?_⟩
    refine ⟨_, rfl, a_TURNED_KINDS, _, _, rfl, rfl, dd, ?_⟩
    refine ⟨_, rfl, v, h, t, ss, rfl, hv, l1, fun H1 s1 => ⟨_, 1, rfl, rfl, _, rfl, _, _, rfl, rfl, (by show 2 ≤ sizeLine; decide), fun u nu => ?_⟩⟩
    exact k _ _ (s1.trans (same_new nu)) ⟨u, rfl, SqA.t upd_same⟩
theorem ok_fixed {k : Nat} (D : Df K mg "fixed_ones" s_fixed_ones) (T : Bt mg) (O_mark_in : Ok P w K mg base k "mark_in" s_mark_in ["fleet", "step"] (spMarkIn K)) : Ok P w K mg base (k + 1) "fixed_ones" s_fixed_ones ["fleet", "lot"] (spFixed K) := by
  refine D.ok sc_fixed_ones b_fixed_ones (fun vs H Q E h => ?_) (fun f cdv A outer s H vs Q E hr h => ?_)
  · obtain ⟨v, l, h, t, s, ss, kd, rfl, _⟩ := h
    rfl
  · obtain ⟨v, l, h, t, s, ss, kd, rfl, hv, l1, ⟨pl, rfl, hpl⟩, k⟩ := h
    refine ⟨_, (pss_cons (ps_set (i := 2) sc_fixed_ones.nd rfl (.inr rfl) (pe_fn O_mark_in (hr.mono (by omega)) (pa_cons (pv 0) (pa_cons (pe_ix ix_lt (pv 1) pe_int (fun _ _ => rfl)) pa_nil))))
      (pss_one (ps_ret (pe_lc (own := [("draught", 3), ("ours", 4), ("theirs", 5)]) (g := (gSeq K 3 (gCons (gName 3) (gCons (gName 4) (gCons (gName 5) gNil))))) (by rfl) sc_fixed_ones.nd (pi_seq (pe_ix ix_lt (pv 0) pe_int (fun _ _ => rfl))) (blkOk_by (own := [("draught", 3), ("ours", 4), ("theirs", 5)]) (N := (["fleet", "lot", "mark", "draught", "ours", "theirs"] : List Str)) (sc := defScope s_fixed_ones) (by decide +kernel)) (fun _ _ _ _ _ => (pg_seq rfl (pgs_cons (pg_name (i := 3) sc_fixed_ones.nd rfl (.inl rfl)) (pgs_cons (pg_name (i := 4) sc_fixed_ones.nd rfl (.inl rfl)) (pgs_cons (pg_name (i := 5) sc_fixed_ones.nd rfl (.inl rfl)) pgs_nil))))) (fun _ _ _ _ _ => (pts_one (pt_cmpR op_gt (pv 3) (pv 2) (nomark _)))) (fun _ _ _ _ _ => (pv 4)))))), ?_⟩
    refine ⟨_, rfl, _, rfl, pl, _, 1, _, rfl, rfl, hpl, rfl, v, h, t, s, ss, rfl, hv, l1, fun H0 s0 => ?_⟩
    obtain ⟨p, q, rs, rfl, hp, hq, hs⟩ := hv.same s0
    unfold fxF at k
    generalize mk h t (mny ss) s = m at k
    refine ⟨_, rfl, p, _, 2, .ref q, rfl, rfl, hp, rfl, q, _, H0, rfl, hq, Kp.refl _ _, fun J hJ C nC => ?_⟩
    obtain ⟨G, g, W⟩ := hJ.walk
    refine lc_it W (fun i H' => Same H0 H' ∧ H' C = some (.lst (((((ss.take i).filter fun x => decide (x.1 > m)).map fun x => x.2.1).map fun (n : Nat) => (n : Int)).map V.int))) ⟨same_new nC, upd_same⟩ (fun i H' _ z => g H' (.ofS z.1)) ?_ ?_
    · rintro i x H1 H2 _ ⟨sm, hC⟩ ⟨rfl, gx⟩
      obtain ⟨r, hi, rfl, hr1⟩ := srt_at (hs.same sm) gx
      refine ⟨r, _, rfl, hr1, rfl, _, _, rfl, _, _, rfl, _, _, rfl, rfl, rfl, _, rfl, _, rfl, _, _, rfl, rfl, _, rfl, ite2 (fun c => ⟨_, rfl, _, hC, ?_, same_over sm nC, ?_⟩) (fun c => ⟨sm, ?_⟩)⟩
      · rw [List.length_map, List.length_map, List.length_map]
        exact Nat.lt_of_lt_of_le (tf_le hi) (Nat.le_trans l1 (by decide))
      · rw [upd_same, tfm _ _ hi, if_pos c, List.map_append, List.map_append]
        rfl
      · rw [hC, tfm _ _ hi, if_neg c, List.append_nil]
    · rintro H1 ⟨sm, hC⟩
      rw [List.length_map, hs.1, List.take_length] at hC
      exact k H1 C (s0.trans sm) (s0.free nC) hC
end
end Sh

namespace Sh
open PySem PySem.Spec PyProof.Rows L2
/-! ### a sea's fleet -/
theorem len_os {k : Nat} {L : List Nat} (hL : Lot k L) (D : Nat → Int) (d : Int) : ((L.map D).filter fun o => decide (o = d)).length = Th.cnt k (fun i => mem L i && decide (D i = d)) := by
  rw [List.filter_map, List.length_map]
  conv => lhs; rw [hL.mem_eq]
  rw [List.filter_filter]
  unfold Th.cnt
  rw [List.countP_eq_length_filter]
  congr 1
  refine List.filter_congr fun a _ => ?_
  show (decide (D a = d) && decide (a ∈ L)) = (mem L a && decide (D a = d))
  rw [Bool.and_comm]
  rfl
theorem ds_map (ds : List Int) : ds = (List.range ds.length).map fun i => ds.getD i 0 := by
  refine List.ext_getElem (by simp) fun i h1 h2 => ?_
  simp [h1]
theorem len_ds (ds : List Int) (d : Int) : (ds.filter fun o => decide (o = d)).length = Th.cnt ds.length (fun i => decide (ds.getD i 0 = d)) := by
  conv => lhs; rw [ds_map ds]
  rw [List.filter_map, List.length_map]
  unfold Th.cnt
  rw [List.countP_eq_length_filter]
  rfl
theorem sum_if (P : Int → Bool) (x : Int) (b : Bool) : ∀ {ns : List Int}, ns.Nodup → x ∈ ns → ((ns.filter P).map fun d => if (b && decide (x = d)) = true then 1 else 0).sum = if (P x && b) = true then 1 else 0 := by
  have none : ∀ {ns : List Int}, ¬ x ∈ ns → ((ns.filter P).map fun d => if (b && decide (x = d)) = true then 1 else 0).sum = 0 := by
    intro ns
    induction ns with
    | nil => intro _; rfl
    | cons a l ih =>
      intro h
      have h1 : ¬ x = a := fun e => h (e ▸ List.mem_cons_self)
      have h2 := ih fun q => h (List.mem_cons_of_mem _ q)
      by_cases c : P a = true
      · rw [List.filter_cons_of_pos c, List.map_cons, List.sum_cons, h2, decide_eq_false h1, Bool.and_false]
        rfl
      · rw [List.filter_cons_of_neg c]
        exact h2
  intro ns
  induction ns with
  | nil => intro _ h; cases h
  | cons a l ih =>
    intro nd h
    obtain ⟨n1, n2⟩ := List.nodup_cons.mp nd
    by_cases e : x = a
    · subst e
      have h0 := none n1
      by_cases c : P x = true
      · rw [List.filter_cons_of_pos c, List.map_cons, List.sum_cons, h0, decide_eq_true rfl, Bool.and_true, c, Bool.true_and, Nat.add_zero]
      · rw [List.filter_cons_of_neg c, h0]
        have c' : P x = false := by simpa using c
        rw [c', Bool.false_and]
        rfl
    · have hx : x ∈ l := by
        rcases List.mem_cons.mp h with q | q
        · exact absurd q e
        · exact q
      have h2 := ih n2 hx
      by_cases c : P a = true
      · rw [List.filter_cons_of_pos c, List.map_cons, List.sum_cons, h2, decide_eq_false e, Bool.and_false]
        show 0 + _ = _
        rw [Nat.zero_add]
      · rw [List.filter_cons_of_neg c]
        exact h2
theorem sum_two' {α : Type} (f g : α → Nat) : ∀ l : List α, (l.map fun x => f x + g x).sum = (l.map f).sum + (l.map g).sum
  | [] => rfl
  | a :: l => by
    simp only [List.map_cons, List.sum_cons, sum_two' f g l]
    omega
theorem sum_zero {α : Type} : ∀ l : List α, (l.map fun _ => 0).sum = 0
  | [] => rfl
  | a :: l => by rw [List.map_cons, List.sum_cons, sum_zero l]
theorem sum_cnt (P : Int → Bool) (D : Nat → Int) (R : Nat → Bool) {ns : List Int} (nd : ns.Nodup) : ∀ k : Nat, (∀ i, i < k → D i ∈ ns) → ((ns.filter P).map fun d => Th.cnt k (fun i => R i && decide (D i = d))).sum = Th.cnt k (fun i => P (D i) && R i)
  | 0, _ => sum_zero _
  | k + 1, h => by
    have ih := sum_cnt P D R nd k fun i hi => h i (by omega)
    have e : ((ns.filter P).map fun d => Th.cnt (k + 1) (fun i => R i && decide (D i = d))).sum = ((ns.filter P).map fun d => Th.cnt k (fun i => R i && decide (D i = d)) + if (R k && decide (D k = d)) = true then 1 else 0).sum := by
      congr 1
      exact List.map_congr_left fun d _ => Th.cnt_succ _ _
    rw [e, sum_two', ih, sum_if P (D k) (R k) nd (h k (by omega)), Th.cnt_succ]
/-- the sorts of a sea's ships -/
def sortsOf (ds : List Int) (L : List Nat) (ns : List Int) : List Srt := ns.map fun d => (d, ((L.map fun i => ds.getD i 0).filter fun o => decide (o = d)).length, (ds.filter fun o => decide (o = d)).length - ((L.map fun i => ds.getD i 0).filter fun o => decide (o = d)).length)
theorem sorts_rp {ds : List Int} {L : List Nat} {ns : List Int} (hL : Lot ds.length L) (nd : ns.Nodup) (hm : ∀ d : Int, d ∈ ds → d ∈ ns) : Rp (sortsOf ds L ns) ds.length (fun i => ds.getD i 0) (mem L) := by
  have hD : ∀ i, i < ds.length → ds.getD i 0 ∈ ns := fun i hi => hm _ (by
    have : ds.getD i 0 = ds[i] := by simp [hi]
    rw [this]
    exact List.getElem_mem hi)
  refine ⟨fun P => ?_, fun P => ?_⟩
  · unfold sortsOf
    rw [List.filter_map, List.map_map, ← sum_cnt P (fun i => ds.getD i 0) (mem L) nd ds.length hD]
    congr 1
    exact List.map_congr_left fun d _ => len_os hL _ d
  · unfold sortsOf
    rw [List.filter_map, List.map_map, ← sum_cnt P (fun i => ds.getD i 0) (fun i => !mem L i) nd ds.length hD]
    congr 1
    refine List.map_congr_left fun d _ => ?_
    show (ds.filter fun o => decide (o = d)).length - ((L.map fun i => ds.getD i 0).filter fun o => decide (o = d)).length = _
    rw [len_os hL, len_ds]
    have e := Th.cnt_split (k := ds.length) (fun i => decide (ds.getD i 0 = d)) (mem L)
    have e1 : Th.cnt ds.length (fun i => decide (ds.getD i 0 = d) && mem L i) = Th.cnt ds.length (fun i => mem L i && decide (ds.getD i 0 = d)) := Th.cnt_congr fun i _ => Bool.and_comm _ _
    have e2 : Th.cnt ds.length (fun i => decide (ds.getD i 0 = d) && !mem L i) = Th.cnt ds.length (fun i => !mem L i && decide (ds.getD i 0 = d)) := Th.cnt_congr fun i _ => Bool.and_comm _ _
    omega
theorem lying_le {ds : List Int} {L : List Nat} (hL : Lot ds.length L) (d : Int) : ((L.map fun i => ds.getD i 0).filter fun o => decide (o = d)).length ≤ (ds.filter fun o => decide (o = d)).length := by
  rw [len_os hL, len_ds]
  exact Th.cnt_mono fun i _ h => by
    revert h
    cases mem L i <;> simp
/-! ### what a lot tells of its standings -/
section
variable {ss : List Srt} {k : Nat} {D : Nat → Int} {S : Nat → Bool} {h t : Int}
theorem low_low (r : Rp ss k D S) {N : Nat} (st : StuckF h t ss N) : Th.StuckLow k (Gd h t k D) N S := (r.stuck h t N).mp st
theorem high_high (r : Rp ss k D S) (hk : 0 < k) {N : Nat} (hN : (N : Int) ≤ (k : Int) - 1 - topI h t k) (st : StuckF t h (turnF ss) N) : Th.StuckLow k (Th.dual k (Gd h t k D)) N (Th.co S) := by
  have t0 := top_lo' h t k
  exact Th.StuckLow.congr (by omega) (fun s i hs => Gd_turn hs) ((r.turn.stuck t h N).mp st)
theorem high_back (r : Rp ss k D S) (hk : 0 < k) {N : Nat} (hN : (N : Int) ≤ (k : Int) - 1 - topI h t k) (st : Th.StuckLow k (Th.dual k (Gd h t k D)) N (Th.co S)) : StuckF t h (turnF ss) N := by
  have t0 := top_lo' h t k
  exact (r.turn.stuck t h N).mpr (Th.StuckLow.congr (by omega) (fun s i hs => (Gd_turn hs).symm) st)
/-- a lot by its kind, in terms of ships -/
def LotS (h t : Int) (k : Nat) (D : Nat → Int) (S : Nat → Bool) : Kd → Int → Prop
  | .low, s => ∃ N : Nat, s = (N : Int) ∧ N ≤ (topI h t k).toNat ∧ Th.StuckLow k (Gd h t k D) N S
  | .high, s => ∃ N : Nat, s = (k : Int) - 1 - (N : Int) ∧ N ≤ k - 1 - (topI h t k).toNat ∧ Th.StuckLow k (Th.dual k (Gd h t k D)) N (Th.co S)
  | .top, s => s = topI h t k ∧ Th.Open k (Gd h t k D) (topI h t k).toNat S
theorem LotF.ships (r : Rp ss k D S) (hk : 0 < k) {kd : Kd} {s : Int} (l : LotF h t ss kd s) : LotS h t k D S kd s := by
  have t0 := top_lo' h t k
  have t1 := top_hi' h t hk
  have tp := top_D h t D hk
  unfold LotF at l
  cases kd with
  | low =>
    obtain ⟨N, e, a, b⟩ := l
    rw [r.mny] at a
    exact ⟨N, e, by omega, low_low r b⟩
  | high =>
    obtain ⟨N, e, a, b⟩ := l
    rw [r.mny] at a e
    exact ⟨N, e, by omega, high_high r hk a b⟩
  | top =>
    obtain ⟨e, a, b⟩ := l
    rw [r.mny] at a e b
    refine ⟨e, ?_⟩
    rcases Th.sorts (S := S) tp with ⟨N, hN, sl⟩ | ⟨N, hN, sl⟩ | q
    · exact absurd ((r.stuck h t N).mpr sl) (a N (by omega))
    · exact absurd (high_back r hk (by omega) sl) (b N (by omega))
    · exact q
end
end Sh
namespace Th
section
variable {k : Nat} {G : Nat → Nat → Bool} {S U : Nat → Bool} {T : Nat}
/-- where one stops tells from the other -/
theorem low_uniq {N N' : Nat} (a : StuckLow k G N S) (b : StuckLow k G N' S) : N = N' := by
  obtain ⟨a1, a2, a3⟩ := a
  obtain ⟨b1, b2, b3⟩ := b
  by_cases z : N < N'
  · have := b2 N a1 z
    omega
  · by_cases z2 : N' < N
    · have := a2 N' b1 z2
      omega
    · omega
theorem low_high {N N' : Nat} (t : Top k G T) (hN : N ≤ T) (a : StuckLow k G N S) (hN' : N' ≤ k - 1 - T) (b : StuckLow k (Th.dual k G) N' (co S)) : False := by
  have := a.1
  have := b.1
  have := cnt_co k S
  have := t.lt
  omega
theorem low_open {N : Nat} (t : Top k G T) (hN : N ≤ T) (a : StuckLow k G N S) (b : Open k G T S) : False := by
  obtain ⟨rs, c⟩ := b
  rcases rs with q | q
  · by_cases z : N = T
    · subst z
      have := a.2.2
      omega
    · have := q.2 N a.1 (by omega)
      have := a.2.2
      omega
  · have := a.1
    have := q.1
    omega
theorem high_open {N : Nat} (t : Top k G T) (hN : N ≤ k - 1 - T) (a : StuckLow k (Th.dual k G) N (co S)) (b : Open k G T S) : False := low_open t.dual hN a (b.dual t)
theorem Reach.out (r : Reach k G S U) : ∀ i, ¬ i < k → U i = S i := reach_out r
/-- the lot of an open one is kept -/
theorem Open.same (t : Top k G T) (a : Open k G T S) (r : Reach k G S U) : Open k G T U := by
  rcases sorts (S := U) t with ⟨N, hN, sl⟩ | ⟨N, hN, sl⟩ | q
  · exact absurd a fun a => low_open t hN (sl.same t hN r.symm) a
  · exact absurd a fun a => high_open t hN (sl.same t.dual hN r.symm.dual) a
  · exact q
theorem high_iff {N : Nat} (t : Top k G T) (hN : N ≤ k - 1 - T) (h : StuckLow k (Th.dual k G) N (co S)) (ho : ∀ i, ¬ i < k → U i = S i) : Reach k G S U ↔ StuckLow k (Th.dual k G) N (co U) ∧ ∀ i, i < k → (co U i || Th.dual k G N i) = (co S i || Th.dual k G N i) := by
  rw [← h.iff (U := co U) t.dual hN fun i hi => by unfold co; rw [ho i hi]]
  exact ⟨fun r => r.dual, fun r => r.codual⟩
end
end Th
namespace Sh
open PySem PySem.Spec PyProof.Rows L2
section
variable {ss : List Srt} {k : Nat} {D : Nat → Int} {S U : Nat → Bool} {h t : Int}
/-- a lot's kind and step are kept by crossings -/
theorem LotS.same (hk : 0 < k) {kd : Kd} {s : Int} (l : LotS h t k D S kd s) (r : Th.Reach k (Gd h t k D) S U) : LotS h t k D U kd s := by
  have tp := top_D h t D hk
  cases kd with
  | low =>
    obtain ⟨N, e, a, b⟩ := l
    exact ⟨N, e, a, b.same tp a r⟩
  | high =>
    obtain ⟨N, e, a, b⟩ := l
    exact ⟨N, e, a, b.same tp.dual a r.dual⟩
  | top =>
    obtain ⟨e, a⟩ := l
    exact ⟨e, a.same tp r⟩
theorem LotS.uniq (hk : 0 < k) {kd kd' : Kd} {s s' : Int} (l : LotS h t k D S kd s) (l' : LotS h t k D S kd' s') : kd = kd' ∧ s = s' := by
  have tp := top_D h t D hk
  cases kd with
  | low =>
    obtain ⟨N, e, a, b⟩ := l
    cases kd' with
    | low =>
      obtain ⟨N', e', a', b'⟩ := l'
      have := Th.low_uniq b b'
      exact ⟨rfl, by omega⟩
    | high =>
      obtain ⟨N', e', a', b'⟩ := l'
      exact (Th.low_high tp a b a' b').elim
    | top => exact (Th.low_open tp a b l'.2).elim
  | high =>
    obtain ⟨N, e, a, b⟩ := l
    cases kd' with
    | low =>
      obtain ⟨N', e', a', b'⟩ := l'
      exact (Th.low_high tp a' b' a b).elim
    | high =>
      obtain ⟨N', e', a', b'⟩ := l'
      have := Th.low_uniq b b'
      exact ⟨rfl, by omega⟩
    | top => exact (Th.high_open tp a b l'.2).elim
  | top =>
    obtain ⟨e, a⟩ := l
    cases kd' with
    | low =>
      obtain ⟨N', e', a', b'⟩ := l'
      exact (Th.low_open tp a' b' a).elim
    | high =>
      obtain ⟨N', e', a', b'⟩ := l'
      exact (Th.high_open tp a' b' a).elim
    | top => exact ⟨rfl, by rw [e, l'.1]⟩
/-- one comes to the other just where the lots' words are the same and those that don't go lie alike -/
theorem LotS.reach (hk : 0 < k) {kd : Kd} {s : Int} (l : LotS h t k D S kd s) (l' : LotS h t k D U kd s) (ho : ∀ i, ¬ i < k → U i = S i) : Th.Reach k (Gd h t k D) S U ↔ ∀ i, i < k → ¬ D i ≤ mk h t k s → U i = S i := by
  have tp := top_D h t D hk
  have t0 := top_lo' h t k
  have t1 := top_hi' h t hk
  cases kd with
  | low =>
    obtain ⟨N, e, a, b⟩ := l
    obtain ⟨N', e', a', b'⟩ := l'
    obtain rfl : N = N' := by omega
    rw [b.iff tp a ho]
    have key : ∀ i, ((U i || Gd h t k D N i) = (S i || Gd h t k D N i)) ↔ (¬ D i ≤ mk h t k s → U i = S i) := fun i => by
      unfold Gd
      rw [← e]
      by_cases z : D i ≤ mk h t k s
      · rw [decide_eq_true z, Bool.or_true, Bool.or_true]
        exact ⟨fun _ w => absurd z w, fun _ => rfl⟩
      · rw [decide_eq_false z, Bool.or_false, Bool.or_false]
        exact ⟨fun q _ => q, fun q => q z⟩
    exact ⟨fun q i hi => (key i).mp (q.2 i hi), fun q => ⟨b', fun i hi => (key i).mpr (q i hi)⟩⟩
  | high =>
    obtain ⟨N, e, a, b⟩ := l
    obtain ⟨N', e', a', b'⟩ := l'
    obtain rfl : N = N' := by omega
    rw [Th.high_iff tp a b ho]
    have key : ∀ i, ((Th.co U i || Th.dual k (Gd h t k D) N i) = (Th.co S i || Th.dual k (Gd h t k D) N i)) ↔ (¬ D i ≤ mk h t k s → U i = S i) := fun i => by
      show ((!U i || decide (D i ≤ mk h t k ((k - 1 - N : Nat) : Int))) = (!S i || decide (D i ≤ mk h t k ((k - 1 - N : Nat) : Int)))) ↔ _
      rw [show ((k - 1 - N : Nat) : Int) = s by omega]
      by_cases z : D i ≤ mk h t k s
      · rw [decide_eq_true z, Bool.or_true, Bool.or_true]
        exact ⟨fun _ w => absurd z w, fun _ => rfl⟩
      · rw [decide_eq_false z, Bool.or_false, Bool.or_false]
        refine ⟨fun q _ => ?_, fun q => by rw [q z]⟩
        revert q
        cases U i <;> cases S i <;> simp
    exact ⟨fun q i hi => (key i).mp (q.2 i hi), fun q => ⟨b', fun i hi => (key i).mpr (q i hi)⟩⟩
  | top =>
    obtain ⟨e, a⟩ := l
    obtain ⟨_, a'⟩ := l'
    have key : ∀ i, (Gd h t k D (topI h t k).toNat i = false) ↔ ¬ D i ≤ mk h t k s := fun i => by
      unfold Gd
      rw [show (((topI h t k).toNat : Nat) : Int) = s by omega, decide_eq_false_iff_not]
    exact ⟨fun r i hi z => Th.fast_inv tp r i hi ((key i).mpr z), fun q => Th.open_reach tp a.1 a'.1 (fun i hi g => q i hi ((key i).mp g)) ho⟩
theorem LotS.comes (hk : 0 < k) {kd kd' : Kd} {s s' : Int} (l : LotS h t k D S kd s) (l' : LotS h t k D U kd' s') (ho : ∀ i, ¬ i < k → U i = S i) : Th.Reach k (Gd h t k D) S U ↔ (kd = kd' ∧ s = s') ∧ ∀ i, i < k → ¬ D i ≤ mk h t k s → U i = S i := by
  constructor
  · intro r
    obtain ⟨e1, e2⟩ := (l.same hk r).uniq hk l'
    subst e1
    subst e2
    exact ⟨⟨rfl, rfl⟩, (l.reach hk l' ho).mp r⟩
  · rintro ⟨⟨e1, e2⟩, q⟩
    subst e1
    subst e2
    exact (l.reach hk l' ho).mpr q
/-- who ever goes -/
theorem LotS.moves (hk : 0 < k) {kd : Kd} {s : Int} (l : LotS h t k D S kd s) {i : Nat} (hi : i < k) : Th.Moves k (Gd h t k D) S i ↔ 0 ≤ nextS kd s ∧ nextS kd s < (k : Int) ∧ D i ≤ mk h t k (nextS kd s) := by
  have tp := top_D h t D hk
  have t0 := top_lo' h t k
  have t1 := top_hi' h t hk
  cases kd with
  | low =>
    obtain ⟨N, e, a, b⟩ := l
    rw [Th.moves_low b tp a hi]
    show (0 < N ∧ decide (D i ≤ mk h t k ((N - 1 : Nat) : Int)) = true) ↔ 0 ≤ s - 1 ∧ s - 1 < (k : Int) ∧ D i ≤ mk h t k (s - 1)
    rw [decide_eq_true_eq]
    constructor
    · rintro ⟨n0, g⟩
      rw [show ((N - 1 : Nat) : Int) = s - 1 by omega] at g
      exact ⟨by omega, by omega, g⟩
    · rintro ⟨n0, n1, g⟩
      refine ⟨by omega, ?_⟩
      rw [show ((N - 1 : Nat) : Int) = s - 1 by omega]
      exact g
  | high =>
    obtain ⟨N, e, a, b⟩ := l
    rw [Th.moves_high b tp a hi]
    show (0 < N ∧ decide (D i ≤ mk h t k ((k - N : Nat) : Int)) = true) ↔ 0 ≤ s + 1 ∧ s + 1 < (k : Int) ∧ D i ≤ mk h t k (s + 1)
    rw [decide_eq_true_eq]
    constructor
    · rintro ⟨n0, g⟩
      rw [show ((k - N : Nat) : Int) = s + 1 by omega] at g
      exact ⟨by omega, by omega, g⟩
    · rintro ⟨n0, n1, g⟩
      refine ⟨by omega, ?_⟩
      rw [show ((k - N : Nat) : Int) = s + 1 by omega]
      exact g
  | top =>
    obtain ⟨e, a⟩ := l
    rw [Th.moves_open tp a.1 a.2 hi]
    show decide (D i ≤ mk h t k (((topI h t k).toNat : Nat) : Int)) = true ↔ 0 ≤ s ∧ s < (k : Int) ∧ D i ≤ mk h t k s
    rw [decide_eq_true_eq, show (((topI h t k).toNat : Nat) : Int) = s by omega]
    exact ⟨fun g => ⟨by omega, by omega, g⟩, fun g => g.2.2⟩
/-- how few -/
theorem LotS.min (r : Rp ss k D S) (hk : 0 < k) {kd : Kd} {s m : Int} (l : LotS h t k D S kd s) (hm : (kd = .high ∧ m = s + 1) ∨ (kd ≠ .high ∧ LeastI h t ss s m)) : ∃ n : Nat, m = (n : Int) ∧ Th.IsMin k (Gd h t k D) S n := by
  have tp := top_D h t D hk
  have t0 := top_lo' h t k
  have t1 := top_hi' h t hk
  cases kd with
  | low =>
    obtain ⟨N, e, a, b⟩ := l
    rcases hm with ⟨z, _⟩ | ⟨_, L⟩
    · cases z
    · rw [e] at L
      exact least_low r tp a b (fun m' hm' => mk_low (by omega) (by omega)) L
  | high =>
    obtain ⟨N, e, a, b⟩ := l
    rcases hm with ⟨_, z⟩ | ⟨z, _⟩
    · have mx := Th.stuck_min_high tp.dual a b
      refine ⟨k - N, by omega, ?_⟩
      obtain ⟨⟨U, rU, cU⟩, hU⟩ := mx
      refine ⟨⟨Th.co U, ?_, ?_⟩, fun W rW => ?_⟩
      · refine Th.Reach.codual ?_
        rw [Th.co_co]
        exact rU
      · have := Th.cnt_co k U
        omega
      · have := hU _ rW.dual
        have := Th.cnt_co k W
        omega
    · exact absurd rfl z
  | top =>
    obtain ⟨e, a⟩ := l
    rcases hm with ⟨z, _⟩ | ⟨_, L⟩
    · cases z
    · rw [show s = (((topI h t k).toNat : Nat) : Int) by omega] at L
      exact least_open r tp a (fun m' hm' => mk_low (by omega) (by omega)) L
/-- how many, by the turned one -/
theorem LotS.max (r : Rp ss k D S) (hk : 0 < k) {kd : Kd} {s m : Int} (l : LotS h t k D S kd s) (hm : (kd = .low ∧ m = s) ∨ (kd ≠ .low ∧ ∃ m', LeastI t h (turnF ss) ((k : Int) - 1 - s) m' ∧ m = (k : Int) - m')) : ∃ n : Nat, m = (n : Int) ∧ Th.IsMax k (Gd h t k D) S n := by
  have tp := top_D h t D hk
  have t0 := top_lo' h t k
  have t1 := top_hi' h t hk
  have gt : ∀ s i, s < k → Gd t h k D s i = Th.dual k (Gd h t k D) s i := fun s i hs => Gd_turn hs
  have gt' : ∀ s i, s < k → Th.dual k (Gd h t k D) s i = Gd t h k D s i := fun s i hs => (Gd_turn hs).symm
  have tpd : Th.Top k (Gd t h k D) (k - 1 - (topI h t k).toNat) := by
    have q := tp.dual
    refine ⟨q.lt, fun s s' i a b g => ?_, fun s s' i a b c g => ?_⟩
    · rw [gt _ _ (by omega)]
      exact q.up s s' i a b (by rw [← gt _ _ (by omega)]; exact g)
    · rw [gt _ _ (by omega)]
      exact q.dn s s' i a b c (by rw [← gt _ _ (by omega)]; exact g)
  cases kd with
  | low =>
    obtain ⟨N, e, a, b⟩ := l
    rcases hm with ⟨_, z⟩ | ⟨z, _⟩
    · exact ⟨N, by omega, Th.stuck_min_high tp a b⟩
    · exact absurd rfl z
  | high =>
    obtain ⟨N, e, a, b⟩ := l
    rcases hm with ⟨z, _⟩ | ⟨_, m', L, em⟩
    · cases z
    · rw [show (k : Int) - 1 - s = (N : Int) by omega] at L
      obtain ⟨n, en, q⟩ := least_low r.turn tpd a (b.congr (by omega) gt') (fun m' hm' => mk_high (h := h) (t := t) (k := k) (by omega) (by omega)) L
      obtain ⟨q1, q2⟩ := (q.congr gt).co
      exact ⟨k - n, by omega, q2⟩
  | top =>
    obtain ⟨e, a⟩ := l
    rcases hm with ⟨z, _⟩ | ⟨_, m', L, em⟩
    · cases z
    · rw [show (k : Int) - 1 - s = ((k - 1 - (topI h t k).toNat : Nat) : Int) by omega] at L
      have od : Th.Open k (Gd t h k D) (k - 1 - (topI h t k).toNat) (Th.co S) := (a.dual tp).congr tp.dual.lt gt'
      obtain ⟨n, en, q⟩ := least_open r.turn tpd od (fun m' hm' => mk_high (h := h) (t := t) (k := k) (by omega) (by omega)) L
      obtain ⟨q1, q2⟩ := (q.congr gt).co
      exact ⟨k - n, by omega, q2⟩
end
end Sh

namespace Sh
open PySem PySem.Spec PyProof.Rows L2
/-! ### the program: fleets of seas, reach -/
theorem eqv_ints : ∀ ns ms : List Int, PyData.eqv (.list (ns.map .int)) (.list (ms.map .int)) = decide (ns = ms)
  | [], [] => rfl
  | [], _ :: _ => rfl
  | _ :: _, [] => rfl
  | a :: l, b :: m => by
    have e := eqv_ints l m
    show (PyData.eqv (.int a) (.int b) && PyData.eqv (.list (l.map .int)) (.list (m.map .int))) = _
    rw [e]
    show ((a == b) && decide (l = m)) = _
    rw [Bool.eq_iff_iff, Bool.and_eq_true, beq_iff_eq, decide_eq_true_eq, decide_eq_true_eq, List.cons.injEq]
theorem eqv_lot (a b : Str) (i j : Int) : PyData.eqv (.tuple [.str a, .int i]) (.tuple [.str b, .int j]) = (decide (a = b) && decide (i = j)) := by
  show ((a == b) && ((i == j) && true)) = _
  rw [Bool.and_true, Bool.eq_iff_iff, Bool.and_eq_true, Bool.and_eq_true, beq_iff_eq, beq_iff_eq, decide_eq_true_eq, decide_eq_true_eq]
theorem shaped_lot (kd : Kd) (s : Int) : SeqAt.shaped (.tuple [.str kd.str, .int s]) = true := by
  have a : PyData.canLay0 (.str kd.str) = true := by cases kd <;> decide +kernel
  have b : PyData.canLay0 (.tuple [.str kd.str, .int s]) = true := by
    show (PyData.canLay0 (.str kd.str) && (PyData.canLay0 (.int s) && true)) = true
    rw [a]
    rfl
  unfold SeqAt.shaped
  rw [b]
  rfl
def spFleetOf (K : PySem.W.Frag) : Sp := fun vs H Q _ => ∃ (v l : V) (h t : Int) (ds : List Int) (L : List Nat), vs = [v, l] ∧ SeaD K H v h t ds ∧ LotA K H l L ∧ ds.length ≤ 60 ∧ Lot ds.length L ∧
  ∀ (H' : Hp) (z : V) (ss : List Srt), Same H H' → FltA K H' z h t ss → ss.length ≤ 1000 → Rp ss ds.length (fun i => ds.getD i 0) (mem L) → Q z H'
def MaxF (h t : Int) (ss : List Srt) (m : Int) : Prop := ∃ kd s, LotF h t ss kd s ∧ ((kd = .low ∧ m = s) ∨ (kd ≠ .low ∧ ∃ m', LeastI t h (turnF ss) ((mny ss : Int) - 1 - s) m' ∧ m = (mny ss : Int) - m'))
def MinF (h t : Int) (ss : List Srt) (m : Int) : Prop := ∃ kd s, LotF h t ss kd s ∧ ((kd = .high ∧ m = s + 1) ∨ (kd ≠ .high ∧ LeastI h t ss s m))
def spFleetMost (K : PySem.W.Frag) : Sp := fun vs H Q _ => ∃ (v : V) (h t : Int) (ss : List Srt), vs = [v] ∧ FltA K H v h t ss ∧ ss.length ≤ 1000 ∧ ∀ (H' : Hp) (m : Int), Same H H' → MaxF h t ss m → Q (.int m) H'
def spFleetLeast (K : PySem.W.Frag) : Sp := fun vs H Q _ => ∃ (v : V) (h t : Int) (ss : List Srt), vs = [v] ∧ FltA K H v h t ss ∧ ss.length ≤ 1000 ∧ ∀ (H' : Hp) (m : Int), Same H H' → MinF h t ss m → Q (.int m) H'
abbrev s_fleet_of : Stmt := topS 8
theorem sc_fleet_of : FnScope (["sea", "standing", "here", "there", "draughts", "ours", "sorts", "draught", "many", "lying", "ship", "other"] : List Str) (["sea", "standing"] : List Str) (defScope s_fleet_of) := ⟨rfl, rfl, rfl, by decide +kernel, rfl, by decide +kernel, by decide +kernel⟩
theorem b_fleet_of (kV doc pm : Value) (an : Option Addr) (cdv ct : Value) (us : List Value) (hl : us.length = (["sea", "standing"] : List Str).length) : bindArgs (PySem.W.fnOf "fleet_of" "fleet_of" (defArgs s_fleet_of) (defBody s_fleet_of) (defScope s_fleet_of) .none kV doc pm an cdv ct) ⟨us, []⟩ = pure ((["sea", "standing"] : List Str).zip us) :=
  match us, hl with | [_, _], _ => rfl
section
variable {P : Program} {w : World} {K : PySem.W.Frag} {mg : Str → Option Value} {base : Heap}
set_option maxHeartbeats 8000000 in
theorem ok_fleet_of {k : Nat} (D : Df K mg "fleet_of" s_fleet_of) (T : Bt mg) : Ok P w K mg base (k + 1) "fleet_of" s_fleet_of ["sea", "standing"] (spFleetOf K) := by
  refine D.ok sc_fleet_of b_fleet_of (fun vs H Q E h => ?_) (fun f cdv A outer s H vs Q E hr h => ?_)
  · obtain ⟨v, l, h, t, ds, L, rfl, _⟩ := h
    rfl
  · obtain ⟨v, l, h, t, ds, L, rfl, ⟨p, q, rfl, hp, hq⟩, ⟨pl, rfl, hl⟩, d1, hL, k⟩ := h
    have ll := hL.len
    refine ⟨_, (pss_cons (ps_asg (pv 0) (pg_seq rfl (pgs_cons (pg_name (i := 2) sc_fleet_of.nd rfl (.inl rfl)) (pgs_cons (pg_name (i := 3) sc_fleet_of.nd rfl (.inl rfl)) (pgs_cons (pg_name (i := 4) sc_fleet_of.nd rfl (.inr rfl)) pgs_nil)))))
      (pss_cons (ps_setLc (i := 5) (own := [("ship", 10)]) (g := (gName 10)) (tt := tYes) (by rfl) sc_fleet_of.nd rfl rfl (sw_true rfl rfl rfl (by decide +kernel)) (pi_seq (pv 1)) (blkOk_by (own := [("ship", 10)]) (N := (["sea", "standing", "here", "there", "draughts", "ours", "sorts", "draught", "many", "lying", "ship", "other"] : List Str)) (sc := defScope s_fleet_of) (by decide +kernel)) (fun _ _ _ _ _ => (pg_name (i := 10) sc_fleet_of.nd rfl (.inl rfl))) (fun _ _ _ _ _ => pts_nil) (fun _ _ _ _ _ => (pe_ix (ix_ltK K) (pv 4) (pv 10) (fun _ _ => rfl))))
      (pss_cons (ps_set (i := 6) sc_fleet_of.nd rfl (.inl rfl) (pe_lst pa_nil))
      (pss_cons (ps_for PassesOwn.never rfl (pi_seq (pe_callB (cr_sortedSetw w rfl) (by rfl) T.sorted_ (by decide +kernel) (pa_cons (pe_callTy (cr_setTw w rfl) (by rfl) T.set_ (by decide +kernel) (pa_cons (pv 4) pa_nil)) pa_nil))) (pg_name (i := 7) sc_fleet_of.nd rfl (.inr rfl))
        (pss_cons (ps_set (i := 8) sc_fleet_of.nd rfl (.inl rfl) (pe_callB call_len_seq (by rfl) T.len_ PySem.boot_len (pa_cons (pe_lc (own := [("other", 11)]) (g := (gName 11)) (by rfl) sc_fleet_of.nd (pi_seq (pv 4)) (blkOk_by (own := [("other", 11)]) (N := (["sea", "standing", "here", "there", "draughts", "ours", "sorts", "draught", "many", "lying", "ship", "other"] : List Str)) (sc := defScope s_fleet_of) (by decide +kernel)) (fun _ _ _ _ _ => (pg_name (i := 11) sc_fleet_of.nd rfl (.inl rfl))) (fun _ _ _ _ _ => (pts_one (pt_cmpR op_eq (pv 11) (pv 7) (nomark _)))) (fun _ _ _ _ _ => (pv 11))) pa_nil)))
          (pss_cons (ps_set (i := 9) sc_fleet_of.nd rfl (.inl rfl) (pe_callB call_len_seq (by rfl) T.len_ PySem.boot_len (pa_cons (pe_lc (own := [("other", 11)]) (g := (gName 11)) (by rfl) sc_fleet_of.nd (pi_seq (pv 5)) (blkOk_by (own := [("other", 11)]) (N := (["sea", "standing", "here", "there", "draughts", "ours", "sorts", "draught", "many", "lying", "ship", "other"] : List Str)) (sc := defScope s_fleet_of) (by decide +kernel)) (fun _ _ _ _ _ => (pg_name (i := 11) sc_fleet_of.nd rfl (.inl rfl))) (fun _ _ _ _ _ => (pts_one (pt_cmpR op_eq (pv 11) (pv 7) (nomark _)))) (fun _ _ _ _ _ => (pv 11))) pa_nil)))
          (pss_one (ps_expr (pe_bm PySem.F.plainAttrs_list PySem.F.slot_list_append PySem.F.type_list_append mt_append (pv 6) (pa_cons (pe_tup (pa_cons (pv 7) (pa_cons (pv 9) (pa_cons (pe_op op_sub (pv 8) (pv 9)) pa_nil)))) pa_nil)))))))
      (pss_one (ps_ret (pe_tup (pa_cons (pv 2) (pa_cons (pv 3) (pa_cons (pe_callTy call_tuple_of (by rfl) T.tuple_ (by decide +kernel) (pa_cons (pv 6) pa_nil)) pa_nil)))))))))), ?_⟩
    refine ⟨_, rfl, p, _, rfl, hp, rfl, _, _, rfl, _, _, rfl, _, _, rfl, rfl, ?_⟩
    -- ours
    refine ⟨_, rfl, pl, _, H, rfl, hl, Kp.refl _ _, fun J hJ C nC => ?_⟩
    obtain ⟨G, g, W⟩ := hJ.walk
    refine lc_it W (fun i H' => Same H H' ∧ H' C = some (.lst (((L.take i).map fun j => ds.getD j 0).map V.int))) ⟨same_new nC, upd_same⟩ (fun i H' _ z => g H' (.ofS z.1)) ?_ ?_
    · rintro i x H1 H2 hi ⟨sm, hC⟩ ⟨rfl, gx⟩
      rw [ni_len] at hi
      obtain rfl : .int ((L[i] : Nat) : Int) = x := Option.some.inj ((ni_get hi).symm.trans gx)
      have hlt := hL.lt L[i] (List.getElem_mem hi)
      refine ⟨rfl, tyes (iteT ⟨_, rfl, _, rfl, q, _, _, .int (ds.getD L[i] 0), rfl, rfl, .inr (Same.tup sm hq), at_nat rfl (by simp [hlt]), _, hC, ?_, same_over sm nC, ?_⟩)⟩
      · rw [List.length_map, List.length_map, List.length_take]
        exact small1000 (by omega)
      · rw [upd_same, take_succ_get hi, List.map_append, List.map_append]
        rfl
    rintro H1 ⟨s1, hC⟩
    rw [ni_len, List.take_length] at hC
    -- sorts
    refine ⟨Nat.zero_le _, fun F nF => ?_⟩
    have s2 : Same H1 (upd H1 F (.lst [])) := same_new nF
    have e2 : upd H1 F (.lst []) F = some (.lst []) := upd_same
    have nF0 : H F = none := s1.free nF
    have CF : C ≠ F := ne_of_none hC nF
    generalize upd H1 F (.lst []) = H2 at s2 e2
    have s02 := s1.trans s2
    refine ⟨_, rfl, q, ds, rfl, Same.tup s02 hq, by omega, fun a c na hc => ?_⟩
    refine ⟨a, _, c, rfl, upd_same, by omega, fun ns b up hm hlen nb => ?_⟩
    have sA : Same H2 (upd H2 a (SetO w a (fun j => decide (j ∈ ds)) c)) := same_new na
    have sB := sA.trans (same_new nb (o := .lst (ns.map V.int)))
    have eb : upd (upd H2 a (SetO w a (fun j => decide (j ∈ ds)) c)) b (.lst (ns.map V.int)) b = some (.lst (ns.map V.int)) := upd_same
    generalize upd (upd H2 a (SetO w a (fun j => decide (j ∈ ds)) c)) b (.lst (ns.map V.int)) = H3 at sB eb
    have s03 := s02.trans sB
    have hC3 := sB _ _ (s2 _ _ hC)
    have hF3 := sB _ _ e2
    have bF : b ≠ F := fun e => by
      subst e
      rw [sA _ _ e2] at nb
      cases nb
    have nn : ns.Nodup := up.imp fun z => by omega
    refine ⟨b, _, H3, rfl, SqA.l eb, Kp.refl _ _, fun J2 hJ2 => ?_⟩
    obtain ⟨G2, g2, W2⟩ := hJ2.walk
    refine for_it W2 (fun i σ H' => ∃ (y7 y8 y9 : Option V) (us : List Addr), σ = [some (.ref p), some (.ref pl), some (.int h), some (.int t), some (.ref q), some (.ref C), some (.ref F), y7, y8, y9, none, none] ∧ Same H H' ∧ H' C = some (.lst ((L.map fun j => ds.getD j 0).map V.int)) ∧ H' b = some (.lst (ns.map V.int)) ∧ H' F = some (.lst (us.map V.ref)) ∧ SrtsN H' us (sortsOf ds L (ns.take i)))
      ⟨none, none, none, [], rfl, s03, hC3, eb, hF3, rfl, fun i r x a _ => by simp at a⟩ (fun i σ H' _ ⟨_, _, _, _, _, _, _, z, _⟩ => g2 H' fun o e => by rw [eb] at e; cases e; exact z) ?_ ?_
    · rintro i x σ H5' H4 hi ⟨y7, y8, y9, us, rfl, s4, hC4, hb4, hF4, hu4⟩ ⟨rfl, gx⟩
      rw [List.length_map] at hi
      obtain rfl : .int ns[i] = x := by
        have g3 : (ns.map V.int)[i]? = some (.int ns[i]) := by simp [hi]
        exact Option.some.inj (g3.symm.trans gx)
      have f : ∀ (xs : List Int) (j : Nat) (hj : j < xs.length), ((xs.take (j + 1)).filter fun o => decide (o = ns[i])) = ((xs.take j).filter fun o => decide (o = ns[i])) ++ (if xs[j] = ns[i] then [xs[j]] else []) := fun xs j hj => by
        rw [take_succ_get hj, List.filter_append]
        congr 1
        by_cases c : xs[j] = ns[i]
        · rw [if_pos c, List.filter_cons_of_pos (by simpa using c)]; rfl
        · rw [if_neg c, List.filter_cons_of_neg (by simpa using c)]; rfl
      have fl : ∀ (xs : List Int) (j : Nat), xs.length ≤ 60 → (((xs.take j).filter fun o => decide (o = ns[i])).map V.int).length < sizeLine := fun xs j hx => by
        have h1 := List.length_filter_le (fun o => decide (o = ns[i])) (xs.take j)
        rw [List.length_take] at h1
        rw [List.length_map]
        exact small1000 (by omega)
      -- many
      refine ⟨_, rfl, q, _, H4, rfl, .inr (Same.tup s4 hq), Kp.refl _ _, fun J3 hJ3 M nM => ?_⟩
      obtain ⟨G3, g3, W3⟩ := hJ3.walk
      refine lc_it W3 (fun j H' => Same H4 H' ∧ H' M = some (.lst (((ds.take j).filter fun o => decide (o = ns[i])).map V.int))) ⟨same_new nM, upd_same⟩ (fun j H' _ z => g3 H' (.ofS z.1)) ?_ ?_
      · rintro j x H5 H6 hj ⟨sm, hM⟩ ⟨rfl, gx2⟩
        rw [List.length_map] at hj
        obtain rfl : .int ds[j] = x := by
          have g4 : (ds.map V.int)[j]? = some (.int ds[j]) := by simp [hj]
          exact Option.some.inj (g4.symm.trans gx2)
        refine ⟨rfl, _, rfl, _, rfl, rfl, _, rfl, ite2 (fun c => ?_) (fun c => ?_)⟩
        · have c0 : ds[j] = ns[i] := V.int.inj (of_decide_eq_true c)
          refine ⟨_, rfl, _, hM, fl ds j d1, same_over sm nM, ?_⟩
          rw [upd_same, f ds j hj, if_pos c0, List.map_append]
          rfl
        · have c0 : ¬ ds[j] = ns[i] := fun z => c (decide_eq_true (by rw [z]))
          refine ⟨sm, ?_⟩
          rw [hM, f ds j hj, if_neg c0, List.append_nil]
      rintro H5 ⟨s5, hM⟩
      rw [List.length_map, List.take_length] at hM
      refine ⟨M, _, rfl, .inl (SqL.of hM), ?_⟩
      -- lying
      refine ⟨_, rfl, C, _, H5, rfl, SqA.l (s5 _ _ hC4), Kp.refl _ _, fun J4 hJ4 N nN => ?_⟩
      obtain ⟨G4, g4, W4⟩ := hJ4.walk
      have lo : (L.map fun j => ds.getD j 0).length ≤ 60 := by rw [List.length_map]; omega
      refine lc_it W4 (fun j H' => Same H5 H' ∧ H' N = some (.lst ((((L.map fun j => ds.getD j 0).take j).filter fun o => decide (o = ns[i])).map V.int))) ⟨same_new nN, upd_same⟩ (fun j H' _ z => g4 H' (.ofS z.1)) ?_ ?_
      · rintro j x H6 H7 hj ⟨sm, hN⟩ ⟨rfl, gx2⟩
        rw [List.length_map] at hj
        obtain rfl : .int (L.map fun j => ds.getD j 0)[j] = x := by
          have g5 : ((L.map fun j => ds.getD j 0).map V.int)[j]? = some (.int (L.map fun j => ds.getD j 0)[j]) := by rw [List.getElem?_map, List.getElem?_eq_getElem hj]; rfl
          exact Option.some.inj (g5.symm.trans gx2)
        refine ⟨rfl, _, rfl, _, rfl, rfl, _, rfl, ite2 (fun c => ?_) (fun c => ?_)⟩
        · have c0 : (L.map fun j => ds.getD j 0)[j] = ns[i] := V.int.inj (of_decide_eq_true c)
          refine ⟨_, rfl, _, hN, fl _ j lo, same_over sm nN, ?_⟩
          rw [upd_same, f _ j hj, if_pos c0, List.map_append]
          rfl
        · have c0 : ¬ (L.map fun j => ds.getD j 0)[j] = ns[i] := fun z => c (decide_eq_true (by rw [z]))
          refine ⟨sm, ?_⟩
          rw [hN, f _ j hj, if_neg c0, List.append_nil]
      rintro H6 ⟨s6, hN⟩
      rw [List.length_map, List.take_length] at hN
      refine ⟨N, _, rfl, .inl (SqL.of hN), ?_⟩
      have s46 := s5.trans s6
      have hF6 := s46 _ _ hF4
      -- sorts.append
      refine ⟨_, rfl, .inl ⟨rfl, _, SqL.of hF6⟩, _, rfl, _, rfl, _, rfl, _, rfl, _, _, rfl, rfl, (by show 3 ≤ sizeLine; decide), fun u nu => ?_⟩
      have lu : us.length = i := by
        rw [hu4.1]
        unfold sortsOf
        rw [List.length_map, List.length_take]
        omega
      refine ⟨F, _, _, rfl, rfl, same_new nu _ _ hF6, ?_, _, _, _, us ++ [u], rfl, same_over ((s4.trans s46).trans (same_new nu)) nF0, ?_, ?_, ?_, ?_⟩
      · rw [List.length_map, lu]
        exact small1000 (by omega)
      · rw [upd_ne CF]
        exact same_new nu _ _ (s46 _ _ hC4)
      · rw [upd_ne bF]
        exact same_new nu _ _ (s46 _ _ hb4)
      · rw [upd_same, List.map_append]
        rfl
      · have e : sortsOf ds L (ns.take (i + 1)) = sortsOf ds L (ns.take i) ++ [(ns[i], ((L.map fun i => ds.getD i 0).filter fun o => decide (o = ns[i])).length, (ds.filter fun o => decide (o = ns[i])).length - ((L.map fun i => ds.getD i 0).filter fun o => decide (o = ns[i])).length)] := by
          unfold sortsOf
          rw [take_succ_get hi, List.map_append]
          rfl
        rw [e]
        refine ((hu4.same s46).push' (x := (ns[i], ((L.map fun i => ds.getD i 0).filter fun o => decide (o = ns[i])).length, (ds.filter fun o => decide (o = ns[i])).length - ((L.map fun i => ds.getD i 0).filter fun o => decide (o = ns[i])).length)) nu ?_).put (same_new nu _ _ hF6)
        have le := lying_le hL ns[i]
        unfold SrtV
        rw [List.length_map, List.length_map]
        dsimp only
        rw [show (((ds.filter fun o => decide (o = ns[i])).length - ((L.map fun i => ds.getD i 0).filter fun o => decide (o = ns[i])).length : Nat) : Int) = ((ds.filter fun o => decide (o = ns[i])).length : Int) - (((L.map fun i => ds.getD i 0).filter fun o => decide (o = ns[i])).length : Int) by omega]
    · rintro σ H4 ⟨y7, y8, y9, us, rfl, s4, hC4, hb4, hF4, hu4⟩
      rw [List.length_map, List.take_length] at hu4
      refine ⟨_, rfl, _, rfl, _, rfl, F, _, rfl, .inl ⟨SqL.of hF4, fun a2 na2 => ⟨(by show 3 ≤ sizeLine; decide), fun b2 nb2 => ?_⟩⟩⟩
      have sa2 : Same H4 (upd H4 a2 (.tup (us.map V.ref))) := same_new na2
      have sb2 := sa2.trans (same_new nb2 (o := .tup [.int h, .int t, .ref a2]))
      refine k _ _ (sortsOf ds L ns) (s4.trans sb2) ⟨b2, a2, us, rfl, SqA.t upd_same, SqA.t (same_new nb2 _ _ upd_same), (hu4.same sb2).a⟩ ?_ (sorts_rp hL nn fun d hd => (hm d).mpr (decide_eq_true hd))
      unfold sortsOf
      rw [List.length_map, hlen]
      omega
end
end Sh

namespace Sh
open PySem PySem.Spec PyProof.Rows L2
/-! ### the program: fleets -/
def MoversF (h t : Int) (ss : List Srt) (ms : List Int) : Prop := ∃ kd s, LotF h t ss kd s ∧
  (((nextS kd s < 0 ∨ (mny ss : Int) ≤ nextS kd s) ∧ ms = []) ∨ (0 ≤ nextS kd s ∧ nextS kd s < (mny ss : Int) ∧ ms = (ss.filter fun x => decide (x.1 ≤ mk h t (mny ss) (nextS kd s)) && decide (0 < x.2.1 + x.2.2)).map fun x => x.1))
def ComesF (h t : Int) (ss ss' : List Srt) (b : Bool) : Prop := ∃ kd s kd' s', LotF h t ss kd s ∧ LotF h t ss' kd' s' ∧ (b = true ↔ (kd = kd' ∧ s = s') ∧ fxF ss (mk h t (mny ss) s) = fxF ss' (mk h t (mny ss') s))
def spFleetMovers (K : PySem.W.Frag) : Sp := fun vs H Q _ => ∃ (v : V) (h t : Int) (ss : List Srt), vs = [v] ∧ FltA K H v h t ss ∧ ss.length ≤ 1000 ∧ ∀ (H' : Hp) (p : Addr) (ms : List Int), Same H H' → H p = none → H' p = some (.lst (ms.map V.int)) → MoversF h t ss ms → Q (.ref p) H'
def spFleetComes (K : PySem.W.Frag) : Sp := fun vs H Q _ => ∃ (v v' : V) (h t : Int) (ss ss' : List Srt), vs = [v, v'] ∧ FltA K H v h t ss ∧ FltA K H v' h t ss' ∧ ss.length ≤ 1000 ∧ ss'.length ≤ 1000 ∧ ∀ (H' : Hp) (b : Bool), Same H H' → ComesF h t ss ss' b → Q (.bl b) H'
section
variable {P : Program} {w : World} {K : PySem.W.Frag} {mg : Str → Option Value} {base : Heap}
end
/-! ### every fleet has its ships one by one -/
end Sh
namespace Th
theorem cnt_add (a b : Nat) (f : Nat → Bool) : cnt (a + b) f = cnt a f + cnt b (fun i => f (a + i)) := by
  induction b with
  | zero => rfl
  | succ b ih =>
    rw [← Nat.add_assoc, cnt_succ, ih, cnt_succ]
    omega
theorem cnt_const (n : Nat) (b : Bool) : cnt n (fun _ => b) = if b = true then n else 0 := by
  induction n with
  | zero => cases b <;> rfl
  | succ n ih =>
    rw [cnt_succ, ih]
    cases b <;> simp
end Th
namespace Sh
theorem le_sum : ∀ {l : List Nat} {a : Nat}, a ∈ l → a ≤ l.sum
  | b :: l, a, h => by
    rw [List.sum_cons]
    rcases List.mem_cons.mp h with e | e
    · omega
    · have := le_sum e
      omega
theorem filter_one : ∀ {l : List Srt} {x : Srt}, (l.map fun x => x.1).Nodup → x ∈ l → l.filter (fun y => decide (y.1 = x.1)) = [x]
  | a :: l, x, nd, h => by
    rw [List.map_cons] at nd
    obtain ⟨n1, n2⟩ := List.nodup_cons.mp nd
    rcases List.mem_cons.mp h with e | e
    · subst e
      rw [List.filter_cons_of_pos (by simp)]
      have : l.filter (fun y => decide (y.1 = x.1)) = [] := by
        rw [List.filter_eq_nil_iff]
        intro y hy q
        exact n1 (List.mem_map.mpr ⟨y, hy, of_decide_eq_true q⟩)
      rw [this]
    · have ne : ¬ a.1 = x.1 := fun q => n1 (List.mem_map.mpr ⟨x, e, q.symm⟩)
      rw [List.filter_cons_of_neg (by simpa using ne)]
      exact filter_one n2 e
theorem rp_ex : ∀ ss : List Srt, ∃ (D : Nat → Int) (S : Nat → Bool), Rp ss (mny ss) D S
  | [] => ⟨fun _ => 0, fun _ => false, ⟨fun _ => rfl, fun _ => rfl⟩⟩
  | x :: ss => by
    obtain ⟨D, S, r⟩ := rp_ex ss
    have em : mny (x :: ss) = mny ss + (x.2.1 + x.2.2) := by
      unfold mny
      rw [List.map_cons, List.sum_cons]
      omega
    refine ⟨fun i => if i < mny ss then D i else x.1, fun i => if i < mny ss then S i else decide (i < mny ss + x.2.1), ?_⟩
    have key : ∀ (P : Int → Bool) (b : Bool), Th.cnt (mny (x :: ss)) (fun i => P (if i < mny ss then D i else x.1) && ((if i < mny ss then S i else decide (i < mny ss + x.2.1)) == b)) = Th.cnt (mny ss) (fun i => P (D i) && (S i == b)) + if P x.1 = true then (if b = true then x.2.1 else x.2.2) else 0 := fun P b => by
      rw [em, Th.cnt_add]
      congr 1
      · refine Th.cnt_congr fun i hi => ?_
        rw [if_pos hi, if_pos hi]
      · rw [Th.cnt_add]
        have e1 : Th.cnt x.2.1 (fun i => P (if mny ss + i < mny ss then D (mny ss + i) else x.1) && ((if mny ss + i < mny ss then S (mny ss + i) else decide (mny ss + i < mny ss + x.2.1)) == b)) = Th.cnt x.2.1 (fun _ => P x.1 && b) := Th.cnt_congr fun i hi => by
          rw [if_neg (by omega), if_neg (by omega), decide_eq_true (by omega)]
          cases b <;> rfl
        have e2 : Th.cnt x.2.2 (fun i => P (if mny ss + (x.2.1 + i) < mny ss then D (mny ss + (x.2.1 + i)) else x.1) && ((if mny ss + (x.2.1 + i) < mny ss then S (mny ss + (x.2.1 + i)) else decide (mny ss + (x.2.1 + i) < mny ss + x.2.1)) == b)) = Th.cnt x.2.2 (fun _ => P x.1 && !b) := Th.cnt_congr fun i hi => by
          rw [if_neg (by omega), if_neg (by omega), decide_eq_false (by omega)]
          cases b <;> rfl
        rw [e1, e2, Th.cnt_const, Th.cnt_const]
        cases P x.1 <;> cases b <;> simp
    refine ⟨fun P => ?_, fun P => ?_⟩
    · have k := key P true
      have e : ∀ (f g : Nat → Bool), (fun i => f i && (g i == true)) = (fun i => f i && g i) := fun f g => by
        funext i
        cases g i <;> rfl
      rw [e (fun i => P (if i < mny ss then D i else x.1)), e (fun i => P (D i)) S, ← r.here P] at k
      rw [k]
      by_cases c : P x.1 = true
      · rw [List.filter_cons_of_pos (p := fun x : Srt => P x.1) c, List.map_cons, List.sum_cons, if_pos c]
        show x.2.1 + _ = _ + x.2.1
        omega
      · rw [List.filter_cons_of_neg (p := fun x : Srt => P x.1) c, if_neg c]
        rfl
    · have k := key P false
      have e : ∀ (f g : Nat → Bool), (fun i => f i && (g i == false)) = (fun i => f i && !g i) := fun f g => by
        funext i
        cases g i <;> rfl
      rw [e (fun i => P (if i < mny ss then D i else x.1)), e (fun i => P (D i)) S, ← r.there P] at k
      rw [k]
      by_cases c : P x.1 = true
      · rw [List.filter_cons_of_pos (p := fun x : Srt => P x.1) c, List.map_cons, List.sum_cons, if_pos c]
        show x.2.2 + _ = _ + x.2.2
        omega
      · rw [List.filter_cons_of_neg (p := fun x : Srt => P x.1) c, if_neg c]
        rfl
section
variable {ss : List Srt} {h t : Int} {D : Nat → Int} {S : Nat → Bool}
theorem MaxF.ships {m : Int} (r : Rp ss (mny ss) D S) (k0 : 0 < mny ss) (q : MaxF h t ss m) : ∃ n : Nat, m = (n : Int) ∧ Th.IsMax (mny ss) (Gd h t (mny ss) D) S n := by
  obtain ⟨kd, s, lf, hm⟩ := q
  exact (lf.ships r k0).max r k0 hm
theorem MinF.ships {m : Int} (r : Rp ss (mny ss) D S) (k0 : 0 < mny ss) (q : MinF h t ss m) : ∃ n : Nat, m = (n : Int) ∧ Th.IsMin (mny ss) (Gd h t (mny ss) D) S n := by
  obtain ⟨kd, s, lf, hm⟩ := q
  exact (lf.ships r k0).min r k0 hm
theorem max_uniq {m m' : Int} (k0 : 0 < mny ss) (a : MaxF h t ss m) (b : MaxF h t ss m') : m = m' := by
  obtain ⟨D, S, r⟩ := rp_ex ss
  obtain ⟨n, rfl, ⟨U, rU, cU⟩, hU⟩ := a.ships r k0
  obtain ⟨n', rfl, ⟨U', rU', cU'⟩, hU'⟩ := b.ships r k0
  have := hU U' rU'
  have := hU' U rU
  omega
theorem min_uniq {m m' : Int} (k0 : 0 < mny ss) (a : MinF h t ss m) (b : MinF h t ss m') : m = m' := by
  obtain ⟨D, S, r⟩ := rp_ex ss
  obtain ⟨n, rfl, ⟨U, rU, cU⟩, hU⟩ := a.ships r k0
  obtain ⟨n', rfl, ⟨U', rU', cU'⟩, hU'⟩ := b.ships r k0
  have := hU U' rU'
  have := hU' U rU
  omega
/-- turned about: all less the least, all less the most -/
theorem max_turn {m m' : Int} (k0 : 0 < mny ss) (a : MaxF t h (turnF ss) m) (b : MinF h t ss m') : m = (mny ss : Int) - m' := by
  obtain ⟨D, S, r⟩ := rp_ex ss
  have r' := r.turn
  have km := mny_turn ss
  rw [← km] at r'
  obtain ⟨n, rfl, ⟨U, rU, cU⟩, hU⟩ := a.ships r' (by omega)
  obtain ⟨n', rfl, ⟨U', rU', cU'⟩, hU'⟩ := b.ships r k0
  rw [km] at rU cU hU
  have gt : ∀ s i, s < mny ss → Gd t h (mny ss) D s i = Th.dual (mny ss) (Gd h t (mny ss) D) s i := fun s i hs => Gd_turn hs
  have r1 : Th.Reach (mny ss) (Gd h t (mny ss) D) S (Th.co U) := by
    refine Th.Reach.codual ?_
    rw [Th.co_co]
    exact rU.congr gt
  have r2 := rU'.dual.congr (G' := Gd t h (mny ss) D) fun s i hs => (gt s i hs).symm
  have := hU _ r2
  have := hU' _ r1
  have := Th.cnt_co (mny ss) U
  have := Th.cnt_co (mny ss) U'
  omega
theorem min_turn {m m' : Int} (k0 : 0 < mny ss) (a : MinF t h (turnF ss) m) (b : MaxF h t ss m') : m = (mny ss : Int) - m' := by
  have km := mny_turn ss
  have b' : MaxF h t (turnF (turnF ss)) m' := by rw [turn_turn]; exact b
  have := max_turn (ss := turnF ss) (h := t) (t := h) (by omega) b' a
  omega
/-- who moves, by ships -/
theorem movers_ships {ms : List Int} (r : Rp ss (mny ss) D S) (k0 : 0 < mny ss) (up : (ss.map fun x => x.1).Nodup) (q : MoversF h t ss ms) : ms.Sublist (ss.map fun x => x.1) ∧ ∀ x ∈ ss, x.1 ∈ ms ↔ ∃ i, i < mny ss ∧ D i = x.1 ∧ Th.Moves (mny ss) (Gd h t (mny ss) D) S i := by
  obtain ⟨kd, s, lf, q⟩ := q
  have ls := lf.ships r k0
  rcases q with ⟨no, rfl⟩ | ⟨n0, n1, rfl⟩
  · refine ⟨List.nil_sublist _, fun x hx => ⟨fun z => (by cases z), fun ⟨i, hi, _, m⟩ => ?_⟩⟩
    have := (ls.moves k0 hi).mp m
    omega
  · refine ⟨(List.filter_sublist).map _, fun x hx => ?_⟩
    rw [List.mem_map]
    constructor
    · rintro ⟨y, hy, e⟩
      obtain ⟨hy1, hy2⟩ := List.mem_filter.mp hy
      rw [Bool.and_eq_true, decide_eq_true_eq, decide_eq_true_eq] at hy2
      have c1 := r.here fun d => decide (d = y.1)
      have c2 := r.there fun d => decide (d = y.1)
      have m1 : y.2.1 ≤ ((ss.filter fun x => decide (x.1 = y.1)).map fun x => x.2.1).sum := le_sum (List.mem_map.mpr ⟨y, List.mem_filter.mpr ⟨hy1, decide_eq_true rfl⟩, rfl⟩)
      have m2 : y.2.2 ≤ ((ss.filter fun x => decide (x.1 = y.1)).map fun x => x.2.2).sum := le_sum (List.mem_map.mpr ⟨y, List.mem_filter.mpr ⟨hy1, decide_eq_true rfl⟩, rfl⟩)
      have c3 := Th.cnt_split (k := mny ss) (fun i => decide (D i = y.1)) S
      obtain ⟨i, hi, hd⟩ := Th.cnt_pos_ex (k := mny ss) (S := fun i => decide (D i = y.1)) (by omega)
      have hd' : D i = y.1 := of_decide_eq_true hd
      exact ⟨i, hi, by rw [hd', e], (ls.moves k0 hi).mpr ⟨n0, n1, by rw [hd']; exact hy2.1⟩⟩
    · rintro ⟨i, hi, e, m⟩
      have q := (ls.moves k0 hi).mp m
      refine ⟨x, List.mem_filter.mpr ⟨hx, ?_⟩, rfl⟩
      rw [Bool.and_eq_true, decide_eq_true_eq, decide_eq_true_eq]
      refine ⟨by rw [← e]; exact q.2.2, ?_⟩
      -- the one sort of that draught has a ship
      have one : ss.filter (fun y => decide (y.1 = x.1)) = [x] := filter_one up hx
      have c1 := r.here fun d => decide (d = x.1)
      have c2 := r.there fun d => decide (d = x.1)
      rw [one] at c1 c2
      have c3 := Th.cnt_split (k := mny ss) (fun i => decide (D i = x.1)) S
      have c4 := Th.cnt_pos (k := mny ss) (S := fun i => decide (D i = x.1)) hi (decide_eq_true e)
      have c1' : x.2.1 + 0 = Th.cnt (mny ss) (fun i => decide (D i = x.1) && S i) := c1
      have c2' : x.2.2 + 0 = Th.cnt (mny ss) (fun i => decide (D i = x.1) && !S i) := c2
      omega
end
end Sh

namespace Ct
/-! ### how many ways to take so many of so many -/
def bin : Nat → Nat → Nat
  | _, 0 => 1
  | 0, _ + 1 => 0
  | n + 1, p + 1 => bin n p + bin n (p + 1)
theorem bin_zero (n : Nat) : bin n 0 = 1 := by cases n <;> rfl
theorem bin_gt : ∀ {n p : Nat}, n < p → bin n p = 0
  | 0, p + 1, _ => rfl
  | n + 1, p + 1, h => by
    show bin n p + bin n (p + 1) = 0
    rw [bin_gt (n := n) (p := p) (by omega), bin_gt (n := n) (p := p + 1) (by omega)]
theorem bin_self : ∀ n : Nat, bin n n = 1
  | 0 => rfl
  | n + 1 => by
    show bin n n + bin n (n + 1) = 1
    rw [bin_self n, bin_gt (by omega)]
theorem bin_succ_mul : ∀ n p : Nat, (n + 1) * bin n p = bin (n + 1) (p + 1) * (p + 1)
  | 0, 0 => rfl
  | 0, p + 1 => by
    show 1 * 0 = (0 + bin 0 (p + 2)) * (p + 2)
    rw [bin_gt (n := 0) (p := p + 2) (by omega)]
    simp
  | n + 1, 0 => by
    have ih : (n + 1) * 1 = bin (n + 1) 1 * 1 := by
      have := bin_succ_mul n 0
      rw [bin_zero] at this
      exact this
    show (n + 2) * 1 = (1 + bin (n + 1) 1) * 1
    omega
  | n + 1, p + 1 => by
    have a := bin_succ_mul n p
    have b := bin_succ_mul n (p + 1)
    show (n + 2) * bin (n + 1) (p + 1) = (bin (n + 1) (p + 1) + bin (n + 1) (p + 1 + 1)) * (p + 1 + 1)
    have e2 : bin (n + 1) (p + 1) = bin n p + bin n (p + 1) := rfl
    have m : (n + 1) * bin (n + 1) (p + 1) = (n + 1) * bin n p + (n + 1) * bin n (p + 1) := by rw [e2, Nat.mul_add]
    generalize bin (n + 1) (p + 1) = X at *
    generalize bin (n + 1) (p + 1 + 1) = Y at *
    rw [Nat.add_mul X Y, ← b, show X * (p + 1 + 1) = X * (p + 1) + X from Nat.mul_succ _ _, ← a, show (n + 2) * X = (n + 1) * X + X from Nat.succ_mul _ _, m]
    omega
theorem bin_step {n p : Nat} (h : p ≤ n) : bin n p * (n - p) = bin n (p + 1) * (p + 1) := by
  have a := bin_succ_mul n p
  have e : bin (n + 1) (p + 1) * (p + 1) = bin n p * (p + 1) + bin n (p + 1) * (p + 1) := by
    show (bin n p + bin n (p + 1)) * (p + 1) = _
    rw [Nat.add_mul]
  have c : bin n p * (n - p) + bin n p * (p + 1) = (n + 1) * bin n p := by
    rw [← Nat.mul_add, Nat.mul_comm]
    congr 1
    omega
  generalize bin (n + 1) (p + 1) * (p + 1) = X at *
  generalize bin n (p + 1) * (p + 1) = Y at *
  generalize bin n p * (p + 1) = Z at *
  generalize bin n p * (n - p) = V at *
  omega
theorem bin_le : ∀ n p : Nat, bin n p ≤ 2 ^ n
  | n, 0 => by rw [bin_zero]; exact Nat.one_le_two_pow
  | 0, p + 1 => Nat.zero_le _
  | n + 1, p + 1 => by
    have a := bin_le n p
    have b := bin_le n (p + 1)
    show bin n p + bin n (p + 1) ≤ 2 ^ (n + 1)
    rw [Nat.pow_succ]
    omega
open Th (cnt cnt_succ cnt_congr cnt_zero)
/-! ### how many lots of k ships there are of a kind -/
def put (U : Nat → Bool) (k : Nat) : Nat → Bool := fun i => if i = k then true else U i
theorem put_self (U : Nat → Bool) (k : Nat) : put U k k = true := if_pos rfl
theorem put_ne (U : Nat → Bool) {k i : Nat} (h : i ≠ k) : put U k i = U i := if_neg h
def cf : Nat → ((Nat → Bool) → Bool) → Nat
  | 0, P => if P (fun _ => false) = true then 1 else 0
  | k + 1, P => cf k P + cf k (fun U => P (put U k))
theorem cf_congr : ∀ {k : Nat} {P P' : (Nat → Bool) → Bool}, (∀ U, (∀ i, k ≤ i → U i = false) → P U = P' U) → cf k P = cf k P'
  | 0, P, P', h => by
    unfold cf
    rw [h _ fun _ _ => rfl]
  | k + 1, P, P', h => by
    unfold cf
    rw [cf_congr (k := k) (P := P) (P' := P') fun U hU => h U fun i hi => hU i (by omega), cf_congr (k := k) (P := fun U => P (put U k)) (P' := fun U => P' (put U k)) fun U hU => h _ fun i hi => by rw [put_ne _ (by omega)]; exact hU i (by omega)]
theorem cf_false : ∀ k : Nat, cf k (fun _ => false) = 0
  | 0 => rfl
  | k + 1 => by
    show cf k (fun _ => false) + cf k (fun _ => false) = 0
    rw [cf_false k]
theorem cf_add : ∀ {k : Nat} {Q R : (Nat → Bool) → Bool}, (∀ U, (Q U && R U) = false) → cf k (fun U => Q U || R U) = cf k Q + cf k R
  | 0, Q, R, h => by
    have := h fun _ => false
    show (if (Q (fun _ => false) || R (fun _ => false)) = true then 1 else 0) = (if Q (fun _ => false) = true then 1 else 0) + (if R (fun _ => false) = true then 1 else 0)
    cases a : Q (fun _ => false) <;> cases b : R (fun _ => false) <;> rw [a, b] at this <;> first | rfl | cases this
  | k + 1, Q, R, h => by
    show cf k (fun U => Q U || R U) + cf k (fun U => Q (put U k) || R (put U k)) = (cf k Q + cf k fun U => Q (put U k)) + (cf k R + cf k fun U => R (put U k))
    rw [cf_add h, cf_add (Q := fun U => Q (put U k)) (R := fun U => R (put U k)) fun U => h _]
    omega
/-- by what f tells -/
theorem cf_parts {k : Nat} {P : (Nat → Bool) → Bool} {f : (Nat → Bool) → Nat} : ∀ m : Nat, ((List.range (m + 1)).map fun x => cf k (fun U => P U && (f U == x))).sum = cf k (fun U => P U && decide (f U ≤ m))
  | 0 => by
    show cf k (fun U => P U && (f U == 0)) + 0 = _
    rw [Nat.add_zero]
    refine cf_congr fun U _ => ?_
    congr 1
    rw [Bool.eq_iff_iff, beq_iff_eq, decide_eq_true_eq]
    omega
  | m + 1 => by
    rw [List.range_succ, List.map_append, List.sum_append, cf_parts m]
    show _ + (cf k (fun U => P U && (f U == m + 1)) + 0) = _
    rw [Nat.add_zero, ← cf_add]
    · refine cf_congr fun U _ => ?_
      rw [← Bool.and_or_distrib_left]
      congr 1
      rw [Bool.eq_iff_iff, Bool.or_eq_true, beq_iff_eq, decide_eq_true_eq, decide_eq_true_eq]
      omega
    · intro U
      cases P U
      · rfl
      · show (decide (f U ≤ m) && (f U == m + 1)) = false
        by_cases c : f U ≤ m
        · have : (f U == m + 1) = false := by
            rw [beq_eq_false_iff_ne]
            omega
          rw [this, Bool.and_false]
        · rw [decide_eq_false c]
          rfl
/-- only such ships -/
def subB (A : Nat → Bool) : Nat → (Nat → Bool) → Bool
  | 0, _ => true
  | k + 1, U => subB A k U && (!U k || A k)
theorem subB_iff {A : Nat → Bool} {U : Nat → Bool} : ∀ {k : Nat}, subB A k U = true ↔ ∀ i, i < k → U i = true → A i = true
  | 0 => ⟨fun _ i hi => by omega, fun _ => rfl⟩
  | k + 1 => by
    have ih := subB_iff (A := A) (U := U) (k := k)
    show (subB A k U && (!U k || A k)) = true ↔ _
    rw [Bool.and_eq_true, ih]
    constructor
    · rintro ⟨a, b⟩ i hi hu
      by_cases e : i = k
      · subst e
        rw [hu] at b
        exact b
      · exact a i (by omega) hu
    · intro h
      refine ⟨fun i hi => h i (by omega), ?_⟩
      cases e : U k with
      | false => rfl
      | true => rw [h k (by omega) e]; rfl
theorem subB_put {A U : Nat → Bool} {k : Nat} : subB A k (put U k) = subB A k U := by
  rw [Bool.eq_iff_iff, subB_iff, subB_iff]
  constructor
  · intro h i hi hu
    exact h i hi (by rw [put_ne _ (by omega)]; exact hu)
  · intro h i hi hu
    rw [put_ne _ (by omega)] at hu
    exact h i hi hu
theorem cnt_put {U B : Nat → Bool} {k : Nat} : cnt k (fun i => put U k i && B i) = cnt k (fun i => U i && B i) := cnt_congr fun i hi => by rw [put_ne _ (by omega)]
/-- those of A as P says, so many of B: ways of the one times ways of the other -/
theorem split {A B : Nat → Bool} (dj : ∀ i, A i = true → B i = false) : ∀ {k : Nat} {P : (Nat → Bool) → Bool} {x : Nat},
    cf k (fun U => subB (fun i => A i || B i) k U && P (fun i => U i && A i) && (cnt k (fun i => U i && B i) == x)) = cf k (fun U => subB A k U && P U) * bin (cnt k B) x
  | 0, P, x => by
    show (if (true && P (fun _ => false) && (0 == x)) = true then 1 else 0) = (if (true && P (fun _ => false)) = true then 1 else 0) * bin 0 x
    cases x with
    | zero => cases P (fun _ => false) <;> rfl
    | succ x => cases P (fun _ => false) <;> rfl
  | k + 1, P, x => by
    have i1 := split dj (k := k) (P := P) (x := x)
    have t1 : cf k (fun U => subB (fun i => A i || B i) (k + 1) U && P (fun i => U i && A i) && (cnt (k + 1) (fun i => U i && B i) == x)) = cf k (fun U => subB A k U && P U) * bin (cnt k B) x := by
      rw [← i1]
      refine cf_congr fun U hU => ?_
      have u0 := hU k (Nat.le_refl _)
      show (subB _ k U && (!U k || _) && _ && _) = _
      rw [cnt_succ, u0]
      simp
    have r1 : cf k (fun U => subB A (k + 1) U && P U) = cf k (fun U => subB A k U && P U) := cf_congr fun U hU => by
      have u0 := hU k (Nat.le_refl _)
      show (subB A k U && (!U k || A k) && P U) = _
      rw [u0]
      simp
    show cf k (fun U => subB (fun i => A i || B i) (k + 1) U && P (fun i => U i && A i) && (cnt (k + 1) (fun i => U i && B i) == x)) + cf k (fun U => subB (fun i => A i || B i) (k + 1) (put U k) && P (fun i => put U k i && A i) && (cnt (k + 1) (fun i => put U k i && B i) == x)) =
      (cf k (fun U => subB A (k + 1) U && P U) + cf k (fun U => subB A (k + 1) (put U k) && P (put U k))) * bin (cnt (k + 1) B) x
    rw [t1, r1]
    have sp : ∀ (C : Nat → Bool) (U : Nat → Bool), subB C (k + 1) (put U k) = (subB C k U && C k) := fun C U => by
      show (subB C k (put U k) && (!put U k k || C k)) = _
      rw [subB_put, put_self]
      simp
    have cp : ∀ U : Nat → Bool, cnt (k + 1) (fun i => put U k i && B i) = cnt k (fun i => U i && B i) + if B k = true then 1 else 0 := fun U => by
      rw [cnt_succ, cnt_put, put_self, Bool.true_and]
    cases a : A k with
    | true =>
      have b := dj k a
      have t2 : cf k (fun U => subB (fun i => A i || B i) (k + 1) (put U k) && P (fun i => put U k i && A i) && (cnt (k + 1) (fun i => put U k i && B i) == x)) = cf k (fun U => subB A k U && P (put U k)) * bin (cnt k B) x := by
        rw [← split dj (k := k) (P := fun V => P (put V k)) (x := x)]
        refine cf_congr fun U hU => ?_
        have e : (fun i => put U k i && A i) = put (fun i => U i && A i) k := by
          funext i
          by_cases z : i = k
          · subst z
            rw [put_self, put_self, a]
            rfl
          · rw [put_ne _ z, put_ne _ z]
        rw [sp, cp, b, e, a]
        simp
      have r2 : cf k (fun U => subB A (k + 1) (put U k) && P (put U k)) = cf k (fun U => subB A k U && P (put U k)) := cf_congr fun U hU => by rw [sp, a, Bool.and_true]
      rw [t2, r2, cnt_succ, b, Nat.add_mul]
      simp
    | false =>
      have r2 : cf k (fun U => subB A (k + 1) (put U k) && P (put U k)) = 0 := by
        rw [← cf_false k]
        exact cf_congr fun U hU => by rw [sp, a]; simp
      rw [r2, Nat.add_zero, cnt_succ]
      cases b : B k with
      | false =>
        have t2 : cf k (fun U => subB (fun i => A i || B i) (k + 1) (put U k) && P (fun i => put U k i && A i) && (cnt (k + 1) (fun i => put U k i && B i) == x)) = 0 := by
          rw [← cf_false k]
          exact cf_congr fun U hU => by rw [sp, a, b]; simp
        rw [t2]
        simp
      | true =>
        have e : ∀ U : Nat → Bool, (fun i => put U k i && A i) = (fun i => U i && A i) := fun U => by
          funext i
          by_cases z : i = k
          · subst z
            rw [a, Bool.and_false, Bool.and_false]
          · rw [put_ne _ z]
        cases x with
        | zero =>
          have t2 : cf k (fun U => subB (fun i => A i || B i) (k + 1) (put U k) && P (fun i => put U k i && A i) && (cnt (k + 1) (fun i => put U k i && B i) == 0)) = 0 := by
            refine Eq.trans (cf_congr fun U hU => ?_) (cf_false k)
            rw [cp, b]
            simp
          rw [t2, bin_zero, bin_zero]
          simp
        | succ x =>
          have t2 : cf k (fun U => subB (fun i => A i || B i) (k + 1) (put U k) && P (fun i => put U k i && A i) && (cnt (k + 1) (fun i => put U k i && B i) == x + 1)) = cf k (fun U => subB A k U && P U) * bin (cnt k B) x := by
            rw [← split dj (k := k) (P := P) (x := x)]
            refine cf_congr fun U hU => ?_
            rw [sp, cp, e, b, a]
            have q : (cnt k (fun i => U i && B i) + 1 == x + 1) = (cnt k (fun i => U i && B i) == x) := by
              rw [Bool.eq_iff_iff, beq_iff_eq, beq_iff_eq]
              omega
            simp [q]
          rw [t2, if_pos rfl]
          show _ = _ * (bin (cnt k B) x + bin (cnt k B) (x + 1))
          simp only [Nat.add_zero, Nat.mul_add]
          omega
/-- the others as they are -/
theorem fixed {A X : Nat → Bool} : ∀ {k : Nat} {P : (Nat → Bool) → Bool},
    cf k (fun M => (List.range k).all (fun i => A i || (M i == X i)) && P (fun i => M i && A i)) = cf k (fun U => subB A k U && P U)
  | 0, P => rfl
  | k + 1, P => by
    have al : ∀ M : Nat → Bool, (List.range (k + 1)).all (fun i => A i || (M i == X i)) = ((List.range k).all (fun i => A i || (M i == X i)) && (A k || (M k == X k))) := fun M => by
      rw [List.range_succ, List.all_append]
      simp
    have ap : ∀ M : Nat → Bool, (List.range k).all (fun i => A i || (put M k i == X i)) = (List.range k).all (fun i => A i || (M i == X i)) := fun M => by
      rw [Bool.eq_iff_iff, List.all_eq_true, List.all_eq_true]
      constructor
      · intro h i hi
        have := h i hi
        rw [put_ne _ (by have := List.mem_range.mp hi; omega)] at this
        exact this
      · intro h i hi
        rw [put_ne _ (by have := List.mem_range.mp hi; omega)]
        exact h i hi
    have sp : ∀ U : Nat → Bool, subB A (k + 1) (put U k) = (subB A k U && A k) := fun U => by
      show (subB A k (put U k) && (!put U k k || A k)) = _
      rw [subB_put, put_self]
      simp
    have r1 : cf k (fun U => subB A (k + 1) U && P U) = cf k (fun U => subB A k U && P U) := cf_congr fun U hU => by
      have u0 := hU k (Nat.le_refl _)
      show (subB A k U && (!U k || A k) && P U) = _
      rw [u0]
      simp
    show cf k (fun M => (List.range (k + 1)).all (fun i => A i || (M i == X i)) && P (fun i => M i && A i)) + cf k (fun M => (List.range (k + 1)).all (fun i => A i || (put M k i == X i)) && P (fun i => put M k i && A i)) = cf k (fun U => subB A (k + 1) U && P U) + cf k (fun U => subB A (k + 1) (put U k) && P (put U k))
    rw [r1]
    cases a : A k with
    | true =>
      have t1 : cf k (fun M => (List.range (k + 1)).all (fun i => A i || (M i == X i)) && P (fun i => M i && A i)) = cf k (fun U => subB A k U && P U) := by
        rw [← fixed (k := k) (P := P) (X := X)]
        exact cf_congr fun U hU => by rw [al, a]; simp
      have t2 : cf k (fun M => (List.range (k + 1)).all (fun i => A i || (put M k i == X i)) && P (fun i => put M k i && A i)) = cf k (fun U => subB A (k + 1) (put U k) && P (put U k)) := by
        have q : cf k (fun U => subB A (k + 1) (put U k) && P (put U k)) = cf k (fun U => subB A k U && P (put U k)) := cf_congr fun U hU => by rw [sp, a, Bool.and_true]
        rw [q, ← fixed (k := k) (P := fun V => P (put V k)) (X := X)]
        refine cf_congr fun U hU => ?_
        have e : (fun i => put U k i && A i) = put (fun i => U i && A i) k := by
          funext i
          by_cases z : i = k
          · subst z
            rw [put_self, put_self, a]
            rfl
          · rw [put_ne _ z, put_ne _ z]
        rw [al, ap, e, a]
        simp
      rw [t1, t2]
    | false =>
      have r2 : cf k (fun U => subB A (k + 1) (put U k) && P (put U k)) = 0 := by
        rw [← cf_false k]
        exact cf_congr fun U hU => by rw [sp, a]; simp
      have e : ∀ U : Nat → Bool, (fun i => put U k i && A i) = (fun i => U i && A i) := fun U => by
        funext i
        by_cases z : i = k
        · subst z
          rw [a, Bool.and_false, Bool.and_false]
        · rw [put_ne _ z]
      have ih := fixed (A := A) (X := X) (k := k) (P := P)
      rw [r2, Nat.add_zero, ← ih]
      cases x : X k with
      | false =>
        have t1 : cf k (fun M => (List.range (k + 1)).all (fun i => A i || (M i == X i)) && P (fun i => M i && A i)) = cf k (fun M => (List.range k).all (fun i => A i || (M i == X i)) && P (fun i => M i && A i)) := cf_congr fun U hU => by
          rw [al, a, x, hU k (Nat.le_refl _)]
          simp
        have t2 : cf k (fun M => (List.range (k + 1)).all (fun i => A i || (put M k i == X i)) && P (fun i => put M k i && A i)) = 0 := by
          rw [← cf_false k]
          exact cf_congr fun U hU => by rw [al, a, x, put_self]; simp
        rw [t1, t2]
      | true =>
        have t1 : cf k (fun M => (List.range (k + 1)).all (fun i => A i || (M i == X i)) && P (fun i => M i && A i)) = 0 := by
          rw [← cf_false k]
          exact cf_congr fun U hU => by rw [al, a, x, hU k (Nat.le_refl _)]; simp
        have t2 : cf k (fun M => (List.range (k + 1)).all (fun i => A i || (put M k i == X i)) && P (fun i => put M k i && A i)) = cf k (fun M => (List.range k).all (fun i => A i || (M i == X i)) && P (fun i => M i && A i)) := cf_congr fun U hU => by
          rw [al, ap, e, a, x, put_self]
          simp
        rw [t1, t2]
        omega
/-! ### step by step from above: those who go, fewer with each step down -/
section
variable {k N f : Nat} {G : Nat → Nat → Bool}
/-- at each step from e on it is not stuck -/
def free (k N f : Nat) (G : Nat → Nat → Bool) (e : Nat) (U : Nat → Bool) : Bool := (List.range N).all fun n => decide (n < e) || decide (n < cnt k (G n) + f + cnt k (fun i => U i && !G n i))
theorem free_iff {e : Nat} {U : Nat → Bool} : free k N f G e U = true ↔ ∀ n, e ≤ n → n < N → n < cnt k (G n) + f + cnt k (fun i => U i && !G n i) := by
  unfold free
  rw [List.all_eq_true]
  constructor
  · intro h n he hn
    have := h n (List.mem_range.mpr hn)
    rw [Bool.or_eq_true, decide_eq_true_eq, decide_eq_true_eq] at this
    omega
  · intro h n hn
    rw [Bool.or_eq_true, decide_eq_true_eq, decide_eq_true_eq]
    by_cases c : n < e
    · exact .inl c
    · exact .inr (h n (by omega) (List.mem_range.mp hn))
/-- so many ways, of those that go at N and not at e -/
def ways (k N f : Nat) (G : Nat → Nat → Bool) (e t : Nat) : Nat := cf k (fun U => subB (fun i => G N i && !G e i) k U && (free k N f G e U && (cnt k U == t)))
theorem ways_top (t : Nat) : ways k N f G N t = if t = 0 then 1 else 0 := by
  have z : ∀ U, subB (fun i => G N i && !G N i) k U = true → cnt k U = 0 := fun U h => by
    rw [cnt_congr (U := fun _ => false) fun i hi => ?_]
    · exact Th.cnt_const k false
    · cases e : U i with
      | false => rfl
      | true =>
        have := subB_iff.mp h i hi e
        cases q : G N i <;> rw [q] at this <;> cases this
  have one : cf k (fun U => subB (fun i => G N i && !G N i) k U) = 1 := by
    have : ∀ {k : Nat}, cf k (fun U => subB (fun i => G N i && !G N i) k U) = 1 := fun {k} => by
      induction k with
      | zero => rfl
      | succ k ih =>
        have t1 : cf k (fun U => subB (fun i => G N i && !G N i) (k + 1) U) = 1 := by
          refine Eq.trans (cf_congr fun U hU => ?_) ih
          show (subB _ k U && (!U k || _)) = _
          rw [hU k (Nat.le_refl _)]
          simp
        have t2 : cf k (fun U => subB (fun i => G N i && !G N i) (k + 1) (put U k)) = 0 := by
          refine Eq.trans (cf_congr fun U hU => ?_) (cf_false k)
          show (subB _ k (put U k) && (!put U k k || (G N k && !G N k))) = false
          rw [put_self]
          cases G N k <;> simp
        show cf k (fun U => subB (fun i => G N i && !G N i) (k + 1) U) + cf k (fun U => subB (fun i => G N i && !G N i) (k + 1) (put U k)) = 1
        rw [t1, t2]
    exact this
  unfold ways
  by_cases c : t = 0
  · rw [if_pos c, ← one]
    refine cf_congr fun U hU => ?_
    cases q : subB (fun i => G N i && !G N i) k U with
    | false => rfl
    | true =>
      have fr : free k N f G N U = true := free_iff.mpr fun n h1 h2 => by omega
      rw [fr, z U q, c]
      rfl
  · rw [if_neg c]
    refine Eq.trans (cf_congr fun U hU => ?_) (cf_false k)
    cases q : subB (fun i => G N i && !G N i) k U with
    | false => rfl
    | true =>
      rw [z U q]
      have : (0 == t) = false := by rw [beq_eq_false_iff_ne]; omega
      rw [this, Bool.and_false, Bool.and_false]
/-- with so many more -/
theorem join {A B : Nat → Bool} (dj : ∀ i, A i = true → B i = false) {P : (Nat → Bool) → Bool} (t : Nat) :
    cf k (fun U => subB (fun i => A i || B i) k U && P (fun i => U i && A i) && (cnt k U == t)) = ((List.range (t + 1)).map fun x => cf k (fun U => subB A k U && (P U && (cnt k U == x))) * bin (cnt k B) (t - x)).sum := by
  have sp : ∀ {U : Nat → Bool}, subB (fun i => A i || B i) k U = true → cnt k U = cnt k (fun i => U i && A i) + cnt k (fun i => U i && B i) := fun {U} h => by
    rw [Th.cnt_split (k := k) U A]
    congr 1
    refine cnt_congr fun i hi => ?_
    cases e : U i with
    | false => rfl
    | true =>
      have := subB_iff.mp h i hi e
      cases a : A i with
      | true => rw [dj i a]; rfl
      | false =>
        rw [a] at this
        rw [show B i = true from this]
        rfl
  have e1 : ∀ x, x ∈ List.range (t + 1) → cf k (fun U => subB A k U && (P U && (cnt k U == x))) * bin (cnt k B) (t - x) = cf k (fun U => (subB (fun i => A i || B i) k U && P (fun i => U i && A i) && (cnt k U == t)) && (cnt k (fun i => U i && A i) == x)) := fun x hx => by
    rw [← split dj (k := k) (P := fun V => P V && (cnt k V == x)) (x := t - x)]
    refine cf_congr fun U hU => ?_
    have xl := List.mem_range.mp hx
    cases q : subB (fun i => A i || B i) k U with
    | false => rfl
    | true =>
      rw [sp q]
      cases P (fun i => U i && A i)
      · rfl
      · show (true && (true && (cnt k (fun i => U i && A i) == x)) && (cnt k (fun i => U i && B i) == t - x)) = ((true && true && (cnt k (fun i => U i && A i) + cnt k (fun i => U i && B i) == t)) && (cnt k (fun i => U i && A i) == x))
        rw [Bool.eq_iff_iff]
        simp only [Bool.true_and, Bool.and_eq_true, beq_iff_eq]
        omega
  rw [List.map_congr_left e1, cf_parts]
  refine cf_congr fun U hU => ?_
  cases q : subB (fun i => A i || B i) k U with
  | false => rfl
  | true =>
    have := sp q
    cases P (fun i => U i && A i)
    · rfl
    · show (true && true && (cnt k U == t)) = ((true && true && (cnt k U == t)) && decide (cnt k (fun i => U i && A i) ≤ t))
      rw [Bool.eq_iff_iff]
      simp only [Bool.true_and, Bool.and_eq_true, beq_iff_eq, decide_eq_true_eq]
      omega
theorem ways_step {e : Nat} (he : e < N) (mono : ∀ a b i, a ≤ b → b ≤ N → G a i = true → G b i = true) (t : Nat) :
    ways k N f G e t = if e < cnt k (G e) + f + t then ((List.range (t + 1)).map fun x => ways k N f G (e + 1) x * bin (cnt k (G (e + 1)) - cnt k (G e)) (t - x)).sum else 0 := by
  have cB : cnt k (fun i => G (e + 1) i && !G e i) = cnt k (G (e + 1)) - cnt k (G e) := by
    have := Th.cnt_split (k := k) (G (e + 1)) (G e)
    have e2 : cnt k (fun i => G (e + 1) i && G e i) = cnt k (G e) := cnt_congr fun i hi => by
      cases q : G e i with
      | false => rw [Bool.and_false]
      | true => rw [mono e (e + 1) i (by omega) (by omega) q]; rfl
    omega
  have eAB : (fun i => G N i && !G e i) = fun i => (G N i && !G (e + 1) i) || (G (e + 1) i && !G e i) := by
    funext i
    cases a : G e i with
    | true =>
      rw [mono e (e + 1) i (by omega) (by omega) a]
      simp
    | false =>
      cases b : G (e + 1) i with
      | true => rw [mono (e + 1) N i (by omega) (by omega) b]; rfl
      | false => simp
  have dj : ∀ i, (G N i && !G (e + 1) i) = true → (G (e + 1) i && !G e i) = false := fun i h => by
    cases b : G (e + 1) i with
    | true => rw [b] at h; simp at h
    | false => rfl
  have inA : ∀ {U : Nat → Bool} {n : Nat}, e + 1 ≤ n → n ≤ N → subB (fun i => G N i && !G e i) k U = true → cnt k (fun i => (U i && (G N i && !G (e + 1) i)) && !G n i) = cnt k (fun i => U i && !G n i) := fun {U n} h1 h2 h => cnt_congr fun i hi => by
    cases u : U i with
    | false => rfl
    | true =>
      have gN := subB_iff.mp h i hi u
      cases b : G n i with
      | true => simp
      | false =>
        have : G (e + 1) i = false := by
          cases c : G (e + 1) i with
          | false => rfl
          | true => rw [mono (e + 1) n i h1 h2 c] at b; cases b
        rw [this]
        cases q : G N i with
        | true => rfl
        | false => rw [q] at gN; cases gN
  have key : ways k N f G e t = if e < cnt k (G e) + f + t then cf k (fun U => subB (fun i => (G N i && !G (e + 1) i) || (G (e + 1) i && !G e i)) k U && free k N f G (e + 1) (fun i => U i && (G N i && !G (e + 1) i)) && (cnt k U == t)) else 0 := by
    unfold ways
    rw [← eAB]
    have cU : ∀ {U : Nat → Bool}, subB (fun i => G N i && !G e i) k U = true → cnt k (fun i => U i && !G e i) = cnt k U := fun {U} h => cnt_congr fun i hi => by
      cases u : U i with
      | false => rfl
      | true =>
        have := subB_iff.mp h i hi u
        cases b : G e i with
        | true => rw [b] at this; simp at this
        | false => rfl
    have fr : ∀ {U : Nat → Bool}, subB (fun i => G N i && !G e i) k U = true → (free k N f G e U = true ↔ e < cnt k (G e) + f + cnt k U ∧ free k N f G (e + 1) (fun i => U i && (G N i && !G (e + 1) i)) = true) := fun {U} h => by
      rw [free_iff, free_iff]
      constructor
      · intro a
        refine ⟨?_, fun n h1 h2 => ?_⟩
        · have := a e (Nat.le_refl _) he
          rw [cU h] at this
          exact this
        · rw [inA h1 (by omega) h]
          exact a n (by omega) h2
      · rintro ⟨a, b⟩ n h1 h2
        by_cases c : n = e
        · rw [c, cU h]
          exact a
        · have := b n (by omega) h2
          rw [inA (by omega) (by omega) h] at this
          exact this
    by_cases c : e < cnt k (G e) + f + t
    · rw [if_pos c]
      refine cf_congr fun U hU => ?_
      cases q : subB (fun i => G N i && !G e i) k U with
      | false => rfl
      | true =>
        rw [Bool.eq_iff_iff]
        simp only [Bool.true_and, Bool.and_eq_true, beq_iff_eq]
        rw [fr q]
        constructor
        · rintro ⟨⟨_, a⟩, b⟩
          exact ⟨a, b⟩
        · rintro ⟨a, b⟩
          exact ⟨⟨by rw [b]; exact c, a⟩, b⟩
    · rw [if_neg c]
      refine Eq.trans (cf_congr fun U hU => ?_) (cf_false k)
      cases q : subB (fun i => G N i && !G e i) k U with
      | false => rfl
      | true =>
        rw [Bool.eq_false_iff]
        simp only [Bool.true_and, ne_eq, Bool.and_eq_true, beq_iff_eq]
        rintro ⟨a, b⟩
        have := ((fr q).mp a).1
        rw [b] at this
        exact c this
  rw [key]
  by_cases c : e < cnt k (G e) + f + t
  · rw [if_pos c, if_pos c, join dj, cB]
    rfl
  · rw [if_neg c, if_neg c]
/-- all of them, of those that go at N -/
theorem ways_all (mono : ∀ a b i, a ≤ b → b ≤ N → G a i = true → G b i = true) (t : Nat) :
    cf k (fun U => subB (G N) k U && (free k N f G 0 U && (cnt k U == t))) = ((List.range (t + 1)).map fun x => ways k N f G 0 x * bin (cnt k (G 0)) (t - x)).sum := by
  have eAB : G N = fun i => (G N i && !G 0 i) || G 0 i := by
    funext i
    cases a : G 0 i with
    | true => rw [mono 0 N i (by omega) (by omega) a]; rfl
    | false => simp
  have dj : ∀ i, (G N i && !G 0 i) = true → G 0 i = false := fun i h => by
    cases b : G 0 i with
    | true => rw [b] at h; simp at h
    | false => rfl
  have inA : ∀ {U : Nat → Bool} {n : Nat}, n ≤ N → subB (G N) k U = true → cnt k (fun i => (U i && (G N i && !G 0 i)) && !G n i) = cnt k (fun i => U i && !G n i) := fun {U n} h2 h => cnt_congr fun i hi => by
    cases u : U i with
    | false => rfl
    | true =>
      have gN := subB_iff.mp h i hi u
      rw [gN]
      cases b : G n i with
      | true => simp
      | false =>
        have : G 0 i = false := by
          cases c : G 0 i with
          | false => rfl
          | true => rw [mono 0 n i (by omega) h2 c] at b; cases b
        rw [this]
        rfl
  have j := join (k := k) dj (P := free k N f G 0) t
  rw [← eAB] at j
  unfold ways
  rw [← j]
  refine cf_congr fun U hU => ?_
  cases q : subB (G N) k U with
  | false => rfl
  | true =>
    have : free k N f G 0 (fun i => U i && (G N i && !G 0 i)) = free k N f G 0 U := by
      rw [Bool.eq_iff_iff, free_iff, free_iff]
      constructor
      · intro a n h1 h2
        have := a n h1 h2
        rw [inA (by omega) q] at this
        exact this
      · intro a n h1 h2
        rw [inA (by omega) q]
        exact a n h1 h2
    rw [this, Bool.true_and, Bool.true_and]
end
end Ct

namespace Ct
open Th (cnt cnt_succ cnt_congr cnt_zero)
theorem sum_zeros {F : Nat → Nat} {a : Nat} (h : ∀ x, a ≤ x → F x = 0) : ∀ b, a ≤ b → ((List.range b).map F).sum = ((List.range a).map F).sum
  | 0, hb => by
    obtain rfl : a = 0 := by omega
    rfl
  | b + 1, hb => by
    by_cases e : a = b + 1
    · rw [e]
    · rw [List.range_succ, List.map_append, List.sum_append, sum_zeros h b (by omega)]
      show _ + (F b + 0) = _
      rw [h b (by omega)]
      rfl
/-! ### the ways as a list of numbers -/
def cv (ws : List Nat) (m t : Nat) : Nat := ((List.range ws.length).map fun i => if i ≤ t then ws.getD i 0 * bin m (t - i) else 0).sum
theorem getD_ge {ws : List Nat} {x : Nat} (h : ws.length ≤ x) : ws.getD x 0 = 0 := by
  rw [List.getD_eq_getElem?_getD, List.getElem?_eq_none h]
  rfl
theorem cv_eq (ws : List Nat) (m t : Nat) : cv ws m t = ((List.range (t + 1)).map fun x => ws.getD x 0 * bin m (t - x)).sum := by
  have a := sum_zeros (F := fun x => if x ≤ t then ws.getD x 0 * bin m (t - x) else 0) (a := ws.length) (fun x hx => by rw [getD_ge hx]; simp) (ws.length + (t + 1)) (by omega)
  have b := sum_zeros (F := fun x => if x ≤ t then ws.getD x 0 * bin m (t - x) else 0) (a := t + 1) (fun x hx => by rw [if_neg (by omega)]) (ws.length + (t + 1)) (by omega)
  unfold cv
  rw [← a, b]
  congr 1
  refine List.map_congr_left fun x hx => ?_
  rw [if_pos (by have := List.mem_range.mp hx; omega)]
theorem cv_zero {ws : List Nat} {m t : Nat} (h : ws.length + m ≤ t) : cv ws m t = 0 := by
  unfold cv
  have : ∀ l : List Nat, (∀ i ∈ l, i < ws.length) → (l.map fun i => if i ≤ t then ws.getD i 0 * bin m (t - i) else 0).sum = 0 := fun l => by
    induction l with
    | nil => intro _; rfl
    | cons i l ih =>
      intro hl
      rw [List.map_cons, List.sum_cons, ih fun j hj => hl j (.tail _ hj)]
      have := hl i (.head _)
      rw [bin_gt (n := m) (p := t - i) (by omega)]
      simp
  exact this _ fun i hi => List.mem_range.mp hi
def more (ws : List Nat) (m : Nat) : List Nat := (List.range (ws.length + m)).map (cv ws m)
theorem map_range_getD {F : Nat → Nat} {n t : Nat} : ((List.range n).map F).getD t 0 = if t < n then F t else 0 := by
  rw [List.getD_eq_getElem?_getD, List.getElem?_map]
  by_cases c : t < n
  · rw [if_pos c, List.getElem?_range c]
    rfl
  · rw [if_neg c, List.getElem?_eq_none (by rw [List.length_range]; omega)]
    rfl
theorem more_get (ws : List Nat) (m t : Nat) : (more ws m).getD t 0 = cv ws m t := by
  unfold more
  rw [map_range_getD]
  by_cases c : t < ws.length + m
  · rw [if_pos c]
  · rw [if_neg c, cv_zero (by omega)]
def mask (g f e : Nat) (ws : List Nat) : List Nat := (List.range ws.length).map fun t => if e < g + f + t then ws.getD t 0 else 0
theorem mask_get (g f e : Nat) (ws : List Nat) (t : Nat) : (mask g f e ws).getD t 0 = if e < g + f + t then ws.getD t 0 else 0 := by
  unfold mask
  rw [map_range_getD]
  by_cases c : t < ws.length
  · rw [if_pos c]
  · rw [if_neg c, getD_ge (by omega)]
    simp
def dp (g : Nat → Nat) (f N : Nat) : Nat → List Nat
  | 0 => [1]
  | j + 1 => mask (g (N - (j + 1))) f (N - (j + 1)) (more (dp g f N j) (g (N - j) - g (N - (j + 1))))
def tot (g : Nat → Nat) (f N : Nat) : Nat := ((List.range (more (dp g f N N) (g 0)).length).map fun t => if f + t ≤ N then (more (dp g f N N) (g 0)).getD t 0 else 0).sum
section
variable {k N f : Nat} {G : Nat → Nat → Bool}
theorem dp_ways (mono : ∀ a b i, a ≤ b → b ≤ N → G a i = true → G b i = true) : ∀ j, j ≤ N → ∀ t, (dp (fun e => cnt k (G e)) f N j).getD t 0 = ways k N f G (N - j) t
  | 0, _, t => by
    rw [Nat.sub_zero, ways_top]
    show [1].getD t 0 = _
    cases t <;> rfl
  | j + 1, hj, t => by
    have ih := dp_ways mono j (by omega)
    have e : N - j = N - (j + 1) + 1 := by omega
    show (mask _ f (N - (j + 1)) (more (dp (fun e => cnt k (G e)) f N j) _)).getD t 0 = _
    rw [mask_get, more_get, cv_eq, ways_step (by omega) mono]
    congr 1
    congr 1
    refine List.map_congr_left fun x _ => ?_
    rw [ih x]
    show ways k N f G (N - j) x * bin (cnt k (G (N - j)) - cnt k (G (N - (j + 1)))) (t - x) = _
    rw [e]
/-- those who are no more than N here, never stuck on the way up, who lies fast as X has it -/
def below (k N : Nat) (G : Nat → Nat → Bool) (X M : Nat → Bool) : Bool := (List.range k).all (fun i => G N i || (M i == X i)) && (decide (cnt k M ≤ N) && (List.range N).all (fun n => decide (n < cnt k (fun i => M i || G n i))))
theorem cnt_or {S g : Nat → Bool} : cnt k (fun i => S i || g i) = cnt k g + cnt k (fun i => S i && !g i) := by
  have := Th.cnt_and_or (k := k) S g
  omega
theorem below_cnt (mono : ∀ a b i, a ≤ b → b ≤ N → G a i = true → G b i = true) {X M : Nat → Bool} (h : (List.range k).all (fun i => G N i || (M i == X i)) = true) : cnt k M = cnt k (fun i => X i && !G N i) + cnt k (fun i => M i && G N i) ∧ ∀ n, n ≤ N → cnt k (fun i => M i && !G n i) = cnt k (fun i => X i && !G N i) + cnt k (fun i => (M i && G N i) && !G n i) := by
  have e : ∀ i, i < k → G N i = false → M i = X i := fun i hi g => by
    have := List.all_eq_true.mp h i (List.mem_range.mpr hi)
    rw [g] at this
    exact beq_iff_eq.mp this
  have x1 : cnt k (fun i => M i && !G N i) = cnt k (fun i => X i && !G N i) := cnt_congr fun i hi => by
    cases g : G N i with
    | true => simp
    | false => rw [e i hi g]
  refine ⟨?_, fun n hn => ?_⟩
  · have := Th.cnt_split (k := k) M (G N)
    omega
  · have := Th.cnt_split (k := k) (fun i => M i && !G n i) (G N)
    have y1 : cnt k (fun i => (M i && !G n i) && !G N i) = cnt k (fun i => X i && !G N i) := by
      rw [← x1]
      refine cnt_congr fun i hi => ?_
      cases g : G N i with
      | true => simp
      | false =>
        have : G n i = false := by
          cases c : G n i with
          | false => rfl
          | true => rw [mono n N i hn (Nat.le_refl _) c] at g; cases g
        rw [this]
        simp
    have y2 : cnt k (fun i => (M i && !G n i) && G N i) = cnt k (fun i => (M i && G N i) && !G n i) := cnt_congr fun i hi => by cases M i <;> cases G n i <;> cases G N i <;> rfl
    omega
theorem below_tot (mono : ∀ a b i, a ≤ b → b ≤ N → G a i = true → G b i = true) (X : Nat → Bool) : cf k (below k N G X) = tot (fun e => cnt k (G e)) (cnt k (fun i => X i && !G N i)) N := by
  have key : cf k (below k N G X) = cf k (fun M => (List.range k).all (fun i => G N i || (M i == X i)) && (fun U => free k N (cnt k (fun i => X i && !G N i)) G 0 U && decide (cnt k (fun i => X i && !G N i) + cnt k U ≤ N)) (fun i => M i && G N i)) := cf_congr fun M hM => by
    unfold below
    cases q : (List.range k).all (fun i => G N i || (M i == X i)) with
    | false => rfl
    | true =>
      obtain ⟨c1, c2⟩ := below_cnt mono q
      dsimp only
      rw [Bool.true_and, Bool.true_and, c1, Bool.and_comm]
      congr 1
      rw [Bool.eq_iff_iff, free_iff, List.all_eq_true]
      constructor
      · intro a n _ hn
        have := of_decide_eq_true (a n (List.mem_range.mpr hn))
        rw [cnt_or, c2 n (by omega)] at this
        omega
      · intro a n hn
        have hn' := List.mem_range.mp hn
        have := a n (Nat.zero_le _) hn'
        refine decide_eq_true ?_
        rw [cnt_or, c2 n (by omega)]
        omega
  rw [key, fixed (P := fun U => free k N (cnt k (fun i => X i && !G N i)) G 0 U && decide (cnt k (fun i => X i && !G N i) + cnt k U ≤ N))]
  generalize cnt k (fun i => X i && !G N i) = f
  have p := cf_parts (k := k) (P := fun U => subB (G N) k U && (free k N f G 0 U && decide (f + cnt k U ≤ N))) (f := fun U => cnt k U) N
  have e0 : cf k (fun U => subB (G N) k U && (free k N f G 0 U && decide (f + cnt k U ≤ N))) = cf k (fun U => (subB (G N) k U && (free k N f G 0 U && decide (f + cnt k U ≤ N))) && decide (cnt k U ≤ N)) := cf_congr fun U _ => by
    cases subB (G N) k U
    · rfl
    · cases free k N f G 0 U
      · rfl
      · rw [Bool.eq_iff_iff]
        simp only [Bool.true_and, Bool.and_eq_true, decide_eq_true_eq]
        omega
  rw [e0, ← p]
  have e1 : ∀ t, cf k (fun U => (subB (G N) k U && (free k N f G 0 U && decide (f + cnt k U ≤ N))) && (cnt k U == t)) = if f + t ≤ N then (more (dp (fun e => cnt k (G e)) f N N) (cnt k (G 0))).getD t 0 else 0 := fun t => by
    have d := dp_ways (k := k) (f := f) mono N (Nat.le_refl _)
    by_cases c : f + t ≤ N
    · rw [if_pos c, more_get, cv_eq]
      have w := ways_all (k := k) (f := f) mono t
      have e2 : ((List.range (t + 1)).map fun x => (dp (fun e => cnt k (G e)) f N N).getD x 0 * bin (cnt k (G 0)) (t - x)).sum = ((List.range (t + 1)).map fun x => ways k N f G 0 x * bin (cnt k (G 0)) (t - x)).sum := by
        congr 1
        refine List.map_congr_left fun x _ => ?_
        rw [d x, Nat.sub_self]
      rw [e2, ← w]
      refine cf_congr fun U _ => ?_
      rw [Bool.eq_iff_iff]
      simp only [Bool.and_eq_true, decide_eq_true_eq, beq_iff_eq]
      constructor
      · rintro ⟨⟨a, b, _⟩, e⟩
        exact ⟨a, b, e⟩
      · rintro ⟨a, b, e⟩
        exact ⟨⟨a, b, by rw [e]; exact c⟩, e⟩
    · rw [if_neg c]
      refine Eq.trans (cf_congr fun U _ => ?_) (cf_false k)
      rw [Bool.eq_false_iff]
      simp only [ne_eq, Bool.and_eq_true, decide_eq_true_eq, beq_iff_eq]
      rintro ⟨⟨_, _, b⟩, e⟩
      rw [e] at b
      exact c b
  unfold tot
  have lhs : ((List.range (N + 1)).map fun x => cf k (fun U => (subB (G N) k U && (free k N f G 0 U && decide (f + cnt k U ≤ N))) && (cnt k U == x))).sum = ((List.range (N + 1)).map fun t => if f + t ≤ N then (more (dp (fun e => cnt k (G e)) f N N) (cnt k (G 0))).getD t 0 else 0).sum := by
    congr 1
    exact List.map_congr_left fun x _ => e1 x
  rw [lhs]
  generalize more (dp (fun e => cnt k (G e)) f N N) (cnt k (G 0)) = ws
  have a := sum_zeros (F := fun t => if f + t ≤ N then ws.getD t 0 else 0) (a := N + 1) (fun x hx => by rw [if_neg (by omega)]) (ws.length + (N + 1)) (by omega)
  have b := sum_zeros (F := fun t => if f + t ≤ N then ws.getD t 0 else 0) (a := ws.length) (fun x hx => by rw [getD_ge hx]; simp) (ws.length + (N + 1)) (by omega)
  rw [← a, b]
/-- turned about there are as many -/
theorem cf_co : ∀ {k : Nat} {P : (Nat → Bool) → Bool}, (∀ U V, (∀ i, i < k → U i = V i) → P U = P V) → cf k (fun M => P (Th.co M)) = cf k P
  | 0, P, h => by
    show (if P (Th.co fun _ => false) = true then 1 else 0) = (if P (fun _ => false) = true then 1 else 0)
    rw [h (Th.co fun _ => false) (fun _ => false) fun i hi => by omega]
  | k + 1, P, h => by
    have p1 : ∀ U V : Nat → Bool, (∀ i, i < k → U i = V i) → P (put U k) = P (put V k) := fun U V e => h _ _ fun i hi => by
      by_cases z : i = k
      · subst z
        rw [put_self, put_self]
      · rw [put_ne _ z, put_ne _ z]
        exact e i (by omega)
    have p0 : ∀ U V : Nat → Bool, (∀ i, i < k → U i = V i) → P (fun i => if i = k then false else U i) = P (fun i => if i = k then false else V i) := fun U V e => h _ _ fun i hi => by
      by_cases z : i = k
      · rw [if_pos z, if_pos z]
      · rw [if_neg z, if_neg z]
        exact e i (by omega)
    have t1 : cf k (fun M => P (Th.co M)) = cf k (fun U => P (put U k)) := by
      rw [← cf_co (k := k) (P := fun U => P (put U k)) p1]
      refine cf_congr fun M hM => h _ _ fun i hi => ?_
      by_cases z : i = k
      · subst z
        rw [put_self]
        show (!M i) = true
        rw [hM i (Nat.le_refl _)]
        rfl
      · rw [put_ne _ z]
    have t2 : cf k (fun M => P (Th.co (put M k))) = cf k P := by
      have q : cf k P = cf k (fun U => P (fun i => if i = k then false else U i)) := cf_congr fun U hU => h _ _ fun i hi => by
        by_cases z : i = k
        · rw [if_pos z, z]
          exact hU k (Nat.le_refl _)
        · rw [if_neg z]
      rw [q, ← cf_co (k := k) (P := fun U => P (fun i => if i = k then false else U i)) p0]
      refine cf_congr fun M hM => h _ _ fun i hi => ?_
      show (!put M k i) = _
      by_cases z : i = k
      · rw [if_pos z, z, put_self]
        rfl
      · rw [if_neg z, put_ne _ z]
        rfl
    show cf k (fun M => P (Th.co M)) + cf k (fun M => P (Th.co (put M k))) = cf k P + cf k (fun U => P (put U k))
    rw [t1, t2]
    omega
end
end Ct

namespace Ct
open Th (cnt cnt_succ cnt_congr cnt_zero)
section
variable {k N T : Nat} {G : Nat → Nat → Bool} {S M : Nat → Bool}
theorem fast_all {g : Nat → Bool} : (∀ i, i < k → g i = false → M i = S i) ↔ (List.range k).all (fun i => g i || (M i == S i)) = true := by
  rw [List.all_eq_true]
  constructor
  · intro a i hi
    cases q : g i with
    | true => rfl
    | false => rw [a i (List.mem_range.mp hi) q]; simp
  · intro a i hi q
    have := a i (List.mem_range.mpr hi)
    rw [q] at this
    exact beq_iff_eq.mp this
theorem below_iff : below k N G S M = true ↔ (∀ i, i < k → G N i = false → M i = S i) ∧ cnt k M ≤ N ∧ ∀ n, cnt k M ≤ n → n < N → n < cnt k (fun i => M i || G n i) := by
  unfold below
  rw [Bool.and_eq_true, Bool.and_eq_true, ← fast_all, List.all_eq_true, decide_eq_true_eq]
  refine and_congr Iff.rfl (and_congr Iff.rfl ⟨fun a n _ h2 => of_decide_eq_true (a n (List.mem_range.mpr h2)), fun a n hn => decide_eq_true ?_⟩)
  by_cases z : cnt k M ≤ n
  · exact a n z (List.mem_range.mp hn)
  · have : cnt k M ≤ cnt k (fun i => M i || G n i) := Th.cnt_mono fun i _ h => by rw [h]; rfl
    omega
theorem below_low (h : Th.StuckLow k G N S) (t : Th.Top k G T) (hN : N ≤ T) (ho : ∀ i, ¬ i < k → M i = S i) : Th.Reach k G S M ↔ below k N G S M = true := by
  rw [h.iff t hN ho, below_iff]
  have fx : (∀ i, i < k → (M i || G N i) = (S i || G N i)) ↔ ∀ i, i < k → G N i = false → M i = S i := by
    constructor
    · intro a i hi g
      have := a i hi
      rw [g, Bool.or_false, Bool.or_false] at this
      exact this
    · intro a i hi
      cases g : G N i with
      | true => rw [Bool.or_true, Bool.or_true]
      | false => rw [a i hi g]
  rw [fx]
  constructor
  · rintro ⟨⟨a, b, c⟩, d⟩
    exact ⟨d, a, b⟩
  · rintro ⟨d, a, b⟩
    refine ⟨⟨a, b, ?_⟩, d⟩
    rw [cnt_congr (fx.mpr d)]
    exact h.2.2
theorem below_same {X U V : Nat → Bool} (e : ∀ i, i < k → U i = V i) : below k N G X U = below k N G X V := by
  rw [Bool.eq_iff_iff, below_iff, below_iff, cnt_congr e]
  have e2 : ∀ n, cnt k (fun i => U i || G n i) = cnt k (fun i => V i || G n i) := fun n => cnt_congr fun i hi => by rw [e i hi]
  constructor
  · rintro ⟨a, b, c⟩
    exact ⟨fun i hi g => by rw [← e i hi]; exact a i hi g, b, fun n h1 h2 => by rw [← e2]; exact c n h1 h2⟩
  · rintro ⟨a, b, c⟩
    exact ⟨fun i hi g => by rw [e i hi]; exact a i hi g, b, fun n h1 h2 => by rw [e2]; exact c n h1 h2⟩
/-- sinking is rising, turned about, but for the top's own step -/
theorem sinks_iff (hT : T < k) (hf : cnt k (fun i => M i && !G T i) ≤ T) : Th.Sinks k G T M ↔ cnt k (Th.co M) ≤ k - 1 - T ∧ ∀ n, cnt k (Th.co M) ≤ n → n < k - 1 - T → n < cnt k (fun i => Th.co M i || Th.dual k G n i) := by
  have c0 := Th.cnt_co k M
  have key : ∀ s, s < k → cnt k (fun i => Th.co M i || G s i) + cnt k (fun i => M i && !G s i) = k := fun s hs => by
    have e : (fun i => Th.co M i || G s i) = Th.co (fun i => M i && !G s i) := Th.co_or M (G s)
    rw [e]
    have := Th.cnt_co k (fun i => M i && !G s i)
    omega
  constructor
  · rintro ⟨a, b⟩
    refine ⟨by omega, fun n h1 h2 => ?_⟩
    have q := b (k - 1 - n) (by omega) (by omega)
    have := key (k - 1 - n) (by omega)
    show n < cnt k (fun i => Th.co M i || G (k - 1 - n) i)
    omega
  · rintro ⟨a, b⟩
    refine ⟨by omega, fun s h1 h2 => ?_⟩
    by_cases e : s = T
    · rw [e]
      exact hf
    · have sk : s < k := by omega
      have q : k - 1 - s < cnt k (fun i => Th.co M i || G (k - 1 - (k - 1 - s)) i) := b (k - 1 - s) (by omega) (by omega)
      rw [show k - 1 - (k - 1 - s) = s by omega] at q
      have := key s sk
      omega
theorem below_open (h : Th.Open k G T S) (t : Th.Top k G T) (ho : ∀ i, ¬ i < k → M i = S i) : Th.Reach k G S M ↔ (below k T G S M || below k (k - 1 - T) (Th.dual k G) (Th.co S) (Th.co M)) = true := by
  have hT := t.lt
  have f0 : cnt k (fun i => S i && !G T i) ≤ T := by
    rcases h.1 with r | r
    · have : cnt k (fun i => S i && !G T i) ≤ cnt k S := Th.cnt_mono fun i _ q => by
        cases e : S i with
        | true => rfl
        | false => rw [e] at q; cases q
      have := r.1
      omega
    · exact r.2 T (Nat.le_refl _) r.1
  have fM : (∀ i, i < k → G T i = false → M i = S i) → cnt k (fun i => M i && !G T i) ≤ T := fun a => by
    rw [cnt_congr (U := fun i => S i && !G T i) fun i hi => ?_]
    · exact f0
    · cases g : G T i with
      | true => simp
      | false => rw [a i hi g]
  have dl : ∀ i, Th.dual k G (k - 1 - T) i = G T i := fun i => by
    show G (k - 1 - (k - 1 - T)) i = _
    rw [show k - 1 - (k - 1 - T) = T by omega]
  have fc : (∀ i, i < k → Th.dual k G (k - 1 - T) i = false → Th.co M i = Th.co S i) ↔ ∀ i, i < k → G T i = false → M i = S i := by
    constructor
    · intro a i hi g
      have := a i hi (by rw [dl]; exact g)
      revert this
      show (!M i) = (!S i) → _
      cases M i <;> cases S i <;> simp
    · intro a i hi g
      rw [dl] at g
      show (!M i) = (!S i)
      rw [a i hi g]
  rw [Bool.or_eq_true, below_iff, below_iff, fc]
  constructor
  · intro r
    have a := Th.fast_inv t r
    rcases (h.same t r).1 with q | q
    · exact .inl ⟨a, q⟩
    · exact .inr ⟨a, (sinks_iff hT (fM a)).mp q⟩
  · rintro (⟨a, q⟩ | ⟨a, q⟩)
    · exact Th.open_reach t h.1 (.inl q) a ho
    · exact Th.open_reach t h.1 (.inr ((sinks_iff hT (fM a)).mpr q)) a ho
/-- how many it comes to -/
noncomputable def fam (k : Nat) (G : Nat → Nat → Bool) (S : Nat → Bool) : Nat := cf k (fun M => @decide (Th.Reach k G S M) (Classical.propDecidable _))
theorem fam_of {P : (Nat → Bool) → Bool} (S0 : ∀ i, ¬ i < k → S i = false) (h : ∀ M, (∀ i, ¬ i < k → M i = S i) → (Th.Reach k G S M ↔ P M = true)) : fam k G S = cf k P := cf_congr fun M hM => by
  rw [Bool.eq_iff_iff]
  exact Iff.trans (@decide_eq_true_iff _ (Classical.propDecidable _)) (h M fun i hi => by rw [S0 i hi, hM i (by omega)])
theorem fam_low (S0 : ∀ i, ¬ i < k → S i = false) (h : Th.StuckLow k G N S) (t : Th.Top k G T) (hN : N ≤ T) : fam k G S = cf k (below k N G S) := fam_of S0 fun M ho => below_low h t hN ho
theorem fam_high (S0 : ∀ i, ¬ i < k → S i = false) (h : Th.StuckLow k (Th.dual k G) N (Th.co S)) (t : Th.Top k G T) (hN : N ≤ k - 1 - T) : fam k G S = cf k (below k N (Th.dual k G) (Th.co S)) := by
  rw [fam_of S0 fun M ho => Iff.trans ⟨fun r => r.dual, fun r => r.codual⟩ (below_low h t.dual hN fun i hi => by show (!M i) = (!S i); rw [ho i hi])]
  exact cf_co (P := below k N (Th.dual k G) (Th.co S)) fun U V e => below_same e
theorem fam_open (S0 : ∀ i, ¬ i < k → S i = false) (h : Th.Open k G T S) (t : Th.Top k G T) : fam k G S = cf k (below k T G S) + cf k (below k (k - 1 - T) (Th.dual k G) (Th.co S)) := by
  rw [fam_of S0 fun M ho => below_open h t ho, cf_add, cf_co (P := below k (k - 1 - T) (Th.dual k G) (Th.co S)) fun U V e => below_same e]
  intro M
  rw [Bool.eq_false_iff]
  intro q
  rw [Bool.and_eq_true, below_iff, below_iff] at q
  have := q.1.2.1
  have := q.2.2.1
  have := Th.cnt_co k M
  have := t.lt
  omega
end
end Ct

namespace Sh
open PySem PySem.Spec PyProof.Rows L2
def nl (ws : List Nat) : List V := (ws.map fun (n : Nat) => (n : Int)).map V.int
theorem nl_len (ws : List Nat) : (nl ws).length = ws.length := by unfold nl; rw [List.length_map, List.length_map]
theorem nl_get {ws : List Nat} {i : Nat} (h : i < ws.length) : (nl ws)[i]? = some (.int ((ws[i] : Nat) : Int)) := by
  unfold nl
  rw [List.getElem?_map, List.getElem?_map, List.getElem?_eq_getElem h]
  rfl
theorem nl_set {ws : List Nat} {i n : Nat} : (nl ws).set i (.int (n : Int)) = nl (ws.set i n) := by
  unfold nl
  rw [List.map_set, List.map_set]
def spWaysTake : Sp := fun vs H Q _ => ∃ (m : Nat) (t : Int), vs = [.int (m : Int), .int t] ∧ m ≤ 1000 ∧ ∀ H', Same H H' → Q (.int ((if t < 0 then 0 else Ct.bin m t.toNat : Nat) : Int)) H'
def spWithMore (K : PySem.W.Frag) : Sp := fun vs H Q _ => ∃ (p : Addr) (ws : List Nat) (m : Nat), vs = [.ref p, .int (m : Int)] ∧ SqL K H p (nl ws) ∧ ws.length ≤ 500 ∧ m ≤ 60 ∧ ∀ (H' : Hp) (q : Addr), Same H H' → H q = none → H' q = some (.lst (nl (Ct.more ws m))) → Q (.ref q) H'
def spWaysBelow (K : PySem.W.Frag) : Sp := fun vs H Q _ => ∃ (v l : V) (h t : Int) (ss : List Srt) (kd : Kd) (N : Nat), vs = [v, l] ∧ FltA K H v h t ss ∧ ss.length ≤ 1000 ∧ LtA K H l kd (N : Int) ∧ mny ss ≤ 60 ∧ N ≤ 60 ∧ (∀ e, e < N → gmF ss (mk h t (mny ss) (e : Int)) ≤ gmF ss (mk h t (mny ss) ((e + 1 : Nat) : Int))) ∧
  ∀ H', Same H H' → Q (.int ((Ct.tot (fun e => gmF ss (mk h t (mny ss) (e : Int))) (fxF ss (mk h t (mny ss) (N : Int))).sum N : Nat) : Int)) H'
abbrev s_ways_to_take : Stmt := topS 20
theorem sc_ways_to_take : FnScope (["many", "taken", "ways", "place"] : List Str) (["many", "taken"] : List Str) (defScope s_ways_to_take) := ⟨rfl, rfl, rfl, by decide +kernel, rfl, by decide +kernel, by decide +kernel⟩
theorem b_ways_to_take (kV doc pm : Value) (an : Option Addr) (cdv ct : Value) (us : List Value) (hl : us.length = (["many", "taken"] : List Str).length) : bindArgs (PySem.W.fnOf "ways_to_take" "ways_to_take" (defArgs s_ways_to_take) (defBody s_ways_to_take) (defScope s_ways_to_take) .none kV doc pm an cdv ct) ⟨us, []⟩ = pure ((["many", "taken"] : List Str).zip us) :=
  match us, hl with | [_, _], _ => rfl
abbrev s_with_more : Stmt := topS 21
theorem sc_with_more : FnScope (["ways", "many", "longer", "taken", "number", "more"] : List Str) (["ways", "many"] : List Str) (defScope s_with_more) := ⟨rfl, rfl, rfl, by decide +kernel, rfl, by decide +kernel, by decide +kernel⟩
theorem b_with_more (kV doc pm : Value) (an : Option Addr) (cdv ct : Value) (us : List Value) (hl : us.length = (["ways", "many"] : List Str).length) : bindArgs (PySem.W.fnOf "with_more" "with_more" (defArgs s_with_more) (defBody s_with_more) (defScope s_with_more) .none kV doc pm an cdv ct) ⟨us, []⟩ = pure ((["ways", "many"] : List Str).zip us) :=
  match us, hl with | [_, _], _ => rfl
abbrev s_ways_below : Stmt := topS 22
theorem sc_ways_below : FnScope (["fleet", "lot", "step", "fixed", "ways", "goers", "earlier", "fewer", "taken", "number"] : List Str) (["fleet", "lot"] : List Str) (defScope s_ways_below) := ⟨rfl, rfl, rfl, by decide +kernel, rfl, by decide +kernel, by decide +kernel⟩
theorem b_ways_below (kV doc pm : Value) (an : Option Addr) (cdv ct : Value) (us : List Value) (hl : us.length = (["fleet", "lot"] : List Str).length) : bindArgs (PySem.W.fnOf "ways_below" "ways_below" (defArgs s_ways_below) (defBody s_ways_below) (defScope s_ways_below) .none kV doc pm an cdv ct) ⟨us, []⟩ = pure ((["fleet", "lot"] : List Str).zip us) :=
  match us, hl with | [_, _], _ => rfl
section
variable {P : Program} {w : World} {K : PySem.W.Frag} {mg : Str → Option Value} {base : Heap}
theorem ok_ways_take {k : Nat} (D : Df K mg "ways_to_take" s_ways_to_take) (T : Bt mg) : Ok P w K mg base (k + 1) "ways_to_take" s_ways_to_take ["many", "taken"] spWaysTake := by
  refine D.ok sc_ways_to_take b_ways_to_take (fun vs H Q E h => ?_) (fun f cdv A outer s H vs Q E hr h => ?_)
  · obtain ⟨m, t, rfl, _⟩ := h
    rfl
  · obtain ⟨m, t, rfl, m1, q⟩ := h
    refine ⟨_, (pss_cons (ps_if (PW.pt (pw_or (pt_cmpR op_lt (pv 1) pe_int (nomark _)) (pw_or1 (pt_cmpR op_gt (pv 1) (pv 0) (nomark _)))))
        (pss_one (ps_ret pe_int))
        pss_nil)
      (pss_cons (ps_set (i := 2) sc_ways_to_take.nd rfl (.inl rfl) pe_int)
      (pss_cons (ps_for PassesOwn.never rfl (pi_range1 (by rfl) T.range_ (pa_cons (pv 1) pa_nil)) (pg_name (i := 3) sc_ways_to_take.nd rfl (.inl rfl))
        (pss_one (ps_set (i := 2) sc_ways_to_take.nd rfl (.inl rfl) (pe_op op_fdiv (pe_op op_mul (pv 2) (pe_op op_sub (pv 0) (pv 3))) (pe_op op_add (pv 3) pe_int)))))
      (pss_one (ps_ret (pv 2)))))), ?_⟩
    refine ⟨_, rfl, _, _, rfl, rfl, _, rfl, ?_⟩
    by_cases c : t < 0
    · rw [decide_eq_true c]
      rw [if_pos c] at q
      exact iteT (iteT (q H (Same.refl _)))
    rw [decide_eq_false c]
    refine iteF ?_
    rw [if_neg c] at q
    refine ⟨_, rfl, _, rfl, _, _, rfl, rfl, _, rfl, ?_⟩
    by_cases c2 : (m : Int) < t
    · rw [decide_eq_true c2]
      rw [Ct.bin_gt (by omega)] at q
      exact iteT (q H (Same.refl _))
    rw [decide_eq_false c2]
    refine iteF ?_
    obtain ⟨tn, rfl⟩ := Int.eq_ofNat_of_zero_le (show 0 ≤ t by omega)
    rw [Int.toNat_natCast] at q
    refine ⟨_, rfl, (tn : Int), rfl, by omega, by omega, ?_⟩
    rw [Int.toNat_natCast]
    refine for_range (lo := 0) (n := tn) (fun i σ H' => ∃ y3 : Option V, σ = [some (.int (m : Int)), some (.int (tn : Int)), some (.int ((Ct.bin m i : Nat) : Int)), y3] ∧ H' = H) ⟨none, by rw [Ct.bin_zero]; rfl, rfl⟩ ?_ ?_
    · rintro i σ H1 hi ⟨y3, rfl, rfl⟩
      refine ⟨_, rfl, _, rfl, _, rfl, _, _, rfl, rfl, _, _, rfl, rfl, .inr ⟨by omega, by omega⟩, _, rfl, _, 1, rfl, rfl, _, _, rfl, rfl, ⟨by omega, by omega⟩, ?_⟩
      refine ⟨some (.int (0 + (i : Int))), ?_, rfl⟩
      have e : ((Ct.bin m i : Nat) : Int) * ((m : Int) - (0 + (i : Int))) / (0 + (i : Int) + 1) = ((Ct.bin m (i + 1) : Nat) : Int) := by
        have b := Ct.bin_step (n := m) (p := i) (by omega)
        have c : ((Ct.bin m i : Nat) : Int) * ((m : Int) - (0 + (i : Int))) = ((Ct.bin m (i + 1) : Nat) : Int) * (0 + (i : Int) + 1) := by
          have d := congrArg (fun n : Nat => (n : Int)) b
          simp only [Int.natCast_mul] at d
          rw [show ((m - i : Nat) : Int) = (m : Int) - (0 + (i : Int)) by omega, show ((i + 1 : Nat) : Int) = 0 + (i : Int) + 1 by omega] at d
          exact d
        rw [c]
        exact Int.mul_ediv_cancel _ (by omega)
      rw [← e]
      rfl
    · rintro σ H1 ⟨y3, rfl, rfl⟩
      exact ⟨_, rfl, q _ (Same.refl _)⟩
/-- as far as the first i and j of the next have been laid -/
def cvp (ws : List Nat) (m i t : Nat) : Nat := ((List.range i).map fun x => if x ≤ t then ws.getD x 0 * Ct.bin m (t - x) else 0).sum
def cvq (ws : List Nat) (m i j t : Nat) : Nat := cvp ws m i t + if i ≤ t ∧ t - i < j then ws.getD i 0 * Ct.bin m (t - i) else 0
theorem cvq_zero (ws : List Nat) (m i t : Nat) : cvq ws m i 0 t = cvp ws m i t := by
  unfold cvq
  rw [if_neg (by omega), Nat.add_zero]
theorem cvq_last (ws : List Nat) (m i t : Nat) : cvq ws m i (m + 1) t = cvp ws m (i + 1) t := by
  unfold cvq cvp
  rw [List.range_succ, List.map_append, List.sum_append]
  show _ = _ + ((if i ≤ t then ws.getD i 0 * Ct.bin m (t - i) else 0) + 0)
  by_cases c : i ≤ t
  · rw [if_pos c]
    by_cases d : t - i < m + 1
    · rw [if_pos ⟨c, d⟩]
      rfl
    · rw [if_neg (fun z => d z.2), Ct.bin_gt (by omega)]
      simp
  · rw [if_neg (fun z => c z.1), if_neg c]
theorem cvq_step (ws : List Nat) (m i j t : Nat) : cvq ws m i (j + 1) t = if t = i + j then cvq ws m i j t + ws.getD i 0 * Ct.bin m j else cvq ws m i j t := by
  unfold cvq
  by_cases c : t = i + j
  · subst c
    rw [if_pos rfl, if_pos ⟨by omega, by omega⟩, if_neg (by omega), show i + j - i = j by omega, Nat.add_zero]
  · rw [if_neg c]
    by_cases d : i ≤ t ∧ t - i < j
    · rw [if_pos d, if_pos ⟨d.1, by omega⟩]
    · rw [if_neg d, if_neg (fun z => d ⟨z.1, by omega⟩)]
theorem range_set {n a v : Nat} {F : Nat → Nat} : ((List.range n).map F).set a v = (List.range n).map fun t => if t = a then v else F t := by
  apply List.ext_getElem?
  intro i
  rw [List.getElem?_set, List.length_map, List.length_range, List.getElem?_map, List.getElem?_map]
  by_cases h : i < n
  · rw [List.getElem?_range h]
    by_cases c : a = i
    · subst c
      rw [if_pos rfl, if_pos h]
      show some v = some (if a = a then v else F a)
      rw [if_pos rfl]
    · rw [if_neg c]
      show some (F i) = some (if i = a then v else F i)
      rw [if_neg fun z => c z.symm]
  · rw [List.getElem?_eq_none (by rw [List.length_range]; omega)]
    by_cases c : a = i
    · rw [if_pos c, if_neg (by omega)]
      rfl
    · rw [if_neg c]
      rfl
set_option maxHeartbeats 4000000 in
theorem ok_with_more {k : Nat} (D : Df K mg "with_more" s_with_more) (T : Bt mg) (O_ways_to_take : Ok P w K mg base k "ways_to_take" s_ways_to_take ["many", "taken"] spWaysTake) : Ok P w K mg base (k + 1) "with_more" s_with_more ["ways", "many"] (spWithMore K) := by
  refine D.ok sc_with_more b_with_more (fun vs H Q E h => ?_) (fun f cdv A outer s H vs Q E hr h => ?_)
  · obtain ⟨p, ws, m, rfl, _⟩ := h
    rfl
  · obtain ⟨p, ws, m, rfl, hp, w1, m1, q⟩ := h
    refine ⟨_, (pss_cons (ps_set (i := 2) sc_with_more.nd rfl (.inl rfl) (pe_op op_rep (pe_lst (pa_cons pe_int pa_nil)) (pe_op op_add (pe_callB call_len_seq (by rfl) T.len_ PySem.boot_len (pa_cons (pv 0) pa_nil)) (pv 1))))
      (pss_cons (ps_for PassesOwn.never rfl (pi_enumA (by rfl) T.enumerate_ (pa_cons (pv 0) pa_nil)) (pg_seq rfl (pgs_cons (pg_name (i := 3) sc_with_more.nd rfl (.inl rfl)) (pgs_cons (pg_name (i := 4) sc_with_more.nd rfl (.inl rfl)) pgs_nil)))
        (pss_one (ps_for PassesOwn.never rfl (pi_range1 (by rfl) T.range_ (pa_cons (pe_op op_add (pv 1) pe_int) pa_nil)) (pg_name (i := 5) sc_with_more.nd rfl (.inl rfl))
            (pss_one (ps_augS (pv 2) (pe_op op_add (pv 3) (pv 5)) pget_nat (pe_op op_mul (pv 4) (pe_fn O_ways_to_take (hr.mono (by omega)) (pa_cons (pv 1) (pa_cons (pv 5) pa_nil)))) ip_add set_list)))))
      (pss_one (ps_ret (pv 2))))), ?_⟩
    refine ⟨(by show 1 ≤ sizeLine; decide), fun l0 nl0 => ?_⟩
    have s1 : Same H (upd H l0 (.lst [.int 0])) := same_new nl0
    have e1 : upd H l0 (.lst [.int 0]) l0 = _ := upd_same
    generalize upd H l0 (.lst [.int 0]) = H1 at s1 e1
    refine ⟨_, rfl, p, _, rfl, .inl (s1.seq hp), _, rfl, _, _, rfl, rfl, ?_⟩
    rw [nl_len]
    refine ⟨l0, _, _, rfl, rfl, e1, by omega, by omega, ?_, fun L nL => ?_⟩
    · show 1 * _ ≤ sizeLine
      rw [Nat.one_mul]
      exact Nat.le_trans (show _ ≤ 1000 by omega) (by decide)
    have e0 : (List.replicate ((ws.length : Int) + (m : Int)).toNat [V.int 0]).flatten = nl ((List.range (ws.length + m)).map (cvp ws m 0)) := by
      rw [show ((ws.length : Int) + (m : Int)).toNat = ws.length + m by omega]
      unfold nl
      rw [List.map_map, List.map_map]
      have : ∀ n, (List.replicate n [V.int 0]).flatten = (List.range n).map fun _ => V.int 0 := fun n => by
        induction n with
        | zero => rfl
        | succ n ih => rw [List.replicate_succ', List.flatten_append, ih, List.range_succ, List.map_append]; rfl
      rw [this]
      rfl
    rw [e0]
    have s2 : Same H1 (upd H1 L (.lst (nl ((List.range (ws.length + m)).map (cvp ws m 0))))) := same_new nL
    have e2 : upd H1 L (.lst (nl ((List.range (ws.length + m)).map (cvp ws m 0)))) L = _ := upd_same
    generalize upd H1 L (.lst (nl ((List.range (ws.length + m)).map (cvp ws m 0)))) = H2 at s2 e2
    have s02 := s1.trans s2
    have nL0 : H L = none := s1.free nL
    refine ⟨_, rfl, p, _, H, rfl, .inl hp, Kp.ofS s02, fun J hJ => ?_⟩
    obtain ⟨G, g, W⟩ := hJ.walk
    refine for_it W (fun i σ H' => ∃ y3 y4 y5 : Option V, σ = [some (.ref p), some (.int (m : Int)), some (.ref L), y3, y4, y5] ∧ Same H H' ∧ H' L = some (.lst (nl ((List.range (ws.length + m)).map (cvp ws m i))))) ⟨none, none, none, rfl, s02, e2⟩ (fun i σ H' _ ⟨_, _, _, _, z, _⟩ => g H' (.ofS z)) ?_ ?_
    · rintro i x σ Ha Hb hi ⟨y3, y4, y5, rfl, sm, hL⟩ ⟨u, x1, x2, rfl, nu, rfl, g1, g2⟩
      rw [nl_len] at hi
      obtain rfl : .int (i : Nat) = x1 := Option.some.inj g1
      obtain rfl : .int ((ws[i] : Nat) : Int) = x2 := Option.some.inj ((nl_get hi).symm.trans g2)
      have sb : Same Ha (upd Ha u (.tup [.int (i : Nat), .int ((ws[i] : Nat) : Int)])) := same_new nu
      refine ⟨u, _, rfl, SqA.t upd_same, rfl, _, _, rfl, _, _, rfl, rfl, ?_⟩
      have smb := sm.trans sb
      have hLb := sb _ _ hL
      generalize upd Ha u (.tup [.int (i : Nat), .int ((ws[i] : Nat) : Int)]) = Hb at smb hLb
      have eg : ws.getD i 0 = ws[i] := by simp [hi]
      refine ⟨_, rfl, _, 1, rfl, rfl, _, rfl, by omega, by omega, ?_⟩
      rw [show ((m : Int) + 1).toNat = m + 1 by omega]
      refine for_range (lo := 0) (n := m + 1) (fun j σ H' => ∃ y5 : Option V, σ = [some (.ref p), some (.int (m : Int)), some (.ref L), some (.int (i : Nat)), some (.int ((ws[i] : Nat) : Int)), y5] ∧ Same H H' ∧ H' L = some (.lst (nl ((List.range (ws.length + m)).map (cvq ws m i j))))) ⟨_, rfl, smb, by rw [hLb, funext (cvq_zero ws m i)]⟩ ?_ ?_
      · rintro j σ Hc hj ⟨y5, rfl, sc, hLc⟩
        have ij : i + j < ws.length + m := by omega
        refine ⟨_, rfl, _, rfl, _, rfl, _, _, rfl, rfl, L, _, i + j, .int ((cvq ws m i j (i + j) : Nat) : Int), rfl, ?_, SqL.of hLc, ?_, ?_⟩
        · show V.int ((i : Int) + (0 + (j : Int))) = V.int ((i + j : Nat) : Int)
          rw [Int.zero_add, Int.natCast_add]
        · rw [nl_get (by rw [List.length_map, List.length_range]; exact ij)]
          simp
        refine ⟨_, rfl, _, rfl, _, rfl, m, 0 + (j : Int), rfl, by omega, fun Hd sd => ?_⟩
        rw [if_neg (by omega), show (0 + (j : Int)).toNat = j by omega]
        have bl := Ct.bin_le m j
        have b2 : (2 : Nat) ^ m ≤ 2 ^ 60 := Nat.pow_le_pow_right (by decide) m1
        have b3 : (2 : Nat) ^ 60 = 1152921504606846976 := by decide
        refine ⟨_, _, rfl, rfl, .inr ⟨by omega, by omega⟩, _, _, rfl, rfl, L, _, _, i + j, rfl, rfl, sd _ _ hLc, ?_, ?_⟩
        · rw [nl_len, List.length_map, List.length_range]
          unfold ixN
          rw [if_pos (by omega), if_pos (by omega)]
          congr 1
          omega
        refine ⟨_, rfl, same_over (sc.trans sd) nL0, ?_⟩
        rw [upd_same]
        rw [show (V.int (((cvq ws m i j (i + j) : Nat) : Int) + ((ws[i] : Nat) : Int) * ((Ct.bin m j : Nat) : Int))) = .int ((cvq ws m i j (i + j) + ws[i] * Ct.bin m j : Nat) : Int) by rw [Int.natCast_add, Int.natCast_mul]]
        rw [nl_set, range_set]
        congr 3
        refine List.map_congr_left fun t _ => ?_
        rw [cvq_step, eg]
        by_cases c : t = i + j
        · rw [if_pos c, if_pos c, c]
        · rw [if_neg c, if_neg c]
      · rintro σ Hc ⟨y5, rfl, sc, hLc⟩
        exact ⟨_, _, _, rfl, sc, by rw [hLc, funext (cvq_last ws m i)]⟩
    · rintro σ Hz ⟨y3, y4, y5, rfl, sz, hLz⟩
      rw [nl_len] at hLz
      exact ⟨_, rfl, q Hz L sz nL0 hLz⟩
end
end Sh

namespace Sh
open PySem PySem.Spec PyProof.Rows L2
theorem dp_len (g : Nat → Nat) (f N : Nat) (up : ∀ e, e < N → g e ≤ g (e + 1)) : ∀ j, j ≤ N → (Ct.dp g f N j).length + g (N - j) = 1 + g N
  | 0, _ => by
    rw [Nat.sub_zero]
    rfl
  | j + 1, hj => by
    have ih := dp_len g f N up j (by omega)
    have u := up (N - (j + 1)) (by omega)
    rw [show N - (j + 1) + 1 = N - j by omega] at u
    show (Ct.mask _ f _ (Ct.more (Ct.dp g f N j) _)).length + _ = _
    unfold Ct.mask Ct.more
    rw [List.length_map, List.length_range, List.length_map, List.length_range]
    omega
theorem nsumI : ∀ l : List Nat, (l.map fun (i : Nat) => (i : Int)).sum = ((l.sum : Nat) : Int)
  | [] => rfl
  | a :: l => by
    rw [List.map_cons, List.sum_cons, List.sum_cons, nsumI l]
    omega
theorem gm_le (ss : List Srt) (m : Int) : gmF ss m ≤ mny ss := by
  unfold gmF mny
  induction ss with
  | nil => exact Nat.le_refl _
  | cons x ss ih =>
    by_cases c : x.1 ≤ m
    · rw [List.filter_cons_of_pos (by simpa using c), List.map_cons, List.sum_cons, List.map_cons, List.sum_cons]
      omega
    · rw [List.filter_cons_of_neg (by simpa using c), List.map_cons, List.sum_cons]
      omega
theorem take_map_range (F : Nat → Nat) {n i : Nat} (h : i < n) : ((List.range n).map F).take (i + 1) = ((List.range n).map F).take i ++ [F i] := by
  rw [take_succ_get (by rw [List.length_map, List.length_range]; exact h)]
  simp
/-- the sum of those so far -/
def totP (ws : List Nat) (f N i : Nat) : List Nat := ((List.range i).filter fun t => decide (f + t ≤ N)).map fun t => ws.getD t 0
theorem totP_sum (ws : List Nat) (f N : Nat) : ∀ i, (totP ws f N i).sum = ((List.range i).map fun t => if f + t ≤ N then ws.getD t 0 else 0).sum
  | 0 => rfl
  | i + 1 => by
    have ih := totP_sum ws f N i
    unfold totP at ih ⊢
    rw [List.range_succ, List.filter_append, List.map_append, List.sum_append, ih, List.map_append, List.sum_append]
    congr 1
    by_cases c : f + i ≤ N
    · rw [List.filter_cons_of_pos (by simpa using c)]
      show _ = (if f + i ≤ N then ws.getD i 0 else 0) + 0
      rw [if_pos c]
      rfl
    · rw [List.filter_cons_of_neg (by simpa using c)]
      show _ = (if f + i ≤ N then ws.getD i 0 else 0) + 0
      rw [if_neg c]
      rfl
section
variable {P : Program} {w : World} {K : PySem.W.Frag} {mg : Str → Option Value} {base : Heap}
set_option maxHeartbeats 4000000 in
theorem ok_ways_below {k : Nat} (D : Df K mg "ways_below" s_ways_below) (T : Bt mg) (O_fixed_ones : Ok P w K mg base k "fixed_ones" s_fixed_ones ["fleet", "lot"] (spFixed K)) (O_goers_many : Ok P w K mg base k "goers_many" s_goers_many ["fleet", "step"] (spGoersMany K)) (O_with_more : Ok P w K mg base k "with_more" s_with_more ["ways", "many"] (spWithMore K)) :
    Ok P w K mg base (k + 1) "ways_below" s_ways_below ["fleet", "lot"] (spWaysBelow K) := by
  refine D.ok sc_ways_below b_ways_below (fun vs H Q E h => ?_) (fun f cdv A outer s H vs Q E hr h => ?_)
  · obtain ⟨v, l, h, t, ss, kd, N, rfl, _⟩ := h
    rfl
  · obtain ⟨v, l, h, t, ss, kd, N, rfl, hv, l1, hl, m1, N1, up, q⟩ := h
    have gb : ∀ e : Nat, gmF ss (mk h t (mny ss) (e : Int)) ≤ 60 := fun e => Nat.le_trans (gm_le ss _) m1
    generalize eg : (fun e : Nat => gmF ss (mk h t (mny ss) (e : Int))) = g at q
    have ge : ∀ e : Nat, gmF ss (mk h t (mny ss) (e : Int)) = g e := fun e => congrFun eg e
    simp only [ge] at up gb
    refine ⟨_, (pss_cons (ps_set (i := 2) sc_ways_below.nd rfl (.inr rfl) (pe_ix ix_lt (pv 1) pe_int (fun _ _ => rfl)))
      (pss_cons (ps_set (i := 3) sc_ways_below.nd rfl (.inr rfl) (pe_callB (cr_sum rfl) (by rfl) T.sum_ (by decide +kernel) (pa_cons (pe_fn O_fixed_ones (hr.mono (by omega)) (pa_cons (pv 0) (pa_cons (pv 1) pa_nil))) pa_nil)))
      (pss_cons (ps_set (i := 4) sc_ways_below.nd rfl (.inl rfl) (pe_lst (pa_cons pe_int pa_nil)))
      (pss_cons (ps_set (i := 5) sc_ways_below.nd rfl (.inr rfl) (pe_fn O_goers_many (hr.mono (by omega)) (pa_cons (pv 0) (pa_cons (pv 2) pa_nil))))
      (pss_cons (ps_for PassesOwn.never rfl (pi_revR (by rfl) T.reversed_ (prg_1 (by rfl) T.range_ (pv 2))) (pg_name (i := 6) sc_ways_below.nd rfl (.inr rfl))
        (pss_cons (ps_set (i := 7) sc_ways_below.nd rfl (.inl rfl) (pe_fn O_goers_many (hr.mono (by omega)) (pa_cons (pv 0) (pa_cons (pv 6) pa_nil))))
          (pss_cons (ps_set (i := 4) sc_ways_below.nd rfl (.inl rfl) (pe_fn O_with_more (hr.mono (by omega)) (pa_cons (pv 4) (pa_cons (pe_op op_sub (pv 5) (pv 7)) pa_nil))))
          (pss_cons (ps_set (i := 5) sc_ways_below.nd rfl (.inr rfl) (pv 7))
          (pss_one (ps_setLc (i := 4) (own := [("taken", 8), ("number", 9)]) (g := (gSeq K 2 (gCons (gName 8) (gCons (gName 9) gNil)))) (tt := tYes) (by rfl) sc_ways_below.nd rfl rfl (sw_true rfl rfl rfl (by decide +kernel)) (pi_enumA (by rfl) T.enumerate_ (pa_cons (pv 4) pa_nil)) (blkOk_by (own := [("taken", 8), ("number", 9)]) (N := (["fleet", "lot", "step", "fixed", "ways", "goers", "earlier", "fewer", "taken", "number"] : List Str)) (sc := defScope s_ways_below) (by decide +kernel)) (fun _ _ _ _ _ => (pg_seq rfl (pgs_cons (pg_name (i := 8) sc_ways_below.nd rfl (.inl rfl)) (pgs_cons (pg_name (i := 9) sc_ways_below.nd rfl (.inl rfl)) pgs_nil)))) (fun _ _ _ _ _ => pts_nil) (fun _ _ _ _ _ => (pe_ifExp (pt_cmpR op_gt (pe_op op_add (pe_op op_add (pv 5) (pv 3)) (pv 8)) (pv 6) (nomark _)) (pv 9) pe_int))))))))
      (pss_cons (ps_set (i := 4) sc_ways_below.nd rfl (.inl rfl) (pe_fn O_with_more (hr.mono (by omega)) (pa_cons (pv 4) (pa_cons (pv 5) pa_nil))))
      (pss_one (ps_ret (pe_callB (cr_sum rfl) (by rfl) T.sum_ (by decide +kernel) (pa_cons (pe_lc (own := [("taken", 8), ("number", 9)]) (g := (gSeq K 2 (gCons (gName 8) (gCons (gName 9) gNil)))) (by rfl) sc_ways_below.nd (pi_enumA (by rfl) T.enumerate_ (pa_cons (pv 4) pa_nil)) (blkOk_by (own := [("taken", 8), ("number", 9)]) (N := (["fleet", "lot", "step", "fixed", "ways", "goers", "earlier", "fewer", "taken", "number"] : List Str)) (sc := defScope s_ways_below) (by decide +kernel)) (fun _ _ _ _ _ => (pg_seq rfl (pgs_cons (pg_name (i := 8) sc_ways_below.nd rfl (.inl rfl)) (pgs_cons (pg_name (i := 9) sc_ways_below.nd rfl (.inl rfl)) pgs_nil)))) (fun _ _ _ _ _ => (pts_one (pt_cmpR op_le (pe_op op_add (pv 3) (pv 8)) (pv 2) (nomark _)))) (fun _ _ _ _ _ => (pv 9))) pa_nil)))))))))), ?_⟩
    obtain ⟨lp, rfl, hlp⟩ := id hl
    refine ⟨_, rfl, lp, _, 1, .int (N : Int), rfl, rfl, hlp, rfl, ?_⟩
    refine ⟨_, rfl, _, rfl, v, .ref lp, h, t, (N : Int), ss, kd, rfl, hv, l1, hl, fun H1 a s1 na ha => ⟨a, _, rfl, SqL.of ha, ?_⟩⟩
    rw [nsumI]
    generalize ef : (fxF ss (mk h t (mny ss) (N : Int))).sum = f' at q
    refine ⟨(by show 1 ≤ sizeLine; decide), fun w0 nw0 => ?_⟩
    have s2 : Same H1 (upd H1 w0 (.lst [.int 1])) := same_new nw0
    have e2 : upd H1 w0 (.lst [.int 1]) w0 = some (.lst (nl (Ct.dp g f' N 0))) := upd_same
    generalize upd H1 w0 (.lst [.int 1]) = H2 at s2 e2
    have s02 := s1.trans s2
    refine ⟨_, rfl, _, rfl, v, h, t, (N : Int), ss, rfl, hv.same s02, l1, fun H3 s3 => ?_⟩
    rw [ge N]
    have s03 := s02.trans s3
    refine ⟨_, rfl, (N : Int), rfl, by omega, by omega, by omega, by omega, ?_⟩
    rw [show ((N : Int) - 0).toNat = N by omega]
    refine for_rangeC (lo := 0 + (N : Int) - 1) (c := -1) (n := N) (fun j σ H' => ∃ (wp : Addr) (y6 y7 y8 y9 : Option V), σ = [some v, some (.ref lp), some (.int (N : Int)), some (.int (f' : Int)), some (.ref wp), some (.int ((g (N - j) : Nat) : Int)), y6, y7, y8, y9] ∧ Same H H' ∧ H' wp = some (.lst (nl (Ct.dp g f' N j)))) ⟨w0, none, none, none, none, rfl, s03, s3 _ _ e2⟩ ?_ ?_
    · rintro j σ Ha hj ⟨wp, y6, y7, y8, y9, rfl, sa, hw⟩
      have dl := dp_len g f' N up j (by omega)
      have gN := gb N
      have u := up (N - (j + 1)) (by omega)
      rw [show N - (j + 1) + 1 = N - j by omega] at u
      have ee : 0 + (N : Int) - 1 + ((j : Nat) : Int) * -1 = ((N - (j + 1) : Nat) : Int) := by omega
      rw [ee]
      refine ⟨_, rfl, _, rfl, v, h, t, ((N - (j + 1) : Nat) : Int), ss, rfl, hv.same sa, l1, fun Hb sb => ?_⟩
      rw [ge]
      have gj := gb (N - j)
      refine ⟨_, rfl, _, rfl, _, rfl, _, _, rfl, rfl, wp, Ct.dp g f' N j, g (N - j) - g (N - (j + 1)), ?_, SqL.of (sb _ _ hw), by omega, by omega, fun Hc wq sc nwq hwq => ?_⟩
      · rw [show ((g (N - j) - g (N - (j + 1)) : Nat) : Int) = ((g (N - j) : Nat) : Int) - ((g (N - (j + 1)) : Nat) : Int) by omega]
        rfl
      have s0c := sa.trans (sb.trans sc)
      refine ⟨_, rfl, ?_⟩
      have dl2 := dp_len g f' N up (j + 1) (by omega)
      have lm : (Ct.more (Ct.dp g f' N j) (g (N - j) - g (N - (j + 1)))).length ≤ 1 + g N := by
        unfold Ct.more
        rw [List.length_map, List.length_range]
        omega
      have ed : Ct.dp g f' N (j + 1) = Ct.mask (g (N - (j + 1))) f' (N - (j + 1)) (Ct.more (Ct.dp g f' N j) (g (N - j) - g (N - (j + 1)))) := rfl
      rw [ed]
      generalize Ct.more (Ct.dp g f' N j) (g (N - j) - g (N - (j + 1))) = ws at hwq lm
      refine ⟨_, rfl, wq, _, Hc, rfl, SqA.l hwq, Kp.refl _ _, fun J hJ C nC => ?_⟩
      obtain ⟨G, gg, W⟩ := hJ.walk
      refine lc_it W (fun i H' => Same Hc H' ∧ H' C = some (.lst (nl ((Ct.mask (g (N - (j + 1))) f' (N - (j + 1)) ws).take i)))) ⟨same_new nC, upd_same⟩ (fun i H' _ z => gg H' (.ofS z.1)) ?_ ?_
      · rintro i x Hd He hi ⟨sm, hC⟩ ⟨u', x1, x2, rfl, nu, rfl, g1, g2⟩
        rw [nl_len] at hi
        obtain rfl : .int (i : Nat) = x1 := Option.some.inj g1
        obtain rfl : .int ((ws[i] : Nat) : Int) = x2 := Option.some.inj ((nl_get hi).symm.trans g2)
        have sf : Same Hd (upd Hd u' (.tup [.int (i : Nat), .int ((ws[i] : Nat) : Int)])) := same_new nu
        refine ⟨u', _, rfl, SqA.t upd_same, rfl, _, _, rfl, _, _, rfl, rfl, rfl, tyes (iteT ?_)⟩
        have sm2 := sm.trans sf
        have hC2 := sf _ _ hC
        generalize upd Hd u' (.tup [.int (i : Nat), .int ((ws[i] : Nat) : Int)]) = He at sm2 hC2
        have lt : (nl ((Ct.mask (g (N - (j + 1))) f' (N - (j + 1)) ws).take i)).length < sizeLine := by
          rw [nl_len, List.length_take]
          exact Nat.lt_of_le_of_lt (show _ ≤ 61 by omega) (by decide)
        have eg2 : ws.getD i 0 = ws[i] := by simp [hi]
        have tk1 : (Ct.mask (g (N - (j + 1))) f' (N - (j + 1)) ws).take (i + 1) = (Ct.mask (g (N - (j + 1))) f' (N - (j + 1)) ws).take i ++ [if N - (j + 1) < g (N - (j + 1)) + f' + i then ws[i] else 0] := by
          unfold Ct.mask
          rw [take_map_range _ hi, eg2]
        refine ⟨_, rfl, _, rfl, _, _, rfl, rfl, _, rfl, _, _, rfl, rfl, _, rfl, _, _, rfl, rfl, _, rfl, ite2 (fun c => ?_) (fun c => ?_)⟩
        · have c0 := of_decide_eq_true c
          refine ⟨_, rfl, _, hC2, lt, same_over sm2 nC, ?_⟩
          rw [upd_same, tk1, if_pos (by omega)]
          unfold nl
          rw [List.map_append, List.map_append]
          rfl
        · have c0 : ¬ _ := fun z => c (decide_eq_true z)
          refine ⟨_, hC2, lt, same_over sm2 nC, ?_⟩
          rw [upd_same, tk1, if_neg (by omega)]
          unfold nl
          rw [List.map_append, List.map_append]
          rfl
      · rintro Hd ⟨sm, hC⟩
        rw [nl_len, List.take_of_length_le (by unfold Ct.mask; rw [List.length_map, List.length_range]; exact Nat.le_refl _)] at hC
        exact ⟨C, _, _, _, _, rfl, s0c.trans sm, hC⟩
    · rintro σ Hz ⟨wp, y6, y7, y8, y9, rfl, sz, hw⟩
      have dl := dp_len g f' N up N (Nat.le_refl _)
      have gN := gb N
      rw [Nat.sub_self] at dl ⊢
      have g0 := gb 0
      refine ⟨_, rfl, _, rfl, wp, Ct.dp g f' N N, g 0, rfl, SqL.of hw, by omega, g0, fun Hc wq sc nwq hwq => ?_⟩
      have s0c := sz.trans sc
      have lm : (Ct.more (Ct.dp g f' N N) (g 0)).length ≤ 61 := by
        unfold Ct.more
        rw [List.length_map, List.length_range]
        omega
      unfold Ct.tot at q
      generalize Ct.more (Ct.dp g f' N N) (g 0) = ws at hwq lm q
      refine ⟨_, rfl, wq, _, Hc, rfl, SqA.l hwq, Kp.refl _ _, fun J hJ C nC => ?_⟩
      obtain ⟨G, gg, W⟩ := hJ.walk
      refine lc_it W (fun i H' => Same Hc H' ∧ H' C = some (.lst (nl (totP ws f' N i)))) ⟨same_new nC, upd_same⟩ (fun i H' _ z => gg H' (.ofS z.1)) ?_ ?_
      · rintro i x Hd He hi ⟨sm, hC⟩ ⟨u', x1, x2, rfl, nu, rfl, g1, g2⟩
        rw [nl_len] at hi
        obtain rfl : .int (i : Nat) = x1 := Option.some.inj g1
        obtain rfl : .int ((ws[i] : Nat) : Int) = x2 := Option.some.inj ((nl_get hi).symm.trans g2)
        have sf : Same Hd (upd Hd u' (.tup [.int (i : Nat), .int ((ws[i] : Nat) : Int)])) := same_new nu
        refine ⟨u', _, rfl, SqA.t upd_same, rfl, _, _, rfl, _, _, rfl, rfl, rfl, ?_⟩
        have sm2 := sm.trans sf
        have hC2 := sf _ _ hC
        generalize upd Hd u' (.tup [.int (i : Nat), .int ((ws[i] : Nat) : Int)]) = He at sm2 hC2
        have eg2 : ws.getD i 0 = ws[i] := by simp [hi]
        have ts : totP ws f' N (i + 1) = totP ws f' N i ++ if f' + i ≤ N then [ws[i]] else [] := by
          unfold totP
          rw [List.range_succ, List.filter_append, List.map_append]
          congr 1
          by_cases c : f' + i ≤ N
          · rw [List.filter_cons_of_pos (by simpa using c), if_pos c, ← eg2]
            rfl
          · rw [List.filter_cons_of_neg (by simpa using c), if_neg c]
            rfl
        refine ⟨_, rfl, _, rfl, _, _, rfl, rfl, _, rfl, _, _, rfl, rfl, _, rfl, ite2 (fun c => ?_) (fun c => ?_)⟩
        · have c0 := of_decide_eq_true c
          refine ⟨_, rfl, _, hC2, ?_, same_over sm2 nC, ?_⟩
          · rw [nl_len]
            unfold totP
            rw [List.length_map]
            exact Nat.lt_of_le_of_lt (List.length_filter_le _ _) (by rw [List.length_range]; exact Nat.lt_of_lt_of_le hi (Nat.le_trans lm (by decide)))
          · rw [upd_same, ts, if_pos (by omega)]
            unfold nl
            rw [List.map_append, List.map_append]
            rfl
        · have c0 : ¬ _ := fun z => c (decide_eq_true z)
          refine ⟨sm2, ?_⟩
          rw [hC2, ts, if_neg (by omega), List.append_nil]
      · rintro Hd ⟨sm, hC⟩
        rw [nl_len] at hC
        refine ⟨C, _, rfl, SqL.of hC, ?_⟩
        rw [nsumI, totP_sum]
        exact q _ (s0c.trans sm)
end
end Sh

namespace Sh
open PySem PySem.Spec PyProof.Rows L2
/-! ### fleet_of, the draughts a list or a tuple -/
def spFleetOfA (K : PySem.W.Frag) : Sp := fun vs H Q _ => ∃ (v l : V) (h t : Int) (ds : List Int) (L : List Nat), vs = [v, l] ∧ SeaA K H v h t ds ∧ LotA K H l L ∧ ds.length ≤ 60 ∧ Lot ds.length L ∧
  ∀ (H' : Hp) (z : V) (ss : List Srt), Same H H' → FltA K H' z h t ss → ss.length ≤ 1000 → Rp ss ds.length (fun i => ds.getD i 0) (mem L) → Q z H'
section
variable {P : Program} {w : World} {K : PySem.W.Frag} {mg : Str → Option Value} {base : Heap}
set_option maxHeartbeats 8000000 in
theorem ok_fleet_ofA {k : Nat} (D : Df K mg "fleet_of" s_fleet_of) (T : Bt mg) : Ok P w K mg base (k + 1) "fleet_of" s_fleet_of ["sea", "standing"] (spFleetOfA K) := by
  refine D.ok sc_fleet_of b_fleet_of (fun vs H Q E h => ?_) (fun f cdv A outer s H vs Q E hr h => ?_)
  · obtain ⟨v, l, h, t, ds, L, rfl, _⟩ := h
    rfl
  · obtain ⟨v, l, h, t, ds, L, rfl, ⟨p, q, rfl, hp, hq⟩, ⟨pl, rfl, hl⟩, d1, hL, k⟩ := h
    have ll := hL.len
    refine ⟨_, (pss_cons (ps_asg (pv 0) (pg_seq rfl (pgs_cons (pg_name (i := 2) sc_fleet_of.nd rfl (.inl rfl)) (pgs_cons (pg_name (i := 3) sc_fleet_of.nd rfl (.inl rfl)) (pgs_cons (pg_name (i := 4) sc_fleet_of.nd rfl (.inr rfl)) pgs_nil)))))
      (pss_cons (ps_setLc (i := 5) (own := [("ship", 10)]) (g := (gName 10)) (tt := tYes) (by rfl) sc_fleet_of.nd rfl rfl (sw_true rfl rfl rfl (by decide +kernel)) (pi_seq (pv 1)) (blkOk_by (own := [("ship", 10)]) (N := (["sea", "standing", "here", "there", "draughts", "ours", "sorts", "draught", "many", "lying", "ship", "other"] : List Str)) (sc := defScope s_fleet_of) (by decide +kernel)) (fun _ _ _ _ _ => (pg_name (i := 10) sc_fleet_of.nd rfl (.inl rfl))) (fun _ _ _ _ _ => pts_nil) (fun _ _ _ _ _ => (pe_ix (ix_ltK K) (pv 4) (pv 10) (fun _ _ => rfl))))
      (pss_cons (ps_set (i := 6) sc_fleet_of.nd rfl (.inl rfl) (pe_lst pa_nil))
      (pss_cons (ps_for PassesOwn.never rfl (pi_seq (pe_callB (cr_sortedSetw w rfl) (by rfl) T.sorted_ (by decide +kernel) (pa_cons (pe_callTy (cr_setAw w rfl) (by rfl) T.set_ (by decide +kernel) (pa_cons (pv 4) pa_nil)) pa_nil))) (pg_name (i := 7) sc_fleet_of.nd rfl (.inr rfl))
        (pss_cons (ps_set (i := 8) sc_fleet_of.nd rfl (.inl rfl) (pe_callB call_len_seq (by rfl) T.len_ PySem.boot_len (pa_cons (pe_lc (own := [("other", 11)]) (g := (gName 11)) (by rfl) sc_fleet_of.nd (pi_seq (pv 4)) (blkOk_by (own := [("other", 11)]) (N := (["sea", "standing", "here", "there", "draughts", "ours", "sorts", "draught", "many", "lying", "ship", "other"] : List Str)) (sc := defScope s_fleet_of) (by decide +kernel)) (fun _ _ _ _ _ => (pg_name (i := 11) sc_fleet_of.nd rfl (.inl rfl))) (fun _ _ _ _ _ => (pts_one (pt_cmpR op_eq (pv 11) (pv 7) (nomark _)))) (fun _ _ _ _ _ => (pv 11))) pa_nil)))
          (pss_cons (ps_set (i := 9) sc_fleet_of.nd rfl (.inl rfl) (pe_callB call_len_seq (by rfl) T.len_ PySem.boot_len (pa_cons (pe_lc (own := [("other", 11)]) (g := (gName 11)) (by rfl) sc_fleet_of.nd (pi_seq (pv 5)) (blkOk_by (own := [("other", 11)]) (N := (["sea", "standing", "here", "there", "draughts", "ours", "sorts", "draught", "many", "lying", "ship", "other"] : List Str)) (sc := defScope s_fleet_of) (by decide +kernel)) (fun _ _ _ _ _ => (pg_name (i := 11) sc_fleet_of.nd rfl (.inl rfl))) (fun _ _ _ _ _ => (pts_one (pt_cmpR op_eq (pv 11) (pv 7) (nomark _)))) (fun _ _ _ _ _ => (pv 11))) pa_nil)))
          (pss_one (ps_expr (pe_bm PySem.F.plainAttrs_list PySem.F.slot_list_append PySem.F.type_list_append mt_append (pv 6) (pa_cons (pe_tup (pa_cons (pv 7) (pa_cons (pv 9) (pa_cons (pe_op op_sub (pv 8) (pv 9)) pa_nil)))) pa_nil)))))))
      (pss_one (ps_ret (pe_tup (pa_cons (pv 2) (pa_cons (pv 3) (pa_cons (pe_callTy call_tuple_of (by rfl) T.tuple_ (by decide +kernel) (pa_cons (pv 6) pa_nil)) pa_nil)))))))))), ?_⟩
    refine ⟨_, rfl, p, _, rfl, hp, rfl, _, _, rfl, _, _, rfl, _, _, rfl, rfl, ?_⟩
    -- ours
    refine ⟨_, rfl, pl, _, H, rfl, hl, Kp.refl _ _, fun J hJ C nC => ?_⟩
    obtain ⟨G, g, W⟩ := hJ.walk
    refine lc_it W (fun i H' => Same H H' ∧ H' C = some (.lst (((L.take i).map fun j => ds.getD j 0).map V.int))) ⟨same_new nC, upd_same⟩ (fun i H' _ z => g H' (.ofS z.1)) ?_ ?_
    · rintro i x H1 H2 hi ⟨sm, hC⟩ ⟨rfl, gx⟩
      rw [ni_len] at hi
      obtain rfl : .int ((L[i] : Nat) : Int) = x := Option.some.inj ((ni_get hi).symm.trans gx)
      have hlt := hL.lt L[i] (List.getElem_mem hi)
      refine ⟨rfl, tyes (iteT ⟨_, rfl, _, rfl, q, _, _, .int (ds.getD L[i] 0), rfl, rfl, Same.sqA sm hq, at_nat rfl (by simp [hlt]), _, hC, ?_, same_over sm nC, ?_⟩)⟩
      · rw [List.length_map, List.length_map, List.length_take]
        exact small1000 (by omega)
      · rw [upd_same, take_succ_get hi, List.map_append, List.map_append]
        rfl
    rintro H1 ⟨s1, hC⟩
    rw [ni_len, List.take_length] at hC
    -- sorts
    refine ⟨Nat.zero_le _, fun F nF => ?_⟩
    have s2 : Same H1 (upd H1 F (.lst [])) := same_new nF
    have e2 : upd H1 F (.lst []) F = some (.lst []) := upd_same
    have nF0 : H F = none := s1.free nF
    have CF : C ≠ F := ne_of_none hC nF
    generalize upd H1 F (.lst []) = H2 at s2 e2
    have s02 := s1.trans s2
    refine ⟨_, rfl, q, ds, rfl, Same.sqA s02 hq, by omega, fun a ks na kn km => ?_⟩
    have hc : ks.length ≤ ds.length := nodup_len kn fun x hx => (km x).mp hx
    generalize ks.length = c at hc
    refine ⟨a, _, c, rfl, upd_same, by omega, fun ns b up hm hlen nb => ?_⟩
    have sA : Same H2 (upd H2 a (SetO w a (fun j => decide (j ∈ ds)) c)) := same_new na
    have sB := sA.trans (same_new nb (o := .lst (ns.map V.int)))
    have eb : upd (upd H2 a (SetO w a (fun j => decide (j ∈ ds)) c)) b (.lst (ns.map V.int)) b = some (.lst (ns.map V.int)) := upd_same
    generalize upd (upd H2 a (SetO w a (fun j => decide (j ∈ ds)) c)) b (.lst (ns.map V.int)) = H3 at sB eb
    have s03 := s02.trans sB
    have hC3 := sB _ _ (s2 _ _ hC)
    have hF3 := sB _ _ e2
    have bF : b ≠ F := fun e => by
      subst e
      rw [sA _ _ e2] at nb
      cases nb
    have nn : ns.Nodup := up.imp fun z => by omega
    refine ⟨b, _, H3, rfl, SqA.l eb, Kp.refl _ _, fun J2 hJ2 => ?_⟩
    obtain ⟨G2, g2, W2⟩ := hJ2.walk
    refine for_it W2 (fun i σ H' => ∃ (y7 y8 y9 : Option V) (us : List Addr), σ = [some (.ref p), some (.ref pl), some (.int h), some (.int t), some (.ref q), some (.ref C), some (.ref F), y7, y8, y9, none, none] ∧ Same H H' ∧ H' C = some (.lst ((L.map fun j => ds.getD j 0).map V.int)) ∧ H' b = some (.lst (ns.map V.int)) ∧ H' F = some (.lst (us.map V.ref)) ∧ SrtsN H' us (sortsOf ds L (ns.take i)))
      ⟨none, none, none, [], rfl, s03, hC3, eb, hF3, rfl, fun i r x a _ => by simp at a⟩ (fun i σ H' _ ⟨_, _, _, _, _, _, _, z, _⟩ => g2 H' fun o e => by rw [eb] at e; cases e; exact z) ?_ ?_
    · rintro i x σ H5' H4 hi ⟨y7, y8, y9, us, rfl, s4, hC4, hb4, hF4, hu4⟩ ⟨rfl, gx⟩
      rw [List.length_map] at hi
      obtain rfl : .int ns[i] = x := by
        have g3 : (ns.map V.int)[i]? = some (.int ns[i]) := by simp [hi]
        exact Option.some.inj (g3.symm.trans gx)
      have f : ∀ (xs : List Int) (j : Nat) (hj : j < xs.length), ((xs.take (j + 1)).filter fun o => decide (o = ns[i])) = ((xs.take j).filter fun o => decide (o = ns[i])) ++ (if xs[j] = ns[i] then [xs[j]] else []) := fun xs j hj => by
        rw [take_succ_get hj, List.filter_append]
        congr 1
        by_cases c : xs[j] = ns[i]
        · rw [if_pos c, List.filter_cons_of_pos (by simpa using c)]; rfl
        · rw [if_neg c, List.filter_cons_of_neg (by simpa using c)]; rfl
      have fl : ∀ (xs : List Int) (j : Nat), xs.length ≤ 60 → (((xs.take j).filter fun o => decide (o = ns[i])).map V.int).length < sizeLine := fun xs j hx => by
        have h1 := List.length_filter_le (fun o => decide (o = ns[i])) (xs.take j)
        rw [List.length_take] at h1
        rw [List.length_map]
        exact small1000 (by omega)
      -- many
      refine ⟨_, rfl, q, _, H4, rfl, Same.sqA s4 hq, Kp.refl _ _, fun J3 hJ3 M nM => ?_⟩
      obtain ⟨G3, g3, W3⟩ := hJ3.walk
      refine lc_it W3 (fun j H' => Same H4 H' ∧ H' M = some (.lst (((ds.take j).filter fun o => decide (o = ns[i])).map V.int))) ⟨same_new nM, upd_same⟩ (fun j H' _ z => g3 H' (.ofS z.1)) ?_ ?_
      · rintro j x H5 H6 hj ⟨sm, hM⟩ ⟨rfl, gx2⟩
        rw [List.length_map] at hj
        obtain rfl : .int ds[j] = x := by
          have g4 : (ds.map V.int)[j]? = some (.int ds[j]) := by simp [hj]
          exact Option.some.inj (g4.symm.trans gx2)
        refine ⟨rfl, _, rfl, _, rfl, rfl, _, rfl, ite2 (fun c => ?_) (fun c => ?_)⟩
        · have c0 : ds[j] = ns[i] := V.int.inj (of_decide_eq_true c)
          refine ⟨_, rfl, _, hM, fl ds j d1, same_over sm nM, ?_⟩
          rw [upd_same, f ds j hj, if_pos c0, List.map_append]
          rfl
        · have c0 : ¬ ds[j] = ns[i] := fun z => c (decide_eq_true (by rw [z]))
          refine ⟨sm, ?_⟩
          rw [hM, f ds j hj, if_neg c0, List.append_nil]
      rintro H5 ⟨s5, hM⟩
      rw [List.length_map, List.take_length] at hM
      refine ⟨M, _, rfl, .inl (SqL.of hM), ?_⟩
      -- lying
      refine ⟨_, rfl, C, _, H5, rfl, SqA.l (s5 _ _ hC4), Kp.refl _ _, fun J4 hJ4 N nN => ?_⟩
      obtain ⟨G4, g4, W4⟩ := hJ4.walk
      have lo : (L.map fun j => ds.getD j 0).length ≤ 60 := by rw [List.length_map]; omega
      refine lc_it W4 (fun j H' => Same H5 H' ∧ H' N = some (.lst ((((L.map fun j => ds.getD j 0).take j).filter fun o => decide (o = ns[i])).map V.int))) ⟨same_new nN, upd_same⟩ (fun j H' _ z => g4 H' (.ofS z.1)) ?_ ?_
      · rintro j x H6 H7 hj ⟨sm, hN⟩ ⟨rfl, gx2⟩
        rw [List.length_map] at hj
        obtain rfl : .int (L.map fun j => ds.getD j 0)[j] = x := by
          have g5 : ((L.map fun j => ds.getD j 0).map V.int)[j]? = some (.int (L.map fun j => ds.getD j 0)[j]) := by rw [List.getElem?_map, List.getElem?_eq_getElem hj]; rfl
          exact Option.some.inj (g5.symm.trans gx2)
        refine ⟨rfl, _, rfl, _, rfl, rfl, _, rfl, ite2 (fun c => ?_) (fun c => ?_)⟩
        · have c0 : (L.map fun j => ds.getD j 0)[j] = ns[i] := V.int.inj (of_decide_eq_true c)
          refine ⟨_, rfl, _, hN, fl _ j lo, same_over sm nN, ?_⟩
          rw [upd_same, f _ j hj, if_pos c0, List.map_append]
          rfl
        · have c0 : ¬ (L.map fun j => ds.getD j 0)[j] = ns[i] := fun z => c (decide_eq_true (by rw [z]))
          refine ⟨sm, ?_⟩
          rw [hN, f _ j hj, if_neg c0, List.append_nil]
      rintro H6 ⟨s6, hN⟩
      rw [List.length_map, List.take_length] at hN
      refine ⟨N, _, rfl, .inl (SqL.of hN), ?_⟩
      have s46 := s5.trans s6
      have hF6 := s46 _ _ hF4
      -- sorts.append
      refine ⟨_, rfl, .inl ⟨rfl, _, SqL.of hF6⟩, _, rfl, _, rfl, _, rfl, _, rfl, _, _, rfl, rfl, (by show 3 ≤ sizeLine; decide), fun u nu => ?_⟩
      have lu : us.length = i := by
        rw [hu4.1]
        unfold sortsOf
        rw [List.length_map, List.length_take]
        omega
      refine ⟨F, _, _, rfl, rfl, same_new nu _ _ hF6, ?_, _, _, _, us ++ [u], rfl, same_over ((s4.trans s46).trans (same_new nu)) nF0, ?_, ?_, ?_, ?_⟩
      · rw [List.length_map, lu]
        exact small1000 (by omega)
      · rw [upd_ne CF]
        exact same_new nu _ _ (s46 _ _ hC4)
      · rw [upd_ne bF]
        exact same_new nu _ _ (s46 _ _ hb4)
      · rw [upd_same, List.map_append]
        rfl
      · have e : sortsOf ds L (ns.take (i + 1)) = sortsOf ds L (ns.take i) ++ [(ns[i], ((L.map fun i => ds.getD i 0).filter fun o => decide (o = ns[i])).length, (ds.filter fun o => decide (o = ns[i])).length - ((L.map fun i => ds.getD i 0).filter fun o => decide (o = ns[i])).length)] := by
          unfold sortsOf
          rw [take_succ_get hi, List.map_append]
          rfl
        rw [e]
        refine ((hu4.same s46).push' (x := (ns[i], ((L.map fun i => ds.getD i 0).filter fun o => decide (o = ns[i])).length, (ds.filter fun o => decide (o = ns[i])).length - ((L.map fun i => ds.getD i 0).filter fun o => decide (o = ns[i])).length)) nu ?_).put (same_new nu _ _ hF6)
        have le := lying_le hL ns[i]
        unfold SrtV
        rw [List.length_map, List.length_map]
        dsimp only
        rw [show (((ds.filter fun o => decide (o = ns[i])).length - ((L.map fun i => ds.getD i 0).filter fun o => decide (o = ns[i])).length : Nat) : Int) = ((ds.filter fun o => decide (o = ns[i])).length : Int) - (((L.map fun i => ds.getD i 0).filter fun o => decide (o = ns[i])).length : Int) by omega]
    · rintro σ H4 ⟨y7, y8, y9, us, rfl, s4, hC4, hb4, hF4, hu4⟩
      rw [List.length_map, List.take_length] at hu4
      refine ⟨_, rfl, _, rfl, _, rfl, F, _, rfl, .inl ⟨SqL.of hF4, fun a2 na2 => ⟨(by show 3 ≤ sizeLine; decide), fun b2 nb2 => ?_⟩⟩⟩
      have sa2 : Same H4 (upd H4 a2 (.tup (us.map V.ref))) := same_new na2
      have sb2 := sa2.trans (same_new nb2 (o := .tup [.int h, .int t, .ref a2]))
      refine k _ _ (sortsOf ds L ns) (s4.trans sb2) ⟨b2, a2, us, rfl, SqA.t upd_same, SqA.t (same_new nb2 _ _ upd_same), (hu4.same sb2).a⟩ ?_ (sorts_rp hL nn fun d hd => (hm d).mpr (decide_eq_true hd))
      unfold sortsOf
      rw [List.length_map, hlen]
      omega
end
end Sh

namespace Ct
theorem dp_congr {g g' : Nat → Nat} {f N : Nat} (h : ∀ e, e ≤ N → g e = g' e) : ∀ j, dp g f N j = dp g' f N j
  | 0 => rfl
  | j + 1 => by
    show mask (g (N - (j + 1))) f (N - (j + 1)) (more (dp g f N j) (g (N - j) - g (N - (j + 1)))) = mask (g' (N - (j + 1))) f (N - (j + 1)) (more (dp g' f N j) (g' (N - j) - g' (N - (j + 1))))
    rw [dp_congr h j, h (N - (j + 1)) (by omega), h (N - j) (by omega)]
theorem tot_congr {g g' : Nat → Nat} {f N : Nat} (h : ∀ e, e ≤ N → g e = g' e) : tot g f N = tot g' f N := by
  unfold tot
  rw [dp_congr h, h 0 (Nat.zero_le _)]
end Ct
namespace Sh
open PySem PySem.Spec PyProof.Rows L2
theorem tot_below {ss : List Srt} {h t : Int} {k N : Nat} {D : Nat → Int} {S : Nat → Bool} (r : Rp ss k D S) {G : Nat → Nat → Bool} (eG : ∀ e i, e ≤ N → G e i = Gd h t k D e i) (mono : ∀ a b i, a ≤ b → b ≤ N → G a i = true → G b i = true) :
    Ct.tot (fun e => gmF ss (mk h t (mny ss) (e : Int))) (fxF ss (mk h t (mny ss) (N : Int))).sum N = Ct.cf k (Ct.below k N G S) ∧ ∀ e, e < N → gmF ss (mk h t (mny ss) (e : Int)) ≤ gmF ss (mk h t (mny ss) ((e + 1 : Nat) : Int)) := by
  have km := r.mny
  have ce : ∀ e, e ≤ N → gmF ss (mk h t (mny ss) (e : Int)) = Th.cnt k (G e) := fun e he => by
    rw [r.gm, km]
    exact Th.cnt_congr fun i hi => (eG e i he).symm
  constructor
  · rw [Ct.below_tot mono S, Ct.tot_congr ce, r.fx, km]
    congr 1
    exact Th.cnt_congr fun i hi => by rw [eG N i (Nat.le_refl _)]; rfl
  · intro e he
    rw [ce e (by omega), ce (e + 1) (by omega)]
    exact Th.cnt_mono fun i _ z => mono e (e + 1) i (by omega) (by omega) z
def spFamily (K : PySem.W.Frag) : Sp := fun vs H Q _ => ∃ (v l : V) (h t : Int) (ds : List Int) (L : List Nat), vs = [v, l] ∧ SeaA K H v h t ds ∧ LotA K H l L ∧ ds.length ≤ 60 ∧ 0 < ds.length ∧ Lot ds.length L ∧ ∀ H', Same H H' → Q (.int ((Ct.fam ds.length (Gof h t ds) (mem L) : Nat) : Int)) H'
abbrev s_family_size : Stmt := topS 23
theorem sc_family_size : FnScope (["sea", "standing", "fleet", "lot", "size"] : List Str) (["sea", "standing"] : List Str) (defScope s_family_size) := ⟨rfl, rfl, rfl, by decide +kernel, rfl, by decide +kernel, by decide +kernel⟩
theorem b_family_size (kV doc pm : Value) (an : Option Addr) (cdv ct : Value) (us : List Value) (hl : us.length = (["sea", "standing"] : List Str).length) : bindArgs (PySem.W.fnOf "family_size" "family_size" (defArgs s_family_size) (defBody s_family_size) (defScope s_family_size) .none kV doc pm an cdv ct) ⟨us, []⟩ = pure ((["sea", "standing"] : List Str).zip us) :=
  match us, hl with | [_, _], _ => rfl
section
variable {P : Program} {w : World} {K : PySem.W.Frag} {mg : Str → Option Value} {base : Heap}
set_option maxHeartbeats 4000000 in
theorem ok_family {k : Nat} (D : Df K mg "family_size" s_family_size) (T : Bt mg) (C : Cn mg) (O_fleet_of : Ok P w K mg base k "fleet_of" s_fleet_of ["sea", "standing"] (spFleetOfA K)) (O_lot_of : Ok P w K mg base k "lot_of" s_lot_of ["fleet"] (spLotOf K)) (O_ways_below : Ok P w K mg base k "ways_below" s_ways_below ["fleet", "lot"] (spWaysBelow K))
    (O_turned_fleet : Ok P w K mg base k "turned_fleet" s_turned_fleet ["fleet"] (spTurnedF K)) (O_turned_lot : Ok P w K mg base k "turned_lot" s_turned_lot ["fleet", "lot"] (spTurnedLot K)) :
    Ok P w K mg base (k + 1) "family_size" s_family_size ["sea", "standing"] (spFamily K) := by
  obtain ⟨_, g_LOW⟩ := C.low
  obtain ⟨_, g_HIGH⟩ := C.high
  refine D.ok sc_family_size b_family_size (fun vs H Q E h => ?_) (fun f cdv A outer s H vs Q E hr h => ?_)
  · obtain ⟨v, l, h, t, ds, L, rfl, _⟩ := h
    rfl
  · obtain ⟨v, l, h, t, ds, L, rfl, hv, hl, d1, d0, hL, q⟩ := h
    refine ⟨_, (pss_cons (ps_set (i := 2) sc_family_size.nd rfl (.inl rfl) (pe_fn O_fleet_of (hr.mono (by omega)) (pa_cons (pv 0) (pa_cons (pv 1) pa_nil))))
      (pss_cons (ps_set (i := 3) sc_family_size.nd rfl (.inl rfl) (pe_fn O_lot_of (hr.mono (by omega)) (pa_cons (pv 2) pa_nil)))
      (pss_cons (ps_set (i := 4) sc_family_size.nd rfl (.inl rfl) pe_int)
      (pss_cons (ps_if (pt_cmpR op_ne (pe_ix ix_lt (pv 3) pe_int (fun _ _ => rfl)) (pe_glob (v := .str "high") (by rfl) g_HIGH ⟨_, rfl⟩) (nomark _))
        (pss_one (ps_aug (i := 4) sc_family_size.nd rfl (.inl rfl) (pe_fn O_ways_below (hr.mono (by omega)) (pa_cons (pv 2) (pa_cons (pv 3) pa_nil))) ip_add))
        pss_nil)
      (pss_cons (ps_if (pt_cmpR op_ne (pe_ix ix_lt (pv 3) pe_int (fun _ _ => rfl)) (pe_glob (v := .str "low") (by rfl) g_LOW ⟨_, rfl⟩) (nomark _))
        (pss_one (ps_aug (i := 4) sc_family_size.nd rfl (.inl rfl) (pe_fn O_ways_below (hr.mono (by omega)) (pa_cons (pe_fn O_turned_fleet (hr.mono (by omega)) (pa_cons (pv 2) pa_nil)) (pa_cons (pe_fn O_turned_lot (hr.mono (by omega)) (pa_cons (pv 2) (pa_cons (pv 3) pa_nil))) pa_nil))) ip_add))
        pss_nil)
      (pss_one (ps_ret (pv 4)))))))), ?_⟩
    refine ⟨_, rfl, _, rfl, v, l, h, t, ds, L, rfl, hv, hl, d1, hL, fun H1 z ss s1 hz l1 r => ?_⟩
    refine ⟨_, rfl, z, h, t, ss, rfl, hz, l1, fun H2 pp kd s' s2 np hp lf => ?_⟩
    have s02 := s1.trans s2
    have hz2 := hz.same s2
    have ls := lf.ships r d0
    have km := r.mny
    have tp := top_D h t (fun i => ds.getD i 0) d0
    have S0 : ∀ i, ¬ i < ds.length → mem L i = false := fun i hi => by
      unfold mem
      exact decide_eq_false fun z => hi (hL.lt i z)
    have eGo : Gof h t ds = Gd h t ds.length (fun i => ds.getD i 0) := rfl
    rw [eGo] at q
    have monoU : ∀ N, N ≤ (topI h t ds.length).toNat → ∀ a b i, a ≤ b → b ≤ N → Gd h t ds.length (fun i => ds.getD i 0) a i = true → Gd h t ds.length (fun i => ds.getD i 0) b i = true := fun N hN a b i h1 h2 g => tp.up a b i h1 (by omega) g
    have monoD : ∀ N, N ≤ ds.length - 1 - (topI h t ds.length).toNat → ∀ a b i, a ≤ b → b ≤ N → Th.dual ds.length (Gd h t ds.length (fun i => ds.getD i 0)) a i = true → Th.dual ds.length (Gd h t ds.length (fun i => ds.getD i 0)) b i = true := fun N hN a b i h1 h2 g => tp.dual.up a b i h1 (by omega) g
    have lt := tp.lt
    have lowW : ∀ N, N ≤ (topI h t ds.length).toNat → _ := fun N hN => tot_below (h := h) (t := t) (N := N) r (G := Gd h t ds.length (fun i => ds.getD i 0)) (fun e i _ => rfl) (monoU N hN)
    have highW : ∀ N, N ≤ ds.length - 1 - (topI h t ds.length).toNat → _ := fun N hN => tot_below (h := t) (t := h) (N := N) r.turn (G := Th.dual ds.length (Gd h t ds.length (fun i => ds.getD i 0))) (fun e i he => (Gd_turn (by omega)).symm) (monoD N hN)
    have kt : mny (turnF ss) = ds.length := by rw [mny_turn, km]
    have lt2 : (turnF ss).length ≤ 1000 := by unfold turnF; rw [List.length_map]; exact l1
    cases kd with
    | low =>
      obtain ⟨N, e, a, b⟩ := ls
      subst e
      obtain ⟨w1, w2⟩ := lowW N a
      refine ⟨_, rfl, pp, _, 0, .str _, rfl, rfl, SqA.t hp, rfl, rfl, _, rfl, iteT ?_⟩
      refine ⟨_, rfl, _, rfl, _, rfl, z, .ref pp, h, t, ss, .low, N, rfl, hz2, l1, ⟨pp, rfl, SqA.t hp⟩, by omega, by omega, w2, fun H3 s3 => ⟨_, _, rfl, rfl, ?_⟩⟩
      refine ⟨_, rfl, pp, _, 0, .str _, rfl, rfl, SqA.t (s3 _ _ hp), rfl, rfl, _, rfl, iteF ?_⟩
      refine ⟨_, rfl, ?_⟩
      dsimp only
      rw [w1, Int.zero_add, ← Ct.fam_low S0 b tp a]
      exact (q _ (s02.trans s3))
    | high =>
      obtain ⟨N, e, a, b⟩ := ls
      subst e
      obtain ⟨w1, w2⟩ := highW N a
      refine ⟨_, rfl, pp, _, 0, .str _, rfl, rfl, SqA.t hp, rfl, rfl, _, rfl, iteF ?_⟩
      refine ⟨_, rfl, pp, _, 0, .str _, rfl, rfl, SqA.t hp, rfl, rfl, _, rfl, iteT ?_⟩
      refine ⟨_, rfl, _, rfl, z, h, t, ss, rfl, hz2, l1, fun H3 z3 s3 hz3 => ?_⟩
      refine ⟨_, rfl, _, rfl, z, .ref pp, h, t, _, ss, .high, rfl, hz2.same s3, l1, ⟨pp, rfl, SqA.t (s3 _ _ hp)⟩, fun H4 z4 s4 hz4 => ?_⟩
      rw [km, show (ds.length : Int) - 1 - ((ds.length : Int) - 1 - (N : Int)) = (N : Int) by omega] at hz4
      refine ⟨z3, z4, t, h, turnF ss, _, N, rfl, hz3.same s4, lt2, hz4, by omega, by omega, w2, fun H5 s5 => ⟨_, _, rfl, rfl, ?_⟩⟩
      refine ⟨_, rfl, ?_⟩
      dsimp only
      rw [w1, Int.zero_add, ← Ct.fam_high S0 b tp a]
      exact (q _ (s02.trans (s3.trans (s4.trans s5))))
    | top =>
      obtain ⟨e, a⟩ := ls
      have t0 := top_lo' h t ds.length
      obtain ⟨T', eT⟩ : ∃ T' : Nat, topI h t ds.length = (T' : Int) := ⟨_, (Int.toNat_of_nonneg t0).symm⟩
      have e2 : (topI h t ds.length).toNat = T' := by omega
      rw [e2] at a tp lowW highW lt
      obtain rfl : s' = (T' : Int) := by omega
      obtain ⟨w1, w2⟩ := lowW T' (Nat.le_refl _)
      obtain ⟨w3, w4⟩ := highW (ds.length - 1 - T') (Nat.le_refl _)
      refine ⟨_, rfl, pp, _, 0, .str _, rfl, rfl, SqA.t hp, rfl, rfl, _, rfl, iteT ?_⟩
      refine ⟨_, rfl, _, rfl, _, rfl, z, .ref pp, h, t, ss, .top, T', rfl, hz2, l1, ⟨pp, rfl, SqA.t hp⟩, by omega, by omega, w2, fun H3 s3 => ⟨_, _, rfl, rfl, ?_⟩⟩
      have hp3 := s3 _ _ hp
      have hz3 := hz2.same s3
      refine ⟨_, rfl, pp, _, 0, .str _, rfl, rfl, SqA.t hp3, rfl, rfl, _, rfl, iteT ?_⟩
      refine ⟨_, rfl, _, rfl, z, h, t, ss, rfl, hz3, l1, fun H4 z4 s4 hz4 => ?_⟩
      refine ⟨_, rfl, _, rfl, z, .ref pp, h, t, _, ss, .top, rfl, hz3.same s4, l1, ⟨pp, rfl, SqA.t (s4 _ _ hp3)⟩, fun H5 z5 s5 hz5 => ?_⟩
      rw [km, show (ds.length : Int) - 1 - (T' : Int) = ((ds.length - 1 - T' : Nat) : Int) by omega] at hz5
      refine ⟨z4, z5, t, h, turnF ss, _, ds.length - 1 - T', rfl, hz4.same s5, lt2, hz5, by omega, by omega, w4, fun H6 s6 => ⟨_, _, rfl, rfl, ?_⟩⟩
      refine ⟨_, rfl, ?_⟩
      dsimp only
      rw [w1, w3, Int.zero_add, ← Int.natCast_add, ← Ct.fam_open S0 a tp]
      exact (q _ (s02.trans (s3.trans (s4.trans (s5.trans s6)))))
end
end Sh

namespace Ct
open Th (cnt cnt_succ cnt_congr cnt_zero)
/-! ### how many lots all standings fall into -/
theorem cf_none : ∀ k : Nat, cf k (fun U => subB (fun _ => false) k U) = 1
  | 0 => rfl
  | k + 1 => by
    have t1 : cf k (fun U => subB (fun _ => false) (k + 1) U) = 1 := by
      refine Eq.trans (cf_congr fun U hU => ?_) (cf_none k)
      show (subB _ k U && (!U k || false)) = _
      rw [hU k (Nat.le_refl _)]
      simp
    have t2 : cf k (fun U => subB (fun _ => false) (k + 1) (put U k)) = 0 := by
      refine Eq.trans (cf_congr fun U hU => ?_) (cf_false k)
      show (subB _ k (put U k) && (!put U k k || false)) = false
      rw [put_self]
      simp
    show cf k (fun U => subB (fun _ => false) (k + 1) U) + cf k (fun U => subB (fun _ => false) (k + 1) (put U k)) = 1
    rw [t1, t2]
theorem cf_sub {k : Nat} (B : Nat → Bool) (x : Nat) : cf k (fun U => subB B k U && (cnt k U == x)) = bin (cnt k B) x := by
  have s := split (A := fun _ => false) (B := B) (fun i h => by cases h) (k := k) (P := fun _ => true) (x := x)
  have e1 : cf k (fun U => subB (fun _ => false) k U && (fun _ => true) U) = 1 := Eq.trans (cf_congr fun U _ => by simp) (cf_none k)
  rw [e1, Nat.one_mul] at s
  rw [← s]
  refine cf_congr fun U hU => ?_
  have e2 : (fun i => (fun _ : Nat => false) i || B i) = B := by
    funext i
    rfl
  rw [e2]
  cases q : subB B k U with
  | false => rfl
  | true =>
    have : cnt k (fun i => U i && B i) = cnt k U := cnt_congr fun i hi => by
      cases u : U i with
      | false => rfl
      | true => rw [subB_iff.mp q i hi u]; rfl
    rw [this]
    rfl
section
variable {k T : Nat} {G : Nat → Nat → Bool}
/-- full: so many, and all who go at that step -/
def fullB (k T : Nat) (G : Nat → Nat → Bool) (U : Nat → Bool) : Bool := (List.range k).all (fun i => !G (cnt k U) i || U i) && decide (cnt k U ≤ T)
theorem full_iff {U : Nat → Bool} : fullB k T G U = true ↔ (∀ i, i < k → G (cnt k U) i = true → U i = true) ∧ cnt k U ≤ T := by
  unfold fullB
  rw [Bool.and_eq_true, List.all_eq_true, decide_eq_true_eq]
  refine and_congr ⟨fun a i hi g => ?_, fun a i hi => ?_⟩ Iff.rfl
  · have := a i (List.mem_range.mpr hi)
    rw [g] at this
    exact this
  · cases g : G (cnt k U) i with
    | false => rfl
    | true => rw [a i (List.mem_range.mp hi) g]; rfl
def lowN (k T : Nat) (g : Nat → Nat) : Nat := ((List.range (T + 1)).map fun N => if N < g N then 0 else bin (k - g N) (N - g N)).sum
theorem cnt_not' (B : Nat → Bool) : cnt k (fun i => !B i) = k - cnt k B := by
  have := Th.cnt_co k B
  have e : cnt k (Th.co B) = cnt k (fun i => !B i) := rfl
  omega
theorem low_many : cf k (fullB k T G) = lowN k T (fun e => cnt k (G e)) := by
  have p := cf_parts (k := k) (P := fun U => (List.range k).all (fun i => !G (cnt k U) i || U i)) (f := fun U => cnt k U) T
  have e0 : cf k (fullB k T G) = cf k (fun U => (List.range k).all (fun i => !G (cnt k U) i || U i) && decide (cnt k U ≤ T)) := rfl
  rw [e0, ← p]
  unfold lowN
  congr 1
  refine List.map_congr_left fun N _ => ?_
  have e1 : cf k (fun U => (List.range k).all (fun i => !G (cnt k U) i || U i) && (cnt k U == N)) = cf k (fun M => (List.range k).all (fun i => !G N i || (M i == (fun _ => true) i)) && (fun V => cnt k (G N) + cnt k V == N) (fun i => M i && !G N i)) := cf_congr fun U _ => by
    have ee : (fun i => !G N i || (U i == (fun _ => true) i)) = fun i => !G N i || U i := by
      funext i
      cases U i <;> rfl
    rw [Bool.eq_iff_iff, Bool.and_eq_true, Bool.and_eq_true, beq_iff_eq, beq_iff_eq]
    have al : (List.range k).all (fun i => !G N i || (U i == (fun _ => true) i)) = true → cnt k U = cnt k (G N) + cnt k (fun i => U i && !G N i) := fun a => by
      have sp := Th.cnt_split (k := k) U (G N)
      have : cnt k (fun i => U i && G N i) = cnt k (G N) := cnt_congr fun i hi => by
        have := List.all_eq_true.mp a i (List.mem_range.mpr hi)
        cases g : G N i with
        | false => rw [Bool.and_false]
        | true =>
          rw [g] at this
          have u : U i = true := by simpa using this
          rw [u]
          rfl
      omega
    constructor
    · rintro ⟨a, b⟩
      rw [b] at a
      have a' : (List.range k).all (fun i => !G N i || (U i == (fun _ => true) i)) = true := by
        rw [ee]
        exact a
      exact ⟨a', by rw [← al a']; exact b⟩
    · rintro ⟨a, b⟩
      have c := al a
      rw [b] at c
      refine ⟨?_, c⟩
      rw [ee] at a
      rw [c]
      exact a
  rw [e1, fixed (P := fun V => cnt k (G N) + cnt k V == N)]
  dsimp only
  by_cases c : N < cnt k (G N)
  · rw [if_pos c]
    refine Eq.trans (cf_congr fun U _ => ?_) (cf_false k)
    have : (cnt k (G N) + cnt k U == N) = false := by rw [beq_eq_false_iff_ne]; omega
    rw [this, Bool.and_false]
  · rw [if_neg c, ← cnt_not', ← cf_sub]
    refine cf_congr fun U _ => ?_
    congr 1
    rw [Bool.eq_iff_iff, beq_iff_eq, beq_iff_eq]
    omega
/-- those who can lie fast in an open one -/
def fastB (k T : Nat) (G : Nat → Nat → Bool) (X : Nat → Bool) : Bool := subB (fun i => !G T i) k X && (decide (cnt k X ≤ T) && decide (T < cnt k X + cnt k (G T)))
def topN (k T gT : Nat) : Nat := ((List.range (k - gT + 1)).map fun f => if f ≤ T ∧ T < f + gT then bin (k - gT) f else 0).sum
theorem top_many : cf k (fastB k T G) = topN k T (cnt k (G T)) := by
  have ck := cnt_not' (k := k) (G T)
  have p := cf_parts (k := k) (P := fastB k T G) (f := fun U => cnt k U) (k - cnt k (G T))
  have e0 : cf k (fastB k T G) = cf k (fun U => fastB k T G U && decide (cnt k U ≤ k - cnt k (G T))) := cf_congr fun U _ => by
    cases q : fastB k T G U with
    | false => rfl
    | true =>
      have sb : subB (fun i => !G T i) k U = true := by
        unfold fastB at q
        exact (Bool.and_eq_true _ _ ▸ q).1
      have : cnt k U ≤ cnt k (fun i => !G T i) := Th.cnt_mono fun i hi u => subB_iff.mp sb i hi u
      rw [decide_eq_true (by omega)]
      rfl
  rw [e0, ← p]
  unfold topN
  congr 1
  refine List.map_congr_left fun f _ => ?_
  by_cases c : f ≤ T ∧ T < f + cnt k (G T)
  · rw [if_pos c, ← ck, ← cf_sub]
    refine cf_congr fun U _ => ?_
    unfold fastB
    rw [Bool.eq_iff_iff]
    simp only [Bool.and_eq_true, decide_eq_true_eq, beq_iff_eq]
    constructor
    · rintro ⟨⟨a, _⟩, b⟩
      exact ⟨a, b⟩
    · rintro ⟨a, b⟩
      exact ⟨⟨a, by omega, by omega⟩, b⟩
  · rw [if_neg c]
    refine Eq.trans (cf_congr fun U _ => ?_) (cf_false k)
    unfold fastB
    rw [Bool.eq_false_iff]
    simp only [ne_eq, Bool.and_eq_true, decide_eq_true_eq, beq_iff_eq]
    rintro ⟨⟨_, a, b⟩, e⟩
    exact c (by omega)
end
theorem some_of {B : Nat → Bool} : ∀ {k x : Nat}, x ≤ cnt k B → ∃ V : Nat → Bool, (∀ i, V i = true → B i = true ∧ i < k) ∧ cnt k V = x
  | k, 0, _ => ⟨fun _ => false, fun i h => (by cases h), Th.cnt_const k false⟩
  | 0, x + 1, h => by rw [cnt_zero] at h; omega
  | k + 1, x + 1, h => by
    rw [cnt_succ] at h
    cases b : B k with
    | false =>
      rw [b] at h
      obtain ⟨V, a, c⟩ := some_of (B := B) (k := k) (x := x + 1) (by simpa using h)
      refine ⟨V, fun i hi => ⟨(a i hi).1, by have := (a i hi).2; omega⟩, ?_⟩
      rw [cnt_succ, c]
      cases v : V k with
      | false => rfl
      | true => have := (a k v).2; omega
    | true =>
      rw [b, if_pos rfl] at h
      obtain ⟨V, a, c⟩ := some_of (B := B) (k := k) (x := x) (by omega)
      refine ⟨put V k, fun i hi => ?_, ?_⟩
      · by_cases e : i = k
        · rw [e]
          exact ⟨b, by omega⟩
        · rw [put_ne _ e] at hi
          exact ⟨(a i hi).1, by have := (a i hi).2; omega⟩
      · rw [cnt_succ, put_self, if_pos rfl, cnt_congr (U := V) fun i hi => put_ne _ (by omega), c]
end Ct

namespace Sh
open PySem PySem.Spec PyProof.Rows L2
theorem allLots_lot : ∀ {c : Nat} {L : List Nat}, L ∈ allLots c → Lot c L
  | 0, L, h => by
    rw [List.mem_singleton.mp h]
    exact Lot.nil _
  | c + 1, L, h => by
    rcases List.mem_append.mp h with z | z
    · have l := allLots_lot z
      exact ⟨l.up, fun i hi => Nat.lt_succ_of_lt (l.lt i hi)⟩
    · obtain ⟨M, hM, rfl⟩ := List.mem_map.mp z
      have l := allLots_lot hM
      refine ⟨List.pairwise_append.mpr ⟨l.up, List.pairwise_singleton _ _, fun a ha b hb => ?_⟩, fun i hi => ?_⟩
      · rw [List.mem_singleton.mp hb]
        exact l.lt a ha
      · rcases List.mem_append.mp hi with y | y
        · exact Nat.lt_succ_of_lt (l.lt i y)
        · rw [List.mem_singleton.mp y]
          omega
end Sh

namespace Sh
open PySem PySem.Spec PyProof.Rows L2
/-! ### lots as the functions that they are -/
theorem allLots_nd : ∀ c : Nat, (allLots c).Nodup
  | 0 => by
    show [([] : List Nat)].Nodup
    simp
  | c + 1 => by
    refine List.nodup_append.mpr ⟨allLots_nd c, ?_, fun a ha b hb e => ?_⟩
    · refine List.pairwise_map.mpr ((allLots_nd c).imp fun h e => h ?_)
      exact List.append_cancel_right e
    · obtain ⟨M, hM, rfl⟩ := List.mem_map.mp hb
      have := (allLots_lot ha).lt c (by rw [e]; simp)
      omega
theorem cf_lots : ∀ {k : Nat} {P : (Nat → Bool) → Bool}, ((allLots k).filter fun L => P (mem L)).length = Ct.cf k P
  | 0, P => by
    show (List.filter (fun L => P (mem L)) [[]]).length = if P (fun _ => false) = true then 1 else 0
    have e : mem [] = fun _ => false := by
      funext i
      exact decide_eq_false (by simp)
    by_cases c : P (mem []) = true
    · rw [List.filter_cons_of_pos (p := fun L => P (mem L)) c, if_pos (by rw [← e]; exact c)]
      rfl
    · rw [List.filter_cons_of_neg (p := fun L => P (mem L)) c, if_neg (by rw [← e]; exact c)]
      rfl
  | k + 1, P => by
    show (List.filter (fun L => P (mem L)) (allLots k ++ (allLots k).map fun L => L ++ [k])).length = Ct.cf k P + Ct.cf k (fun U => P (Ct.put U k))
    rw [List.filter_append, List.length_append, cf_lots, List.filter_map, List.length_map, ← cf_lots (k := k) (P := fun U => P (Ct.put U k))]
    congr 2
    congr 1
    funext L
    show P (mem (L ++ [k])) = P (Ct.put (mem L) k)
    congr 1
    funext i
    unfold mem Ct.put
    by_cases e : i = k
    · rw [if_pos e]
      exact decide_eq_true (by rw [e]; simp)
    · rw [if_neg e, decide_eq_decide, List.mem_append, List.mem_singleton]
      exact ⟨fun z => z.elim id fun y => absurd y e, .inl⟩
/-- as many as come to one another -/
theorem fam_len {h t : Int} {ds : List Int} {L : List Nat} {F : List (List Nat)} (nd : F.Nodup) (all : ∀ M, M ∈ F ↔ Lot ds.length M ∧ Rl h t ds L M) : F.length = Ct.fam ds.length (Gof h t ds) (mem L) := by
  unfold Ct.fam
  rw [← cf_lots]
  have key : ∀ M, M ∈ (allLots ds.length).filter (fun M => @decide (Th.Reach ds.length (Gof h t ds) (mem L) (mem M)) (Classical.propDecidable _)) ↔ M ∈ F := fun M => by
    rw [List.mem_filter, all]
    exact and_congr ⟨allLots_lot, lot_all⟩ (@decide_eq_true_iff _ (Classical.propDecidable _))
  exact Nat.le_antisymm (nodup_len nd fun x hx => (key x).mpr hx) (nodup_len ((allLots_nd _).filter _) fun x hx => (key x).mp hx)
/-! ### one of each -/
structure Trans (h t : Int) (ds : List Int) (R : List (List Nat)) : Prop where
  lot : ∀ M ∈ R, Lot ds.length M
  all : ∀ M, Lot ds.length M → ∃ N ∈ R, Rl h t ds M N
  apart : R.Pairwise fun M N => ¬ Rl h t ds M N
theorem pigeon {α : Type} [DecidableEq α] {rel : α → α → Prop} : ∀ {R R' : List α}, (∀ M ∈ R, ∃ N ∈ R', rel M N) → R.Pairwise (fun M M' => ¬ ∃ N, rel M N ∧ rel M' N) → R.length ≤ R'.length
  | [], _, _, _ => Nat.zero_le _
  | M :: R, R', h, p => by
    obtain ⟨N, hN, r⟩ := h M (.head _)
    obtain ⟨p1, p2⟩ := List.pairwise_cons.mp p
    have := pigeon (R := R) (R' := R'.erase N) (fun M' hM' => by
      obtain ⟨N', hN', r'⟩ := h M' (.tail _ hM')
      refine ⟨N', (List.mem_erase_of_ne fun e => p1 M' hM' ⟨N, r, by rw [← e]; exact r'⟩).mpr hN', r'⟩) p2
    rw [List.length_erase_of_mem hN] at this
    have : 0 < R'.length := List.length_pos_of_mem hN
    rw [List.length_cons]
    omega
theorem Trans.len {h t : Int} {ds : List Int} {R R' : List (List Nat)} (a : Trans h t ds R) (b : Trans h t ds R') : R.length = R'.length := by
  have key : ∀ {R R' : List (List Nat)}, Trans h t ds R → Trans h t ds R' → R.length ≤ R'.length := fun {R R'} a b => pigeon (rel := Rl h t ds) (fun M hM => b.all M (a.lot M hM)) (a.apart.imp fun n ⟨N, r1, r2⟩ => n (Th.Reach.trans r1 (Th.Reach.symm r2)))
  exact Nat.le_antisymm (key a b) (key b a)
def famsN (k T : Nat) (G : Nat → Nat → Bool) : Nat := Ct.lowN k T (fun e => Th.cnt k (G e)) + Ct.topN k T (Th.cnt k (G T)) + Ct.lowN k (k - 1 - T) (fun e => Th.cnt k (Th.dual k G e))
theorem full_stuck {k T : Nat} {G : Nat → Nat → Bool} {U : Nat → Bool} (h : Ct.fullB k T G U = true) : Th.StuckLow k G (Th.cnt k U) U := by
  obtain ⟨a, _⟩ := Ct.full_iff.mp h
  refine ⟨Nat.le_refl _, fun n h1 h2 => by omega, ?_⟩
  rw [Th.cnt_congr (U := U) fun i hi => ?_]
  · exact Nat.le_refl _
  · cases g : G (Th.cnt k U) i with
    | false => rw [Bool.or_false]
    | true => rw [a i hi g]; rfl
theorem trans_ex {h t : Int} {ds : List Int} (d0 : 0 < ds.length) : ∃ R, Trans h t ds R ∧ R.length = famsN ds.length (topI h t ds.length).toNat (Gof h t ds) := by
  have tp : Th.Top ds.length (Gof h t ds) (topI h t ds.length).toNat := top_D h t (fun i => ds.getD i 0) d0
  generalize (topI h t ds.length).toNat = T at tp
  have hT := tp.lt
  -- the full ones
  have lowS : ∀ {M : List Nat}, M ∈ (allLots ds.length).filter (fun M => Ct.fullB ds.length T (Gof h t ds) (mem M)) → ∃ N, N ≤ T ∧ N = Th.cnt ds.length (mem M) ∧ Th.StuckLow ds.length (Gof h t ds) N (mem M) := fun {M} hM => by
    have b := (List.mem_filter.mp hM).2
    exact ⟨_, (Ct.full_iff.mp b).2, rfl, full_stuck b⟩
  have highS : ∀ {M : List Nat}, M ∈ (allLots ds.length).filter (fun M => Ct.fullB ds.length (ds.length - 1 - T) (Th.dual ds.length (Gof h t ds)) (Th.co (mem M))) → ∃ N, N ≤ ds.length - 1 - T ∧ N = Th.cnt ds.length (Th.co (mem M)) ∧ Th.StuckLow ds.length (Th.dual ds.length (Gof h t ds)) N (Th.co (mem M)) := fun {M} hM => by
    have b := (List.mem_filter.mp hM).2
    exact ⟨_, (Ct.full_iff.mp b).2, rfl, full_stuck b⟩
  -- the open ones
  have repX : ∀ X : List Nat, ∃ M : List Nat, Lot ds.length M ∧ (Lot ds.length X → Ct.fastB ds.length T (Gof h t ds) (mem X) = true → Th.Open ds.length (Gof h t ds) T (mem M) ∧ ∀ i, i < ds.length → Gof h t ds T i = false → mem M i = mem X i) := fun X => by
    by_cases c : Ct.fastB ds.length T (Gof h t ds) (mem X) = true
    · have b := c
      unfold Ct.fastB at b
      rw [Bool.and_eq_true, Bool.and_eq_true, decide_eq_true_eq, decide_eq_true_eq, Ct.subB_iff] at b
      obtain ⟨b1, b2, b3⟩ := b
      obtain ⟨V, v1, v2⟩ := Ct.some_of (B := Gof h t ds T) (k := ds.length) (x := T - Th.cnt ds.length (mem X)) (by omega)
      have mm : ∀ i, i < ds.length → mem (lotOf ds.length fun i => mem X i || V i) i = (mem X i || V i) := fun i hi => lotOf_mem hi
      have cX : Th.cnt ds.length (fun i => mem X i && !Gof h t ds T i) = Th.cnt ds.length (mem X) := Th.cnt_congr fun i hi => by
        cases q : mem X i with
        | false => rfl
        | true =>
          have := b1 i hi q
          rw [this]
          rfl
      have cU : Th.cnt ds.length (fun i => mem X i || Gof h t ds T i) = Th.cnt ds.length (mem X) + Th.cnt ds.length (Gof h t ds T) := by
        have := Th.cnt_and_or (k := ds.length) (mem X) (Gof h t ds T)
        omega
      have cM : Th.cnt ds.length (mem (lotOf ds.length fun i => mem X i || V i)) = T := by
        rw [Th.cnt_congr mm]
        have a := Th.cnt_and_or (k := ds.length) (mem X) V
        have e : Th.cnt ds.length (fun i => mem X i && !V i) = Th.cnt ds.length (mem X) := Th.cnt_congr fun i hi => by
          cases q : mem X i with
          | false => rfl
          | true =>
            have g := b1 i hi q
            cases v : V i with
            | false => rfl
            | true =>
              have g2 := (v1 i v).1
              rw [g2] at g
              cases g
        omega
      refine ⟨lotOf ds.length fun i => mem X i || V i, lotOf_lot _ _, fun _ _ => ⟨⟨.inl ⟨by rw [cM]; exact Nat.le_refl _, fun n h1 h2 => by rw [cM] at h1; omega⟩, ?_⟩, fun i hi g => ?_⟩⟩
      · have e : Th.cnt ds.length (fun i => mem (lotOf ds.length fun i => mem X i || V i) i || Gof h t ds T i) = Th.cnt ds.length (fun i => mem X i || Gof h t ds T i) := Th.cnt_congr fun i hi => by
          rw [mm i hi]
          cases v : V i with
          | false => rw [Bool.or_false]
          | true => rw [(v1 i v).1, Bool.or_true, Bool.or_true]
        rw [e, cU]
        omega
      · rw [mm i hi]
        cases v : V i with
        | false => rw [Bool.or_false]
        | true =>
          have := (v1 i v).1
          rw [g] at this
          cases this
    · exact ⟨[], Lot.nil _, fun _ z => absurd z c⟩
  obtain ⟨rep, hrep⟩ := Classical.skolem.mp repX
  have topS : ∀ {M : List Nat}, M ∈ ((allLots ds.length).filter fun X => Ct.fastB ds.length T (Gof h t ds) (mem X)).map rep → Th.Open ds.length (Gof h t ds) T (mem M) := fun {M} hM => by
    obtain ⟨X, hX, rfl⟩ := List.mem_map.mp hM
    obtain ⟨h1, h2⟩ := List.mem_filter.mp hX
    exact ((hrep X).2 (allLots_lot h1) h2).1
  refine ⟨(allLots ds.length).filter (fun M => Ct.fullB ds.length T (Gof h t ds) (mem M)) ++ ((allLots ds.length).filter fun X => Ct.fastB ds.length T (Gof h t ds) (mem X)).map rep ++ (allLots ds.length).filter (fun M => Ct.fullB ds.length (ds.length - 1 - T) (Th.dual ds.length (Gof h t ds)) (Th.co (mem M))), ⟨?_, ?_, ?_⟩, ?_⟩
  · intro M hM
    rcases List.mem_append.mp hM with z | z
    · rcases List.mem_append.mp z with z | z
      · exact allLots_lot (List.mem_filter.mp z).1
      · obtain ⟨X, hX, rfl⟩ := List.mem_map.mp z
        exact (hrep X).1
    · exact allLots_lot (List.mem_filter.mp z).1
  · intro M hM
    have ow : ∀ i, ¬ i < ds.length → mem M i = false := fun i hi => decide_eq_false fun z => hi (hM.lt i z)
    rcases Th.sorts (S := mem M) tp with ⟨N, hN, sl⟩ | ⟨N, hN, sl⟩ | q
    · obtain ⟨U, r, c, e⟩ := sl.full tp hN
      have eU := lotOf_eq hM r
      refine ⟨lotOf ds.length U, List.mem_append.mpr (.inl (List.mem_append.mpr (.inl (List.mem_filter.mpr ⟨lot_all (lotOf_lot _ _), ?_⟩)))), ?_⟩
      · rw [eU]
        refine Ct.full_iff.mpr ⟨fun i hi g => ?_, by omega⟩
        rw [c] at g
        rw [e i hi, g, Bool.or_true]
      · show Th.Reach _ _ _ _
        rw [eU]
        exact r
    · obtain ⟨U, r, c, e⟩ := sl.full tp.dual hN
      have r2 : Th.Reach ds.length (Gof h t ds) (mem M) (Th.co U) := by
        refine Th.Reach.codual ?_
        rw [Th.co_co]
        exact r
      have eU := lotOf_eq hM r2
      refine ⟨lotOf ds.length (Th.co U), List.mem_append.mpr (.inr (List.mem_filter.mpr ⟨lot_all (lotOf_lot _ _), ?_⟩)), ?_⟩
      · rw [eU, Th.co_co]
        refine Ct.full_iff.mpr ⟨fun i hi g => ?_, by omega⟩
        rw [c] at g
        rw [e i hi, g, Bool.or_true]
      · show Th.Reach _ _ _ _
        rw [eU]
        exact r2
    · have op : Th.Open ds.length (Gof h t ds) T (mem M) := q
      have lX : Lot ds.length (lotOf ds.length fun i => mem M i && !Gof h t ds T i) := lotOf_lot _ _
      have mX : ∀ i, i < ds.length → mem (lotOf ds.length fun i => mem M i && !Gof h t ds T i) i = (mem M i && !Gof h t ds T i) := fun i hi => lotOf_mem hi
      have cX : Th.cnt ds.length (mem (lotOf ds.length fun i => mem M i && !Gof h t ds T i)) = Th.cnt ds.length (fun i => mem M i && !Gof h t ds T i) := Th.cnt_congr mX
      have f0 : Th.cnt ds.length (fun i => mem M i && !Gof h t ds T i) ≤ T := by
        rcases q.1 with r | r
        · have : Th.cnt ds.length (fun i => mem M i && !Gof h t ds T i) ≤ Th.cnt ds.length (mem M) := Th.cnt_mono fun i _ z => by
            cases e : mem M i with
            | true => rfl
            | false => rw [e] at z; cases z
          have := r.1
          omega
        · exact r.2 T (Nat.le_refl _) r.1
      have fb : Ct.fastB ds.length T (Gof h t ds) (mem (lotOf ds.length fun i => mem M i && !Gof h t ds T i)) = true := by
        unfold Ct.fastB
        rw [Bool.and_eq_true, Bool.and_eq_true, decide_eq_true_eq, decide_eq_true_eq, Ct.subB_iff, cX]
        refine ⟨fun i hi z => ?_, f0, ?_⟩
        · rw [mX i hi] at z
          cases g : Gof h t ds T i with
          | false => rfl
          | true => rw [g] at z; simp at z
        · have := Th.cnt_and_or (k := ds.length) (mem M) (Gof h t ds T)
          have := q.2
          omega
      obtain ⟨o2, fx⟩ := (hrep _).2 lX fb
      refine ⟨rep _, List.mem_append.mpr (.inl (List.mem_append.mpr (.inr (List.mem_map.mpr ⟨_, List.mem_filter.mpr ⟨lot_all lX, fb⟩, rfl⟩)))), ?_⟩
      refine Th.open_reach tp op.1 o2.1 (fun i hi g => ?_) fun i hi => ?_
      · rw [fx i hi g, mX i hi, g, Bool.not_false, Bool.and_true]
      · rw [ow i hi]
        exact decide_eq_false fun z => hi ((hrep _).1.lt i z)
  · have nd := allLots_nd ds.length
    refine List.pairwise_append.mpr ⟨List.pairwise_append.mpr ⟨?_, ?_, ?_⟩, ?_, ?_⟩
    · refine List.Pairwise.imp_of_mem (fun {M N} hM hN ne r => ne ?_) (nd.filter _)
      obtain ⟨a, a1, a2, sa⟩ := lowS hM
      obtain ⟨c, c1, c2, sc⟩ := lowS hN
      have e := Th.low_uniq (sa.same tp a1 r) sc
      subst e
      have fM := (Ct.full_iff.mp (List.mem_filter.mp hM).2).1
      have fN := (Ct.full_iff.mp (List.mem_filter.mp hN).2).1
      rw [← a2] at fM
      rw [← c2] at fN
      have q := ((sa.iff tp a1 (Th.Reach.out r)).mp r).2
      refine lot_ext (allLots_lot (List.mem_filter.mp hM).1) (allLots_lot (List.mem_filter.mp hN).1) fun i hi => ?_
      have := q i hi
      cases g : Gof h t ds a i with
      | false =>
        rw [g, Bool.or_false, Bool.or_false] at this
        exact this.symm
      | true => rw [fM i hi g, fN i hi g]
    · refine List.pairwise_map.mpr (List.Pairwise.imp_of_mem (fun {X Y} hX hY ne r => ne ?_) (nd.filter _))
      obtain ⟨x1, x2⟩ := List.mem_filter.mp hX
      obtain ⟨y1, y2⟩ := List.mem_filter.mp hY
      have lx := allLots_lot x1
      have ly := allLots_lot y1
      have fx := ((hrep X).2 lx x2).2
      have fy := ((hrep Y).2 ly y2).2
      have iv := Th.fast_inv tp r
      have sx : ∀ i, i < ds.length → mem X i = true → Gof h t ds T i = false := fun i hi z => by
        have b := x2
        unfold Ct.fastB at b
        rw [Bool.and_eq_true, Ct.subB_iff] at b
        have := b.1 i hi z
        simpa using this
      have sy : ∀ i, i < ds.length → mem Y i = true → Gof h t ds T i = false := fun i hi z => by
        have b := y2
        unfold Ct.fastB at b
        rw [Bool.and_eq_true, Ct.subB_iff] at b
        have := b.1 i hi z
        simpa using this
      refine lot_ext lx ly fun i hi => ?_
      cases g : Gof h t ds T i with
      | false => rw [← fx i hi g, ← fy i hi g, iv i hi g]
      | true =>
        cases a : mem X i with
        | true => rw [sx i hi a] at g; cases g
        | false =>
          cases b : mem Y i with
          | true => rw [sy i hi b] at g; cases g
          | false => rfl
    · intro M hM N hN r
      obtain ⟨a, a1, a2, sa⟩ := lowS hM
      exact Th.low_open tp a1 (sa.same tp a1 r) (topS hN)
    · refine List.Pairwise.imp_of_mem (fun {M N} hM hN ne r => ne ?_) (nd.filter _)
      obtain ⟨a, a1, a2, sa⟩ := highS hM
      obtain ⟨c, c1, c2, sc⟩ := highS hN
      have rd := Th.Reach.dual r
      have e := Th.low_uniq (sa.same tp.dual a1 rd) sc
      subst e
      have fM := (Ct.full_iff.mp (List.mem_filter.mp hM).2).1
      have fN := (Ct.full_iff.mp (List.mem_filter.mp hN).2).1
      rw [← a2] at fM
      rw [← c2] at fN
      have q := ((sa.iff tp.dual a1 (Th.Reach.out rd)).mp rd).2
      refine lot_ext (allLots_lot (List.mem_filter.mp hM).1) (allLots_lot (List.mem_filter.mp hN).1) fun i hi => ?_
      have this := q i hi
      have cc : Th.co (mem M) i = Th.co (mem N) i := by
        cases g : Th.dual ds.length (Gof h t ds) a i with
        | false =>
          rw [g, Bool.or_false, Bool.or_false] at this
          exact this.symm
        | true => rw [fM i hi g, fN i hi g]
      revert cc
      show (!mem M i) = (!mem N i) → _
      cases mem M i <;> cases mem N i <;> simp
    · intro M hM N hN r
      obtain ⟨c, c1, c2, sc⟩ := highS hN
      rcases List.mem_append.mp hM with z | z
      · obtain ⟨a, a1, a2, sa⟩ := lowS z
        exact Th.low_high tp a1 (sa.same tp a1 r) c1 sc
      · exact Th.high_open tp c1 sc ((topS z).same tp r)
  · rw [List.length_append, List.length_append, List.length_map, cf_lots (P := Ct.fullB ds.length T (Gof h t ds)), cf_lots (P := Ct.fastB ds.length T (Gof h t ds)), cf_lots (P := fun M => Ct.fullB ds.length (ds.length - 1 - T) (Th.dual ds.length (Gof h t ds)) (Th.co M)), Ct.cf_co (P := Ct.fullB ds.length (ds.length - 1 - T) (Th.dual ds.length (Gof h t ds))) fun U V e => ?_, Ct.low_many, Ct.top_many, Ct.low_many]
    · rfl
    · have ce : Th.cnt ds.length U = Th.cnt ds.length V := Th.cnt_congr e
      rw [Bool.eq_iff_iff, Ct.full_iff, Ct.full_iff, ce]
      exact and_congr ⟨fun a i hi g => by rw [← e i hi]; exact a i hi g, fun a i hi g => by rw [e i hi]; exact a i hi g⟩ Iff.rfl
end Sh

namespace Sh
open PySem PySem.Spec PyProof.Rows L2
def lowP (k : Nat) (g : Nat → Nat) (i : Nat) : Nat := ((List.range i).map fun N => if N < g N then 0 else Ct.bin (k - g N) (N - g N)).sum
theorem lowP_succ (k : Nat) (g : Nat → Nat) (i : Nat) : lowP k g (i + 1) = lowP k g i + if i < g i then 0 else Ct.bin (k - g i) (i - g i) := by
  unfold lowP
  rw [List.range_succ, List.map_append, List.sum_append]
  rfl
theorem lowN_congr {k T : Nat} {g g' : Nat → Nat} (h : ∀ e, e ≤ T → g e = g' e) : Ct.lowN k T g = Ct.lowN k T g' := by
  unfold Ct.lowN
  congr 1
  refine List.map_congr_left fun N hN => ?_
  rw [h N (by have := List.mem_range.mp hN; omega)]
def spLowLots (K : PySem.W.Frag) : Sp := fun vs H Q _ => ∃ (v : V) (h t : Int) (ss : List Srt) (T : Nat), vs = [v, .int (T : Int)] ∧ FltA K H v h t ss ∧ ss.length ≤ 1000 ∧ mny ss ≤ 60 ∧ T ≤ 1000 ∧ ∀ H', Same H H' → Q (.int ((Ct.lowN (mny ss) T (fun e => gmF ss (mk h t (mny ss) (e : Int))) : Nat) : Int)) H'
def spTopLots (K : PySem.W.Frag) : Sp := fun vs H Q _ => ∃ (v : V) (h t : Int) (ss : List Srt) (T : Nat), vs = [v, .int (T : Int)] ∧ FltA K H v h t ss ∧ ss.length ≤ 1000 ∧ mny ss ≤ 60 ∧ ∀ H', Same H H' → Q (.int ((Ct.topN (mny ss) T (gmF ss (mk h t (mny ss) (T : Int))) : Nat) : Int)) H'
def spFamilies (K : PySem.W.Frag) : Sp := fun vs H Q _ => ∃ (v : V) (h t : Int) (ds : List Int), vs = [v] ∧ SeaA K H v h t ds ∧ ds.length ≤ 60 ∧ 0 < ds.length ∧ ∀ H', Same H H' → Q (.int ((famsN ds.length (topI h t ds.length).toNat (Gof h t ds) : Nat) : Int)) H'
abbrev s_low_lots : Stmt := topS 24
theorem sc_low_lots : FnScope (["fleet", "top", "many", "lots", "step", "goers"] : List Str) (["fleet", "top"] : List Str) (defScope s_low_lots) := ⟨rfl, rfl, rfl, by decide +kernel, rfl, by decide +kernel, by decide +kernel⟩
theorem b_low_lots (kV doc pm : Value) (an : Option Addr) (cdv ct : Value) (us : List Value) (hl : us.length = (["fleet", "top"] : List Str).length) : bindArgs (PySem.W.fnOf "low_lots" "low_lots" (defArgs s_low_lots) (defBody s_low_lots) (defScope s_low_lots) .none kV doc pm an cdv ct) ⟨us, []⟩ = pure ((["fleet", "top"] : List Str).zip us) :=
  match us, hl with | [_, _], _ => rfl
abbrev s_top_lots : Stmt := topS 25
theorem sc_top_lots : FnScope (["fleet", "top", "many", "goers", "fixed_here", "fixed"] : List Str) (["fleet", "top"] : List Str) (defScope s_top_lots) := ⟨rfl, rfl, rfl, by decide +kernel, rfl, by decide +kernel, by decide +kernel⟩
theorem b_top_lots (kV doc pm : Value) (an : Option Addr) (cdv ct : Value) (us : List Value) (hl : us.length = (["fleet", "top"] : List Str).length) : bindArgs (PySem.W.fnOf "top_lots" "top_lots" (defArgs s_top_lots) (defBody s_top_lots) (defScope s_top_lots) .none kV doc pm an cdv ct) ⟨us, []⟩ = pure ((["fleet", "top"] : List Str).zip us) :=
  match us, hl with | [_, _], _ => rfl
abbrev s_families_many : Stmt := topS 26
theorem sc_families_many : FnScope (["sea", "fleet", "top", "last"] : List Str) (["sea"] : List Str) (defScope s_families_many) := ⟨rfl, rfl, rfl, by decide +kernel, rfl, by decide +kernel, by decide +kernel⟩
theorem b_families_many (kV doc pm : Value) (an : Option Addr) (cdv ct : Value) (us : List Value) (hl : us.length = (["sea"] : List Str).length) : bindArgs (PySem.W.fnOf "families_many" "families_many" (defArgs s_families_many) (defBody s_families_many) (defScope s_families_many) .none kV doc pm an cdv ct) ⟨us, []⟩ = pure ((["sea"] : List Str).zip us) :=
  match us, hl with | [_], _ => rfl
def topP (k T g i : Nat) : List Nat := (List.range i).filter fun f => decide (f ≤ T) && decide (T < f + g)
theorem topP_sum (k T g : Nat) : ∀ i, ((topP k T g i).map fun f => Ct.bin (k - g) f).sum = ((List.range i).map fun f => if f ≤ T ∧ T < f + g then Ct.bin (k - g) f else 0).sum
  | 0 => rfl
  | i + 1 => by
    have ih := topP_sum k T g i
    unfold topP at ih ⊢
    rw [List.range_succ, List.filter_append, List.map_append, List.sum_append, ih, List.map_append, List.sum_append]
    congr 1
    by_cases c : i ≤ T ∧ T < i + g
    · rw [List.filter_cons_of_pos (by simpa using c)]
      show _ = (if i ≤ T ∧ T < i + g then _ else 0) + 0
      rw [if_pos c]
      rfl
    · rw [List.filter_cons_of_neg (by simpa using c)]
      show _ = (if i ≤ T ∧ T < i + g then _ else 0) + 0
      rw [if_neg c]
      rfl
section
variable {P : Program} {w : World} {K : PySem.W.Frag} {mg : Str → Option Value} {base : Heap}
theorem ok_low_lots {k : Nat} (D : Df K mg "low_lots" s_low_lots) (T : Bt mg) (O_ships_many : Ok P w K mg base k "ships_many" s_ships_many ["fleet"] (spShips K)) (O_goers_many : Ok P w K mg base k "goers_many" s_goers_many ["fleet", "step"] (spGoersMany K)) (O_ways_to_take : Ok P w K mg base k "ways_to_take" s_ways_to_take ["many", "taken"] spWaysTake) :
    Ok P w K mg base (k + 1) "low_lots" s_low_lots ["fleet", "top"] (spLowLots K) := by
  refine D.ok sc_low_lots b_low_lots (fun vs H Q E h => ?_) (fun f cdv A outer s H vs Q E hr h => ?_)
  · obtain ⟨v, h, t, ss, T', rfl, _⟩ := h
    rfl
  · obtain ⟨v, h, t, ss, T', rfl, hv, l1, m1, T1, q⟩ := h
    refine ⟨_, (pss_cons (ps_set (i := 2) sc_low_lots.nd rfl (.inl rfl) (pe_fn O_ships_many (hr.mono (by omega)) (pa_cons (pv 0) pa_nil)))
      (pss_cons (ps_set (i := 3) sc_low_lots.nd rfl (.inl rfl) pe_int)
      (pss_cons (ps_for PassesOwn.never rfl (pi_range1 (by rfl) T.range_ (pa_cons (pe_op op_add (pv 1) pe_int) pa_nil)) (pg_name (i := 4) sc_low_lots.nd rfl (.inl rfl))
        (pss_cons (ps_set (i := 5) sc_low_lots.nd rfl (.inl rfl) (pe_fn O_goers_many (hr.mono (by omega)) (pa_cons (pv 0) (pa_cons (pv 4) pa_nil))))
          (pss_one (ps_aug (i := 3) sc_low_lots.nd rfl (.inl rfl) (pe_fn O_ways_to_take (hr.mono (by omega)) (pa_cons (pe_op op_sub (pv 2) (pv 5)) (pa_cons (pe_op op_sub (pv 4) (pv 5)) pa_nil))) ip_add))))
      (pss_one (ps_ret (pv 3)))))), ?_⟩
    have gb : ∀ e : Nat, gmF ss (mk h t (mny ss) (e : Int)) ≤ mny ss := fun e => gm_le ss _
    refine ⟨_, rfl, v, h, t, ss, rfl, hv, l1, fun H1 s1 => ?_⟩
    refine ⟨_, rfl, _, 1, rfl, rfl, _, rfl, by omega, by omega, ?_⟩
    rw [show ((T' : Int) + 1).toNat = T' + 1 by omega]
    refine for_range (lo := 0) (n := T' + 1) (fun i σ H' => ∃ y4 y5 : Option V, σ = [some v, some (.int (T' : Int)), some (.int (mny ss : Int)), some (.int ((lowP (mny ss) (fun e => gmF ss (mk h t (mny ss) (e : Int))) i : Nat) : Int)), y4, y5] ∧ Same H H') ⟨none, none, rfl, s1⟩ ?_ ?_
    · rintro i σ Ha hi ⟨y4, y5, rfl, sa⟩
      refine ⟨_, rfl, _, rfl, v, h, t, 0 + (i : Int), ss, rfl, hv.same sa, l1, fun Hb sb => ?_⟩
      rw [Int.zero_add (i : Int)]
      have g1 := gb i
      refine ⟨_, rfl, _, rfl, _, rfl, _, _, rfl, rfl, _, rfl, _, rfl, _, _, rfl, rfl, mny ss - gmF ss (mk h t (mny ss) (i : Int)), (i : Int) - (gmF ss (mk h t (mny ss) (i : Int)) : Int), ?_, by omega, fun Hc sc => ⟨_, _, rfl, rfl, ?_⟩⟩
      · rw [show ((mny ss - gmF ss (mk h t (mny ss) (i : Int)) : Nat) : Int) = (mny ss : Int) - (gmF ss (mk h t (mny ss) (i : Int)) : Int) by omega]
        rfl
      refine ⟨some (.int (i : Int)), some (.int (gmF ss (mk h t (mny ss) (i : Int)) : Int)), ?_, sa.trans (sb.trans sc)⟩
      rw [lowP_succ, Int.natCast_add]
      have e : ((if (i : Int) - (gmF ss (mk h t (mny ss) (i : Int)) : Int) < 0 then 0 else Ct.bin (mny ss - gmF ss (mk h t (mny ss) (i : Int))) ((i : Int) - (gmF ss (mk h t (mny ss) (i : Int)) : Int)).toNat : Nat) : Int) = ((if i < gmF ss (mk h t (mny ss) (i : Int)) then 0 else Ct.bin (mny ss - gmF ss (mk h t (mny ss) (i : Int))) (i - gmF ss (mk h t (mny ss) (i : Int))) : Nat) : Int) := by
        by_cases c : i < gmF ss (mk h t (mny ss) (i : Int))
        · rw [if_pos (by omega), if_pos c]
        · rw [if_neg (by omega), if_neg c, show ((i : Int) - (gmF ss (mk h t (mny ss) (i : Int)) : Int)).toNat = i - gmF ss (mk h t (mny ss) (i : Int)) by omega]
      rw [← e]
      rfl
    · rintro σ Hz ⟨y4, y5, rfl, sz⟩
      exact ⟨_, rfl, q _ sz⟩
set_option maxHeartbeats 4000000 in
theorem ok_top_lots {k : Nat} (D : Df K mg "top_lots" s_top_lots) (T : Bt mg) (O_ships_many : Ok P w K mg base k "ships_many" s_ships_many ["fleet"] (spShips K)) (O_goers_many : Ok P w K mg base k "goers_many" s_goers_many ["fleet", "step"] (spGoersMany K)) (O_ways_to_take : Ok P w K mg base k "ways_to_take" s_ways_to_take ["many", "taken"] spWaysTake) :
    Ok P w K mg base (k + 1) "top_lots" s_top_lots ["fleet", "top"] (spTopLots K) := by
  refine D.ok sc_top_lots b_top_lots (fun vs H Q E h => ?_) (fun f cdv A outer s H vs Q E hr h => ?_)
  · obtain ⟨v, h, t, ss, T', rfl, _⟩ := h
    rfl
  · obtain ⟨v, h, t, ss, T', rfl, hv, l1, m1, q⟩ := h
    refine ⟨_, (pss_cons (ps_set (i := 2) sc_top_lots.nd rfl (.inr rfl) (pe_fn O_ships_many (hr.mono (by omega)) (pa_cons (pv 0) pa_nil)))
      (pss_cons (ps_set (i := 3) sc_top_lots.nd rfl (.inr rfl) (pe_fn O_goers_many (hr.mono (by omega)) (pa_cons (pv 0) (pa_cons (pv 1) pa_nil))))
      (pss_cons (ps_setLc (i := 4) (own := [("fixed", 5)]) (g := (gName 5)) (by rfl) sc_top_lots.nd rfl rfl (sw_true rfl rfl rfl (by decide +kernel)) (pi_range1 (by rfl) T.range_ (pa_cons (pe_op op_add (pe_op op_sub (pv 2) (pv 3)) pe_int) pa_nil)) (blkOk_by (own := [("fixed", 5)]) (N := (["fleet", "top", "many", "goers", "fixed_here", "fixed"] : List Str)) (sc := defScope s_top_lots) (by decide +kernel)) (fun _ _ _ _ _ => (pg_name (i := 5) sc_top_lots.nd rfl (.inl rfl))) (fun _ _ _ _ _ => (pts_one (pt_chain op_le op_lt (pv 5) (pv 1) (pe_op op_add (pv 5) (pv 3))))) (fun _ _ _ _ _ => (pv 5)))
      (pss_one (ps_ret (pe_callB (cr_sum rfl) (by rfl) T.sum_ (by decide +kernel) (pa_cons (pe_lc (own := [("fixed", 5)]) (g := (gName 5)) (tt := tYes) (by rfl) sc_top_lots.nd (pi_seq (pv 4)) (blkOk_by (own := [("fixed", 5)]) (N := (["fleet", "top", "many", "goers", "fixed_here", "fixed"] : List Str)) (sc := defScope s_top_lots) (by decide +kernel)) (fun _ _ _ _ _ => (pg_name (i := 5) sc_top_lots.nd rfl (.inl rfl))) (fun _ _ _ _ _ => pts_nil) (fun _ _ _ _ _ => (pe_fn O_ways_to_take (hr.mono (by omega)) (pa_cons (pe_op op_sub (pv 2) (pv 3)) (pa_cons (pv 5) pa_nil))))) pa_nil))))))), ?_⟩
    refine ⟨_, rfl, v, h, t, ss, rfl, hv, l1, fun H1 s1 => ?_⟩
    refine ⟨_, rfl, _, rfl, v, h, t, (T' : Int), ss, rfl, hv.same s1, l1, fun H2 s2 => ?_⟩
    have g1 := gm_le ss (mk h t (mny ss) (T' : Int))
    generalize gmF ss (mk h t (mny ss) (T' : Int)) = g at q g1
    generalize mny ss = k' at m1 q g1
    have s02 := s1.trans s2
    refine ⟨_, rfl, _, rfl, _, _, rfl, rfl, _, 1, rfl, rfl, _, rfl, by omega, by omega, fun C nC => ?_⟩
    rw [show ((k' : Int) - (g : Int) + 1).toNat = k' - g + 1 by omega]
    refine lc_range (fun i H' => Same H2 H' ∧ H' C = some (.lst (nl (topP k' T' g i)))) ⟨same_new nC, upd_same⟩ ?_ ?_
    · rintro i Ha hi ⟨sm, hC⟩
      have ts : topP k' T' g (i + 1) = topP k' T' g i ++ if i ≤ T' ∧ T' < i + g then [i] else [] := by
        unfold topP
        rw [List.range_succ, List.filter_append]
        congr 1
        by_cases c : i ≤ T' ∧ T' < i + g
        · rw [List.filter_cons_of_pos (by simpa using c), if_pos c]
          rfl
        · rw [List.filter_cons_of_neg (by simpa using c), if_neg c]
          rfl
      have no : ¬ (i ≤ T' ∧ T' < i + g) → Same H2 Ha ∧ Ha C = some (.lst (nl (topP k' T' g (i + 1)))) := fun c => ⟨sm, by rw [hC, ts, if_neg c, List.append_nil]⟩
      refine ⟨rfl, ?_⟩
      refine ⟨_, rfl, _, rfl, _, _, rfl, rfl, _, rfl, ?_⟩
      by_cases c1 : i ≤ T'
      · rw [decide_eq_true (by omega)]
        refine iteT ⟨_, rfl, _, rfl, _, _, rfl, rfl, _, _, rfl, rfl, _, rfl, ite2 (fun c => ?_) (fun c => ?_)⟩
        · have c0 := of_decide_eq_true c
          have c2 : i ≤ T' ∧ T' < i + g := by omega
          refine ⟨_, rfl, _, hC, ?_, same_over sm nC, ?_⟩
          · rw [nl_len]
            unfold topP
            exact Nat.lt_of_le_of_lt (List.length_filter_le _ _) (by rw [List.length_range]; exact Nat.lt_of_lt_of_le hi (Nat.le_trans (show _ ≤ 61 by omega) (by decide)))
          · rw [upd_same, ts, if_pos c2, Int.zero_add (i : Int)]
            unfold nl
            rw [List.map_append, List.map_append]
            rfl
        · have c0 : ¬ _ := fun z => c (decide_eq_true z)
          exact no (by omega)
      · rw [decide_eq_false (by omega)]
        exact iteF ⟨false, rfl, iteF (no (by omega))⟩
    · rintro H3 ⟨s3, hC⟩
      rw [show k' - g + 1 = k' - g + 1 from rfl] at hC
      have ll : (topP k' T' g (k' - g + 1)).length ≤ 61 := by
        unfold topP
        exact Nat.le_trans (List.length_filter_le _ _) (by rw [List.length_range]; omega)
      have s03 := s02.trans s3
      unfold Ct.topN at q
      rw [← topP_sum] at q
      have mm : ∀ f ∈ topP k' T' g (k' - g + 1), f ≤ k' - g := fun f hf => by
        have := List.mem_range.mp (List.mem_filter.mp hf).1
        omega
      generalize topP k' T' g (k' - g + 1) = fs at hC ll q mm
      refine ⟨_, rfl, C, _, H3, rfl, SqA.l hC, Kp.refl _ _, fun J hJ C2 nC2 => ?_⟩
      obtain ⟨G, gg, W⟩ := hJ.walk
      refine lc_it W (fun i H' => Same H3 H' ∧ H' C2 = some (.lst (nl ((fs.take i).map fun f => Ct.bin (k' - g) f)))) ⟨same_new nC2, upd_same⟩ (fun i H' _ z => gg H' (.ofS z.1)) ?_ ?_
      · rintro i x Ha Hb hi ⟨sm, hC2⟩ ⟨rfl, gx⟩
        rw [nl_len] at hi
        obtain rfl : .int ((fs[i] : Nat) : Int) = x := Option.some.inj ((nl_get hi).symm.trans gx)
        refine ⟨rfl, tyes (iteT ?_)⟩
        refine ⟨_, rfl, _, rfl, _, _, rfl, rfl, _, rfl, k' - g, ((fs[i] : Nat) : Int), ?_, by omega, fun Hc sc => ?_⟩
        · rw [show ((k' - g : Nat) : Int) = (k' : Int) - (g : Int) by omega]
          rfl
        rw [if_neg (by omega), Int.toNat_natCast]
        refine ⟨_, sc _ _ hC2, ?_, same_over (sm.trans sc) nC2, ?_⟩
        · rw [nl_len, List.length_map, List.length_take]
          exact Nat.lt_of_le_of_lt (show _ ≤ 61 by omega) (by decide)
        · rw [upd_same, take_succ_get hi, List.map_append]
          unfold nl
          rw [List.map_append, List.map_append]
          rfl
      · rintro H4 ⟨s4, hC2⟩
        rw [nl_len, List.take_length] at hC2
        refine ⟨C2, _, rfl, SqL.of hC2, ?_⟩
        rw [nsumI]
        exact q _ (s03.trans s4)
theorem ok_families {k : Nat} (D : Df K mg "families_many" s_families_many) (T : Bt mg) (O_fleet_of : Ok P w K mg base k "fleet_of" s_fleet_of ["sea", "standing"] (spFleetOfA K)) (O_top_in : Ok P w K mg base k "top_in" s_top_in ["fleet"] (spTopIn K)) (O_ships_many : Ok P w K mg base k "ships_many" s_ships_many ["fleet"] (spShips K))
    (O_low_lots : Ok P w K mg base k "low_lots" s_low_lots ["fleet", "top"] (spLowLots K)) (O_top_lots : Ok P w K mg base k "top_lots" s_top_lots ["fleet", "top"] (spTopLots K)) (O_turned_fleet : Ok P w K mg base k "turned_fleet" s_turned_fleet ["fleet"] (spTurnedF K)) :
    Ok P w K mg base (k + 1) "families_many" s_families_many ["sea"] (spFamilies K) := by
  refine D.ok sc_families_many b_families_many (fun vs H Q E h => ?_) (fun f cdv A outer s H vs Q E hr h => ?_)
  · obtain ⟨v, h, t, ds, rfl, _⟩ := h
    rfl
  · obtain ⟨v, h, t, ds, rfl, hv, d1, d0, q⟩ := h
    refine ⟨_, (pss_cons (ps_set (i := 1) sc_families_many.nd rfl (.inl rfl) (pe_fn O_fleet_of (hr.mono (by omega)) (pa_cons (pv 0) (pa_cons (pe_tup pa_nil) pa_nil))))
      (pss_cons (ps_set (i := 2) sc_families_many.nd rfl (.inl rfl) (pe_fn O_top_in (hr.mono (by omega)) (pa_cons (pv 1) pa_nil)))
      (pss_cons (ps_set (i := 3) sc_families_many.nd rfl (.inl rfl) (pe_op op_sub (pe_fn O_ships_many (hr.mono (by omega)) (pa_cons (pv 1) pa_nil)) pe_int))
      (pss_one (ps_ret (pe_op op_add (pe_op op_add (pe_fn O_low_lots (hr.mono (by omega)) (pa_cons (pv 1) (pa_cons (pv 2) pa_nil))) (pe_fn O_top_lots (hr.mono (by omega)) (pa_cons (pv 1) (pa_cons (pv 2) pa_nil)))) (pe_fn O_low_lots (hr.mono (by omega)) (pa_cons (pe_fn O_turned_fleet (hr.mono (by omega)) (pa_cons (pv 1) pa_nil)) (pa_cons (pe_op op_sub (pv 3) (pv 2)) pa_nil))))))))), ?_⟩
    refine ⟨_, rfl, Nat.zero_le _, fun em nem => ?_⟩
    have s0 : Same H (upd H em (.tup [])) := same_new nem
    have e0 : upd H em (.tup []) em = some (.tup (ni [])) := upd_same
    generalize upd H em (.tup []) = H0 at s0 e0
    refine ⟨v, .ref em, h, t, ds, [], rfl, hv.same s0, ⟨em, rfl, SqA.t e0⟩, d1, Lot.nil _, fun H1 z ss s1 hz l1 r => ?_⟩
    have km := r.mny
    have tp := top_D h t (fun i => ds.getD i 0) d0
    have t0 := top_lo' h t ds.length
    have lt := tp.lt
    refine ⟨_, rfl, z, h, t, ss, rfl, hz, l1, fun H2 s2 => ?_⟩
    refine ⟨_, rfl, z, h, t, ss, rfl, hz.same s2, l1, fun H3 s3 => ⟨_, 1, rfl, rfl, ?_⟩⟩
    rw [km]
    obtain ⟨T', eT⟩ : ∃ T' : Nat, topI h t ds.length = (T' : Int) := ⟨_, (Int.toNat_of_nonneg t0).symm⟩
    have e2 : (topI h t ds.length).toNat = T' := by omega
    rw [e2] at q lt tp
    rw [eT]
    have hz3 := hz.same (s2.trans s3)
    refine ⟨_, rfl, _, rfl, z, h, t, ss, T', rfl, hz3, l1, by omega, by omega, fun H4 s4 => ?_⟩
    refine ⟨_, rfl, _, rfl, z, h, t, ss, T', rfl, hz3.same s4, l1, by omega, fun H5 s5 => ⟨_, _, rfl, rfl, ?_⟩⟩
    have hz5 := hz3.same (s4.trans s5)
    refine ⟨_, rfl, z, h, t, ss, rfl, hz5, l1, fun H6 z6 s6 hz6 => ?_⟩
    have lt2 : (turnF ss).length ≤ 1000 := by unfold turnF; rw [List.length_map]; exact l1
    have kt : mny (turnF ss) = ds.length := by rw [mny_turn, km]
    refine ⟨_, rfl, _, rfl, _, _, rfl, rfl, z6, t, h, turnF ss, ds.length - 1 - T', ?_, hz6, lt2, by omega, by omega, fun H7 s7 => ⟨_, _, rfl, rfl, ?_⟩⟩
    · rw [show ((ds.length - 1 - T' : Nat) : Int) = (ds.length : Int) - 1 - (T' : Int) by omega]
      rfl
    have c1 : ∀ e : Nat, gmF ss (mk h t (mny ss) (e : Int)) = Th.cnt ds.length (Gof h t ds e) := fun e => by rw [r.gm, km]; rfl
    have c2 : ∀ e : Nat, e ≤ ds.length - 1 - T' → gmF (turnF ss) (mk t h (mny (turnF ss)) (e : Int)) = Th.cnt ds.length (Th.dual ds.length (Gof h t ds) e) := fun e he => by
      rw [r.turn.gm, kt]
      exact Th.cnt_congr fun i hi => Gd_turn (h := h) (t := t) (D := fun i => ds.getD i 0) (by omega)
    have w := q _ (s0.trans (s1.trans (s2.trans (s3.trans (s4.trans (s5.trans (s6.trans s7)))))))
    unfold famsN at w
    rw [← lowN_congr (T := T') fun e _ => c1 e, ← c1 T', ← lowN_congr c2, Int.natCast_add, Int.natCast_add] at w
    rw [km, kt] at *
    exact w
end
end Sh

namespace Sh
open PySem PySem.Spec PyProof.Rows L2
/-! ### the law's own look at a sea: marks -/
def spMarks (K : PySem.W.Frag) : Sp := fun vs H Q _ => ∃ (v : V) (h t : Int) (ds : List Int), vs = [v] ∧ SeaA K H v h t ds ∧ ds.length ≤ 60 ∧ ∀ (H' : Hp) (p : Addr), Same H H' → H p = none → H' p = some (.lst ((ml h t ds.length ds.length).map V.int)) → Q (.ref p) H'
abbrev s__law_marks : Stmt := topS 35
theorem sc__law_marks : FnScope (["_law_pond", "_law_count", "_law_at"] : List Str) (["_law_pond"] : List Str) (defScope s__law_marks) := ⟨rfl, rfl, rfl, by decide +kernel, rfl, by decide +kernel, by decide +kernel⟩
theorem b__law_marks (kV doc pm : Value) (an : Option Addr) (cdv ct : Value) (us : List Value) (hl : us.length = (["_law_pond"] : List Str).length) : bindArgs (PySem.W.fnOf "_law_marks" "_law_marks" (defArgs s__law_marks) (defBody s__law_marks) (defScope s__law_marks) .none kV doc pm an cdv ct) ⟨us, []⟩ = pure ((["_law_pond"] : List Str).zip us) :=
  match us, hl with | [_], _ => rfl
section
variable {P : Program} {w : World} {K : PySem.W.Frag} {mg : Str → Option Value} {base : Heap}
theorem ok_lmarks {k : Nat} (D : Df K mg "_law_marks" s__law_marks) (T : Bt mg) : Ok P w K mg base (k + 1) "_law_marks" s__law_marks ["_law_pond"] (spMarks K) := by
  refine D.ok sc__law_marks b__law_marks (fun vs H Q E h => ?_) (fun f cdv A outer s H vs Q E hr h => ?_)
  · obtain ⟨v, h, t, ds, rfl, _⟩ := h
    rfl
  · obtain ⟨v, h, t, ds, rfl, ⟨p, q, rfl, hp, hq⟩, d60, k1⟩ := h
    refine ⟨_, (pss_cons (ps_set (i := 1) sc__law_marks.nd rfl (.inr rfl) (pe_callB call_len_seq (by rfl) T.len_ PySem.boot_len (pa_cons (pe_ix ix_lt (pv 0) pe_int (fun _ _ => rfl)) pa_nil)))
      (pss_one (ps_ret (pe_lc (own := [("_law_at", 2)]) (g := (gName 2)) (tt := tYes) (by rfl) sc__law_marks.nd (pi_range1 (by rfl) T.range_ (pa_cons (pv 1) pa_nil)) (blkOk_by (own := [("_law_at", 2)]) (N := (["_law_pond", "_law_count", "_law_at"] : List Str)) (sc := defScope s__law_marks) (by decide +kernel)) (fun _ _ _ _ _ => (pg_name (i := 2) sc__law_marks.nd rfl (.inl rfl))) (fun _ _ _ _ _ => pts_nil) (fun _ _ _ _ _ => (pe_callB (call_min2 rfl) (by rfl) T.min_ (by decide +kernel) (pa_cons (pe_op op_add (pe_ix (ix_ltK K) (pv 0) pe_int (fun _ _ => rfl)) (pv 2)) (pa_cons (pe_op op_sub (pe_op op_sub (pe_op op_add (pe_ix (ix_ltK K) (pv 0) pe_int (fun _ _ => rfl)) (pv 1)) pe_int) (pv 2)) pa_nil)))))))), ?_⟩
    refine ⟨_, rfl, p, _, 2, .ref q, rfl, rfl, hp, rfl, q, _, rfl, hq, ?_⟩
    rw [List.length_map]
    refine ⟨_, rfl, ((ds.length : Nat) : Int), rfl, by omega, by omega, fun C nC => ?_⟩
    refine lc_range (fun j H3 => Same H H3 ∧ H3 C = some (.lst ((ml h t ds.length j).map V.int))) ⟨same_new nC, upd_same⟩ ?_ ?_
    · rintro j H3 hj ⟨sm, hC⟩
      refine ⟨rfl, tyes (iteT ?_)⟩
      refine ⟨_, rfl, p, _, 0, .int h, rfl, rfl, Same.sqA sm hp, rfl, _, rfl, h, _, rfl, rfl, _, rfl, p, _, 1, .int t, rfl, rfl, Same.sqA sm hp, rfl, _, rfl, t, _, rfl, rfl, _, 1, rfl, rfl, _, rfl, _, _, rfl, rfl, _, _, rfl, ?_⟩
      refine ⟨_, hC, ?_, same_over sm nC, ?_⟩
      · rw [List.length_map, ml_len]
        rw [Int.toNat_natCast] at hj
        exact small1000 (by omega)
      · rw [upd_same, ml_succ, List.map_append]
        have e := (mk_alt h t ds.length (0 + (j : Int))).trans (congrArg (mk h t ds.length) (Int.zero_add (j : Int)))
        exact congrArg (fun z => some (HO.lst ((ml h t ds.length j).map V.int ++ [V.int z]))) e
    · rintro H3 ⟨sm, hC⟩
      rw [Int.toNat_natCast] at hC
      exact k1 H3 C sm nC hC
end
end Sh

namespace Sh
open PySem PySem.Spec PyProof.Rows L2
/-! ### what all that come to one another have alike, by the law's own look -/
instance kdDec : DecidableEq Kd := fun a b => by cases a <;> cases b <;> first | exact isTrue rfl | exact isFalse (by intro z; cases z)
def kword : Kd → Str
  | .low => "low"
  | .high => "high"
  | .top => "open"
def keyL (h t : Int) (ds : List Int) (L : List Nat) : Kd → Int → List Nat
  | .low, s => (List.range ds.length).filter fun i => decide (i ∈ L) || decide (ds.getD i 0 ≤ mk h t ds.length s)
  | _, s => L.filter fun i => !decide (ds.getD i 0 ≤ mk h t ds.length s)
def IsKey (h t : Int) (ds : List Int) (L : List Nat) (kd : Kd) (s : Int) (X : List Nat) : Prop := LotS h t ds.length (fun i => ds.getD i 0) (mem L) kd s ∧ X = keyL h t ds L kd s
section
variable {h t : Int} {ds : List Int} {L M : List Nat}
theorem keyL_lot (hL : Lot ds.length L) (kd : Kd) (s : Int) : Lot ds.length (keyL h t ds L kd s) := by
  cases kd with
  | low => exact (Lot.all _).filter _
  | high => exact hL.filter _
  | top => exact hL.filter _
theorem keyL_mem (kd : Kd) (s : Int) {i : Nat} (hi : i < ds.length) : i ∈ keyL h t ds L kd s ↔ if kd = .low then (i ∈ L ∨ ds.getD i 0 ≤ mk h t ds.length s) else (i ∈ L ∧ ¬ ds.getD i 0 ≤ mk h t ds.length s) := by
  cases kd with
  | low => rw [if_pos rfl]; unfold keyL; rw [List.mem_filter, List.mem_range]; simp [hi]
  | high => rw [if_neg (by intro z; cases z)]; unfold keyL; rw [List.mem_filter]; simp
  | top => rw [if_neg (by intro z; cases z)]; unfold keyL; rw [List.mem_filter]; simp
theorem keyL_eq (hL : Lot ds.length L) (hM : Lot ds.length M) (kd : Kd) (s : Int) : keyL h t ds L kd s = keyL h t ds M kd s ↔ ∀ i, i < ds.length → ¬ ds.getD i 0 ≤ mk h t ds.length s → mem M i = mem L i := by
  constructor
  · intro e i hi no
    have a := keyL_mem (h := h) (t := t) (L := L) kd s hi
    have b := keyL_mem (h := h) (t := t) (L := M) kd s hi
    rw [e, b] at a
    unfold mem
    rw [decide_eq_decide]
    by_cases c : kd = .low
    · rw [if_pos c, if_pos c] at a
      exact ⟨fun z => (a.mp (.inl z)).resolve_right no, fun z => (a.mpr (.inl z)).resolve_right no⟩
    · rw [if_neg c, if_neg c] at a
      exact ⟨fun z => (a.mp ⟨z, no⟩).1, fun z => (a.mpr ⟨z, no⟩).1⟩
  · intro e
    refine lot_ext (keyL_lot hL kd s) (keyL_lot hM kd s) fun i hi => ?_
    unfold mem
    rw [decide_eq_decide, keyL_mem kd s hi, keyL_mem kd s hi]
    by_cases no : ds.getD i 0 ≤ mk h t ds.length s
    · split
      · exact ⟨fun _ => .inr no, fun _ => .inr no⟩
      · exact ⟨fun z => absurd no z.2, fun z => absurd no z.2⟩
    · have e2 := e i hi no
      unfold mem at e2
      rw [decide_eq_decide] at e2
      split <;> rw [e2]
theorem mem_off (hL : Lot ds.length L) {i : Nat} (hi : ¬ i < ds.length) : mem L i = false := decide_eq_false fun z => hi (hL.lt i z)
/-- two keys are the same just where one comes to the other -/
theorem key_eq (hk : 0 < ds.length) (hL : Lot ds.length L) (hM : Lot ds.length M) {kd kd' : Kd} {s s' : Int} {X X' : List Nat} (a : IsKey h t ds L kd s X) (b : IsKey h t ds M kd' s' X') : (kd = kd' ∧ s = s' ∧ X = X') ↔ Rl h t ds L M := by
  obtain ⟨l, rfl⟩ := a
  obtain ⟨l', rfl⟩ := b
  have c := LotS.comes hk l l' fun i hi => by rw [mem_off hL hi, mem_off hM hi]
  refine Iff.trans ?_ c.symm
  constructor
  · rintro ⟨rfl, rfl, e⟩
    exact ⟨⟨rfl, rfl⟩, (keyL_eq hL hM _ _).mp e⟩
  · rintro ⟨⟨rfl, rfl⟩, e⟩
    exact ⟨rfl, rfl, (keyL_eq hL hM _ _).mpr e⟩
/-- who is out and afloat; who lies here and isn't -/
def outL (h t : Int) (ds : List Int) (L : List Nat) (s : Nat) : List Nat := (List.range ds.length).filter fun i => decide (ds.getD i 0 ≤ mk h t ds.length (s : Int)) && !decide (i ∈ L)
def keptL (h t : Int) (ds : List Int) (L : List Nat) (s : Nat) : List Nat := L.filter fun i => !decide (ds.getD i 0 ≤ mk h t ds.length (s : Int))
theorem out_cnt (hL : Lot ds.length L) (s : Nat) : L.length + (outL h t ds L s).length = Th.cnt ds.length (fun i => mem L i || Gof h t ds s i) := by
  rw [Th.cnt_or_not, cnt_mem hL]
  congr 1
  unfold outL Th.cnt
  rw [List.countP_eq_length_filter]
  rfl
theorem kept_cnt (hL : Lot ds.length L) (s : Nat) : (keptL h t ds L s).length = Th.cnt ds.length (fun i => mem L i && !Gof h t ds s i) := by
  unfold keptL Th.cnt
  conv => lhs; rw [hL.mem_eq]
  rw [List.filter_filter, List.countP_eq_length_filter]
  congr 1
  refine List.filter_congr fun i _ => ?_
  rw [Bool.and_comm]
  rfl
theorem key_low (hL : Lot ds.length L) {s : Nat} (l0 : L.length ≤ s) (l1 : (s : Int) ≤ topI h t ds.length) (no : ∀ n, L.length ≤ n → n < s → n < L.length + (outL h t ds L n).length) (yes : L.length + (outL h t ds L s).length ≤ s) : IsKey h t ds L .low (s : Int) (keyL h t ds L .low (s : Int)) := by
  refine ⟨⟨s, rfl, by omega, ?_⟩, rfl⟩
  refine ⟨by rw [cnt_mem hL]; exact l0, fun n a b => ?_, ?_⟩
  · rw [cnt_mem hL] at a
    exact Nat.lt_of_lt_of_eq (no n a b) (out_cnt hL n)
  · exact Nat.le_trans (Nat.le_of_eq (out_cnt hL s).symm) yes
theorem key_high (hk : 0 < ds.length) (hL : Lot ds.length L) {s : Nat} (l0 : s < L.length) (l1 : topI h t ds.length ≤ (s : Int)) (no : ∀ n, s < n → n < L.length → (keptL h t ds L n).length ≤ n) (yes : s < (keptL h t ds L s).length) : IsKey h t ds L .high (s : Int) (keyL h t ds L .high (s : Int)) := by
  have lL := hL.len
  have t0 := top_lo h t ds.length
  refine ⟨⟨ds.length - 1 - s, by omega, by omega, ?_⟩, rfl⟩
  have cc := Th.cnt_co ds.length (mem L)
  rw [cnt_mem hL] at cc
  have dl : ∀ n, n < ds.length → Th.cnt ds.length (fun i => Th.co (mem L) i || Th.dual ds.length (Gof h t ds) n i) + (keptL h t ds L (ds.length - 1 - n)).length = ds.length := fun n hn => by
    rw [kept_cnt hL]
    have e := Th.cnt_co ds.length (fun i => mem L i && !Gof h t ds (ds.length - 1 - n) i)
    rw [← Th.co_or] at e
    rw [Nat.add_comm]
    exact e
  refine ⟨by omega, fun n a b => ?_, ?_⟩
  · have e := dl n (by omega)
    have k1 := no (ds.length - 1 - n) (by omega) (by omega)
    have e2 : n < Th.cnt ds.length (fun i => Th.co (mem L) i || Th.dual ds.length (Gof h t ds) n i) := by omega
    exact e2
  · have e := dl (ds.length - 1 - s) (by omega)
    rw [show ds.length - 1 - (ds.length - 1 - s) = s by omega] at e
    have e2 : Th.cnt ds.length (fun i => Th.co (mem L) i || Th.dual ds.length (Gof h t ds) (ds.length - 1 - s) i) ≤ ds.length - 1 - s := by omega
    exact e2
theorem key_open (hL : Lot ds.length L) (low : ∀ n : Nat, L.length ≤ n → (n : Int) ≤ topI h t ds.length → n < L.length + (outL h t ds L n).length) (high : ∀ n : Nat, topI h t ds.length ≤ (n : Int) → n < L.length → (keptL h t ds L n).length ≤ n) : IsKey h t ds L .top (topI h t ds.length) (keyL h t ds L .top (topI h t ds.length)) := by
  have t0 := top_lo h t ds.length
  refine ⟨⟨rfl, ?_, ?_⟩, rfl⟩
  · by_cases c : L.length ≤ (topI h t ds.length).toNat
    · refine .inl ⟨by rw [cnt_mem hL]; exact c, fun n a b => ?_⟩
      rw [cnt_mem hL] at a
      exact Nat.lt_of_lt_of_eq (low n a (by omega)) (out_cnt hL n)
    · refine .inr ⟨by rw [cnt_mem hL]; omega, fun s a b => ?_⟩
      rw [cnt_mem hL] at b
      exact Nat.le_trans (Nat.le_of_eq (kept_cnt hL s).symm) (high s (by omega) b)
  · by_cases c : L.length ≤ (topI h t ds.length).toNat
    · exact Nat.lt_of_lt_of_eq (low _ c (by omega)) (out_cnt hL _)
    · refine Nat.lt_of_lt_of_eq ?_ (out_cnt hL _)
      omega
end
end Sh

namespace Sh
open PySem PySem.Spec PyProof.Rows L2
/-! ### comprehensions in short -/
/-- [x for x in xs if test], xs ships: those of whom the test says p -/
theorem lc_filter {σ : L2.St} {H : Hp} {C : Addr} {vs : List Nat} {i : Nat} {tt : TT} {Qd : Hp → Prop} {X : List Nat} {J : It} {G : Hp → Prop} (p : Nat → Bool) (W : Walk J (ni X).length G (YAt (ni X))) (g : ∀ H', Same H H' → G H') (nC : H C = none) (lX : X.length ≤ 1000)
    (hw : ∀ v, wipe ((wipe σ vs).set i (some v)) vs = wipe σ vs) (hv : ∀ v : V, ((wipe σ vs).set i (some v))[i]? = some (some v))
    (ht : ∀ x ∈ X, ∀ H', Same H H' → ∀ Q : Bool → Hp → Prop, Q (p x) H' → tt ((wipe σ vs).set i (some (.int (x : Int)))) H' Q) (hd : ∀ H', Same H H' → H' C = some (.lst (ni (X.filter p))) → Qd H') :
    ∃ W : Nat → Nat → Hp → Prop, (∃ m, W 0 m (upd H C (.lst []))) ∧ ∀ j m H, W j m H →
      (J.stop j H ∧ Qd H) ∨ (J.go j H ∧ ∃ Nx : Hp → Prop, (∀ H', Nx H' → ∃ m', m' < m ∧ W (j + 1) m' H') ∧ ∀ x H', J.yld j H x H' → gName i x (wipe σ vs) H' fun σ2 H2 => wipe σ2 vs = wipe σ vs ∧ tt σ2 H2 fun b H3 =>
        if b = true then tVar i σ2 H3 fun y H4 => ∃ acc, H4 C = some (.lst acc) ∧ acc.length < sizeLine ∧ Nx (upd H4 C (.lst (acc ++ [y]))) else Nx H3) := by
  refine lc_it W (fun j H' => Same H H' ∧ H' C = some (.lst (ni ((X.take j).filter p)))) ⟨same_new nC, upd_same⟩ (fun j H' _ z => g H' z.1) ?_ ?_
  · rintro j x H3 H4 hj ⟨s3, hC⟩ ⟨rfl, gx⟩
    rw [ni_len] at hj
    obtain rfl : .int ((X[j] : Nat) : Int) = x := Option.some.inj ((ni_get hj).symm.trans gx)
    refine ⟨hw _, ht X[j] (List.getElem_mem hj) _ s3 _ ?_⟩
    cases e : p X[j] with
    | true =>
      rw [if_pos rfl]
      refine ⟨_, hv _, _, hC, ?_, same_over s3 nC, ?_⟩
      · rw [ni_len]
        have h1 := List.length_filter_le p (X.take j)
        rw [List.length_take] at h1
        exact small1000 (by omega)
      · rw [upd_same, take_succ_get hj, List.filter_append, ni_app, List.filter_cons_of_pos e]
        rfl
    | false =>
      rw [if_neg Bool.false_ne_true]
      refine ⟨s3, ?_⟩
      rw [hC, take_succ_get hj, List.filter_append, List.filter_cons_of_neg (by rw [e]; exact Bool.false_ne_true)]
      simp
  · rintro H3 ⟨s3, hC⟩
    rw [ni_len, List.take_length] at hC
    exact hd H3 s3 hC
/-- all ships below n, as range walks them -/
theorem walk_rg (n : Nat) : Walk (Itr 0 n) (ni (List.range n)).length (fun _ => True) (YAt (ni (List.range n))) := by
  have e : (ni (List.range n)).length = n := by rw [ni_len, List.length_range]
  rw [e]
  refine ⟨fun _ _ hi _ => hi, fun _ _ => Nat.le_refl _, fun i H x H' hi _ y => ⟨y.1, ?_⟩⟩
  rw [ni_get (by rw [List.length_range]; exact hi), y.2, List.getElem_range, Int.zero_add]
/-- truths, one a ship: all([..]) -/
theorem lc_truths {σ : L2.St} {H : Hp} {C : Addr} {vs : List Nat} {i : Nat} {te : TE} {Qd : Hp → Prop} {X : List Nat} {J : It} {G : Hp → Prop} (W : Walk J (ni X).length G (YAt (ni X))) (g : ∀ H', Same H H' → G H') (nC : H C = none) (lX : X.length ≤ 1000)
    (hw : ∀ v, wipe ((wipe σ vs).set i (some v)) vs = wipe σ vs)
    (ht : ∀ x ∈ X, ∀ H', Same H H' → ∀ Q : V → Hp → Prop, (∀ H2, Same H' H2 → Q (.bl true) H2) → te ((wipe σ vs).set i (some (.int (x : Int)))) H' Q) (hd : ∀ H', Same H H' → H' C = some (.lst ((List.replicate X.length true).map V.bl)) → Qd H') :
    ∃ W : Nat → Nat → Hp → Prop, (∃ m, W 0 m (upd H C (.lst []))) ∧ ∀ j m H, W j m H →
      (J.stop j H ∧ Qd H) ∨ (J.go j H ∧ ∃ Nx : Hp → Prop, (∀ H', Nx H' → ∃ m', m' < m ∧ W (j + 1) m' H') ∧ ∀ x H', J.yld j H x H' → gName i x (wipe σ vs) H' fun σ2 H2 => wipe σ2 vs = wipe σ vs ∧ tYes σ2 H2 fun b H3 =>
        if b = true then te σ2 H3 fun y H4 => ∃ acc, H4 C = some (.lst acc) ∧ acc.length < sizeLine ∧ Nx (upd H4 C (.lst (acc ++ [y]))) else Nx H3) := by
  refine lc_it W (fun j H' => Same H H' ∧ H' C = some (.lst ((List.replicate j true).map V.bl))) ⟨same_new nC, upd_same⟩ (fun j H' _ z => g H' z.1) ?_ ?_
  · rintro j x H3 H4 hj ⟨s3, hC⟩ ⟨rfl, gx⟩
    rw [ni_len] at hj
    obtain rfl : .int ((X[j] : Nat) : Int) = x := Option.some.inj ((ni_get hj).symm.trans gx)
    refine ⟨hw _, tyes (iteT (ht X[j] (List.getElem_mem hj) _ s3 _ fun H5 s5 => ?_))⟩
    refine ⟨_, s5 _ _ hC, ?_, same_over (s3.trans s5) nC, ?_⟩
    · rw [List.length_map, List.length_replicate]
      exact small1000 (by omega)
    · rw [upd_same, List.replicate_succ', List.map_append]
      rfl
  · rintro H3 ⟨s3, hC⟩
    rw [ni_len] at hC
    exact hd H3 s3 hC
theorem all_true (n : Nat) : (List.replicate n true).all id = true := by simp
end Sh

namespace Sh
open PySem PySem.Spec PyProof.Rows L2
/-! ### the law's own look at a sea: marks, keys -/
def spKey (K : PySem.W.Frag) : Sp := fun vs H Q _ => ∃ (v l : V) (h t : Int) (ds : List Int) (L : List Nat), vs = [v, l] ∧ SeaA K H v h t ds ∧ LotA K H l L ∧ ds.length ≤ 60 ∧ 0 < ds.length ∧ Lot ds.length L ∧
  ∀ (H' : Hp) (p px : Addr) (kd : Kd) (s : Int) (X : List Nat), Same H H' → H p = none → H' p = some (.tup [.str (kword kd), .int s, .ref px]) → H' px = some (.lst (ni X)) → IsKey h t ds L kd s X → Q (.ref p) H'
abbrev s__law_key : Stmt := topS 36
theorem sc__law_key : FnScope (["_law_pond", "_law_lot_here", "_law_marks_here", "_law_top", "_law_at", "_law_out", "_law_kept", "_law_whom", "_law_deep"] : List Str) (["_law_pond", "_law_lot_here"] : List Str) (defScope s__law_key) := ⟨rfl, rfl, rfl, by decide +kernel, rfl, by decide +kernel, by decide +kernel⟩
theorem b__law_key (kV doc pm : Value) (an : Option Addr) (cdv ct : Value) (us : List Value) (hl : us.length = (["_law_pond", "_law_lot_here"] : List Str).length) : bindArgs (PySem.W.fnOf "_law_key" "_law_key" (defArgs s__law_key) (defBody s__law_key) (defScope s__law_key) .none kV doc pm an cdv ct) ⟨us, []⟩ = pure ((["_law_pond", "_law_lot_here"] : List Str).zip us) :=
  match us, hl with | [_, _], _ => rfl
section
variable {P : Program} {w : World} {K : PySem.W.Frag} {mg : Str → Option Value} {base : Heap}
set_option maxHeartbeats 4000000 in
theorem ok_lkey {k : Nat} (D : Df K mg "_law_key" s__law_key) (T : Bt mg) (O__law_marks : Ok P w K mg base k "_law_marks" s__law_marks ["_law_pond"] (spMarks K)) : Ok P w K mg base (k + 1) "_law_key" s__law_key ["_law_pond", "_law_lot_here"] (spKey K) := by
  refine D.ok sc__law_key b__law_key (fun vs H Q E h => ?_) (fun f cdv A outer s H vs Q E hr h => ?_)
  · obtain ⟨v, l, h, t, ds, L, rfl, _⟩ := h
    rfl
  · obtain ⟨v, l, h, t, ds, L, rfl, hv, ⟨pl, rfl, hl⟩, d60, k0, hL, k1⟩ := h
    refine ⟨_, (pss_cons (ps_set (i := 2) sc__law_key.nd rfl (.inr rfl) (pe_fn O__law_marks (hr.mono (by omega)) (pa_cons (pv 0) pa_nil)))
      (pss_cons (ps_set (i := 3) sc__law_key.nd rfl (.inr rfl) (pe_bm PySem.F.plainAttrs_list PySem.F.slot_list_index PySem.F.type_list_index mt_index (pv 2) (pa_cons (pe_callB (cr_max rfl) (by rfl) T.max_ (by decide +kernel) (pa_cons (pv 2) pa_nil)) pa_nil)))
      (pss_cons (ps_for PassesOwn.never rfl (pi_range2 (by rfl) T.range_ (pa_cons (pe_callB call_len_seq (by rfl) T.len_ PySem.boot_len (pa_cons (pv 1) pa_nil)) (pa_cons (pe_op op_add (pv 3) pe_int) pa_nil))) (pg_name (i := 4) sc__law_key.nd rfl (.inr rfl))
        (pss_cons (ps_setLc (i := 5) (own := [("_law_whom", 7), ("_law_deep", 8)]) (g := (gSeq K 2 (gCons (gName 7) (gCons (gName 8) gNil)))) (by rfl) sc__law_key.nd rfl rfl (sw_true rfl rfl rfl (by decide +kernel)) (pi_enumA (by rfl) T.enumerate_ (pa_cons (pe_ix ix_lt (pv 0) pe_int (fun _ _ => rfl)) pa_nil)) (blkOk_by (own := [("_law_whom", 7), ("_law_deep", 8)]) (N := (["_law_pond", "_law_lot_here", "_law_marks_here", "_law_top", "_law_at", "_law_out", "_law_kept", "_law_whom", "_law_deep"] : List Str)) (sc := defScope s__law_key) (by decide +kernel)) (fun _ _ _ _ _ => (pg_seq rfl (pgs_cons (pg_name (i := 7) sc__law_key.nd rfl (.inl rfl)) (pgs_cons (pg_name (i := 8) sc__law_key.nd rfl (.inl rfl)) pgs_nil)))) (fun _ _ _ _ _ => (pts_one (PW.pt (pw_and (pt_cmpR op_le (pv 8) (pe_ix (ix_ltK K) (pv 2) (pv 4) (fun _ _ => rfl)) (nomark _)) (pw_and1 (pt_cmpR (op_notInK K) (pv 7) (pv 1) (by rfl))))))) (fun _ _ _ _ _ => (pv 7)))
          (pss_one (ps_if (pt_cmpR op_lt (pe_callB call_len_seq (by rfl) T.len_ PySem.boot_len (pa_cons (pv 5) pa_nil)) (pe_op op_sub (pe_op op_add (pv 4) pe_int) (pe_callB call_len_seq (by rfl) T.len_ PySem.boot_len (pa_cons (pv 1) pa_nil))) (nomark _))
            (pss_one (ps_ret (pe_tup (pa_cons pe_str (pa_cons (pv 4) (pa_cons (pe_callB cr_sortedI (by rfl) T.sorted_ (by decide +kernel) (pa_cons (pe_op op_cat (pe_callTy call_list_of (by rfl) T.list_ (by decide +kernel) (pa_cons (pv 1) pa_nil)) (pv 5)) pa_nil)) pa_nil))))))
            pss_nil))))
      (pss_cons (ps_for PassesOwn.never rfl (pi_range3 (by rfl) T.range_ (pa_cons (pe_op op_sub (pe_callB call_len_seq (by rfl) T.len_ PySem.boot_len (pa_cons (pv 1) pa_nil)) pe_int) (pa_cons (pe_op op_sub (pv 3) pe_int) (pa_cons (pe_un un_neg pe_int) pa_nil)))) (pg_name (i := 4) sc__law_key.nd rfl (.inr rfl))
        (pss_cons (ps_setLc (i := 6) (own := [("_law_whom", 7)]) (g := (gName 7)) (by rfl) sc__law_key.nd rfl rfl (sw_true rfl rfl rfl (by decide +kernel)) (pi_seq (pv 1)) (blkOk_by (own := [("_law_whom", 7)]) (N := (["_law_pond", "_law_lot_here", "_law_marks_here", "_law_top", "_law_at", "_law_out", "_law_kept", "_law_whom", "_law_deep"] : List Str)) (sc := defScope s__law_key) (by decide +kernel)) (fun _ _ _ _ _ => (pg_name (i := 7) sc__law_key.nd rfl (.inl rfl))) (fun _ _ _ _ _ => (pts_one (pt_cmpR op_gt (pe_ix (ix_ltK K) (pe_ix (ix_ltK K) (pv 0) pe_int (fun _ _ => rfl)) (pv 7) (fun _ _ => rfl)) (pe_ix (ix_ltK K) (pv 2) (pv 4) (fun _ _ => rfl)) (nomark _)))) (fun _ _ _ _ _ => (pv 7)))
          (pss_one (ps_if (PW.pt (pw_and (pt_cmpR op_gt (pe_callB call_len_seq (by rfl) T.len_ PySem.boot_len (pa_cons (pv 1) pa_nil)) (pv 3) (nomark _)) (pw_and1 (pt_cmpR op_lt (pe_op op_sub (pe_callB call_len_seq (by rfl) T.len_ PySem.boot_len (pa_cons (pv 1) pa_nil)) (pe_callB call_len_seq (by rfl) T.len_ PySem.boot_len (pa_cons (pv 6) pa_nil))) (pe_op op_sub (pe_callB call_len_seq (by rfl) T.len_ PySem.boot_len (pa_cons (pv 1) pa_nil)) (pv 4)) (nomark _)))))
            (pss_one (ps_ret (pe_tup (pa_cons pe_str (pa_cons (pv 4) (pa_cons (pv 6) pa_nil))))))
            pss_nil))))
      (pss_one (ps_ret (pe_tup (pa_cons pe_str (pa_cons (pv 3) (pa_cons (pe_lc (own := [("_law_whom", 7)]) (g := (gName 7)) (by rfl) sc__law_key.nd (pi_seq (pv 1)) (blkOk_by (own := [("_law_whom", 7)]) (N := (["_law_pond", "_law_lot_here", "_law_marks_here", "_law_top", "_law_at", "_law_out", "_law_kept", "_law_whom", "_law_deep"] : List Str)) (sc := defScope s__law_key) (by decide +kernel)) (fun _ _ _ _ _ => (pg_name (i := 7) sc__law_key.nd rfl (.inl rfl))) (fun _ _ _ _ _ => (pts_one (pt_cmpR op_gt (pe_ix (ix_ltK K) (pe_ix (ix_ltK K) (pv 0) pe_int (fun _ _ => rfl)) (pv 7) (fun _ _ => rfl)) (pe_ix (ix_ltK K) (pv 2) (pv 3) (fun _ _ => rfl)) (nomark _)))) (fun _ _ _ _ _ => (pv 7))) pa_nil)))))))))), ?_⟩
    obtain ⟨p, q, rfl, hp, hq⟩ := id hv
    have lL := hL.len
    refine ⟨_, rfl, .ref p, h, t, ds, rfl, hv, d60, fun H1 m s1 nm hm => ?_⟩
    have lm0 : 0 < (ml h t ds.length ds.length).length := by rw [ml_len]; exact k0
    have tl := top_lo h t ds.length
    have th := top_hi h t k0
    obtain ⟨tp, etp⟩ : ∃ tp : Nat, topI h t ds.length = (tp : Int) := ⟨(topI h t ds.length).toNat, by omega⟩
    have tg : (ml h t ds.length ds.length)[tp]? = some (mk h t ds.length (topI h t ds.length)) := by
      rw [ml_get (by omega), etp]
    refine ⟨_, rfl, .inl ⟨rfl, _, SqL.of hm⟩, _, rfl, m, _, rfl, SqL.of hm, lm0, fun mx mm mle => ?_⟩
    have em : mk h t ds.length (topI h t ds.length) = mx := by
      have a1 := mle _ (List.mem_of_getElem? tg)
      obtain ⟨i0, hi0, e0⟩ := List.mem_map.mp (show mx ∈ (List.range ds.length).map fun (i : Nat) => mk h t ds.length (i : Int) from mm)
      have a2 := top_max h t (List.mem_range.mp hi0)
      omega
    refine ⟨m, _, .int mx, tp, .int mx, rfl, rfl, SqL.of hm, rfl, flat_ints _, ?_, ?_, ?_, ?_⟩
    · rw [List.getElem?_map, tg, em]
      rfl
    · exact beq_self_eq_true mx
    · intro j z' hj hz'
      rw [List.getElem?_map, ml_get (show j < ds.length by omega)] at hz'
      obtain rfl : V.int (mk h t ds.length (j : Int)) = z' := Option.some.inj hz'
      have := top_least h t (show (j : Int) < topI h t ds.length by omega)
      exact beq_eq_false_iff_ne.mpr (by omega)
    have atm : ∀ a : Nat, a < ds.length → atI ((ml h t ds.length ds.length).map V.int) ((a : Nat) : Int) = some (.int (mk h t ds.length (a : Int))) := fun a ha => atI_nat (by rw [List.getElem?_map, ml_get ha]; rfl)
    -- so few afloat beside who lies here
    refine ⟨_, rfl, pl, _, rfl, Same.sqA s1 hl, ?_⟩
    rw [ni_len]
    refine ⟨_, rfl, (tp : Int), 1, rfl, rfl, _, _, rfl, ⟨by omega, by omega, by omega, by omega⟩, ?_⟩
    generalize en : ((tp : Int) + 1 - (L.length : Int)).toNat = n
    refine for_range (lo := (L.length : Int)) (n := n) (fun i σ H' => Same H1 H' ∧ (∃ y4 y5 y6 y7 y8 : Option V, σ = [some (.ref p), some (.ref pl), some (.ref m), some (.int (tp : Int)), y4, y5, y6, y7, y8]) ∧ ∀ a, L.length ≤ a → a < L.length + i → a < L.length + (outL h t ds L a).length)
      ⟨Same.refl _, ⟨none, none, none, none, none, rfl⟩, fun a l1 l2 => by omega⟩ ?_ ?_
    · rintro i σ Ha hi ⟨sa, ⟨y4, y5, y6, y7, y8, rfl⟩, low⟩
      obtain ⟨a, ea⟩ : ∃ a : Nat, (L.length : Int) + (i : Int) = (a : Int) := ⟨L.length + i, by omega⟩
      rw [ea]
      have a1 : a < ds.length := by omega
      have s1a := s1.trans sa
      refine ⟨_, rfl, p, _, 2, .ref q, rfl, rfl, Same.sqA s1a hp, rfl, q, _, Ha, rfl, Same.sqA s1a hq, .refl _ _, fun J hJ C nC => ?_⟩
      obtain ⟨G, gg, W⟩ := hJ.walk
      refine lc_it W (fun j H' => Same Ha H' ∧ H' C = some (.lst (ni ((List.range j).filter fun x => decide (ds.getD x 0 ≤ mk h t ds.length (a : Int)) && !decide (x ∈ L))))) ⟨same_new nC, upd_same⟩ (fun j H' _ z => gg H' (.ofS z.1)) ?_ ?_
      · rintro j x Hb Hc hj ⟨sb, hC⟩ ⟨u, z1, z2, rfl, nu, rfl, g1, g2⟩
        rw [List.length_map] at hj
        obtain rfl : .int (j : Nat) = z1 := Option.some.inj g1
        obtain rfl : .int ds[j] = z2 := by
          have g3 : (ds.map V.int)[j]? = some (.int ds[j]) := by simp [hj]
          exact Option.some.inj (g3.symm.trans g2)
        have ed : ds.getD j 0 = ds[j] := by simp [hj]
        have sc : Same Hb (upd Hb u (.tup [.int (j : Nat), .int ds[j]])) := same_new nu
        refine ⟨u, _, rfl, SqA.t upd_same, rfl, _, _, rfl, _, _, rfl, rfl, rfl, ?_⟩
        generalize upd Hb u (.tup [.int (j : Nat), .int ds[j]]) = Hc at sc
        have sac := sa.trans (sb.trans sc)
        have nCc := sc _ _ hC
        have skip : (decide (ds.getD j 0 ≤ mk h t ds.length (a : Int)) && !decide (j ∈ L)) = false → Same Ha Hc ∧ Hc C = some (.lst (ni ((List.range (j + 1)).filter fun x => decide (ds.getD x 0 ≤ mk h t ds.length (a : Int)) && !decide (x ∈ L)))) := fun z => by
          refine ⟨sb.trans sc, ?_⟩
          rw [nCc, List.range_succ, List.filter_append, List.filter_cons_of_neg (by rw [z]; exact Bool.false_ne_true)]
          simp
        refine ⟨_, rfl, _, rfl, _, rfl, m, _, (a : Int), _, rfl, rfl, SqA.l (sac _ _ hm), atm a a1, ds[j], mk h t ds.length (a : Int), rfl, rfl, _, rfl, ite2 (fun c => ?_) (fun c => ?_)⟩
        · have c1 : ds.getD j 0 ≤ mk h t ds.length (a : Int) := by
            rw [ed]
            exact of_decide_eq_true c
          refine ⟨_, rfl, _, rfl, pl, _, rfl, Same.sqA (s1.trans sac) hl, rfl, ni_flat L, _, rfl, ?_⟩
          rw [if_pos rfl, in_ni]
          by_cases c2 : j ∈ L
          · rw [decide_eq_true c2]
            exact iteF (skip (by rw [decide_eq_true c2, Bool.not_true, Bool.and_false]))
          · rw [decide_eq_false c2]
            refine iteT ⟨_, rfl, _, nCc, ?_, same_over (sb.trans sc) nC, ?_⟩
            · rw [ni_len]
              have h1 := List.length_filter_le (fun x => decide (ds.getD x 0 ≤ mk h t ds.length (a : Int)) && !decide (x ∈ L)) (List.range j)
              rw [List.length_range] at h1
              exact small1000 (by omega)
            · rw [upd_same, List.range_succ, List.filter_append, ni_app, List.filter_cons_of_pos (by rw [decide_eq_true c1, decide_eq_false c2]; rfl)]
              rfl
        · exact skip (by
            rw [ed, decide_eq_false (fun z => c (decide_eq_true z)), Bool.false_and])
      rintro Hb ⟨sb, hC⟩
      rw [List.length_map] at hC
      have hC : Hb C = some (.lst (ni (outL h t ds L a))) := hC
      have lo : (outL h t ds L a).length ≤ ds.length := by
        have h1 := List.length_filter_le (fun x => decide (ds.getD x 0 ≤ mk h t ds.length (a : Int)) && !decide (x ∈ L)) (List.range ds.length)
        rw [List.length_range] at h1
        exact h1
      have s1b := s1a.trans sb
      refine ⟨_, rfl, C, _, rfl, .inl (SqL.of hC), _, rfl, (a : Int), 1, rfl, rfl, _, rfl, pl, _, rfl, Same.sqA s1b hl, ?_⟩
      rw [ni_len, ni_len]
      refine ⟨_, _, rfl, rfl, _, _, rfl, rfl, _, rfl, ite2 (fun c => ?_) (fun c => ?_)⟩
      · have c0 := of_decide_eq_true c
        have ky : IsKey h t ds L .low ((a : Nat) : Int) (keyL h t ds L .low (a : Int)) := key_low hL (by omega) (by omega) (fun x l1 l2 => low x l1 (by omega)) (by omega)
        refine ⟨_, rfl, _, rfl, pl, _, rfl, Same.sqA s1b hl, fun la na => ?_⟩
        have s3 : Same Hb (upd Hb la (.lst (ni L))) := same_new na
        have e3 : upd Hb la (.lst (ni L)) la = some (.lst (ni L)) := upd_same
        have e3o := s3 _ _ hC
        generalize upd Hb la (.lst (ni L)) = Hc at s3 e3 e3o
        refine ⟨_, rfl, la, C, _, _, rfl, rfl, e3, e3o, ?_, fun ct nct => ?_⟩
        · rw [ni_len, ni_len]
          exact Nat.le_trans (show L.length + (outL h t ds L a).length ≤ 1001 by omega) (by decide)
        have s4 : Same Hc (upd Hc ct (.lst (ni L ++ ni (outL h t ds L a)))) := same_new nct
        have e4 : upd Hc ct (.lst (ni L ++ ni (outL h t ds L a))) ct = some (.lst (((L ++ outL h t ds L a).map fun (i : Nat) => (i : Int)).map V.int)) := by
          rw [upd_same, ← ni_ints, ni_app]
        generalize upd Hc ct (.lst (ni L ++ ni (outL h t ds L a))) = Hd at s4 e4
        have om : ∀ j, j ∈ outL h t ds L a ↔ j < ds.length ∧ ds.getD j 0 ≤ mk h t ds.length (a : Int) ∧ ¬ j ∈ L := fun j => by
          unfold outL
          rw [List.mem_filter, List.mem_range, Bool.and_eq_true, decide_eq_true_eq, Bool.not_eq_true', decide_eq_false_iff_not]
        refine ⟨ct, _, rfl, SqL.of e4, fun ns2 p2 pm2 up2 np2 => ?_⟩
        obtain ⟨L2, rfl, pL2, hL2⟩ := lot_sorted (c := ds.length) pm2 up2 (List.nodup_append.mpr ⟨hL.up.imp Nat.ne_of_lt, ((Lot.all ds.length).filter _).up.imp Nat.ne_of_lt, fun x hx y hy => fun e => ((om y).mp hy).2.2 (e ▸ hx)⟩) fun j hj => by
          rcases List.mem_append.mp hj with y | y
          · exact hL.lt j y
          · exact ((om j).mp y).1
        have eX : L2 = keyL h t ds L .low (a : Int) := by
          refine lot_ext hL2 (keyL_lot hL _ _) fun j hj => ?_
          unfold mem
          rw [decide_eq_decide, keyL_mem .low _ hj, if_pos rfl, pL2.mem_iff, List.mem_append, om j]
          by_cases z : j ∈ L
          · simp only [z, true_or]
          · exact ⟨fun y => y.imp id fun y => y.2.1, fun y => y.imp id fun y => ⟨hj, y, z⟩⟩
        have s5 : Same Hd (upd Hd p2 (.lst ((L2.map fun (i : Nat) => (i : Int)).map V.int))) := same_new np2
        have e5 : upd Hd p2 (.lst ((L2.map fun (i : Nat) => (i : Int)).map V.int)) p2 = some (.lst (ni L2)) := by rw [upd_same, ni_ints]
        generalize upd Hd p2 (.lst ((L2.map fun (i : Nat) => (i : Int)).map V.int)) = He at s5 e5
        refine ⟨(by show 3 ≤ sizeLine; decide), fun pt npt => ?_⟩
        have s6 : Same He (upd He pt (.tup [.str "low", .int (a : Int), .ref p2])) := same_new npt
        have sall := s1b.trans (s3.trans (s4.trans s5))
        exact k1 _ pt p2 .low (a : Int) _ (sall.trans s6) (sall.free npt) upd_same (by rw [← eX]; exact s6 _ _ e5) ky
      · have c0 : ¬ (((outL h t ds L a).length : Nat) : Int) < (a : Int) + 1 - (L.length : Int) := fun z => c (decide_eq_true z)
        refine ⟨sa.trans sb, ⟨_, _, _, _, _, rfl⟩, fun x l1 l2 => ?_⟩
        by_cases e : x < L.length + i
        · exact low x l1 e
        · obtain rfl : x = a := by omega
          omega
    rintro σ Ha ⟨sa, ⟨y4, y5, y6, y7, y8, rfl⟩, low⟩
    have s1a := s1.trans sa
    have low' : ∀ x : Nat, L.length ≤ x → (x : Int) ≤ topI h t ds.length → x < L.length + (outL h t ds L x).length := fun x l1 l2 => low x l1 (by omega)
    -- who lies here and isn't afloat
    have nl : (ni L).length = L.length := ni_len _
    refine ⟨_, rfl, pl, _, rfl, Same.sqA s1a hl, ?_⟩
    rw [ni_len]
    refine ⟨_, _, rfl, rfl, _, rfl, (tp : Int), 1, rfl, rfl, 1, rfl, _, _, -1, _, rfl, .neg (by omega) (by omega) (by omega) (by omega), ?_⟩
    generalize en2 : ((L.length : Int) - 1 - ((tp : Int) - 1)).toNat = n2
    refine for_rangeC (lo := (L.length : Int) - 1) (c := -1) (n := n2) (fun i σ H' => Same Ha H' ∧ (∃ y4 y5 y6 y7 y8 : Option V, σ = [some (.ref p), some (.ref pl), some (.ref m), some (.int (tp : Int)), y4, y5, y6, y7, y8]) ∧ ∀ a, L.length ≤ a + i → a < L.length → (keptL h t ds L a).length ≤ a)
      ⟨Same.refl _, ⟨y4, y5, y6, y7, y8, rfl⟩, fun a l1 l2 => by omega⟩ ?_ ?_
    · rintro i σ Hb hi ⟨sb, ⟨y4, y5, y6, y7, y8, rfl⟩, high⟩
      obtain ⟨a, ea⟩ : ∃ a : Nat, (L.length : Int) - 1 + (i : Int) * -1 = (a : Int) := ⟨L.length - 1 - i, by omega⟩
      rw [ea]
      have a1 : a < ds.length := by omega
      have a2 : a + i + 1 = L.length := by omega
      have s1b := s1a.trans sb
      refine ⟨_, rfl, pl, _, Hb, rfl, Same.sqA s1b hl, .refl _ _, fun J hJ C nC => ?_⟩
      obtain ⟨G, gg, W⟩ := hJ.walk
      refine lc_filter (fun x => !decide (ds.getD x 0 ≤ mk h t ds.length (a : Int))) W (fun H' z => gg H' (.ofS z)) nC (by omega) (fun _ => rfl) (fun _ => rfl) (fun x hx H' s' Q' q' => ?_) (fun Hc sc hC => ?_)
      · have xk := hL.lt x hx
        have sx := s1b.trans s'
        have ed : ds.getD x 0 = ds[x] := by simp [xk]
        refine ⟨_, rfl, p, _, 2, .ref q, rfl, rfl, Same.sqA sx hp, rfl, _, rfl, q, _, (x : Int), .int ds[x], rfl, rfl, Same.sqA sx hq, atI_nat (by simp [xk]), _, rfl, _, rfl, m, _, (a : Int), _, rfl, rfl, SqA.l ((sa.trans (sb.trans s')) _ _ hm), atm a a1, ds[x], mk h t ds.length (a : Int), rfl, rfl, _, rfl, ?_⟩
        have e : decide (mk h t ds.length (a : Int) < ds[x]) = !decide (ds.getD x 0 ≤ mk h t ds.length (a : Int)) := by
          rw [ed, ← decide_not, decide_eq_decide]
          omega
        show Q' (decide (mk h t ds.length (a : Int) < ds[x])) H'
        rw [e]
        exact q'
      have hC : Hc C = some (.lst (ni (keptL h t ds L a))) := hC
      have nk : (ni (keptL h t ds L a)).length = (keptL h t ds L a).length := ni_len _
      have lk : (keptL h t ds L a).length ≤ L.length := List.length_filter_le _ _
      have s1c := s1b.trans sc
      refine ⟨_, rfl, pl, _, rfl, Same.sqA s1c hl, _, rfl, _, _, rfl, rfl, _, rfl, ite2 (fun c => ?_) (fun c => ?_)⟩
      · refine ⟨_, rfl, pl, _, rfl, Same.sqA s1c hl, _, rfl, C, _, rfl, .inl (SqL.of hC), _, _, rfl, rfl, _, rfl, pl, _, rfl, Same.sqA s1c hl, _, rfl, _, _, rfl, rfl, _, _, rfl, rfl, _, rfl, ite2 (fun c => ?_) (fun c => ?_)⟩
        · have c0 := of_decide_eq_true c
          have ky : IsKey h t ds L .high ((a : Nat) : Int) (keyL h t ds L .high (a : Int)) := key_high k0 hL (by omega) (by omega) (fun x l1 l2 => high x (by omega) l2) (by omega)
          refine ⟨_, rfl, _, rfl, (by show 3 ≤ sizeLine; decide), fun pt npt => ?_⟩
          have s6 : Same Hc (upd Hc pt (.tup [.str "high", .int (a : Int), .ref C])) := same_new npt
          exact k1 _ pt C .high (a : Int) _ (s1c.trans s6) (s1c.free npt) upd_same (s6 _ _ hC) ky
        · have c0 : ¬ (((ni L).length : Nat) : Int) - (((ni (keptL h t ds L a)).length : Nat) : Int) < (((ni L).length : Nat) : Int) - (a : Int) := fun z => c (decide_eq_true z)
          refine ⟨sb.trans sc, ⟨_, _, _, _, _, rfl⟩, fun x l1 l2 => ?_⟩
          by_cases e : L.length ≤ x + i
          · exact high x e l2
          · obtain rfl : x = a := by omega
            omega
      · exact absurd (decide_eq_true (show (tp : Int) < (((ni L).length : Nat) : Int) by omega)) c
    rintro σ Hb ⟨sb, ⟨y4, y5, y6, y7, y8, rfl⟩, high⟩
    have s1b := s1a.trans sb
    have ky : IsKey h t ds L .top ((tp : Nat) : Int) (keyL h t ds L .top (tp : Int)) := by
      have := key_open hL low' fun x l1 l2 => high x (by omega) l2
      rw [etp] at this
      exact this
    refine ⟨_, rfl, _, rfl, pl, _, Hb, rfl, Same.sqA s1b hl, .refl _ _, fun J hJ C nC => ?_⟩
    obtain ⟨G, gg, W⟩ := hJ.walk
    refine lc_filter (fun x => !decide (ds.getD x 0 ≤ mk h t ds.length (tp : Int))) W (fun H' z => gg H' (.ofS z)) nC (by omega) (fun _ => rfl) (fun _ => rfl) (fun x hx H' s' Q' q' => ?_) (fun Hc sc hC => ?_)
    · have xk := hL.lt x hx
      have sx := s1b.trans s'
      have ed : ds.getD x 0 = ds[x] := by simp [xk]
      refine ⟨_, rfl, p, _, 2, .ref q, rfl, rfl, Same.sqA sx hp, rfl, _, rfl, q, _, (x : Int), .int ds[x], rfl, rfl, Same.sqA sx hq, atI_nat (by simp [xk]), _, rfl, _, rfl, m, _, (tp : Int), _, rfl, rfl, SqA.l ((sa.trans (sb.trans s')) _ _ hm), atm tp (by omega), ds[x], mk h t ds.length (tp : Int), rfl, rfl, _, rfl, ?_⟩
      have e : decide (mk h t ds.length (tp : Int) < ds[x]) = !decide (ds.getD x 0 ≤ mk h t ds.length (tp : Int)) := by
        rw [ed, ← decide_not, decide_eq_decide]
        omega
      show Q' (decide (mk h t ds.length (tp : Int) < ds[x])) H'
      rw [e]
      exact q'
    have s1c := s1b.trans sc
    refine ⟨(by show 3 ≤ sizeLine; decide), fun pt npt => ?_⟩
    have s6 : Same Hc (upd Hc pt (.tup [.str "open", .int (tp : Int), .ref C])) := same_new npt
    exact k1 _ pt C .top (tp : Int) _ (s1c.trans s6) (s1c.free npt) upd_same (s6 _ _ hC) ky
end
end Sh

namespace Sh
open PySem PySem.Spec PyProof.Rows L2
/-! ### a number near nought -/
def spOn : Sp := fun vs H Q _ => ∃ (b : Addr) (n : Nat) (r : Int), vs = [.ref b, .int r] ∧ 0 ≤ r ∧ r ≤ 1000000 ∧ BoxAt H b (n + 3) ∧ ∀ (H' : Hp) (v : Int), But b H H' → BoxAt H' b n → -1000001 ≤ v → v ≤ 1000001 → Q (.int v) H'
abbrev s__law_on : Stmt := topS 31
theorem sc__law_on : FnScope (["_law_box_here", "_law_rounds", "_law_size", "_law_far"] : List Str) (["_law_box_here", "_law_rounds"] : List Str) (defScope s__law_on) := ⟨rfl, rfl, rfl, by decide +kernel, rfl, by decide +kernel, by decide +kernel⟩
theorem b__law_on (kV doc pm : Value) (an : Option Addr) (cdv ct : Value) (us : List Value) (hl : us.length = (["_law_box_here", "_law_rounds"] : List Str).length) : bindArgs (PySem.W.fnOf "_law_on" "_law_on" (defArgs s__law_on) (defBody s__law_on) (defScope s__law_on) .none kV doc pm an cdv ct) ⟨us, []⟩ = pure ((["_law_box_here", "_law_rounds"] : List Str).zip us) :=
  match us, hl with | [_, _], _ => rfl
section
variable {P : Program} {w : World} {K : PySem.W.Frag} {mg : Str → Option Value} {base : Heap}
theorem ok_on {k : Nat} (D : Df K mg "_law_on" s__law_on) (T : Bt mg) (O__law_take : Ok P w K mg base k "_law_take" s__law_take ["_law_box_here", "_law_span"] spTake) : Ok P w K mg base (k + 1) "_law_on" s__law_on ["_law_box_here", "_law_rounds"] spOn := by
  refine D.ok sc__law_on b__law_on (fun vs H Q E h => ?_) (fun f cdv A outer s H vs Q E hr h => ?_)
  · obtain ⟨b, n, r, rfl, _⟩ := h
    rfl
  · obtain ⟨b, n, r, rfl, r0, r1, hb, q⟩ := h
    refine ⟨_, (pss_cons (ps_set (i := 2) sc__law_on.nd rfl (.inl rfl) (pe_callB (call_max2 rfl) (by rfl) T.max_ (by decide +kernel) (pa_cons pe_int (pa_cons (pe_op op_fdiv (pv 1) (pe_op (op_powC 100000) pe_int pe_int)) pa_nil))))
      (pss_cons (ps_set (i := 3) sc__law_on.nd rfl (.inl rfl) (pe_op op_sub (pe_op op_mul (pe_fn O__law_take (hr.mono (by omega)) (pa_cons (pv 0) (pa_cons (pe_op op_add (pe_op op_fdiv (pv 1) (pv 2)) pe_int) pa_nil))) (pv 2)) (pe_fn O__law_take (hr.mono (by omega)) (pa_cons (pv 0) (pa_cons (pv 2) pa_nil)))))
      (pss_one (ps_ret (pe_op op_mul (pv 3) (pe_ix ix_lt (pe_lst (pa_cons pe_int (pa_cons (pe_un un_neg pe_int) pa_nil))) (pe_fn O__law_take (hr.mono (by omega)) (pa_cons (pv 0) (pa_cons pe_int pa_nil))) (fun _ _ => rfl))))))), ?_⟩
    refine ⟨_, rfl, 10, 5, rfl, rfl, ⟨⟨by decide, by decide, by decide⟩, by decide⟩, r, 100000, rfl, rfl, ⟨by decide, by decide⟩, 1, _, rfl, ?_⟩
    have q0 : 0 ≤ r / 100000 := by omega
    have q1 : r / 100000 ≤ 10 := by omega
    have q2 : r / 100000 ≤ r := by omega
    generalize es : (if r / 100000 > 1 then r / 100000 else 1) = size
    have s0 : 1 ≤ size ∧ size ≤ 10 := by rw [← es]; split <;> omega
    clear es
    have d0 : 0 ≤ r / size := Int.ediv_nonneg r0 (by omega)
    have d1 : r / size * size ≤ r := Int.ediv_mul_le _ (by omega)
    have d2 : r / size ≤ r := Int.ediv_le_self _ r0
    refine ⟨_, rfl, _, rfl, _, rfl, r, size, rfl, rfl, ⟨by omega, by omega⟩, _, 1, rfl, rfl, b, n + 2, _, rfl, by omega, by omega, hb, fun v ys v0 v1 y => ?_⟩
    obtain ⟨u1, x1⟩ := tk (But.refl b H) y
    generalize upd H b (.lst ys) = H1 at u1 x1
    have v2 : v * size ≤ r / size * size := Int.mul_le_mul_of_nonneg_right (by omega) (by omega)
    have v3 : 0 ≤ v * size := Int.mul_nonneg v0 (by omega)
    refine ⟨_, rfl, v, size, rfl, rfl, .inr ⟨by omega, by omega⟩, _, rfl, _, rfl, b, n + 1, size, rfl, by omega, by omega, x1, fun v' ys v0' v1' y => ?_⟩
    obtain ⟨u2, x2⟩ := tk u1 y
    generalize upd H1 b (.lst ys) = H2 at u2 x2
    refine ⟨_, _, rfl, rfl, ?_⟩
    have f0 : -10 ≤ v * size - v' ∧ v * size - v' ≤ 1000000 := by omega
    refine ⟨_, rfl, 1, rfl, (by show 2 ≤ sizeLine; decide), fun l nl => ?_⟩
    obtain ⟨u3, x3, e3, n3⟩ := al (o := .lst [.int 1, .int (-1)]) u2 x2 nl
    refine ⟨_, rfl, b, n, 2, rfl, by decide, by decide, x3, fun e ys e0 e1 y => ?_⟩
    obtain ⟨u4, x4⟩ := tk u3 y
    have fin : ∀ z : Int, z = 1 ∨ z = -1 → -1000001 ≤ (v * size - v') * z ∧ (v * size - v') * z ≤ 1000001 := fun z hz => by
      rcases hz with rfl | rfl <;> omega
    have h4 : upd (upd H2 l (.lst [.int 1, .int (-1)])) b (.lst ys) l = some (.lst [.int 1, .int (-1)]) := by rw [upd_ne n3]; exact e3
    have e01 : e = 0 ∨ e = 1 := by omega
    rcases e01 with rfl | rfl
    · exact ⟨l, _, 0, .int 1, rfl, rfl, SqA.l h4, rfl, _, 1, rfl, rfl, .inr ⟨by decide, by decide⟩, q _ _ u4 x4 (fin 1 (.inl rfl)).1 (fin 1 (.inl rfl)).2⟩
    · exact ⟨l, _, 1, .int (-1), rfl, rfl, SqA.l h4, rfl, _, -1, rfl, rfl, .inr ⟨by decide, by decide⟩, q _ _ u4 x4 (fin (-1) (.inr rfl)).1 (fin (-1) (.inr rfl)).2⟩
end
end Sh

namespace Sh
open PySem PySem.Spec PyProof.Rows L2
/-! ### a sea of many ships -/
def spMany : Sp := fun vs H Q _ => ∃ (b : Addr) (n : Nat), vs = [.ref b] ∧ BoxAt H b (n + 400) ∧
  ∀ (H' : Hp) (p q : Addr) (h t : Int) (ds : List Int), But b H H' → BoxAt H' b n → H p = none → H q = none → H' p = some (.tup [.int h, .int t, .ref q]) → H' q = some (.tup (ds.map V.int)) → SeaOk 60 h t ds → Q (.ref p) H'
abbrev s__law_many : Stmt := topS 38
theorem sc__law_many : FnScope (["_law_box_here", "_law_count", "_law_wide", "_law_height", "_law_depths", "_law_brink", "_law_whom"] : List Str) (["_law_box_here"] : List Str) (defScope s__law_many) := ⟨rfl, rfl, rfl, by decide +kernel, rfl, by decide +kernel, by decide +kernel⟩
theorem b__law_many (kV doc pm : Value) (an : Option Addr) (cdv ct : Value) (us : List Value) (hl : us.length = (["_law_box_here"] : List Str).length) : bindArgs (PySem.W.fnOf "_law_many" "_law_many" (defArgs s__law_many) (defBody s__law_many) (defScope s__law_many) .none kV doc pm an cdv ct) ⟨us, []⟩ = pure ((["_law_box_here"] : List Str).zip us) :=
  match us, hl with | [_], _ => rfl
section
variable {P : Program} {w : World} {K : PySem.W.Frag} {mg : Str → Option Value} {base : Heap}
set_option maxHeartbeats 4000000 in
theorem ok_many {k : Nat} (D : Df K mg "_law_many" s__law_many) (T : Bt mg) (O__law_take : Ok P w K mg base k "_law_take" s__law_take ["_law_box_here", "_law_span"] spTake) (O__law_of : Ok P w K mg base k "_law_of" s__law_of ["_law_box_here", "_law_some"] (spOf K)) (O__law_on : Ok P w K mg base k "_law_on" s__law_on ["_law_box_here", "_law_rounds"] spOn) :
    Ok P w K mg base (k + 1) "_law_many" s__law_many ["_law_box_here"] spMany := by
  refine D.ok sc__law_many b__law_many (fun vs H Q E h => ?_) (fun f cdv A outer s H vs Q E hr h => ?_)
  · obtain ⟨b, n, rfl, _⟩ := h
    rfl
  · obtain ⟨b, n, rfl, hb, q⟩ := h
    refine ⟨_, (pss_cons (ps_set (i := 1) sc__law_many.nd rfl (.inl rfl) (pe_op op_add pe_int (pe_fn O__law_take (hr.mono (by omega)) (pa_cons (pv 0) (pa_cons pe_int pa_nil)))))
      (pss_cons (ps_asg (pe_tup (pa_cons (pe_fn O__law_of (hr.mono (by omega)) (pa_cons (pv 0) (pa_cons (pe_lst (pa_cons pe_int (pa_cons (pe_op op_fdiv (pv 1) pe_int) (pa_cons (pv 1) (pa_cons (pe_op op_mul pe_int (pv 1)) (pa_cons (pe_op (op_powC 1000000) pe_int pe_int) pa_nil)))))) pa_nil))) (pa_cons (pe_fn O__law_of (hr.mono (by omega)) (pa_cons (pv 0) (pa_cons (pe_lst (pa_cons pe_int (pa_cons pe_int (pa_cons (pe_op (op_powC 100000000000) pe_int pe_int) pa_nil)))) pa_nil))) pa_nil))) (pg_seq rfl (pgs_cons (pg_name (i := 2) sc__law_many.nd rfl (.inr rfl)) (pgs_cons (pg_name (i := 3) sc__law_many.nd rfl (.inr rfl)) pgs_nil))))
      (pss_cons (ps_setLc (i := 4) (own := [("_law_brink", 5)]) (g := (gName 5)) (tt := tYes) (by rfl) sc__law_many.nd rfl rfl (sw_true rfl rfl rfl (by decide +kernel)) (pi_range1 (by rfl) T.range_ (pa_cons pe_int pa_nil)) (blkOk_by (own := [("_law_brink", 5)]) (N := (["_law_box_here", "_law_count", "_law_wide", "_law_height", "_law_depths", "_law_brink", "_law_whom"] : List Str)) (sc := defScope s__law_many) (by decide +kernel)) (fun _ _ _ _ _ => (pg_name (i := 5) sc__law_many.nd rfl (.inl rfl))) (fun _ _ _ _ _ => pts_nil) (fun _ _ _ _ _ => (pe_op op_add (pv 3) (pe_op op_mul (pe_fn O__law_take (hr.mono (by omega)) (pa_cons (pv 0) (pa_cons (pe_op op_add (pv 2) pe_int) pa_nil))) (pe_fn O__law_take (hr.mono (by omega)) (pa_cons (pv 0) (pa_cons pe_int pa_nil)))))))
      (pss_one (ps_ret (pe_tup (pa_cons (pe_ix ix_lt (pv 4) pe_int (fun _ _ => rfl)) (pa_cons (pe_ix ix_lt (pv 4) pe_int (fun _ _ => rfl)) (pa_cons (pe_callTy call_tuple_of (by rfl) T.tuple_ (by decide +kernel) (pa_cons (pe_lc (own := [("_law_whom", 6)]) (g := (gName 6)) (tt := tYes) (by rfl) sc__law_many.nd (pi_range1 (by rfl) T.range_ (pa_cons (pv 1) pa_nil)) (blkOk_by (own := [("_law_whom", 6)]) (N := (["_law_box_here", "_law_count", "_law_wide", "_law_height", "_law_depths", "_law_brink", "_law_whom"] : List Str)) (sc := defScope s__law_many) (by decide +kernel)) (fun _ _ _ _ _ => (pg_name (i := 6) sc__law_many.nd rfl (.inl rfl))) (fun _ _ _ _ _ => pts_nil) (fun _ _ _ _ _ => (pe_op op_add (pv 3) (pe_callB call_abs (by rfl) T.abs_ (by decide +kernel) (pa_cons (pe_fn O__law_on (hr.mono (by omega)) (pa_cons (pv 0) (pa_cons (pv 2) pa_nil))) pa_nil))))) pa_nil)) pa_nil))))))))), ?_⟩
    refine ⟨_, rfl, b, n + 399, 54, rfl, by decide, by decide, hb, fun c ys1 c0 c1 y1 => ?_⟩
    refine ⟨7, c, rfl, rfl, ?_⟩
    obtain ⟨u1, x1⟩ := tk (But.refl b H) y1
    generalize upd H b (.lst ys1) = H1 at u1 x1
    obtain ⟨cn, ec⟩ : ∃ cn : Nat, 7 + c = ((cn : Nat) : Int) := ⟨(7 + c).toNat, by omega⟩
    have cn0 : 7 ≤ cn := by omega
    have cn1 : cn ≤ 60 := by omega
    dsimp only
    rw [ec]
    -- wide
    refine ⟨_, rfl, _, rfl, _, 2, rfl, rfl, ⟨by decide, by decide⟩, _, rfl, _, rfl, 2, _, rfl, rfl, .inl ⟨by decide, by decide⟩, 10, 6, rfl, rfl, ⟨⟨by decide, by decide, by decide⟩, by decide⟩, (by show 5 ≤ sizeLine; decide), fun l nl => ?_⟩
    obtain ⟨u2, x2, e2, n2⟩ := al (o := .lst [.int 2, .int ((cn : Int) / 2), .int (cn : Int), .int (2 * (cn : Int)), .int 1000000]) u1 x1 nl
    refine ⟨b, l, n + 398, _, rfl, SqA.l upd_same, n2, (by show 0 < 5; decide), (by show 5 < 1000000; decide), x2, fun v ys3 hv y3 => ?_⟩
    obtain ⟨wide, w0, w1, rfl⟩ : ∃ wide : Int, 1 ≤ wide ∧ wide ≤ 1000000 ∧ v = .int wide := by
      have e5 : v = .int 2 ∨ v = .int ((cn : Int) / 2) ∨ v = .int (cn : Int) ∨ v = .int (2 * (cn : Int)) ∨ v = .int 1000000 := by simpa using hv
      rcases e5 with e | e | e | e | e
      · exact ⟨2, by decide, by decide, e⟩
      · exact ⟨_, by omega, by omega, e⟩
      · exact ⟨_, by omega, by omega, e⟩
      · exact ⟨_, by omega, by omega, e⟩
      · exact ⟨1000000, by decide, by decide, e⟩
    obtain ⟨u3, x3⟩ := tk u2 y3
    clear x2 e2
    try dsimp only
    generalize upd (upd H1 l (.lst [.int 2, .int ((cn : Int) / 2), .int (cn : Int), .int (2 * (cn : Int)), .int 1000000])) b (.lst ys3) = H3 at u3 x3
    -- height
    refine ⟨_, rfl, 10, 11, rfl, rfl, ⟨⟨by decide, by decide, by decide⟩, by decide⟩, (by show 3 ≤ sizeLine; decide), fun l2 nl2 => ?_⟩
    obtain ⟨u4, x4, e4, n4⟩ := al (o := .lst [.int 0, .int 0, .int 100000000000]) u3 x3 nl2
    refine ⟨b, l2, n + 397, [.int 0, .int 0, .int 100000000000], rfl, SqA.l upd_same, n4, (by show 0 < 3; decide), (by show 3 < 1000000; decide), x4, fun v ys5 hv y5 => ?_⟩
    obtain ⟨far, f0, f1, rfl⟩ : ∃ far : Int, 0 ≤ far ∧ far ≤ 100000000000 ∧ v = .int far := by
      have e5 : v = .int 0 ∨ v = .int 100000000000 := by simpa using hv
      rcases e5 with e | e
      · exact ⟨0, by decide, by decide, e⟩
      · exact ⟨100000000000, by decide, by decide, e⟩
    obtain ⟨u5, x5⟩ := tk u4 y5
    clear x4 e4
    try dsimp only
    generalize upd (upd H3 l2 (.lst [.int 0, .int 0, .int 100000000000])) b (.lst ys5) = H5 at u5 x5
    refine ⟨(by show 2 ≤ sizeLine; decide), fun tp ntp => ?_⟩
    refine ⟨tp, _, rfl, SqA.t upd_same, rfl, _, _, rfl, _, _, rfl, rfl, ?_⟩
    obtain ⟨u6, x6, _, _⟩ := al (o := .tup [.int wide, .int far]) u5 x5 ntp
    try dsimp only
    generalize upd H5 tp (.tup [.int wide, .int far]) = H6 at u6 x6
    -- depths
    refine ⟨2, rfl, by decide, by decide, fun C nC => ?_⟩
    refine lc_range (fun i Hc => ∃ ns : List Int, But b H6 Hc ∧ BoxAt Hc b (n + 396 - 2 * i) ∧ Hc C = some (.lst (ns.map V.int)) ∧ ns.length = i ∧ ∀ d ∈ ns, 0 ≤ d ∧ d ≤ 1000000000000) ?_ ?_ ?_
    · exact ⟨[], (al (But.refl b H6) x6 nC).1, (al (But.refl b H6) x6 nC).2.1.mono (by omega), upd_same, rfl, fun d hd => by simp at hd⟩
    · rintro i Hc hi ⟨ns, uc, xc, hC, hl, hn⟩
      have nCb : C ≠ b := (x6.ne nC).symm
      have i2 : i < 2 := hi
      refine ⟨rfl, tyes (iteT ?_)⟩
      refine ⟨_, rfl, _, rfl, _, rfl, _, 1, rfl, rfl, ?_⟩
      refine ⟨b, n + 396 - 2 * i - 1, _, rfl, by omega, by omega, xc.mono (by omega), fun v ys v0 v1 y => ?_⟩
      obtain ⟨ud, xd⟩ := tk uc y
      have hD : upd Hc b (.lst ys) C = some (.lst (ns.map V.int)) := by rw [upd_ne nCb]; exact hC
      generalize upd Hc b (.lst ys) = Hd at ud xd hD
      refine ⟨_, rfl, ?_⟩
      refine ⟨b, n + 396 - 2 * i - 2, 2, rfl, by decide, by decide, xd.mono (by omega), fun v' ys' v0' v1' y' => ?_⟩
      obtain ⟨ue, xe⟩ := tk ud y'
      have hE : upd Hd b (.lst ys') C = some (.lst (ns.map V.int)) := by rw [upd_ne nCb]; exact hD
      generalize upd Hd b (.lst ys') = He at ue xe hE
      refine ⟨v, v', rfl, rfl, .inl ⟨by omega, by omega⟩, far, v * v', rfl, rfl, ns.map V.int, hE, ?_, ns ++ [far + v * v'], ?_, ?_, ?_, ?_, ?_⟩
      · rw [List.length_map, hl]
        exact Nat.lt_trans i2 (by decide)
      · exact fun a o na e => by rw [upd_ne (ne_of_none e nC)]; exact ue a o na e
      · exact (xe.at (x6.ne nC)).mono (by omega)
      · rw [upd_same, List.map_append]
        rfl
      · simp [hl]
      · intro d hd
        rcases List.mem_append.mp hd with z | z
        · exact hn d z
        · have e : d = far + v * v' := by simpa using z
          have e01 : v' = 0 ∨ v' = 1 := by omega
          rcases e01 with z | z <;> (rw [e, z]; omega)
    · rintro H7 ⟨ds2, u7', x7, h7, l7, b7⟩
      have u7 : But b H H7 := u6.trans u7'
      replace x7 : BoxAt H7 b (n + 392) := x7.mono (by omega)
      have nCb : C ≠ b := (x6.ne nC).symm
      obtain ⟨d0, d1, rfl⟩ := two_of l7
      -- the sea
      refine ⟨_, rfl, C, _, 0, .int d0, rfl, rfl, SqA.l h7, rfl, _, rfl, C, _, 1, .int d1, rfl, rfl, SqA.l h7, rfl, _, rfl, _, rfl, by omega, by omega, fun C2 nC2 => ?_⟩
      rw [show ((cn : Int)).toNat = cn by omega]
      refine lc_range (fun i Hc => ∃ ns : List Int, But b H7 Hc ∧ BoxAt Hc b (n + 392 - 3 * i) ∧ Hc C2 = some (.lst (ns.map V.int)) ∧ ns.length = i ∧ ∀ d ∈ ns, 0 ≤ d ∧ d ≤ 1000000000000) ?_ ?_ ?_
      · exact ⟨[], (al (But.refl b H7) x7 nC2).1, (al (But.refl b H7) x7 nC2).2.1.mono (by omega), upd_same, rfl, fun d hd => by simp at hd⟩
      · rintro i Hc hi ⟨ns, uc, xc, hC, hl, hn⟩
        have nCb2 : C2 ≠ b := (x7.ne nC2).symm
        refine ⟨rfl, tyes (iteT ?_)⟩
        refine ⟨_, rfl, _, rfl, _, rfl, ?_⟩
        refine ⟨b, n + 392 - 3 * (i + 1), wide, rfl, by omega, by omega, xc.mono (by omega), fun Hd v ud' xd v0 v1 => ?_⟩
        have hD : Hd C2 = some (.lst (ns.map V.int)) := ud' _ _ nCb2 hC
        have ud := uc.trans ud'
        have fin : ∀ z : Int, 0 ≤ z → z ≤ 1000000000000 → ∃ acc : List V, Hd C2 = some (.lst acc) ∧ acc.length < sizeLine ∧ ∃ ns : List Int, But b H7 (upd Hd C2 (.lst (acc ++ [.int z]))) ∧ BoxAt (upd Hd C2 (.lst (acc ++ [.int z]))) b (n + 392 - 3 * (i + 1)) ∧
            upd Hd C2 (.lst (acc ++ [.int z])) C2 = some (.lst (ns.map V.int)) ∧ ns.length = i + 1 ∧ ∀ d ∈ ns, 0 ≤ d ∧ d ≤ 1000000000000 := fun z z0 z1 => by
          refine ⟨ns.map V.int, hD, ?_, ns ++ [z], ?_, ?_, ?_, ?_, ?_⟩
          · rw [List.length_map, hl]
            exact Nat.lt_of_lt_of_le hi (Nat.le_trans (show cn ≤ 60 by omega) (by decide))
          · exact fun a o na e => by rw [upd_ne (ne_of_none e nC2)]; exact ud a o na e
          · exact (xd.at (x7.ne nC2)).mono (by omega)
          · rw [upd_same, List.map_append]
            rfl
          · simp [hl]
          · intro d hd
            rcases List.mem_append.mp hd with z2 | z2
            · exact hn d z2
            · have e : d = z := by simpa using z2
              omega
        refine ⟨v, rfl, far, _, rfl, rfl, ?_⟩
        exact fin _ (by split <;> omega) (by split <;> omega)
      · rintro H8 ⟨ds, u8', x8, h8, l8, b8⟩
        have u8 : But b H H8 := u7.trans u8'
        refine ⟨C2, _, rfl, .inl ⟨SqL.of h8, fun q' nq => ?_⟩⟩
        refine ⟨(by show 3 ≤ sizeLine; decide), fun p np => ?_⟩
        obtain ⟨uq, xq, eq, nqb⟩ := al (o := .tup (ds.map V.int)) u8 x8 nq
        obtain ⟨up, xp, ep, npb⟩ := al (o := .tup [.int d0, .int d1, .ref q']) uq xq np
        refine q _ p q' d0 d1 ds up (xp.mono (by omega)) (uq.free npb np) (u8.free nqb nq) ep ?_ ⟨(b7 d0 (by simp)).1, (b7 d0 (by simp)).2, (b7 d1 (by simp)).1, (b7 d1 (by simp)).2, by omega, by omega, b8⟩
        rw [upd_ne (ne_of_none eq np)]
        exact eq
end
end Sh

namespace Ct
open Th (cnt cnt_succ cnt_congr cnt_zero)
/-! ### k46: lots by how many of the first ones are among them -/
def consB (C : List (Nat × Nat)) (O : Nat → Bool) : Bool := C.all fun c => decide (c.2 ≤ cnt c.1 O)
def wyN (C : List (Nat × Nat)) (m o : Nat) : Nat := cf m fun O => (cnt m O == o) && consB C O
def lim (C : List (Nat × Nat)) (a : Nat) (O : Nat → Bool) : Bool := C.all fun c => !decide (c.1 < a) || decide (c.2 ≤ cnt c.1 O)
def wyP (C : List (Nat × Nat)) (a t : Nat) : Nat := cf a fun O => (cnt a O == t) && lim C a O
def wyQ (C : List (Nat × Nat)) (j a t : Nat) : Nat := if ((C.take j).all fun c => !(c.1 == a) || decide (c.2 ≤ t)) = true then wyP C a t else 0
theorem wyP_zero (C : List (Nat × Nat)) (t : Nat) : wyP C 0 t = if t = 0 then 1 else 0 := by
  have l : lim C 0 (fun _ => false) = true := List.all_eq_true.mpr fun c _ => by simp
  show (if ((cnt 0 (fun _ => false) == t) && lim C 0 (fun _ => false)) = true then 1 else 0) = _
  rw [l, Bool.and_true, cnt_zero]
  cases t <;> rfl
theorem wyQ_zero (C : List (Nat × Nat)) (a t : Nat) : wyQ C 0 a t = wyP C a t := rfl
theorem wyQ_step {C : List (Nat × Nat)} {j a t : Nat} {c : Nat × Nat} (e : C[j]? = some c) : wyQ C (j + 1) a t = if c.1 = a then (if t < c.2 then 0 else wyQ C j a t) else wyQ C j a t := by
  unfold wyQ
  have h : C.take (j + 1) = C.take j ++ [c] := by
    rw [List.take_add_one, e]
    rfl
  rw [h, List.all_append]
  have s : ([c].all fun c => !(c.1 == a) || decide (c.2 ≤ t)) = (!(c.1 == a) || decide (c.2 ≤ t)) := by simp
  rw [s]
  by_cases q : c.1 = a
  · rw [if_pos q, show (c.1 == a) = true from beq_iff_eq.mpr q, Bool.not_true, Bool.false_or]
    by_cases z : t < c.2
    · rw [if_pos z, decide_eq_false (by omega), Bool.and_false, if_neg Bool.false_ne_true]
    · rw [if_neg z, decide_eq_true (by omega), Bool.and_true]
  · rw [if_neg q, show (c.1 == a) = false from beq_eq_false_iff_ne.mpr q, Bool.not_false, Bool.true_or, Bool.and_true]
theorem wyQ_all {C : List (Nat × Nat)} {a t : Nat} : wyQ C C.length a t = cf a fun O => (cnt a O == t) && lim C (a + 1) O := by
  unfold wyQ
  rw [List.take_length]
  by_cases z : (C.all fun c => !(c.1 == a) || decide (c.2 ≤ t)) = true
  · rw [if_pos z]
    unfold wyP
    refine cf_congr fun O _ => ?_
    cases q : (cnt a O == t) with
    | false => rfl
    | true =>
      rw [Bool.true_and, Bool.true_and, Bool.eq_iff_iff]
      unfold lim
      rw [List.all_eq_true, List.all_eq_true]
      constructor
      · intro h c hc
        have h1 := h c hc
        have h2 := List.all_eq_true.mp z c hc
        by_cases e : c.1 = a
        · rw [show (c.1 == a) = true from beq_iff_eq.mpr e, Bool.not_true, Bool.false_or] at h2
          rw [e, beq_iff_eq.mp q, h2, Bool.or_true]
        · by_cases l : c.1 < a
          · rw [decide_eq_true l, Bool.not_true, Bool.false_or] at h1
            rw [h1, Bool.or_true]
          · rw [decide_eq_false (by omega)]
            rfl
      · intro h c hc
        have h1 := h c hc
        by_cases l : c.1 < a
        · rw [decide_eq_true (show c.1 < a + 1 by omega), Bool.not_true, Bool.false_or] at h1
          rw [h1, Bool.or_true]
        · rw [decide_eq_false l]
          rfl
  · rw [if_neg z]
    refine Eq.symm (Eq.trans (cf_congr fun O _ => ?_) (cf_false a))
    rw [Bool.eq_false_iff]
    intro h
    rw [Bool.and_eq_true] at h
    refine z (List.all_eq_true.mpr fun c hc => ?_)
    have h1 := List.all_eq_true.mp h.2 c hc
    by_cases e : c.1 = a
    · rw [e, beq_iff_eq.mp h.1, decide_eq_true (show a < a + 1 by omega), Bool.not_true, Bool.false_or] at h1
      rw [h1, Bool.or_true]
    · rw [show (c.1 == a) = false from beq_eq_false_iff_ne.mpr e]
      rfl
theorem cnt_put_le {U : Nat → Bool} {k a : Nat} (h : a ≤ k) : cnt a (put U k) = cnt a U := cnt_congr fun i hi => put_ne _ (by omega)
theorem wyP_step {C : List (Nat × Nat)} {a t : Nat} : wyP C (a + 1) t = wyQ C C.length a t + if 0 < t then wyQ C C.length a (t - 1) else 0 := by
  rw [wyQ_all, wyQ_all]
  unfold wyP
  show cf a (fun O => (cnt (a + 1) O == t) && lim C (a + 1) O) + cf a (fun O => (cnt (a + 1) (put O a) == t) && lim C (a + 1) (put O a)) = _
  have l : ∀ O, lim C (a + 1) (put O a) = lim C (a + 1) O := fun O => by
    unfold lim
    rw [Bool.eq_iff_iff, List.all_eq_true, List.all_eq_true]
    have key : ∀ c : Nat × Nat, (!decide (c.1 < a + 1) || decide (c.2 ≤ cnt c.1 (put O a))) = (!decide (c.1 < a + 1) || decide (c.2 ≤ cnt c.1 O)) := fun c => by
      by_cases z : c.1 < a + 1
      · rw [cnt_put_le (by omega)]
      · rw [decide_eq_false z]
        rfl
    exact ⟨fun h c hc => by rw [← key]; exact h c hc, fun h c hc => by rw [key]; exact h c hc⟩
  congr 1
  · refine cf_congr fun O hO => ?_
    rw [cnt_succ, hO a (Nat.le_refl _)]
    rfl
  · by_cases z : 0 < t
    · rw [if_pos z]
      refine cf_congr fun O _ => ?_
      rw [l, cnt_succ, put_self, if_pos rfl, cnt_put_le (Nat.le_refl _)]
      congr 1
      rw [Bool.eq_iff_iff, beq_iff_eq, beq_iff_eq]
      omega
    · rw [if_neg z]
      refine Eq.trans (cf_congr fun O _ => ?_) (cf_false a)
      rw [cnt_succ, put_self, if_pos rfl, show (cnt a (put O a) + 1 == t) = false from beq_eq_false_iff_ne.mpr (by omega)]
      rfl
theorem wyQ_end {C : List (Nat × Nat)} {m t : Nat} (h : ∀ c ∈ C, c.1 ≤ m) : wyQ C C.length m t = wyN C m t := by
  rw [wyQ_all]
  unfold wyN
  refine cf_congr fun O _ => ?_
  congr 1
  unfold lim consB
  rw [Bool.eq_iff_iff, List.all_eq_true, List.all_eq_true]
  constructor
  · intro a c hc
    have := a c hc
    rw [decide_eq_true (by have := h c hc; omega)] at this
    simpa using this
  · intro a c hc
    rw [a c hc, Bool.or_true]
/-! ### those that lie within the first ones only -/
theorem subB_low (n : Nat) (U : Nat → Bool) : subB (fun i => decide (i < n)) n U = true := subB_iff.mpr fun _ hi _ => decide_eq_true hi
theorem cf_low {n : Nat} {P : (Nat → Bool) → Bool} : ∀ j, cf (n + j) (fun U => subB (fun i => decide (i < n)) (n + j) U && P U) = cf n P
  | 0 => cf_congr fun U _ => by rw [Nat.add_zero, subB_low, Bool.true_and]
  | j + 1 => by
    show cf (n + j) (fun U => subB (fun i => decide (i < n)) (n + j + 1) U && P U) + cf (n + j) (fun U => subB (fun i => decide (i < n)) (n + j + 1) (put U (n + j)) && P (put U (n + j))) = _
    have a : cf (n + j) (fun U => subB (fun i => decide (i < n)) (n + j + 1) U && P U) = cf n P := by
      refine Eq.trans ?_ (cf_low (P := P) j)
      refine cf_congr fun U hU => ?_
      show ((subB _ (n + j) U && (!U (n + j) || _)) && P U) = _
      rw [hU _ (Nat.le_refl _)]
      simp
    have b : cf (n + j) (fun U => subB (fun i => decide (i < n)) (n + j + 1) (put U (n + j)) && P (put U (n + j))) = 0 := by
      refine Eq.trans (cf_congr fun U _ => ?_) (cf_false _)
      show ((subB _ (n + j) (put U (n + j)) && (!put U (n + j) (n + j) || decide (n + j < n))) && _) = false
      rw [put_self, decide_eq_false (by omega)]
      simp
    rw [a, b, Nat.add_zero]
theorem cnt_first {n k : Nat} (h : n ≤ k) : cnt k (fun i => decide (i < n)) = n := by
  obtain ⟨j, rfl⟩ : ∃ j, k = n + j := ⟨k - n, by omega⟩
  clear h
  induction j with
  | zero =>
    rw [Nat.add_zero, cnt_congr (U := fun _ => true) fun i hi => decide_eq_true hi, Th.cnt_const]
    rfl
  | succ j ih =>
    rw [show n + (j + 1) = (n + j) + 1 by omega, cnt_succ, ih, decide_eq_false (by omega)]
    rfl
theorem cnt_within {n k : Nat} {O : Nat → Bool} (h : n ≤ k) : cnt k (fun i => O i && decide (i < n)) = cnt n O := by
  obtain ⟨j, rfl⟩ : ∃ j, k = n + j := ⟨k - n, by omega⟩
  clear h
  induction j with
  | zero => exact cnt_congr fun i hi => by rw [decide_eq_true (show i < n by omega), Bool.and_true]
  | succ j ih =>
    rw [show n + (j + 1) = (n + j) + 1 by omega, cnt_succ, ih, decide_eq_false (by omega), Bool.and_false]
    rfl
/-- so many out, of a level so high -/
def lotsO (m : Nat) (g : Nat → Nat) (N lv o : Nat) : Nat := cf m fun O => (cnt m O == o) && (List.range N).all fun n => decide (n < lv + cnt (g n) O)
theorem below_canon {m f N : Nat} {g : Nat → Nat} (up : ∀ e, e ≤ N → g e ≤ m) (gN : g N = m) : cf (m + f) (below (m + f) N (fun e i => decide (i < g e)) (fun _ => true)) = cf m fun O => decide (f + m - cnt m O ≤ N) && (List.range N).all fun n => decide (n < f + m - cnt m O + cnt (g n) O) := by
  rw [← cf_co (k := m + f) (P := below (m + f) N (fun e i => decide (i < g e)) (fun _ => true)) fun U V e => below_same e]
  rw [← cf_low (n := m) (P := fun O => decide (f + m - cnt m O ≤ N) && (List.range N).all fun n => decide (n < f + m - cnt m O + cnt (g n) O)) f]
  refine cf_congr fun O _ => ?_
  unfold below
  have e1 : (List.range (m + f)).all (fun i => decide (i < g N) || (Th.co O i == true)) = subB (fun i => decide (i < m)) (m + f) O := by
    rw [Bool.eq_iff_iff, List.all_eq_true, subB_iff, gN]
    constructor
    · intro h i hi o
      have := h i (List.mem_range.mpr hi)
      rw [show Th.co O i = false from by show (!O i) = false; rw [o]; rfl] at this
      simpa using this
    · intro h i hi
      cases o : O i with
      | true => rw [h i (List.mem_range.mp hi) o]; rfl
      | false => rw [show Th.co O i = true from by show (!O i) = true; rw [o]; rfl]; simp
  rw [e1]
  cases s : subB (fun i => decide (i < m)) (m + f) O with
  | false => rfl
  | true =>
    have sb := subB_iff.mp s
    have o1 : cnt (m + f) O = cnt m O := by
      rw [← cnt_within (k := m + f) (n := m) (by omega)]
      refine cnt_congr fun i hi => ?_
      cases o : O i with
      | true => rw [sb i hi o]; rfl
      | false => rfl
    have o2 := Th.cnt_co (m + f) O
    have o3 : ∀ n, n ≤ N → cnt (m + f) (fun i => Th.co O i || decide (i < g n)) = f + m - cnt m O + cnt (g n) O := fun n hn => by
      rw [Th.cnt_or_not]
      have w := cnt_within (k := m + f) (n := g n) (O := O) (by have := up n hn; omega)
      have : cnt (m + f) (fun i => decide (i < g n) && !Th.co O i) = cnt (g n) O := by
        rw [← w]
        refine cnt_congr fun i _ => ?_
        show (_ && !!O i) = _
        rw [Bool.not_not, Bool.and_comm]
      rw [this]
      omega
    congr 1
    rw [show cnt (m + f) (Th.co O) = f + m - cnt m O by omega]
    congr 1
    rw [Bool.eq_iff_iff, List.all_eq_true, List.all_eq_true]
    constructor
    · intro h n hn
      have := h n hn
      rw [o3 n (by have := List.mem_range.mp hn; omega)] at this
      exact this
    · intro h n hn
      rw [o3 n (by have := List.mem_range.mp hn; omega)]
      exact h n hn
theorem below_lots {k N : Nat} {G : Nat → Nat → Bool} (mono : ∀ a b i, a ≤ b → b ≤ N → G a i = true → G b i = true) (X : Nat → Bool) {m f : Nat} (em : m = cnt k (G N)) (ef : f = cnt k (fun i => X i && !G N i)) :
    cf k (below k N G X) = ((List.range (m + 1)).map fun o => if f + m - o ≤ N then lotsO m (fun e => cnt k (G e)) N (f + m - o) o else 0).sum := by
  have gm : ∀ e, e ≤ N → cnt k (G e) ≤ m := fun e he => by
    rw [em]
    exact Th.cnt_mono fun i _ h => mono e N i he (Nat.le_refl _) h
  have a := below_tot (k := k) mono X
  have b := below_tot (k := m + f) (N := N) (G := fun e i => decide (i < cnt k (G e))) (fun a b i hab hb h => decide_eq_true (Nat.lt_of_lt_of_le (of_decide_eq_true h) (Th.cnt_mono fun i _ h => mono a b i hab hb h))) (fun _ => true)
  have c : tot (fun e => cnt k (G e)) f N = tot (fun e => cnt (m + f) (fun i => decide (i < cnt k (G e)))) f N := tot_congr fun e he => (cnt_first (by have := gm e he; omega)).symm
  have d : cnt (m + f) (fun i => (fun _ => true) i && !decide (i < cnt k (G N))) = f := by
    have := Th.cnt_not (k := m + f) (fun i => decide (i < cnt k (G N)))
    rw [cnt_first (by omega)] at this
    rw [cnt_congr (U := fun i => !decide (i < cnt k (G N))) fun i _ => Bool.true_and _]
    omega
  rw [d, ← c] at b
  rw [← ef] at a
  rw [a, ← b, below_canon gm em.symm]
  have p := cf_parts (k := m) (P := fun O => decide (f + m - cnt m O ≤ N) && (List.range N).all fun n => decide (n < f + m - cnt m O + cnt (cnt k (G n)) O)) (f := fun O => cnt m O) m
  have q : cf m (fun O => (decide (f + m - cnt m O ≤ N) && (List.range N).all fun n => decide (n < f + m - cnt m O + cnt (cnt k (G n)) O)) && decide (cnt m O ≤ m)) = cf m (fun O => decide (f + m - cnt m O ≤ N) && (List.range N).all fun n => decide (n < f + m - cnt m O + cnt (cnt k (G n)) O)) := cf_congr fun O _ => by
    rw [decide_eq_true (Th.cnt_le m O), Bool.and_true]
  refine Eq.trans q.symm (Eq.trans p.symm ?_)
  congr 1
  refine List.map_congr_left fun o _ => ?_
  by_cases z : f + m - o ≤ N
  · rw [if_pos z]
    unfold lotsO
    refine cf_congr fun O _ => ?_
    cases r : (cnt m O == o) with
    | false => rw [Bool.and_false, Bool.false_and]
    | true =>
      rw [beq_iff_eq.mp r, decide_eq_true z, Bool.true_and, Bool.and_true]
  · rw [if_neg z]
    refine Eq.trans (cf_congr fun O _ => ?_) (cf_false m)
    cases r : (cnt m O == o) with
    | false => rw [Bool.and_false]
    | true =>
      rw [beq_iff_eq.mp r, decide_eq_false z]
      rfl
/-- the level told by steps from it on -/
theorem lots_steps {m N lv o e : Nat} {g : Nat → Nat} (hN : N ≤ e) (last : ∀ n, N ≤ n → n < e → ∀ O : Nat → Bool, cnt m O = o → n < lv + cnt (g n) O) (hl : lv ≤ e) : lotsO m g N lv o = wyN ((List.range (e - lv)).map fun r => (g (lv + r), r + 1)) m o := by
  unfold lotsO wyN
  refine cf_congr fun O _ => ?_
  cases r : (cnt m O == o) with
  | false => rfl
  | true =>
    rw [Bool.true_and, Bool.true_and, Bool.eq_iff_iff]
    unfold consB
    rw [List.all_eq_true, List.all_eq_true]
    constructor
    · intro h c hc
      obtain ⟨x, hx, rfl⟩ := List.mem_map.mp hc
      have hx := List.mem_range.mp hx
      refine decide_eq_true ?_
      show x + 1 ≤ cnt (g (lv + x)) O
      by_cases z : lv + x < N
      · have := of_decide_eq_true (h (lv + x) (List.mem_range.mpr z))
        omega
      · have := last (lv + x) (by omega) (by omega) O (beq_iff_eq.mp r)
        omega
    · intro h n hn
      have hn := List.mem_range.mp hn
      refine decide_eq_true ?_
      by_cases z : lv ≤ n
      · have := of_decide_eq_true (h (g (lv + (n - lv)), n - lv + 1) (List.mem_map.mpr ⟨n - lv, List.mem_range.mpr (by omega), rfl⟩))
        rw [show lv + (n - lv) = n by omega] at this
        show n < _
        have : n - lv + 1 ≤ cnt (g n) O := this
        omega
      · omega
/-- where the last step has fewer, only these are out -/
theorem wyN_less {C : List (Nat × Nat)} {m m' o : Nat} (hm : m' ≤ m) (h : ∀ O, cnt m O = o → consB C O = true → cnt m' O = o) : wyN C m o = wyN C m' o := by
  unfold wyN
  obtain ⟨j, rfl⟩ : ∃ j, m = m' + j := ⟨m - m', by omega⟩
  rw [← cf_low (n := m') (P := fun O => (cnt m' O == o) && consB C O) j]
  refine cf_congr fun O _ => ?_
  cases c : consB C O with
  | false => simp
  | true =>
    rw [Bool.and_true, Bool.and_true, Bool.eq_iff_iff, Bool.and_eq_true, beq_iff_eq, beq_iff_eq]
    have w := cnt_within (k := m' + j) (n := m') (O := O) (by omega)
    constructor
    · intro e
      have e' := h O e c
      refine ⟨subB_iff.mpr fun i hi oi => ?_, e'⟩
      have := Th.cnt_eq (k := m' + j) (S := fun i => O i && decide (i < m')) (U := O) (fun i _ z => by rw [Bool.and_eq_true] at z; exact z.1) (by rw [w]; omega) i hi oi
      rw [Bool.and_eq_true] at this
      exact this.2
    · rintro ⟨s, e⟩
      rw [← e, ← w]
      refine cnt_congr fun i hi => ?_
      cases oi : O i with
      | false => rfl
      | true => rw [subB_iff.mp s i hi oi]; rfl
/-- stuck at N: by how many are out of the fullest one -/
theorem low_due {k N : Nat} {G : Nat → Nat → Bool} (mono : ∀ a b i, a ≤ b → b ≤ N → G a i = true → G b i = true) (X : Nat → Bool) {f : Nat} (ef : f = cnt k (fun i => X i && !G N i)) (full : f + cnt k (G N) = N) (m : Nat) (em : m = if N = 0 then 0 else cnt k (G (N - 1))) :
    cf k (below k N G X) = ((List.range (m + 1)).map fun o => wyN ((List.range o).map fun r => (cnt k (G (N - o + r)), r + 1)) m o).sum := by
  have gm : ∀ e, e ≤ N → cnt k (G e) ≤ cnt k (G N) := fun e he => Th.cnt_mono fun i _ h => mono e N i he (Nat.le_refl _) h
  have mN : m ≤ cnt k (G N) := by
    rw [em]
    split
    · exact Nat.zero_le _
    · exact gm _ (by omega)
  have m' : 0 < N → m = cnt k (G (N - 1)) := fun h => by rw [em, if_neg (by omega)]
  rw [below_lots mono X rfl ef]
  have each : ∀ o, o ≤ cnt k (G N) → (if f + cnt k (G N) - o ≤ N then lotsO (cnt k (G N)) (fun e => cnt k (G e)) N (f + cnt k (G N) - o) o else 0) = if o ≤ m then wyN ((List.range o).map fun r => (cnt k (G (N - o + r)), r + 1)) m o else 0 := fun o ho => by
    have oN : o ≤ N := by omega
    rw [if_pos (by omega), full, lots_steps (e := N) (Nat.le_refl _) (fun n a b => by omega) (by omega), show N - (N - o) = o by omega]
    by_cases z : o ≤ m
    · rw [if_pos z]
      by_cases o0 : o = 0
      · subst o0
        refine wyN_less mN (fun O e _ => ?_) 
        have := cnt_within (k := cnt k (G N)) (n := m) (O := O) mN
        have w : cnt (cnt k (G N)) (fun i => O i && decide (i < m)) ≤ cnt (cnt k (G N)) O := Th.cnt_mono fun i _ h => by rw [Bool.and_eq_true] at h; exact h.1
        omega
      · refine wyN_less mN fun O e c => ?_
        have q := of_decide_eq_true (List.all_eq_true.mp c (cnt k (G (N - o + (o - 1))), o - 1 + 1) (List.mem_map.mpr ⟨o - 1, List.mem_range.mpr (by omega), rfl⟩))
        rw [show N - o + (o - 1) = N - 1 by omega, ← m' (by omega)] at q
        have q' : o - 1 + 1 ≤ cnt m O := q
        have := cnt_within (k := cnt k (G N)) (n := m) (O := O) mN
        have w : cnt (cnt k (G N)) (fun i => O i && decide (i < m)) ≤ cnt (cnt k (G N)) O := Th.cnt_mono fun i _ h => by rw [Bool.and_eq_true] at h; exact h.1
        omega
    · rw [if_neg z]
      unfold wyN
      refine Eq.trans (cf_congr fun O _ => ?_) (cf_false _)
      rw [Bool.eq_false_iff]
      intro h
      rw [Bool.and_eq_true, beq_iff_eq] at h
      have q := of_decide_eq_true (List.all_eq_true.mp h.2 (cnt k (G (N - o + (o - 1))), o - 1 + 1) (List.mem_map.mpr ⟨o - 1, List.mem_range.mpr (by omega), rfl⟩))
      rw [show N - o + (o - 1) = N - 1 by omega, ← m' (by omega)] at q
      have q' : o - 1 + 1 ≤ cnt m O := q
      have := Th.cnt_le m O
      omega
  have c : ((List.range (cnt k (G N) + 1)).map fun o => if f + cnt k (G N) - o ≤ N then lotsO (cnt k (G N)) (fun e => cnt k (G e)) N (f + cnt k (G N) - o) o else 0).sum = ((List.range (cnt k (G N) + 1)).map fun o => if o ≤ m then wyN ((List.range o).map fun r => (cnt k (G (N - o + r)), r + 1)) m o else 0).sum := by
    congr 1
    exact List.map_congr_left fun o ho => each o (by have := List.mem_range.mp ho; omega)
  rw [c, sum_zeros (F := fun o => if o ≤ m then wyN ((List.range o).map fun r => (cnt k (G (N - o + r)), r + 1)) m o else 0) (a := m + 1) (fun x hx => if_neg (by omega)) _ (by omega)]
  congr 1
  refine List.map_congr_left fun o ho => ?_
  rw [if_pos (by have := List.mem_range.mp ho; omega)]
theorem sum_rev {F : Nat → Nat} : ∀ m : Nat, ((List.range (m + 1)).map F).sum = ((List.range (m + 1)).map fun z => F (m - z)).sum
  | 0 => rfl
  | m + 1 => by
    have a : ((List.range (m + 1 + 1)).map F).sum = ((List.range (m + 1)).map F).sum + F (m + 1) := by
      rw [List.range_succ, List.map_append, List.sum_append]
      show _ + (F (m + 1) + 0) = _
      rfl
    have b : ((List.range (m + 1 + 1)).map fun z => F (m + 1 - z)).sum = F (m + 1) + ((List.range (m + 1)).map fun z => F (m - z)).sum := by
      rw [List.range_succ_eq_map, List.map_cons, List.sum_cons, List.map_map]
      congr 2
      refine List.map_congr_left fun x _ => ?_
      show F (m + 1 - (x + 1)) = F (m - x)
      rw [Nat.add_sub_add_right]
    rw [a, b, sum_rev m]
    omega
theorem sum_add {F E : Nat → Nat} : ∀ n : Nat, ((List.range n).map F).sum + ((List.range n).map E).sum = ((List.range n).map fun z => F z + E z).sum
  | 0 => rfl
  | n + 1 => by
    rw [List.range_succ, List.map_append, List.map_append, List.map_append, List.sum_append, List.sum_append, List.sum_append, ← sum_add n]
    show _ + (F n + 0) + (_ + (E n + 0)) = _ + ((F n + E n) + 0)
    omega
/-- open: by how many of those who go are here -/
theorem open_due {k T : Nat} {G : Nat → Nat → Bool} (t : Th.Top k G T) (S : Nat → Bool) {f m : Nat} (ef : f = cnt k (fun i => S i && !G T i)) (em : m = cnt k (G T)) (f0 : f ≤ T) (f1 : T < f + m) :
    cf k (below k T G S) + cf k (below k (k - 1 - T) (Th.dual k G) (Th.co S)) = ((List.range (m + 1)).map fun z => if f + z ≤ T then wyN ((List.range (T + 1 - (f + z))).map fun r => (cnt k (G (f + z + r)), r + 1)) m (m - z) else wyN ((List.range (f + z - T)).map fun r => (cnt k (G (f + z - 1 - r)), r + 1)) m z).sum := by
  have lt := t.lt
  have fm : f + cnt k (fun i => Th.co S i && !G T i) + m = k := by
    have a := Th.cnt_not (k := k) (fun i => G T i)
    have b := Th.cnt_split (k := k) (fun i => !G T i) S
    have c : cnt k (fun i => (!G T i) && S i) = f := by rw [ef]; exact cnt_congr fun i _ => Bool.and_comm _ _
    have d : cnt k (fun i => (!G T i) && !S i) = cnt k (fun i => Th.co S i && !G T i) := cnt_congr fun i _ => Bool.and_comm _ _
    rw [← em] at a
    omega
  have e1 := below_lots (k := k) (N := T) (G := G) (fun a b i hab hb h => t.up a b i hab hb h) S em ef
  have dT : ∀ i, Th.dual k G (k - 1 - T) i = G T i := fun i => by
    show G (k - 1 - (k - 1 - T)) i = _
    rw [show k - 1 - (k - 1 - T) = T by omega]
  have e2 := below_lots (k := k) (N := k - 1 - T) (G := Th.dual k G) (fun a b i hab hb h => t.dual.up a b i hab hb h) (Th.co S) (m := m) (f := k - f - m) (by rw [em]; exact cnt_congr fun i _ => (dT i).symm) (by
    rw [show cnt k (fun i => Th.co S i && !Th.dual k G (k - 1 - T) i) = cnt k (fun i => Th.co S i && !G T i) from cnt_congr fun i _ => by rw [dT]]
    omega)
  rw [e1, e2, sum_rev (F := fun o => if f + m - o ≤ T then lotsO m (fun e => cnt k (G e)) T (f + m - o) o else 0), sum_add]
  congr 1
  refine List.map_congr_left fun z hz => ?_
  have zm : z ≤ m := by have := List.mem_range.mp hz; omega
  rw [show f + m - (m - z) = f + z by omega]
  by_cases c : f + z ≤ T
  · rw [if_pos c, if_pos c, if_neg (by omega), Nat.add_zero]
    refine lots_steps (e := T + 1) (by omega) (fun n a b O hO => ?_) (by omega)
    obtain rfl : n = T := by omega
    rw [← em, hO]
    omega
  · rw [if_neg c, if_neg c, if_pos (by omega), Nat.zero_add]
    rw [lots_steps (e := k - T) (by omega) (fun n a b O hO => ?_) (by omega)]
    · rw [show k - T - (k - f - m + m - z) = f + z - T by omega]
      congr 1
      refine List.map_congr_left fun r hr => ?_
      have := List.mem_range.mp hr
      show (cnt k (Th.dual k G (k - f - m + m - z + r)), r + 1) = _
      rw [show Th.dual k G (k - f - m + m - z + r) = G (f + z - 1 - r) from by show G (k - 1 - _) = _; rw [show k - 1 - (k - f - m + m - z + r) = f + z - 1 - r by omega]]
    · obtain rfl : n = k - 1 - T := by omega
      rw [show cnt k (Th.dual k G (k - 1 - T)) = m from by rw [em]; exact cnt_congr fun i _ => dT i, hO]
      omega
/-! ### how many lots all fall into -/
theorem bin_symm : ∀ {n p q : Nat}, p + q = n → bin n p = bin n q
  | 0, p, q, h => by
    obtain rfl : p = 0 := by omega
    obtain rfl : q = 0 := by omega
    rfl
  | n + 1, 0, q, h => by
    obtain rfl : q = n + 1 := by omega
    rw [bin_zero, bin_self]
  | n + 1, p + 1, 0, h => by
    obtain rfl : p = n := by omega
    rw [bin_zero, bin_self]
  | n + 1, p + 1, q + 1, h => by
    show bin n p + bin n (p + 1) = bin n q + bin n (q + 1)
    rw [bin_symm (n := n) (p := p) (q := q + 1) (by omega), bin_symm (n := n) (p := p + 1) (q := q) (by omega)]
    omega
theorem sum_cong {F E : Nat → Nat} {n : Nat} (h : ∀ x, x < n → F x = E x) : ((List.range n).map F).sum = ((List.range n).map E).sum := by
  congr 1
  exact List.map_congr_left fun x hx => h x (List.mem_range.mp hx)
/-- a sum over the first ones only -/
theorem sum_first {F : Nat → Nat} {a n : Nat} (h : a ≤ n) : ((List.range a).map F).sum = ((List.range n).map fun x => if x < a then F x else 0).sum := by
  rw [sum_zeros (F := fun x => if x < a then F x else 0) (a := a) (fun x hx => if_neg (by omega)) n h]
  exact sum_cong fun x hx => (if_pos hx).symm
theorem lots_due {k T : Nat} {g : Nat → Nat} (hT : T < k) (gk : ∀ e, e < k → g e ≤ k) :
    lowN k T g + topN k T (g T) + lowN k (k - 1 - T) (fun e => g (k - 1 - e)) = ((List.range k).map fun a => (if a ≤ T then if a < g a then 0 else bin (k - g a) (a - g a) else 0) + if T ≤ a then bin (k - g a) (a + 1) else 0).sum + ((List.range (T + 1)).map fun x => if T < x + g T then bin (k - g T) x else 0).sum := by
  have low : lowN k T g = ((List.range k).map fun a => if a ≤ T then if a < g a then 0 else bin (k - g a) (a - g a) else 0).sum := by
    unfold lowN
    rw [sum_first (n := k) (by omega)]
    exact sum_cong fun x hx => by
      by_cases z : x ≤ T
      · rw [if_pos z, if_pos (by omega)]
      · rw [if_neg z, if_neg (by omega)]
  have high : lowN k (k - 1 - T) (fun e => g (k - 1 - e)) = ((List.range k).map fun a => if T ≤ a then bin (k - g a) (a + 1) else 0).sum := by
    unfold lowN
    rw [sum_first (n := k) (by omega), show k = (k - 1) + 1 by omega, sum_rev, ← show k = (k - 1) + 1 by omega]
    exact sum_cong fun x hx => by
      by_cases z : T ≤ x
      · have e : (fun e => g (k - 1 - e)) (k - 1 - x) = g x := by
          show g (k - 1 - (k - 1 - x)) = _
          rw [show k - 1 - (k - 1 - x) = x by omega]
        rw [if_pos z, if_pos (by omega), e]
        have := gk x hx
        by_cases c : k - 1 - x < g x
        · rw [if_pos c, bin_gt (by omega)]
        · rw [if_neg c]
          exact bin_symm (by omega)
      · rw [if_neg z, if_neg (by omega)]
  have top : topN k T (g T) = ((List.range (T + 1)).map fun x => if T < x + g T then bin (k - g T) x else 0).sum := by
    unfold topN
    have := gk T hT
    rw [sum_first (F := fun f => if f ≤ T ∧ T < f + g T then bin (k - g T) f else 0) (n := k + 1) (by omega), sum_first (a := T + 1) (n := k + 1) (by omega)]
    exact sum_cong fun x hx => by
      by_cases a : x < k - g T + 1
      · rw [if_pos a]
        by_cases b : x < T + 1
        · rw [if_pos b]
          by_cases c : T < x + g T
          · rw [if_pos c, if_pos ⟨by omega, c⟩]
          · rw [if_neg c, if_neg fun z => c z.2]
        · rw [if_neg b, if_neg fun z => b (by omega)]
      · rw [if_neg a, bin_gt (by omega)]
        split <;> (try split) <;> rfl
  rw [low, high, top, ← sum_add]
  omega
end Ct

namespace Ct
theorem cf_le : ∀ {k : Nat} {P : (Nat → Bool) → Bool}, cf k P ≤ 2 ^ k
  | 0, P => by
    unfold cf
    split <;> decide
  | k + 1, P => by
    show cf k P + cf k _ ≤ 2 ^ (k + 1)
    have a := cf_le (k := k) (P := P)
    have b := cf_le (k := k) (P := fun U => P (put U k))
    rw [Nat.pow_succ]
    omega
theorem cf_pos : ∀ {k : Nat} {P : (Nat → Bool) → Bool} {S : Nat → Bool}, (∀ i, ¬ i < k → S i = false) → P S = true → 0 < cf k P
  | 0, P, S, h, p => by
    unfold cf
    have : S = fun _ => false := funext fun i => h i (by omega)
    rw [this] at p
    rw [if_pos p]
    exact Nat.one_pos
  | k + 1, P, S, h, p => by
    show 0 < cf k P + cf k _
    cases e : S k with
    | false =>
      have := cf_pos (k := k) (P := P) (S := S) (fun i hi => by
        by_cases z : i = k
        · rw [z, e]
        · exact h i (by omega)) p
      omega
    | true =>
      have q : put (fun i => if i = k then false else S i) k = S := funext fun i => by
        by_cases z : i = k
        · rw [z, put_self, e]
        · rw [put_ne _ z, if_neg z]
      have := cf_pos (k := k) (P := fun U => P (put U k)) (S := fun i => if i = k then false else S i) (fun i hi => by
        by_cases z : i = k
        · exact if_pos z
        · rw [if_neg z]; exact h i (by omega)) (by rw [q]; exact p)
      omega
theorem fam_bounds {k : Nat} {G : Nat → Nat → Bool} {S : Nat → Bool} (S0 : ∀ i, ¬ i < k → S i = false) : 1 ≤ fam k G S ∧ fam k G S ≤ 2 ^ k :=
  ⟨cf_pos S0 (@decide_eq_true _ (Classical.propDecidable _) (.refl _)), cf_le⟩
end Ct
namespace Sh
open PySem PySem.Spec PyProof.Rows L2
/-! ### k46: how many it comes to, by the key -/
def upto (ds : List Int) (X : List Nat) (m : Int) : Nat := (X.filter fun i => decide (ds.getD i 0 ≤ m)).length
def goL (h t : Int) (ds : List Int) (s : Nat) : List Nat := (List.range ds.length).filter fun i => decide (ds.getD i 0 ≤ mk h t ds.length (s : Int))
def stepsC (h t : Int) (ds : List Int) (X st : List Nat) : List (Nat × Nat) := (List.range st.length).map fun r => (upto ds X (mk h t ds.length ((st.getD r 0 : Nat) : Int)), r + 1)
def mvsOf (h t : Int) (ds : List Int) (kd : Kd) (a : Nat) : List Nat := match kd with
  | .low => if a = 0 then [] else goL h t ds (a - 1)
  | .high => if a + 1 < ds.length then goL h t ds (a + 1) else []
  | .top => goL h t ds a
def stepsOf (kd : Kd) (a f o : Nat) : List Nat := match kd with
  | .low => (List.range o).map fun r => a - o + r
  | .high => (List.range o).map fun r => a + o - r
  | .top => if f + o ≤ a then (List.range (a + 1 - (f + o))).map fun r => f + o + r else (List.range (f + o - a)).map fun r => f + o - 1 - r
def sizeOf46 (kd : Kd) (a f m o : Nat) : Nat := match kd with
  | .top => if f + o ≤ a then m - o else o
  | _ => o
def dueT (h t : Int) (ds : List Int) (kd : Kd) (a f : Nat) (X : List Nat) (o : Nat) : Nat := Ct.wyN (stepsC h t ds X (stepsOf kd a f o)) X.length (sizeOf46 kd a f X.length o)
section
variable {h t : Int} {ds : List Int} {L : List Nat}
theorem goL_len (s : Nat) : (goL h t ds s).length = Th.cnt ds.length (Gof h t ds s) := by
  unfold goL Th.cnt
  rw [List.countP_eq_length_filter]
  rfl
theorem upto_go {s e : Nat} (sub : ∀ i, i < ds.length → Gof h t ds e i = true → Gof h t ds s i = true) : upto ds (goL h t ds s) (mk h t ds.length (e : Int)) = Th.cnt ds.length (Gof h t ds e) := by
  unfold upto goL Th.cnt
  rw [List.filter_filter, List.countP_eq_length_filter]
  congr 1
  refine List.filter_congr fun i hi => ?_
  have := sub i (List.mem_range.mp hi)
  unfold Gof at this ⊢
  cases q : decide (ds.getD i 0 ≤ mk h t ds.length (e : Int)) with
  | false => rfl
  | true => rw [this q]; rfl
theorem map_getD {f : Nat → Nat} {n r : Nat} (h : r < n) : ((List.range n).map f).getD r 0 = f r := by
  rw [List.getD_eq_getElem?_getD, List.getElem?_map, List.getElem?_range h]
  rfl
theorem stepsC_go {s n : Nat} {f : Nat → Nat} (sub : ∀ r, r < n → ∀ i, i < ds.length → Gof h t ds (f r) i = true → Gof h t ds s i = true) : stepsC h t ds (goL h t ds s) ((List.range n).map f) = (List.range n).map fun r => (Th.cnt ds.length (Gof h t ds (f r)), r + 1) := by
  unfold stepsC
  rw [List.length_map, List.length_range]
  refine List.map_congr_left fun r hr => ?_
  have hr := List.mem_range.mp hr
  rw [map_getD hr, upto_go (sub r hr)]
theorem due_sum (hk : 0 < ds.length) (hL : Lot ds.length L) {kd : Kd} {a : Nat} (ls : LotS h t ds.length (fun i => ds.getD i 0) (mem L) kd (a : Int)) {f : Nat} (ef : kd = .top → f = (keyL h t ds L kd (a : Int)).length) :
    Ct.fam ds.length (Gof h t ds) (mem L) = ((List.range ((mvsOf h t ds kd a).length + 1)).map fun o => dueT h t ds kd a f (mvsOf h t ds kd a) o).sum := by
  have tp := top_D h t (fun i => ds.getD i 0) hk
  have t0 := top_lo' h t ds.length
  have t1 := top_hi' h t hk
  have S0 : ∀ i, ¬ i < ds.length → mem L i = false := fun i hi => decide_eq_false fun z => hi (hL.lt i z)
  have eGo : Gd h t ds.length (fun i => ds.getD i 0) = Gof h t ds := rfl
  rw [eGo] at tp
  unfold LotS at ls
  rw [eGo] at ls
  have up : ∀ x y : Nat, x ≤ y → (y : Int) ≤ topI h t ds.length → ∀ i, i < ds.length → Gof h t ds x i = true → Gof h t ds y i = true := fun x y hxy hy i _ g => tp.up x y i hxy (by omega) g
  have dn : ∀ x y : Nat, x ≤ y → topI h t ds.length ≤ (x : Int) → y < ds.length → ∀ i, i < ds.length → Gof h t ds y i = true → Gof h t ds x i = true := fun x y hxy hx hy i _ g => tp.dn x y i (by omega) hxy hy g
  cases kd with
  | low =>
    obtain ⟨N, e, a1, st⟩ := ls
    obtain rfl : a = N := by omega
    rw [Ct.fam_low S0 st tp a1]
    have full := st.cnt_full tp a1
    rw [Ct.cnt_or] at full
    rw [Ct.low_due (fun x y i hxy hy g => tp.up x y i hxy (by omega) g) (mem L) rfl (by omega) (mvsOf h t ds .low a).length (by
      show (if a = 0 then [] else goL h t ds (a - 1)).length = _
      split
      · rfl
      · exact goL_len _)]
    refine Ct.sum_cong fun o ho => ?_
    show _ = Ct.wyN (stepsC h t ds (if a = 0 then [] else goL h t ds (a - 1)) ((List.range o).map fun r => a - o + r)) _ o
    have mo : o ≤ a := by
      have l := Th.cnt_mono (k := ds.length) (S := Gof h t ds (a - 1)) (U := Gof h t ds a) fun i hi g => up _ _ (by omega) (by omega) i hi g
      have e : (mvsOf h t ds .low a).length ≤ a := by
        show (if a = 0 then [] else goL h t ds (a - 1)).length ≤ _
        split
        · exact Nat.zero_le _
        · rw [goL_len]; omega
      omega
    by_cases z : a = 0
    · obtain rfl : o = 0 := by omega
      rfl
    · rw [if_neg z, stepsC_go fun r hr i hi g => up _ _ (by omega) (by omega) i hi g]
  | high =>
    obtain ⟨N, e, a1, st⟩ := ls
    have ea : a = ds.length - 1 - N := by omega
    rw [Ct.fam_high S0 st tp a1]
    have full := st.cnt_full tp.dual a1
    rw [Ct.cnt_or] at full
    have md : (mvsOf h t ds .high a).length = if N = 0 then 0 else Th.cnt ds.length (Th.dual ds.length (Gof h t ds) (N - 1)) := by
      show (if a + 1 < ds.length then goL h t ds (a + 1) else []).length = _
      by_cases z : N = 0
      · rw [if_pos z, if_neg (by omega)]
        rfl
      · rw [if_neg z, if_pos (by omega), goL_len]
        show _ = Th.cnt ds.length (Gof h t ds (ds.length - 1 - (N - 1)))
        rw [show ds.length - 1 - (N - 1) = a + 1 by omega]
    rw [Ct.low_due (fun x y i hxy hy g => tp.dual.up x y i hxy (by omega) g) (Th.co (mem L)) rfl (by omega) (mvsOf h t ds .high a).length md]
    refine Ct.sum_cong fun o ho => ?_
    show _ = Ct.wyN (stepsC h t ds (if a + 1 < ds.length then goL h t ds (a + 1) else []) ((List.range o).map fun r => a + o - r)) _ o
    have mo : o ≤ N := by
      have l := Th.cnt_mono (k := ds.length) (S := Th.dual ds.length (Gof h t ds) (N - 1)) (U := Th.dual ds.length (Gof h t ds) N) fun i hi g => tp.dual.up (N - 1) N i (by omega) (by omega) g
      have e : (mvsOf h t ds .high a).length ≤ N := by
        rw [md]
        split <;> omega
      omega
    by_cases z : N = 0
    · obtain rfl : o = 0 := by omega
      rfl
    · rw [if_pos (show a + 1 < ds.length by omega), stepsC_go fun r hr i hi g => dn _ _ (by omega) (by omega) (by omega) i hi g]
      congr 1
      refine List.map_congr_left fun r hr => ?_
      have := List.mem_range.mp hr
      show (Th.cnt ds.length (Gof h t ds (ds.length - 1 - (N - o + r))), r + 1) = _
      rw [show ds.length - 1 - (N - o + r) = a + o - r by omega]
  | top =>
    obtain ⟨e, op⟩ := ls
    have eT : (topI h t ds.length).toNat = a := by omega
    rw [eT] at op tp
    rw [Ct.fam_open S0 op tp]
    have f0 : f = Th.cnt ds.length (fun i => mem L i && !Gof h t ds a i) := by
      rw [ef rfl]
      exact kept_cnt hL a
    have f1 : f ≤ a := by
      rw [f0]
      rcases op.1 with r | r
      · have : Th.cnt ds.length (fun i => mem L i && !Gof h t ds a i) ≤ Th.cnt ds.length (mem L) := Th.cnt_mono fun i _ q => by
          rw [Bool.and_eq_true] at q
          exact q.1
        have := r.1
        omega
      · exact r.2 a (Nat.le_refl _) r.1
    have f2 := op.2
    rw [Ct.cnt_or] at f2
    rw [Ct.open_due tp (mem L) f0 (goL_len (h := h) (t := t) (ds := ds) a) f1 (by rw [goL_len]; omega)]
    refine Ct.sum_cong fun z hz => ?_
    have zm : z ≤ (goL h t ds a).length := by omega
    have fm : f + (goL h t ds a).length ≤ ds.length := by
      have := Th.cnt_le ds.length (fun i => mem L i || Gof h t ds a i)
      rw [Ct.cnt_or] at this
      rw [goL_len]
      omega
    show _ = Ct.wyN (stepsC h t ds (goL h t ds a) (if f + z ≤ a then _ else _)) _ (if f + z ≤ a then _ else _)
    by_cases c : f + z ≤ a
    · rw [if_pos c, if_pos c, if_pos c, stepsC_go fun r hr i hi g => up _ _ (by omega) (by omega) i hi g]
      rfl
    · rw [if_neg c, if_neg c, if_neg c, stepsC_go fun r hr i hi g => dn _ _ (by omega) (by omega) (by omega) i hi g]
      rfl
end
end Sh

namespace Sh
open PySem PySem.Spec PyProof.Rows L2
/-! ### k46: lots of a rising list, ship by ship -/
/-- a list of pairs of numbers -/
def Prs (H : Hp) (rs : List Addr) (C : List (Nat × Nat)) : Prop := rs.length = C.length ∧ ∀ (j : Nat) (p : Addr), rs[j]? = some p → ∃ c : Nat × Nat, C[j]? = some c ∧ H p = some (.tup [.int ((c.1 : Nat) : Int), .int ((c.2 : Nat) : Int)])
theorem Prs.same {H H' : Hp} {rs : List Addr} {C : List (Nat × Nat)} (h : Prs H rs C) (s : Same H H') : Prs H' rs C := ⟨h.1, fun j p e => let ⟨c, a, b⟩ := h.2 j p e; ⟨c, a, s _ _ b⟩⟩
def wsL (C : List (Nat × Nat)) (j a n : Nat) : List Nat := (List.range (n + 1)).map fun t => Ct.wyQ C j a t
theorem wsL_len (C : List (Nat × Nat)) (j a n : Nat) : (wsL C j a n).length = n + 1 := by unfold wsL; rw [List.length_map, List.length_range]
theorem wsL_get {C : List (Nat × Nat)} {j a n r : Nat} (h : r < n + 1) : (nl (wsL C j a n))[r]? = some (.int ((Ct.wyQ C j a r : Nat) : Int)) := by
  have e : (wsL C j a n)[r]? = some (Ct.wyQ C j a r) := by
    unfold wsL
    rw [List.getElem?_map, List.getElem?_range h]
    rfl
  unfold nl
  rw [List.getElem?_map, List.getElem?_map, e]
  rfl
def spWays (K : PySem.W.Frag) : Sp := fun vs H Q _ => ∃ (m n : Nat) (l : Addr) (rs : List Addr) (C : List (Nat × Nat)), vs = [.int (m : Int), .int (n : Int), .ref l] ∧ m ≤ 60 ∧ n ≤ 60 ∧ SqL K H l (rs.map V.ref) ∧ Prs H rs C ∧ C.length ≤ 100 ∧ (∀ c ∈ C, c.1 ≤ m) ∧ ∀ H', Same H H' → Q (.int ((Ct.wyN C m n : Nat) : Int)) H'
abbrev s__law_ways : Stmt := topS 37
theorem sc__law_ways : FnScope (["_law_many_all", "_law_size", "_law_least_among", "_law_ways_here", "_law_at", "_law_ahead", "_law_least", "_law_taken", "_law_way"] : List Str) (["_law_many_all", "_law_size", "_law_least_among"] : List Str) (defScope s__law_ways) := ⟨rfl, rfl, rfl, by decide +kernel, rfl, by decide +kernel, by decide +kernel⟩
theorem b__law_ways (kV doc pm : Value) (an : Option Addr) (cdv ct : Value) (us : List Value) (hl : us.length = (["_law_many_all", "_law_size", "_law_least_among"] : List Str).length) : bindArgs (PySem.W.fnOf "_law_ways" "_law_ways" (defArgs s__law_ways) (defBody s__law_ways) (defScope s__law_ways) .none kV doc pm an cdv ct) ⟨us, []⟩ = pure ((["_law_many_all", "_law_size", "_law_least_among"] : List Str).zip us) :=
  match us, hl with | [_, _, _], _ => rfl
section
variable {P : Program} {w : World} {K : PySem.W.Frag} {mg : Str → Option Value} {base : Heap}
theorem ok_ways {k : Nat} (D : Df K mg "_law_ways" s__law_ways) (T : Bt mg) : Ok P w K mg base (k + 1) "_law_ways" s__law_ways ["_law_many_all", "_law_size", "_law_least_among"] (spWays K) := by
  refine D.ok sc__law_ways b__law_ways (fun vs H Q E h => ?_) (fun f cdv A outer s H vs Q E hr h => ?_)
  · obtain ⟨m, n, l, rs, C, rfl, _⟩ := h
    rfl
  · obtain ⟨m, n, l, rs, C, rfl, m1, n1, hl, hp, c1, cm, q⟩ := h
    refine ⟨_, (pss_cons (ps_set (i := 3) sc__law_ways.nd rfl (.inr rfl) (pe_op op_cat (pe_lst (pa_cons pe_int pa_nil)) (pe_op op_rep (pe_lst (pa_cons pe_int pa_nil)) (pv 1))))
      (pss_cons (ps_for PassesOwn.never rfl (pi_range1 (by rfl) T.range_ (pa_cons (pe_op op_add (pv 0) pe_int) pa_nil)) (pg_name (i := 4) sc__law_ways.nd rfl (.inl rfl))
        (pss_cons (ps_for PassesOwn.never rfl (pi_seq (pv 2)) (pg_seq rfl (pgs_cons (pg_name (i := 5) sc__law_ways.nd rfl (.inl rfl)) (pgs_cons (pg_name (i := 6) sc__law_ways.nd rfl (.inr rfl)) pgs_nil)))
            (pss_one (ps_if (pt_cmpR op_eq (pv 5) (pv 4) (nomark _))
                (pss_one (ps_set (i := 3) sc__law_ways.nd rfl (.inr rfl) (pe_lc (own := [("_law_taken", 7), ("_law_way", 8)]) (g := (gSeq K 2 (gCons (gName 7) (gCons (gName 8) gNil)))) (tt := tYes) (by rfl) sc__law_ways.nd (pi_enumA (by rfl) T.enumerate_ (pa_cons (pv 3) pa_nil)) (blkOk_by (own := [("_law_taken", 7), ("_law_way", 8)]) (N := (["_law_many_all", "_law_size", "_law_least_among", "_law_ways_here", "_law_at", "_law_ahead", "_law_least", "_law_taken", "_law_way"] : List Str)) (sc := defScope s__law_ways) (by decide +kernel)) (fun _ _ _ _ _ => (pg_seq rfl (pgs_cons (pg_name (i := 7) sc__law_ways.nd rfl (.inl rfl)) (pgs_cons (pg_name (i := 8) sc__law_ways.nd rfl (.inl rfl)) pgs_nil)))) (fun _ _ _ _ _ => pts_nil) (fun _ _ _ _ _ => (pe_ifExp (pt_cmpR op_lt (pv 7) (pv 6) (nomark _)) pe_int (pv 8))))))
                pss_nil)))
          (pss_one (ps_if (pt_cmpR op_lt (pv 4) (pv 0) (nomark _))
            (pss_one (ps_set (i := 3) sc__law_ways.nd rfl (.inr rfl) (pe_lc (own := [("_law_taken", 7), ("_law_way", 8)]) (g := (gSeq K 2 (gCons (gName 7) (gCons (gName 8) gNil)))) (tt := tYes) (by rfl) sc__law_ways.nd (pi_enumA (by rfl) T.enumerate_ (pa_cons (pv 3) pa_nil)) (blkOk_by (own := [("_law_taken", 7), ("_law_way", 8)]) (N := (["_law_many_all", "_law_size", "_law_least_among", "_law_ways_here", "_law_at", "_law_ahead", "_law_least", "_law_taken", "_law_way"] : List Str)) (sc := defScope s__law_ways) (by decide +kernel)) (fun _ _ _ _ _ => (pg_seq rfl (pgs_cons (pg_name (i := 7) sc__law_ways.nd rfl (.inl rfl)) (pgs_cons (pg_name (i := 8) sc__law_ways.nd rfl (.inl rfl)) pgs_nil)))) (fun _ _ _ _ _ => pts_nil) (fun _ _ _ _ _ => (pe_op op_add (pv 8) (pe_ifExp (pt_cmpR op_gt (pv 7) pe_int (nomark _)) (pe_ix (ix_ltK K) (pv 3) (pe_op op_sub (pv 7) pe_int) (fun _ _ => rfl)) pe_int))))))
            pss_nil))))
      (pss_one (ps_ret (pe_ix ix_lt (pv 3) (pv 1) (fun _ _ => rfl)))))), ?_⟩
    -- [1] + [0] * size
    refine ⟨(by show 1 ≤ sizeLine; decide), fun a1 na1 => ?_⟩
    have s1 : Same H (upd H a1 (.lst [.int 1])) := same_new na1
    have e1 : upd H a1 (.lst [.int 1]) a1 = some (.lst [.int 1]) := upd_same
    generalize upd H a1 (.lst [.int 1]) = H1 at s1 e1
    refine ⟨(by show 1 ≤ sizeLine; decide), fun a2 na2 => ?_⟩
    have s2 : Same H1 (upd H1 a2 (.lst [.int 0])) := same_new na2
    have e2 : upd H1 a2 (.lst [.int 0]) a2 = some (.lst [.int 0]) := upd_same
    generalize upd H1 a2 (.lst [.int 0]) = H2 at s2 e2
    refine ⟨_, rfl, a2, (n : Int), _, rfl, rfl, e2, by omega, by omega, ?_, fun a3 na3 => ?_⟩
    · show 1 * ((n : Nat) : Int).toNat ≤ sizeLine
      exact Nat.le_of_lt (small1000 (by omega))
    have e0 : (List.replicate ((n : Nat) : Int).toNat [V.int 0]).flatten = nl (List.replicate n 0) := by
      rw [Int.toNat_natCast, List.flatten_replicate_singleton]
      unfold nl
      rw [List.map_replicate, List.map_replicate]
      rfl
    rw [e0]
    have s3 : Same H2 (upd H2 a3 (.lst (nl (List.replicate n 0)))) := same_new na3
    have e3 : upd H2 a3 (.lst (nl (List.replicate n 0))) a3 = some (.lst (nl (List.replicate n 0))) := upd_same
    generalize upd H2 a3 (.lst (nl (List.replicate n 0))) = H3 at s3 e3
    refine ⟨a1, a3, _, _, rfl, rfl, (s2.trans s3) _ _ e1, e3, ?_, fun a4 na4 => ?_⟩
    · rw [nl_len, List.length_replicate]
      exact Nat.le_of_lt (small1000 (by show 1 + n ≤ 1000; omega))
    have e4 : [V.int 1] ++ nl (List.replicate n 0) = nl (wsL C 0 0 n) := by
      unfold wsL
      have : (List.range (n + 1)).map (fun t => Ct.wyQ C 0 0 t) = 1 :: List.replicate n 0 := by
        rw [List.range_succ_eq_map, List.map_cons, List.map_map, Ct.wyQ_zero, Ct.wyP_zero, if_pos rfl]
        congr 1
        refine List.eq_replicate_iff.mpr ⟨by rw [List.length_map, List.length_range], fun b hb => ?_⟩
        obtain ⟨x, _, rfl⟩ := List.mem_map.mp hb
        show Ct.wyQ C 0 0 (x + 1) = 0
        rw [Ct.wyQ_zero, Ct.wyP_zero, if_neg (by omega)]
      rw [this]
      rfl
    rw [e4]
    have s4 : Same H (upd H3 a4 (.lst (nl (wsL C 0 0 n)))) := (s1.trans (s2.trans s3)).trans (same_new na4)
    have e5 : upd H3 a4 (.lst (nl (wsL C 0 0 n))) a4 = some (.lst (nl (wsL C 0 0 n))) := upd_same
    generalize upd H3 a4 (.lst (nl (wsL C 0 0 n))) = H4 at s4 e5
    refine ⟨_, rfl, _, 1, rfl, rfl, ((m + 1 : Nat) : Int), by rw [Int.natCast_add]; rfl, by omega, by omega, ?_⟩
    refine for_range (lo := 0) (n := ((m + 1 : Nat) : Int).toNat) (fun i σ H' => ∃ (q : Addr) (y4 y5 y6 y7 y8 : Option V), σ = [some (.int (m : Int)), some (.int (n : Int)), some (.ref l), some (.ref q), y4, y5, y6, y7, y8] ∧ Same H H' ∧ H' q = some (.lst (nl (if i ≤ m then wsL C 0 i n else wsL C C.length m n)))) ⟨a4, none, none, none, none, none, rfl, s4, e5⟩ ?_ ?_
    · rintro i σ Ha hi ⟨q1, y4, y5, y6, y7, y8, rfl, sa, ea⟩
      have im : i ≤ m := by omega
      rw [if_pos im] at ea
      refine ⟨_, rfl, l, _, H, rfl, .inl hl, .ofS sa, fun J hJ => ?_⟩
      obtain ⟨G, g, W⟩ := hJ.walk
      refine for_it W (fun j σ H' => ∃ (q : Addr) (y5 y6 y7 y8 : Option V), σ = [some (.int (m : Int)), some (.int (n : Int)), some (.ref l), some (.ref q), some (.int (0 + (i : Int))), y5, y6, y7, y8] ∧ Same H H' ∧ H' q = some (.lst (nl (wsL C j i n)))) ⟨q1, y5, y6, y7, y8, rfl, sa, ea⟩ (fun j σ H' _ ⟨_, _, _, _, _, _, z, _⟩ => g H' (.ofS z)) ?_ ?_
      · rintro j x σ Hb Hc hj ⟨q2, y5, y6, y7, y8, rfl, sb, eb⟩ ⟨rfl, gx⟩
        rw [List.length_map] at hj
        obtain rfl : .ref rs[j] = x := by
          have e : (rs.map V.ref)[j]? = some (.ref rs[j]) := by simp [hj]
          exact Option.some.inj (e.symm.trans gx)
        obtain ⟨c, cj, hc⟩ := hp.2 j rs[j] (List.getElem?_eq_getElem hj)
        refine ⟨rs[j], _, rfl, SqA.t (sb _ _ hc), rfl, _, _, rfl, _, _, rfl, rfl, ?_⟩
        have step := fun t => Ct.wyQ_step (C := C) (j := j) (a := i) (t := t) cj
        refine ⟨_, rfl, _, rfl, rfl, _, rfl, ite2 (fun c1 => ?_) (fun c1 => ?_)⟩
        · have ci : c.1 = i := by
            have := V.int.inj (of_decide_eq_true c1)
            omega
          simp only [List.set_cons_succ, List.set_cons_zero]
          refine ⟨_, rfl, q2, _, Hc, rfl, SqA.l eb, Kp.refl _ _, fun J2 hJ2 D nD => ?_⟩
          obtain ⟨G2, g2, W2⟩ := hJ2.walk
          refine lc_it W2 (fun r H' => Same Hc H' ∧ H' D = some (.lst (nl ((List.range r).map fun t => if t < c.2 then 0 else Ct.wyQ C j i t)))) ⟨same_new nD, upd_same⟩ (fun r H' _ z => g2 H' (.ofS z.1)) ?_ ?_
          · rintro r x H3 H4 hr ⟨s3, hD⟩ ⟨u, x1, x2, rfl, nu, rfl, g1, g2⟩
            rw [nl_len] at hr
            rw [wsL_len] at hr
            obtain rfl : .int (r : Nat) = x1 := Option.some.inj g1
            obtain rfl : .int ((Ct.wyQ C j i r : Nat) : Int) = x2 := Option.some.inj ((wsL_get hr).symm.trans g2)
            have s4 : Same H3 (upd H3 u (.tup [.int (r : Nat), .int ((Ct.wyQ C j i r : Nat) : Int)])) := same_new nu
            refine ⟨u, _, rfl, SqA.t upd_same, rfl, _, _, rfl, _, _, rfl, rfl, rfl, tyes (iteT ?_)⟩
            have s5 := s3.trans s4
            have hD2 := s4 _ _ hD
            generalize upd H3 u (.tup [.int (r : Nat), .int ((Ct.wyQ C j i r : Nat) : Int)]) = H5 at s5 hD2
            have fin : ∀ v : Nat, v = (fun t => if t < c.2 then 0 else Ct.wyQ C j i t) r → ∃ acc, H5 D = some (.lst acc) ∧ acc.length < sizeLine ∧ Same Hc (upd H5 D (.lst (acc ++ [.int (v : Int)]))) ∧ upd H5 D (.lst (acc ++ [.int (v : Int)])) D = some (.lst (nl ((List.range (r + 1)).map fun t => if t < c.2 then 0 else Ct.wyQ C j i t))) := fun v ev => by
              refine ⟨_, hD2, ?_, same_over s5 nD, ?_⟩
              · rw [nl_len, List.length_map, List.length_range]
                exact small1000 (by omega)
              · rw [upd_same, List.range_succ, List.map_append, ev]
                unfold nl
                rw [List.map_append, List.map_append]
                rfl
            refine ⟨_, rfl, _, rfl, _, _, rfl, rfl, _, rfl, ite2 (fun c2 => ?_) (fun c2 => ?_)⟩
            · have c3 := of_decide_eq_true c2
              exact fin 0 (if_pos (by omega)).symm
            · have c3 := of_decide_eq_false (show decide ((r : Int) < (c.2 : Int)) = false by simpa using c2)
              exact ⟨_, rfl, fin _ (if_neg (by omega)).symm⟩
          · rintro H3 ⟨s3, hD⟩
            rw [nl_len, wsL_len] at hD
            refine ⟨D, _, _, y7, y8, rfl, sb.trans s3, ?_⟩
            rw [hD]
            congr 3
            unfold wsL
            exact List.map_congr_left fun t _ => by rw [step t, if_pos ci]
        · have ci : ¬ c.1 = i := fun z => c1 (decide_eq_true (by rw [z]; simp))
          exact ⟨q2, _, _, y7, y8, rfl, sb, by rw [eb]; congr 3; unfold wsL; exact List.map_congr_left fun t _ => by rw [step t, if_neg ci]⟩
      · rintro σ Hb ⟨q2, y5, y6, y7, y8, rfl, sb, eb⟩
        rw [List.length_map] at eb
        refine ⟨_, rfl, _, rfl, _, _, rfl, rfl, _, rfl, ite2 (fun c1 => ?_) (fun c1 => ?_)⟩
        · have im1 : i < m := by
            have := of_decide_eq_true c1
            omega
          refine ⟨_, rfl, q2, _, Hb, rfl, SqA.l eb, Kp.refl _ _, fun J2 hJ2 D nD => ?_⟩
          obtain ⟨G2, g2, W2⟩ := hJ2.walk
          refine lc_it W2 (fun r H' => Same Hb H' ∧ H' D = some (.lst (nl ((List.range r).map fun t => Ct.wyP C (i + 1) t)))) ⟨same_new nD, upd_same⟩ (fun r H' _ z => g2 H' (.ofS z.1)) ?_ ?_
          · rintro r x H3 H4 hr ⟨s3, hD⟩ ⟨u, x1, x2, rfl, nu, rfl, g1, g2⟩
            rw [nl_len] at hr
            rw [wsL_len] at hr
            obtain rfl : .int (r : Nat) = x1 := Option.some.inj g1
            obtain rfl : .int ((Ct.wyQ C rs.length i r : Nat) : Int) = x2 := Option.some.inj ((wsL_get hr).symm.trans g2)
            have s4 : Same H3 (upd H3 u (.tup [.int (r : Nat), .int ((Ct.wyQ C rs.length i r : Nat) : Int)])) := same_new nu
            refine ⟨u, _, rfl, SqA.t upd_same, rfl, _, _, rfl, _, _, rfl, rfl, rfl, tyes (iteT ?_)⟩
            have s5 := s3.trans s4
            have hD2 := s4 _ _ hD
            generalize upd H3 u (.tup [.int (r : Nat), .int ((Ct.wyQ C rs.length i r : Nat) : Int)]) = H5 at s5 hD2
            have fin : ∀ v : Nat, v = (fun t => Ct.wyP C (i + 1) t) r → ∃ acc, H5 D = some (.lst acc) ∧ acc.length < sizeLine ∧ Same Hb (upd H5 D (.lst (acc ++ [.int (v : Int)]))) ∧ upd H5 D (.lst (acc ++ [.int (v : Int)])) D = some (.lst (nl ((List.range (r + 1)).map fun t => Ct.wyP C (i + 1) t))) := fun v ev => by
              refine ⟨_, hD2, ?_, same_over s5 nD, ?_⟩
              · rw [nl_len, List.length_map, List.length_range]
                exact small1000 (by omega)
              · rw [upd_same, List.range_succ, List.map_append, ev]
                unfold nl
                rw [List.map_append, List.map_append]
                rfl
            have wp := Ct.wyP_step (C := C) (a := i) (t := r)
            rw [← (show rs.length = C.length from hp.1)] at wp
            refine ⟨_, rfl, ?_⟩
            refine ⟨_, rfl, _, _, rfl, rfl, _, rfl, ite2 (fun c2 => ?_) (fun c2 => ?_)⟩
            · have c3 := of_decide_eq_true c2
              have z := fin (Ct.wyQ C rs.length i r + Ct.wyQ C rs.length i (r - 1)) (by show _ = Ct.wyP C (i + 1) r; rw [wp, if_pos (by omega)])
              rw [Int.natCast_add] at z
              refine ⟨_, rfl, _, rfl, (r : Int), 1, rfl, rfl, q2, _, (r : Int) - 1, _, rfl, rfl, SqA.l (s5 _ _ eb), ?_, _, _, rfl, rfl, z⟩
              rw [show (r : Int) - 1 = ((r - 1 : Nat) : Int) by omega]
              exact atI_nat (wsL_get (by omega))
            · have c3 := of_decide_eq_false (show decide (0 < (r : Int)) = false by simpa using c2)
              have z := fin (Ct.wyQ C rs.length i r + 0) (by show _ = Ct.wyP C (i + 1) r; rw [wp, if_neg (by omega)])
              rw [Int.natCast_add] at z
              exact ⟨_, _, rfl, rfl, z⟩
          · rintro H3 ⟨s3, hD⟩
            rw [nl_len, wsL_len] at hD
            exact ⟨D, _, _, _, _, _, rfl, sb.trans s3, by rw [if_pos (by omega)]; exact hD⟩
        · have e : i = m := by
            have := of_decide_eq_false (show decide (0 + (i : Int) < (m : Int)) = false by simpa using c1)
            omega
          subst e
          exact ⟨q2, _, _, _, _, _, rfl, sb, by rw [if_neg (by omega), ← (show rs.length = C.length from hp.1)]; exact eb⟩
    · rintro σ Ha ⟨q1, y4, y5, y6, y7, y8, rfl, sa, ea⟩
      rw [if_neg (by omega)] at ea
      have get : (nl (wsL C C.length m n))[n]? = some (.int ((Ct.wyN C m n : Nat) : Int)) := by
        rw [wsL_get (by omega), Ct.wyQ_end cm]
      exact ⟨_, rfl, _, rfl, q1, _, (n : Int), _, rfl, rfl, SqA.l ea, atI_nat get, q _ sa⟩
end
end Sh

namespace Sh
open PySem PySem.Spec PyProof.Rows L2 LamX
/-! ### the program: all papers -/
theorem pi_seqK {X : Cx} {tg l : Expr} {tl : TE} (K : PySem.W.Frag) (hl : PE X l tl) (hK : X.K = K := by rfl) : PI X tg l (iSeq K tl) := hK ▸ pi_seq hl
theorem walk_out {J : It} {n : Nat} {G : Hp → Prop} {Y : Nat → Hp → V → Hp → Prop} {B : (Hp → Prop) → V → Hp → Prop} {H0 : Hp} {Qd : Hp → Prop} (w : Walk J n G Y) (Pv : Nat → Hp → Prop) (h0 : Pv 0 H0) (hG : ∀ i H, i ≤ n → Pv i H → G H)
    (hs : ∀ i x H H', i < n → Pv i H → Y i H x H' → B (Pv (i + 1)) x H') (hd : ∀ H, Pv n H → Qd H) :
    ∃ W : Nat → Nat → Hp → Prop, (∃ m, W 0 m H0) ∧ ∀ i m H, W i m H → (J.stop i H ∧ Qd H) ∨ (J.go i H ∧ ∃ Nx : Hp → Prop, (∀ H', Nx H' → ∃ m', m' < m ∧ W (i + 1) m' H') ∧ ∀ x H', J.yld i H x H' → B Nx x H') := by
  refine ⟨fun i m H => m = n - i ∧ i ≤ n ∧ Pv i H, ⟨n, by simp, Nat.zero_le _, h0⟩, ?_⟩
  rintro i m H ⟨rfl, hi, p⟩
  have q := hG i H hi p
  by_cases hlt : i < n
  · exact .inr ⟨w.goes i H hlt q, Pv (i + 1), fun H' p' => ⟨n - (i + 1), by omega, rfl, hlt, p'⟩, fun x H' y => hs i x H H' hlt p (w.yields i H x H' hlt q y)⟩
  · have e : i = n := by omega
    subst e
    exact .inl ⟨w.stops H q, hd H p⟩
end Sh

namespace Sh
open PySem PySem.Spec PyProof.Rows L2
/-! ### k46: sized, due -/
def spSized (K : PySem.W.Frag) : Sp := fun vs H Q _ => ∃ (v : V) (ps px : Addr) (size : Nat) (h t : Int) (ds : List Int) (st X : List Nat), vs = [v, .ref ps, .int (size : Int), .ref px] ∧ SeaA K H v h t ds ∧ ds.length ≤ 60 ∧ SqL K H ps (ni st) ∧ (∀ s ∈ st, s < ds.length) ∧ st.length ≤ 100 ∧ SqL K H px (ni X) ∧ (∀ i ∈ X, i < ds.length) ∧ X.length ≤ 60 ∧ size ≤ 60 ∧
  ∀ H', Same H H' → Q (.int ((Ct.wyN (stepsC h t ds X st) X.length size : Nat) : Int)) H'
theorem Prs.more {H H' : Hp} {rs : List Addr} {C : List (Nat × Nat)} {p : Addr} {c : Nat × Nat} (h : Prs H rs C) (k : ∀ a xs, H a = some (.tup xs) → H' a = some (.tup xs)) (hp : H' p = some (.tup [.int ((c.1 : Nat) : Int), .int ((c.2 : Nat) : Int)])) : Prs H' (rs ++ [p]) (C ++ [c]) := by
  refine ⟨by rw [List.length_append, List.length_append, h.1]; rfl, fun j q e => ?_⟩
  by_cases z : j < rs.length
  · rw [List.getElem?_append_left z] at e
    obtain ⟨d, e1, e2⟩ := h.2 j q e
    exact ⟨d, by rw [List.getElem?_append_left (by rw [← h.1]; exact z)]; exact e1, k _ _ e2⟩
  · have z' : rs.length ≤ j := by omega
    rw [List.getElem?_append_right z'] at e
    have j0 : j - rs.length = 0 := by
      cases q0 : j - rs.length with
      | zero => rfl
      | succ n => rw [q0] at e; simp at e
    rw [j0] at e
    obtain rfl : p = q := Option.some.inj e
    exact ⟨c, by rw [List.getElem?_append_right (by rw [← h.1]; exact z'), ← h.1, j0]; rfl, hp⟩
theorem upto_perm {ds ns : List Int} {X : List Nat} {m : Int} (p : ns.Perm (X.map fun i => ds.getD i 0)) : (ns.filter fun d => decide (d ≤ m)).length = upto ds X m := by
  rw [(p.filter _).length_eq, List.filter_map, List.length_map]
  rfl
theorem ml_at {h t : Int} {k i : Nat} (hi : i < k) : ((ml h t k k).map V.int)[i]? = some (.int (mk h t k (i : Int))) := by
  unfold ml
  rw [List.getElem?_map, List.getElem?_map, List.getElem?_range hi]
  rfl
theorem upto_le {ds : List Int} {X : List Nat} {m : Int} : upto ds X m ≤ X.length := List.length_filter_le _ _
abbrev s__law_sized : Stmt := topS 39
theorem sc__law_sized : FnScope (["_law_pond", "_law_steps", "_law_size", "_law_some", "_law_marks_here", "_law_deep", "_law_least_among", "_law_whom", "_law_least", "_law_at", "_law_one"] : List Str) (["_law_pond", "_law_steps", "_law_size", "_law_some"] : List Str) (defScope s__law_sized) := ⟨rfl, rfl, rfl, by decide +kernel, rfl, by decide +kernel, by decide +kernel⟩
theorem b__law_sized (kV doc pm : Value) (an : Option Addr) (cdv ct : Value) (us : List Value) (hl : us.length = (["_law_pond", "_law_steps", "_law_size", "_law_some"] : List Str).length) : bindArgs (PySem.W.fnOf "_law_sized" "_law_sized" (defArgs s__law_sized) (defBody s__law_sized) (defScope s__law_sized) .none kV doc pm an cdv ct) ⟨us, []⟩ = pure ((["_law_pond", "_law_steps", "_law_size", "_law_some"] : List Str).zip us) :=
  match us, hl with | [_, _, _, _], _ => rfl
section
variable {P : Program} {w : World} {K : PySem.W.Frag} {mg : Str → Option Value} {base : Heap}
theorem ok_sized {k : Nat} (D : Df K mg "_law_sized" s__law_sized) (T : Bt mg) (O__law_marks : Ok P w K mg base k "_law_marks" s__law_marks ["_law_pond"] (spMarks K)) (O__law_ways : Ok P w K mg base k "_law_ways" s__law_ways ["_law_many_all", "_law_size", "_law_least_among"] (spWays K)) : Ok P w K mg base (k + 1) "_law_sized" s__law_sized ["_law_pond", "_law_steps", "_law_size", "_law_some"] (spSized K) := by
  refine D.ok sc__law_sized b__law_sized (fun vs H Q E h => ?_) (fun f cdv A outer s H vs Q E hr h => ?_)
  · obtain ⟨v, ps, px, size, h, t, ds, st, X, rfl, _⟩ := h
    rfl
  · obtain ⟨v, ps, px, size, h, t, ds, st, X, rfl, hv, d60, hs, sl, s100, hx, xl, x60, z60, q⟩ := h
    refine ⟨_, (pss_cons (ps_set (i := 4) sc__law_sized.nd rfl (.inr rfl) (pe_fn O__law_marks (hr.mono (by omega)) (pa_cons (pv 0) pa_nil)))
      (pss_cons (ps_set (i := 5) sc__law_sized.nd rfl (.inr rfl) (pe_callB cr_sortedI (by rfl) T.sorted_ (by decide +kernel) (pa_cons (pe_lc (own := [("_law_whom", 7)]) (g := (gName 7)) (tt := tYes) (by rfl) sc__law_sized.nd (pi_seq (pv 3)) (blkOk_by (own := [("_law_whom", 7)]) (N := (["_law_pond", "_law_steps", "_law_size", "_law_some", "_law_marks_here", "_law_deep", "_law_least_among", "_law_whom", "_law_least", "_law_at", "_law_one"] : List Str)) (sc := defScope s__law_sized) (by decide +kernel)) (fun _ _ _ _ _ => (pg_name (i := 7) sc__law_sized.nd rfl (.inl rfl))) (fun _ _ _ _ _ => pts_nil) (fun _ _ _ _ _ => (pe_ix (ix_ltK K) (pe_ix (ix_ltK K) (pv 0) pe_int (fun _ _ => rfl)) (pv 7) (fun _ _ => rfl)))) pa_nil)))
      (pss_cons (ps_setLc (i := 6) (own := [("_law_least", 8), ("_law_at", 9)]) (g := (gSeq K 2 (gCons (gName 8) (gCons (gName 9) gNil)))) (tt := tYes) (by rfl) sc__law_sized.nd rfl rfl (sw_true rfl rfl rfl (by decide +kernel)) (pi_enumA (by rfl) T.enumerate_ (pa_cons (pv 1) pa_nil)) (blkOk_by (own := [("_law_least", 8), ("_law_at", 9)]) (N := (["_law_pond", "_law_steps", "_law_size", "_law_some", "_law_marks_here", "_law_deep", "_law_least_among", "_law_whom", "_law_least", "_law_at", "_law_one"] : List Str)) (sc := defScope s__law_sized) (by decide +kernel)) (fun _ _ _ _ _ => (pg_seq rfl (pgs_cons (pg_name (i := 8) sc__law_sized.nd rfl (.inl rfl)) (pgs_cons (pg_name (i := 9) sc__law_sized.nd rfl (.inr rfl)) pgs_nil)))) (fun _ _ _ _ _ => pts_nil) (fun _ _ _ _ _ => (pe_tup (pa_cons (pe_callB (call_lenK K) (by rfl) T.len_ PySem.boot_len (pa_cons (pe_lc (own := [("_law_one", 10)]) (g := (gName 10)) (by rfl) sc__law_sized.nd (pi_seqK K (pv 5)) (blkOk_by (own := [("_law_one", 10)]) (N := (["_law_pond", "_law_steps", "_law_size", "_law_some", "_law_marks_here", "_law_deep", "_law_least_among", "_law_whom", "_law_least", "_law_at", "_law_one"] : List Str)) (sc := { kind := ScopeKind.function, names := [(".0", NameKind.local), ("_law_least", NameKind.local), ("_law_at", NameKind.cell), ("len", NameKind.globalImplicit), ("_law_deep", NameKind.cell), ("_law_marks_here", NameKind.cell)], isGenerator := false, isCoroutine := false }) (by decide +kernel)) (fun _ _ _ _ _ => (pg_name (i := 10) sc__law_sized.nd rfl (.inl rfl))) (fun _ _ _ _ _ => (pts_one (pt_cmpR op_le (pv 10) (pe_ix (ix_ltK K) (pv 4) (pv 9) (fun _ _ => rfl)) (nomark _)))) (fun _ _ _ _ _ => (pv 10))) pa_nil)) (pa_cons (pe_op op_add (pv 8) pe_int) pa_nil)))))
      (pss_one (ps_ret (pe_fn O__law_ways (hr.mono (by omega)) (pa_cons (pe_callB call_len_seq (by rfl) T.len_ PySem.boot_len (pa_cons (pv 5) pa_nil)) (pa_cons (pv 2) (pa_cons (pv 6) pa_nil))))))))), ?_⟩
    refine ⟨_, rfl, v, h, t, ds, rfl, hv, d60, fun H1 pm s1 nm hm => ?_⟩
    obtain ⟨p, pd, rfl, hp, hd⟩ := hv
    have dg : ∀ {i : Nat}, i < ds.length → (ds.map V.int)[i]? = some (.int (ds.getD i 0)) := fun {i} hi => by simp [hi]
    refine ⟨_, rfl, px, _, H, rfl, .inl hx, .ofS s1, fun J hJ C nC => ?_⟩
    obtain ⟨G, g, W⟩ := hJ.walk
    refine lc_it W (fun j H' => Same H1 H' ∧ H' C = some (.lst (((X.take j).map fun i => ds.getD i 0).map V.int))) ⟨same_new nC, upd_same⟩ (fun j H' _ z => g H' (.ofS (s1.trans z.1))) ?_ ?_
    · rintro j x H3 H4 hj ⟨s3, hC⟩ ⟨rfl, gx⟩
      rw [ni_len] at hj
      obtain rfl : .int ((X[j] : Nat) : Int) = x := Option.some.inj ((ni_get hj).symm.trans gx)
      have ok := xl _ (List.getElem_mem hj)
      have s13 := s1.trans s3
      refine ⟨rfl, tyes (iteT ?_)⟩
      refine ⟨_, rfl, p, _, 2, .ref pd, rfl, rfl, Same.sqA s13 hp, rfl, _, rfl, pd, _, _, .int (ds.getD X[j] 0), rfl, rfl, Same.sqA s13 hd, atI_nat (dg ok), _, hC, ?_, same_over s3 nC, ?_⟩
      · rw [List.length_map, List.length_map, List.length_take]
        exact small1000 (by omega)
      · rw [upd_same, take_succ_get hj, List.map_append, List.map_append]
        rfl
    rintro H2 ⟨s2, hC⟩
    rw [ni_len, List.take_length] at hC
    refine ⟨C, _, rfl, SqL.of hC, fun ns sp pn so nn => ?_⟩
    have s3 : Same H2 (upd H2 sp (.lst (ns.map V.int))) := same_new nn
    have e3 : upd H2 sp (.lst (ns.map V.int)) sp = some (.lst (ns.map V.int)) := upd_same
    generalize upd H2 sp (.lst (ns.map V.int)) = H3 at s3 e3
    have s03 := s1.trans (s2.trans s3)
    have ln : ns.length = X.length := by rw [pn.length_eq, List.length_map]
    refine ⟨_, rfl, ps, _, H, rfl, .inl hs, .ofS s03, fun J hJ D nD => ?_⟩
    obtain ⟨G, g, W⟩ := hJ.walk
    refine lc_it W (fun r H' => ∃ rs : List Addr, Same H3 H' ∧ H' D = some (.lst (rs.map V.ref)) ∧ Prs H' rs ((List.range r).map fun r => (upto ds X (mk h t ds.length ((st.getD r 0 : Nat) : Int)), r + 1))) ⟨[], same_new nD, upd_same, rfl, fun j p e => by simp at e⟩ (fun r H' _ z => g H' (.ofS (s03.trans z.choose_spec.1))) ?_ ?_
    · rintro r x H4 H5 hr ⟨rs, s4, hD, pr⟩ ⟨u, x1, x2, rfl, nu, rfl, g1, g2⟩
      rw [ni_len] at hr
      obtain rfl : .int (r : Nat) = x1 := Option.some.inj g1
      obtain rfl : .int ((st[r] : Nat) : Int) = x2 := Option.some.inj ((ni_get hr).symm.trans g2)
      have s5 : Same H4 (upd H4 u (.tup [.int (r : Nat), .int ((st[r] : Nat) : Int)])) := same_new nu
      refine ⟨u, _, rfl, SqA.t upd_same, rfl, _, _, rfl, _, _, rfl, rfl, rfl, tyes (iteT ?_)⟩
      have s35 := s4.trans s5
      have hD5 := s5 _ _ hD
      have pr5 := pr.same s5
      generalize upd H4 u (.tup [.int (r : Nat), .int ((st[r] : Nat) : Int)]) = H5 at s35 hD5 pr5
      have sr : st[r] < ds.length := sl _ (List.getElem_mem hr)
      have er : st.getD r 0 = st[r] := by simp [hr]
      obtain ⟨mm, emm⟩ : ∃ mm : Int, mm = mk h t ds.length ((st[r] : Nat) : Int) := ⟨_, rfl⟩
      have s05 := s2.trans (s3.trans s35)
      refine ⟨_, rfl, sp, _, H3, rfl, SqA.l e3, .ofS s35, fun J2 hJ2 D2 nD2 => ?_⟩
      obtain ⟨G2, g2, W2⟩ := hJ2.walk
      refine lc_it W2 (fun j H' => Same H5 H' ∧ H' D2 = some (.lst (((ns.take j).filter fun d => decide (d ≤ mm)).map V.int))) ⟨same_new nD2, upd_same⟩ (fun j H' _ z => g2 H' (.ofS (s35.trans z.1))) ?_ ?_
      · rintro j x H6 H7 hj ⟨s6, h6⟩ ⟨rfl, gx⟩
        rw [List.length_map] at hj
        obtain rfl : .int ns[j] = x := by
          have e : (ns.map V.int)[j]? = some (.int ns[j]) := by simp [hj]
          exact Option.some.inj (e.symm.trans gx)
        refine ⟨rfl, ?_⟩
        refine ⟨_, rfl, _, rfl, _, rfl, pm, _, ((st[r] : Nat) : Int), _, rfl, rfl, SqA.l ((s05.trans s6) _ _ hm), atI_nat (ml_at sr), _, _, rfl, rfl, _, rfl, ite2 (fun c => ?_) (fun c => ?_)⟩
        · have c0 := of_decide_eq_true c
          rw [← emm] at c0
          refine ⟨_, rfl, _, h6, ?_, same_over s6 nD2, ?_⟩
          · rw [List.length_map]
            have h1 := List.length_filter_le (fun d => decide (d ≤ mm)) (ns.take j)
            rw [List.length_take] at h1
            exact small1000 (by omega)
          · rw [upd_same, take_succ_get hj, List.filter_append, List.map_append, List.filter_cons_of_pos (by simpa using c0)]
            rfl
        · have c0 : ¬ ns[j] ≤ mm := fun z => c (decide_eq_true (by rw [← emm]; exact z))
          refine ⟨s6, ?_⟩
          rw [h6, take_succ_get hj, List.filter_append, List.filter_cons_of_neg (by simpa using c0), List.filter_nil, List.append_nil]
      rintro H6 ⟨s6, h6⟩
      rw [List.length_map, List.take_length] at h6
      refine ⟨D2, _, rfl, .inl (SqL.of h6), ?_⟩
      rw [List.length_map, upto_perm pn]
      refine ⟨_, rfl, _, _, rfl, rfl, (by show 2 ≤ sizeLine; decide), fun tq ntq => ?_⟩
      have s7 : Same H6 (upd H6 tq (.tup [.int ((upto ds X mm : Nat) : Int), .int ((r : Int) + 1)])) := same_new ntq
      have e7 : upd H6 tq (.tup [.int ((upto ds X mm : Nat) : Int), .int ((r : Int) + 1)]) tq = some (.tup [.int ((upto ds X mm : Nat) : Int), .int ((r : Int) + 1)]) := upd_same
      generalize upd H6 tq (.tup [.int ((upto ds X mm : Nat) : Int), .int ((r : Int) + 1)]) = H7 at s7 e7
      have s37 := s35.trans (s6.trans s7)
      refine ⟨_, (s6.trans s7) _ _ hD5, ?_, rs ++ [tq], same_over s37 nD, ?_, ?_⟩
      · rw [List.length_map, pr.1, List.length_map, List.length_range]
        exact small1000 (by omega)
      · rw [upd_same, List.map_append]
        rfl
      · rw [List.range_succ, List.map_append]
        have nDl : ∀ a xs, H7 a = some (.tup xs) → a ≠ D := fun a xs e z => by
          rw [z, (s6.trans s7) _ _ hD5] at e
          cases e
        refine (pr5.same (s6.trans s7)).more (fun a xs e => ?_) ?_
        · rw [upd_ne (nDl a xs e)]
          exact e
        · rw [upd_ne (nDl _ _ e7), e7]
          show some (HO.tup [.int ((upto ds X mm : Nat) : Int), .int ((r : Int) + 1)]) = some (HO.tup [.int ((upto ds X (mk h t ds.length ((st.getD r 0 : Nat) : Int)) : Nat) : Int), .int ((r + 1 : Nat) : Int)])
          rw [er, ← emm]
          rfl
    · rintro H4 ⟨rs, s4, hD, pr⟩
      rw [ni_len] at pr
      have s14 := s03.trans s4
      refine ⟨_, rfl, sp, _, rfl, .inl (SqL.of (s4 _ _ e3)), _, rfl, _, rfl, ?_⟩
      refine ⟨X.length, size, D, rs, stepsC h t ds X st, ?_, x60, z60, SqL.of hD, pr, ?_, fun c hc => ?_, fun H5 s5 => q _ (s14.trans s5)⟩
      · rw [List.length_map, ln]
        rfl
      · unfold stepsC
        rw [List.length_map, List.length_range]
        exact s100
      · obtain ⟨r, _, rfl⟩ := List.mem_map.mp hc
        exact upto_le
end
end Sh

namespace Sh
open PySem PySem.Spec PyProof.Rows L2
theorem ni_rev46 (L : List Nat) : (ni L).reverse = ni L.reverse := by unfold ni; rw [List.map_reverse]
theorem mvs_lt {h t : Int} {ds : List Int} (kd : Kd) (a : Nat) : ∀ i ∈ mvsOf h t ds kd a, i < ds.length := by
  have g : ∀ s, ∀ i ∈ goL h t ds s, i < ds.length := fun s i hi => List.mem_range.mp (List.mem_filter.mp hi).1
  intro i hi
  unfold mvsOf at hi
  cases kd with
  | low =>
    dsimp only at hi
    split at hi
    · cases hi
    · exact g _ i hi
  | high =>
    dsimp only at hi
    split at hi
    · exact g _ i hi
    · cases hi
  | top => exact g _ i hi
theorem mvs_len {h t : Int} {ds : List Int} (kd : Kd) (a : Nat) : (mvsOf h t ds kd a).length ≤ ds.length := by
  have g : ∀ s, (goL h t ds s).length ≤ ds.length := fun s => by
    have := List.length_filter_le (fun i => decide (ds.getD i 0 ≤ mk h t ds.length (s : Int))) (List.range ds.length)
    rw [List.length_range] at this
    exact this
  unfold mvsOf
  cases kd with
  | low =>
    dsimp only
    split
    · exact Nat.zero_le _
    · exact g _
  | high =>
    dsimp only
    split
    · exact g _
    · exact Nat.zero_le _
  | top => exact g _
theorem mvs_room {h t : Int} {ds : List Int} {L : List Nat} (hk : 0 < ds.length) (hL : Lot ds.length L) {kd : Kd} {a : Nat} (ls : LotS h t ds.length (fun i => ds.getD i 0) (mem L) kd (a : Int)) :
    (kd = .low → (mvsOf h t ds kd a).length ≤ a) ∧ (kd = .high → a + (mvsOf h t ds kd a).length < ds.length) ∧ (kd = .top → (keyL h t ds L .top (a : Int)).length + (mvsOf h t ds kd a).length ≤ ds.length) := by
  have tp := top_D h t (fun i => ds.getD i 0) hk
  have t0 := top_lo' h t ds.length
  have t1 := top_hi' h t hk
  have eGo : Gd h t ds.length (fun i => ds.getD i 0) = Gof h t ds := rfl
  rw [eGo] at tp
  unfold LotS at ls
  rw [eGo] at ls
  cases kd with
  | low =>
    refine ⟨fun _ => ?_, (fun z => by cases z), (fun z => by cases z)⟩
    obtain ⟨N, e, a1, st⟩ := ls
    obtain rfl : a = N := by omega
    have full := st.cnt_full tp a1
    rw [Ct.cnt_or] at full
    have l := Th.cnt_mono (k := ds.length) (S := Gof h t ds (a - 1)) (U := Gof h t ds a) fun i hi g => tp.up (a - 1) a i (by omega) (by omega) g
    show (if a = 0 then [] else goL h t ds (a - 1)).length ≤ _
    split
    · exact Nat.zero_le _
    · rw [goL_len]; omega
  | high =>
    refine ⟨(fun z => by cases z), fun _ => ?_, (fun z => by cases z)⟩
    obtain ⟨N, e, a1, st⟩ := ls
    have full := st.cnt_full tp.dual a1
    rw [Ct.cnt_or] at full
    have l := Th.cnt_mono (k := ds.length) (S := Th.dual ds.length (Gof h t ds) (N - 1)) (U := Th.dual ds.length (Gof h t ds) N) fun i hi g => tp.dual.up (N - 1) N i (by omega) (by omega) g
    show a + (if a + 1 < ds.length then goL h t ds (a + 1) else []).length < _
    split
    · rw [goL_len]
      have e1 : Th.dual ds.length (Gof h t ds) (N - 1) = Gof h t ds (a + 1) := by
        funext i
        show Gof h t ds (ds.length - 1 - (N - 1)) i = _
        rw [show ds.length - 1 - (N - 1) = a + 1 by omega]
      rw [e1] at l
      omega
    · show a + 0 < _
      omega
  | top =>
    refine ⟨(fun z => by cases z), (fun z => by cases z), fun _ => ?_⟩
    show _ + (goL h t ds a).length ≤ _
    rw [goL_len, show (keyL h t ds L .top (a : Int)).length = _ from kept_cnt hL a]
    have := Th.cnt_le ds.length (fun i => mem L i || Gof h t ds a i)
    rw [Ct.cnt_or] at this
    omega
theorem rgV_lo {x y : Int} {lo n : Nat} (ex : x = (lo : Int)) (ey : y = (lo : Int) + (n : Int)) : rgV x y = ni ((List.range n).map fun j => lo + j) := by
  unfold rgV ni
  rw [ex, ey, show ((lo : Int) + (n : Int) - (lo : Int)).toNat = n by omega, List.map_map]
  refine List.map_congr_left fun j _ => ?_
  show V.int ((lo : Int) + (j : Int)) = V.int ((lo + j : Nat) : Int)
  rw [Int.natCast_add]
theorem rev_up (lo n : Nat) : ((List.range n).map fun j => lo + j).reverse = (List.range n).map fun r => lo + n - 1 - r := by
  refine List.ext_getElem (by simp) fun i h1 h2 => ?_
  rw [List.getElem_reverse, List.getElem_map, List.getElem_map, List.getElem_range, List.getElem_range]
  simp at h1 h2 ⊢
  omega
end Sh

namespace Sh
open PySem PySem.Spec PyProof.Rows L2
def spDue46 (K : PySem.W.Frag) : Sp := fun vs H Q _ => ∃ (v l : V) (h t : Int) (ds : List Int) (L : List Nat), vs = [v, l] ∧ SeaA K H v h t ds ∧ LotA K H l L ∧ ds.length ≤ 60 ∧ 0 < ds.length ∧ Lot ds.length L ∧ ∀ H', Same H H' → Q (.int ((Ct.fam ds.length (Gof h t ds) (mem L) : Nat) : Int)) H'
abbrev s__law_due : Stmt := topS 40
theorem sc__law_due : FnScope (["_law_pond", "_law_lot_here", "_law_word", "_law_at", "_law_some", "_law_marks_here", "_law_count", "_law_total", "_law_movers", "_law_size", "_law_level", "_law_whom"] : List Str) (["_law_pond", "_law_lot_here"] : List Str) (defScope s__law_due) := ⟨rfl, rfl, rfl, by decide +kernel, rfl, by decide +kernel, by decide +kernel⟩
theorem b__law_due (kV doc pm : Value) (an : Option Addr) (cdv ct : Value) (us : List Value) (hl : us.length = (["_law_pond", "_law_lot_here"] : List Str).length) : bindArgs (PySem.W.fnOf "_law_due" "_law_due" (defArgs s__law_due) (defBody s__law_due) (defScope s__law_due) .none kV doc pm an cdv ct) ⟨us, []⟩ = pure ((["_law_pond", "_law_lot_here"] : List Str).zip us) :=
  match us, hl with | [_, _], _ => rfl
section
variable {P : Program} {w : World} {K : PySem.W.Frag} {mg : Str → Option Value} {base : Heap}
theorem ok_due46 {k : Nat} (D : Df K mg "_law_due" s__law_due) (T : Bt mg) (O__law_marks : Ok P w K mg base k "_law_marks" s__law_marks ["_law_pond"] (spMarks K)) (O__law_key : Ok P w K mg base k "_law_key" s__law_key ["_law_pond", "_law_lot_here"] (spKey K)) (O__law_sized : Ok P w K mg base k "_law_sized" s__law_sized ["_law_pond", "_law_steps", "_law_size", "_law_some"] (spSized K)) : Ok P w K mg base (k + 1) "_law_due" s__law_due ["_law_pond", "_law_lot_here"] (spDue46 K) := by
  refine D.ok sc__law_due b__law_due (fun vs H Q E h => ?_) (fun f cdv A outer s H vs Q E hr h => ?_)
  · obtain ⟨v, l, h, t, ds, L, rfl, _⟩ := h
    rfl
  · obtain ⟨v, l, h, t, ds, L, rfl, hv, hl, d60, d0, hL, q⟩ := h
    refine ⟨_, (pss_cons (ps_asg (pe_fn O__law_key (hr.mono (by omega)) (pa_cons (pv 0) (pa_cons (pv 1) pa_nil))) (pg_seq rfl (pgs_cons (pg_name (i := 2) sc__law_due.nd rfl (.inr rfl)) (pgs_cons (pg_name (i := 3) sc__law_due.nd rfl (.inr rfl)) (pgs_cons (pg_name (i := 4) sc__law_due.nd rfl (.inl rfl)) pgs_nil)))))
      (pss_cons (ps_asg (pe_tup (pa_cons (pe_fn O__law_marks (hr.mono (by omega)) (pa_cons (pv 0) pa_nil)) (pa_cons (pe_callB call_len_seq (by rfl) T.len_ PySem.boot_len (pa_cons (pe_ix ix_lt (pv 0) pe_int (fun _ _ => rfl)) pa_nil)) (pa_cons pe_int pa_nil)))) (pg_seq rfl (pgs_cons (pg_name (i := 5) sc__law_due.nd rfl (.inr rfl)) (pgs_cons (pg_name (i := 6) sc__law_due.nd rfl (.inl rfl)) (pgs_cons (pg_name (i := 7) sc__law_due.nd rfl (.inl rfl)) pgs_nil)))))
      (pss_cons (ps_setLc (i := 8) (own := [("_law_whom", 11)]) (g := (gName 11)) (by rfl) sc__law_due.nd rfl rfl (sw_true rfl rfl rfl (by decide +kernel)) (pi_range1 (by rfl) T.range_ (pa_cons (pv 6) pa_nil)) (blkOk_by (own := [("_law_whom", 11)]) (N := (["_law_pond", "_law_lot_here", "_law_word", "_law_at", "_law_some", "_law_marks_here", "_law_count", "_law_total", "_law_movers", "_law_size", "_law_level", "_law_whom"] : List Str)) (sc := defScope s__law_due) (by decide +kernel)) (fun _ _ _ _ _ => (pg_name (i := 11) sc__law_due.nd rfl (.inl rfl))) (fun _ _ _ _ _ => (pts_one (PW.pt (pw_and (pt_cmpR op_eq (pv 2) pe_str (nomark _)) (pw_and1 (pt_cmpR op_le (pe_ix (ix_ltK K) (pe_ix (ix_ltK K) (pv 0) pe_int (fun _ _ => rfl)) (pv 11) (fun _ _ => rfl)) (pe_ix (ix_ltK K) (pv 5) (pv 3) (fun _ _ => rfl)) (nomark _))))))) (fun _ _ _ _ _ => (pv 11)))
      (Evl.pss_cut (ps_if (PW.pt (pw_and (pt_cmpR op_eq (pv 2) pe_str (nomark _)) (pw_and1 (pt_cmpR op_gt (pv 3) pe_int (nomark _)))))
        (pss_one (ps_setLc (i := 8) (own := [("_law_whom", 11)]) (g := (gName 11)) (by rfl) sc__law_due.nd rfl rfl (sw_true rfl rfl rfl (by decide +kernel)) (pi_range1 (by rfl) T.range_ (pa_cons (pv 6) pa_nil)) (blkOk_by (own := [("_law_whom", 11)]) (N := (["_law_pond", "_law_lot_here", "_law_word", "_law_at", "_law_some", "_law_marks_here", "_law_count", "_law_total", "_law_movers", "_law_size", "_law_level", "_law_whom"] : List Str)) (sc := defScope s__law_due) (by decide +kernel)) (fun _ _ _ _ _ => (pg_name (i := 11) sc__law_due.nd rfl (.inl rfl))) (fun _ _ _ _ _ => (pts_one (pt_cmpR op_le (pe_ix (ix_ltK K) (pe_ix (ix_ltK K) (pv 0) pe_int (fun _ _ => rfl)) (pv 11) (fun _ _ => rfl)) (pe_ix (ix_ltK K) (pv 5) (pe_op op_sub (pv 3) pe_int) (fun _ _ => rfl)) (nomark _)))) (fun _ _ _ _ _ => (pv 11))))
        pss_nil)
      (Evl.pss_cut (ps_if (PW.pt (pw_and (pt_cmpR op_eq (pv 2) pe_str (nomark _)) (pw_and1 (pt_cmpR op_lt (pe_op op_add (pv 3) pe_int) (pv 6) (nomark _)))))
        (pss_one (ps_setLc (i := 8) (own := [("_law_whom", 11)]) (g := (gName 11)) (by rfl) sc__law_due.nd rfl rfl (sw_true rfl rfl rfl (by decide +kernel)) (pi_range1 (by rfl) T.range_ (pa_cons (pv 6) pa_nil)) (blkOk_by (own := [("_law_whom", 11)]) (N := (["_law_pond", "_law_lot_here", "_law_word", "_law_at", "_law_some", "_law_marks_here", "_law_count", "_law_total", "_law_movers", "_law_size", "_law_level", "_law_whom"] : List Str)) (sc := defScope s__law_due) (by decide +kernel)) (fun _ _ _ _ _ => (pg_name (i := 11) sc__law_due.nd rfl (.inl rfl))) (fun _ _ _ _ _ => (pts_one (pt_cmpR op_le (pe_ix (ix_ltK K) (pe_ix (ix_ltK K) (pv 0) pe_int (fun _ _ => rfl)) (pv 11) (fun _ _ => rfl)) (pe_ix (ix_ltK K) (pv 5) (pe_op op_add (pv 3) pe_int) (fun _ _ => rfl)) (nomark _)))) (fun _ _ _ _ _ => (pv 11))))
        pss_nil)
      (pss_cons (ps_for PassesOwn.never rfl (pi_range1 (by rfl) T.range_ (pa_cons (pe_op op_add (pe_callB call_len_seq (by rfl) T.len_ PySem.boot_len (pa_cons (pv 8) pa_nil)) pe_int) pa_nil)) (pg_name (i := 9) sc__law_due.nd rfl (.inl rfl))
        (pss_one (ps_if (pt_cmpR op_eq (pv 2) pe_str (nomark _))
            (pss_one (ps_set (i := 7) sc__law_due.nd rfl (.inl rfl) (pe_op op_add (pv 7) (pe_fn O__law_sized (hr.mono (by omega)) (pa_cons (pv 0) (pa_cons (pe_listRg (by rfl) (by rfl) T.list_ (prg_2 (by rfl) T.range_ (pe_op op_sub (pv 3) (pv 9)) (pv 3))) (pa_cons (pv 9) (pa_cons (pv 8) pa_nil))))))))
            (pss_one (ps_if (pt_cmpR op_eq (pv 2) pe_str (nomark _))
                (pss_one (ps_set (i := 7) sc__law_due.nd rfl (.inl rfl) (pe_op op_add (pv 7) (pe_fn O__law_sized (hr.mono (by omega)) (pa_cons (pv 0) (pa_cons (pe_revL (pe_listRg (by rfl) (by rfl) T.list_ (prg_2 (by rfl) T.range_ (pe_op op_add (pv 3) pe_int) (pe_op op_add (pe_op op_add (pv 3) pe_int) (pv 9))))) (pa_cons (pv 9) (pa_cons (pv 8) pa_nil))))))))
                (pss_one (ps_if (pt_cmpR op_le (pe_op op_add (pe_callB call_len_seq (by rfl) T.len_ PySem.boot_len (pa_cons (pv 4) pa_nil)) (pv 9)) (pv 3) (nomark _))
                    (pss_cons (ps_set (i := 10) sc__law_due.nd rfl (.inl rfl) (pe_op op_add (pe_callB call_len_seq (by rfl) T.len_ PySem.boot_len (pa_cons (pv 4) pa_nil)) (pv 9)))
                      (pss_one (ps_set (i := 7) sc__law_due.nd rfl (.inl rfl) (pe_op op_add (pv 7) (pe_fn O__law_sized (hr.mono (by omega)) (pa_cons (pv 0) (pa_cons (pe_listRg (by rfl) (by rfl) T.list_ (prg_2 (by rfl) T.range_ (pv 10) (pe_op op_add (pv 3) pe_int))) (pa_cons (pe_op op_sub (pe_callB call_len_seq (by rfl) T.len_ PySem.boot_len (pa_cons (pv 8) pa_nil)) (pv 9)) (pa_cons (pv 8) pa_nil)))))))))
                    (pss_one (ps_set (i := 7) sc__law_due.nd rfl (.inl rfl) (pe_op op_add (pv 7) (pe_fn O__law_sized (hr.mono (by omega)) (pa_cons (pv 0) (pa_cons (pe_revL (pe_listRg (by rfl) (by rfl) T.list_ (prg_2 (by rfl) T.range_ (pv 3) (pe_op op_add (pe_callB call_len_seq (by rfl) T.len_ PySem.boot_len (pa_cons (pv 4) pa_nil)) (pv 9))))) (pa_cons (pv 9) (pa_cons (pv 8) pa_nil)))))))))))))))
      (pss_one (ps_ret (pv 7))))))))), ?_⟩
    refine ⟨_, rfl, _, rfl, v, l, h, t, ds, L, rfl, hv, hl, d60, d0, hL, fun H1 pk px kd a X s1 nk hk hx ky => ?_⟩
    have hv1 := hv.same s1
    refine ⟨pk, _, rfl, SqA.t hk, rfl, _, _, rfl, _, _, rfl, _, _, rfl, rfl, ?_⟩
    refine ⟨_, rfl, v, h, t, ds, rfl, hv1, d60, fun H2 pm s2 nm hm => ?_⟩
    have s02 := s1.trans s2
    have hv2 := hv1.same s2
    have hx2 := s2 _ _ hx
    obtain ⟨p, pd, rfl, hp, hd⟩ := hv2
    refine ⟨_, rfl, p, _, 2, .ref pd, rfl, rfl, hp, rfl, pd, _, rfl, hd, ?_⟩
    rw [List.length_map]
    refine ⟨(by show 3 ≤ sizeLine; decide), fun tt ntt => ?_⟩
    have s3 : Same H2 (upd H2 tt (.tup [.ref pm, .int ((ds.length : Nat) : Int), .int 0])) := same_new ntt
    have e3 : upd H2 tt (.tup [.ref pm, .int ((ds.length : Nat) : Int), .int 0]) tt = some (.tup [.ref pm, .int ((ds.length : Nat) : Int), .int 0]) := upd_same
    generalize upd H2 tt (.tup [.ref pm, .int ((ds.length : Nat) : Int), .int 0]) = H3 at s3 e3
    refine ⟨tt, _, rfl, SqA.t e3, rfl, _, _, rfl, _, _, rfl, _, _, rfl, rfl, ?_⟩
    have s03 := s02.trans s3
    replace hp := Same.sqA s3 hp
    replace hd := Same.sqA s3 hd
    replace hm := s3 _ _ hm
    replace hx2 := s3 _ _ hx2
    clear s1 s2 s3 e3 hx hk hv1 s02 nm nk ntt hv
    obtain ⟨an, ea, an1⟩ : ∃ an : Nat, a = (an : Int) ∧ an < ds.length := by
      have t0 := top_lo' h t ds.length
      have t1 := top_hi' h t d0
      have ls := ky.1
      cases kd with
      | low => obtain ⟨N, e, e2, _⟩ := ls; exact ⟨N, e, by omega⟩
      | high => obtain ⟨N, e, e2, _⟩ := ls; exact ⟨ds.length - 1 - N, by omega, by omega⟩
      | top => obtain ⟨e, _⟩ := ls; exact ⟨(topI h t ds.length).toNat, by omega, by omega⟩
    subst ea
    simp only [List.set_cons_succ, List.set_cons_zero]
    -- BODY
    cases kd with
    | low =>
      refine ⟨_, rfl, _, rfl, by omega, by omega, fun C nC => ?_⟩
      refine lc_range (fun j H' => Same H3 H' ∧ H' C = some (.lst [])) ⟨same_new nC, upd_same⟩ ?_ ?_
      · rintro j H4 hj ⟨s4, hC⟩
        refine ⟨rfl, ?_⟩
        exact ⟨_, rfl, rfl, _, rfl, iteF (iteF ⟨s4, hC⟩)⟩
      rintro H4 ⟨s34, hC⟩
      refine ⟨fun σ' H' => ∃ (C : Addr) (y9 y10 y11 : Option V), σ' = [some (V.ref p), some l, some (V.str "low"), some (V.int (an : Int)), some (V.ref px), some (V.ref pm), some (V.int ((ds.length : Nat) : Int)), some (V.int 0), some (V.ref C), y9, y10, y11] ∧ Same H3 H' ∧ H' C = some (.lst (ni (mvsOf h t ds .low an))), ?_, ?_⟩
      · refine ⟨_, rfl, rfl, _, rfl, iteT ?_⟩
        refine ⟨_, rfl, _, _, rfl, rfl, _, rfl, ite2 (fun c1 => ?_) (fun c1 => ?_)⟩
        · have c2 := of_decide_eq_true c1
          refine ⟨_, rfl, _, rfl, by omega, by omega, fun C2 nC => ?_⟩
          refine lc_range (fun j H' => Same H3 H' ∧ H' C2 = some (.lst (ni ((List.range j).filter fun i => decide (ds.getD i 0 ≤ mk h t ds.length ((an - 1 : Nat) : Int)))))) ⟨s34.trans (same_new nC), upd_same⟩ ?_ ?_
          · rintro j H5 hj ⟨s4, hC⟩
            have hj' : j < ds.length := by omega
            refine ⟨rfl, ?_⟩
            have dgj : (ds.map V.int)[j]? = some (.int (ds.getD j 0)) := by simp [hj']
            refine ⟨_, rfl, p, _, 2, .ref pd, rfl, rfl, Same.sqA s4 hp, rfl, _, rfl, pd, _, (j : Int), .int (ds.getD j 0), rfl, by show V.int (0 + (j : Int)) = _; rw [Int.zero_add], Same.sqA s4 hd, atI_nat dgj, _, rfl, _, rfl, _, _, rfl, rfl, pm, _, (an : Int) - 1, _, rfl, rfl, SqA.l (s4 _ _ hm), by rw [show (an : Int) - 1 = ((an - 1 : Nat) : Int) by omega]; exact atI_nat (ml_at (i := an - 1) (by omega)), _, _, rfl, rfl, _, rfl, ite2 (fun c => ?_) (fun c => ?_)⟩
            · have c0 := of_decide_eq_true c
              refine ⟨_, rfl, _, hC, ?_, same_over s4 (s34.free nC), ?_⟩
              · rw [ni_len]
                have h1 := List.length_filter_le (fun i => decide (ds.getD i 0 ≤ mk h t ds.length ((an - 1 : Nat) : Int))) (List.range j)
                rw [List.length_range] at h1
                exact small1000 (by omega)
              · rw [upd_same, List.range_succ, List.filter_append, ni_app, List.filter_cons_of_pos (by simpa using c0)]
                show some (HO.lst (_ ++ [V.int (0 + (j : Int))])) = _
                rw [Int.zero_add]
                rfl
            · have c0 : ¬ ds.getD j 0 ≤ mk h t ds.length ((an - 1 : Nat) : Int) := fun z => c (decide_eq_true z)
              refine ⟨s4, ?_⟩
              rw [hC, List.range_succ, List.filter_append, List.filter_cons_of_neg (by simpa using c0), List.filter_nil, List.append_nil]
          · rintro H5 ⟨s5, hC⟩
            refine ⟨C2, _, _, _, rfl, s5, ?_⟩
            rw [hC]
            congr 2
            show ni _ = ni (if an = 0 then [] else goL h t ds (an - 1))
            rw [if_neg (by omega)]
            rfl
        · have c2 := of_decide_eq_false (show decide (0 < (an : Int)) = false by simpa using c1)
          refine ⟨C, _, _, _, rfl, s34, ?_⟩
          rw [hC]
          show _ = some (HO.lst (ni (if an = 0 then [] else goL h t ds (an - 1))))
          rw [if_pos (by omega)]
          rfl
      rintro σ Hm ⟨C, y9, y10, y11, rfl, sm, hC⟩
      refine ⟨fun σ' H' => ∃ (C : Addr) (y9 y10 y11 : Option V), σ' = [some (V.ref p), some l, some (V.str "low"), some (V.int (an : Int)), some (V.ref px), some (V.ref pm), some (V.int ((ds.length : Nat) : Int)), some (V.int 0), some (V.ref C), y9, y10, y11] ∧ Same H3 H' ∧ H' C = some (.lst (ni (mvsOf h t ds .low an))), ?_, ?_⟩
      · exact ⟨_, rfl, rfl, _, rfl, iteF (iteF ⟨C, _, _, _, rfl, sm, hC⟩)⟩
      rintro σ Hm ⟨C, y9, y10, y11, rfl, sm, hC⟩
      obtain ⟨MV, eMV⟩ : ∃ MV : List Nat, MV = mvsOf h t ds .low an := ⟨_, rfl⟩
      rw [← eMV] at hC
      have sum := due_sum d0 hL ky.1 (f := X.length) (fun e => by first | (cases e; done) | rw [ky.2])
      rw [show mvsOf h t ds .low an = MV from eMV.symm] at sum
      have mlen : MV.length ≤ ds.length := by
        rw [eMV]
        exact mvs_len .low an
      have mlt : ∀ i ∈ MV, i < ds.length := by
        rw [eMV]
        exact mvs_lt .low an
      refine ⟨_, rfl, C, _, rfl, .inl (SqL.of hC), _, _, rfl, rfl, ((MV.length + 1 : Nat) : Int), by rw [ni_len, Int.natCast_add]; rfl, by omega, by omega, ?_⟩
      refine for_range (lo := 0) (n := ((MV.length + 1 : Nat) : Int).toNat) (fun i σ H' => ∃ (y9 y10 y11 : Option V), σ = [some (V.ref p), some l, some (V.str "low"), some (V.int (an : Int)), some (V.ref px), some (V.ref pm), some (V.int ((ds.length : Nat) : Int)), some (V.int ((((List.range i).map fun o => dueT h t ds .low an X.length MV o).sum : Nat) : Int)), some (V.ref C), y9, y10, y11] ∧ Same Hm H') ⟨_, _, _, rfl, Same.refl _⟩ ?_ ?_
      · rintro i σ Hi hi ⟨y9, y10, y11, rfl, si⟩
        have sj := sm.trans si
        have iM : i ≤ MV.length := by omega
        refine ⟨_, rfl, rfl, _, rfl, iteT ?_⟩
        have room := (mvs_room d0 hL ky.1).1 rfl
        rw [show mvsOf h t ds .low an = MV from eMV.symm] at room
        refine ⟨_, rfl, _, rfl, _, rfl, _, rfl, _, _, rfl, rfl, _, rfl, _, _, rfl, rfl, ⟨by omega, by omega, by omega, by omega, by omega⟩, fun ps nps => ?_⟩
        rw [rgV_lo (lo := an - i) (n := i) (by omega) (by omega)]
        have ss : Same Hi (upd Hi ps (.lst (ni ((List.range i).map fun j => an - i + j)))) := same_new nps
        have es : upd Hi ps (.lst (ni ((List.range i).map fun j => an - i + j))) ps = some (.lst (ni ((List.range i).map fun j => an - i + j))) := upd_same
        generalize upd Hi ps (.lst (ni ((List.range i).map fun j => an - i + j))) = Hs at ss es
        have s3s := sj.trans ss
        refine ⟨_, rfl, _, rfl, .ref p, ps, C, i, h, t, ds, (List.range i).map fun j => an - i + j, MV, ?_, ⟨p, pd, rfl, Same.sqA s3s hp, Same.sqA s3s hd⟩, d60, SqL.of es, fun s hs => ?_, ?_, SqL.of ((si.trans ss) _ _ hC), mlt, by omega, by omega, fun Hz sz => ?_⟩
        · show [V.ref p, V.ref ps, V.int _, V.ref C] = _
          congr 3
          show V.int (0 + (i : Int)) = V.int ((i : Nat) : Int)
          exact congrArg V.int (by omega)
        · obtain ⟨r, hr, rfl⟩ := List.mem_map.mp hs
          have := List.mem_range.mp hr
          omega
        · rw [List.length_map, List.length_range]
          omega
        refine ⟨_, _, rfl, rfl, some (V.int (0 + (i : Int))), y10, y11, ?_, (si.trans ss).trans sz⟩
        have e : (((List.range (i + 1)).map fun o => dueT h t ds .low an X.length MV o).sum : Nat) = ((List.range i).map fun o => dueT h t ds .low an X.length MV o).sum + Ct.wyN (stepsC h t ds MV ((List.range i).map fun j => an - i + j)) MV.length (i) := by
          rw [List.range_succ, List.map_append, List.sum_append]
          congr 1
        rw [e, Int.natCast_add]
        rfl
      · rintro σ Hi ⟨y9, y10, y11, rfl, si⟩
        refine ⟨_, rfl, ?_⟩
        rw [Int.toNat_natCast, ← sum]
        exact q _ (s03.trans (sm.trans si))
    | high =>
      refine ⟨_, rfl, _, rfl, by omega, by omega, fun C nC => ?_⟩
      refine lc_range (fun j H' => Same H3 H' ∧ H' C = some (.lst [])) ⟨same_new nC, upd_same⟩ ?_ ?_
      · rintro j H4 hj ⟨s4, hC⟩
        refine ⟨rfl, ?_⟩
        exact ⟨_, rfl, rfl, _, rfl, iteF (iteF ⟨s4, hC⟩)⟩
      rintro H4 ⟨s34, hC⟩
      refine ⟨fun σ' H' => ∃ (C : Addr) (y9 y10 y11 : Option V), σ' = [some (V.ref p), some l, some (V.str "high"), some (V.int (an : Int)), some (V.ref px), some (V.ref pm), some (V.int ((ds.length : Nat) : Int)), some (V.int 0), some (V.ref C), y9, y10, y11] ∧ Same H3 H' ∧ H' C = some (.lst (ni ([]))), ?_, ?_⟩
      · exact ⟨_, rfl, rfl, _, rfl, iteF (iteF ⟨C, _, _, _, rfl, s34, hC⟩)⟩
      rintro σ Hm ⟨C, y9, y10, y11, rfl, sm, hC⟩
      refine ⟨fun σ' H' => ∃ (C : Addr) (y9 y10 y11 : Option V), σ' = [some (V.ref p), some l, some (V.str "high"), some (V.int (an : Int)), some (V.ref px), some (V.ref pm), some (V.int ((ds.length : Nat) : Int)), some (V.int 0), some (V.ref C), y9, y10, y11] ∧ Same H3 H' ∧ H' C = some (.lst (ni (mvsOf h t ds .high an))), ?_, ?_⟩
      · refine ⟨_, rfl, rfl, _, rfl, iteT ?_⟩
        refine ⟨_, rfl, _, _, rfl, rfl, _, rfl, _, _, rfl, rfl, _, rfl, ite2 (fun c1 => ?_) (fun c1 => ?_)⟩
        · have c2 := of_decide_eq_true c1
          refine ⟨_, rfl, _, rfl, by omega, by omega, fun C2 nC => ?_⟩
          refine lc_range (fun j H' => Same H3 H' ∧ H' C2 = some (.lst (ni ((List.range j).filter fun i => decide (ds.getD i 0 ≤ mk h t ds.length ((an + 1 : Nat) : Int)))))) ⟨sm.trans (same_new nC), upd_same⟩ ?_ ?_
          · rintro j H5 hj ⟨s4, hC⟩
            have hj' : j < ds.length := by omega
            refine ⟨rfl, ?_⟩
            have dgj : (ds.map V.int)[j]? = some (.int (ds.getD j 0)) := by simp [hj']
            refine ⟨_, rfl, p, _, 2, .ref pd, rfl, rfl, Same.sqA s4 hp, rfl, _, rfl, pd, _, (j : Int), .int (ds.getD j 0), rfl, by show V.int (0 + (j : Int)) = _; rw [Int.zero_add], Same.sqA s4 hd, atI_nat dgj, _, rfl, _, rfl, _, _, rfl, rfl, pm, _, (an : Int) + 1, _, rfl, rfl, SqA.l (s4 _ _ hm), by rw [show (an : Int) + 1 = ((an + 1 : Nat) : Int) by omega]; exact atI_nat (ml_at (i := an + 1) (by omega)), _, _, rfl, rfl, _, rfl, ite2 (fun c => ?_) (fun c => ?_)⟩
            · have c0 := of_decide_eq_true c
              refine ⟨_, rfl, _, hC, ?_, same_over s4 (sm.free nC), ?_⟩
              · rw [ni_len]
                have h1 := List.length_filter_le (fun i => decide (ds.getD i 0 ≤ mk h t ds.length ((an + 1 : Nat) : Int))) (List.range j)
                rw [List.length_range] at h1
                exact small1000 (by omega)
              · rw [upd_same, List.range_succ, List.filter_append, ni_app, List.filter_cons_of_pos (by simpa using c0)]
                show some (HO.lst (_ ++ [V.int (0 + (j : Int))])) = _
                rw [Int.zero_add]
                rfl
            · have c0 : ¬ ds.getD j 0 ≤ mk h t ds.length ((an + 1 : Nat) : Int) := fun z => c (decide_eq_true z)
              refine ⟨s4, ?_⟩
              rw [hC, List.range_succ, List.filter_append, List.filter_cons_of_neg (by simpa using c0), List.filter_nil, List.append_nil]
          · rintro H5 ⟨s5, hC⟩
            refine ⟨C2, _, _, _, rfl, s5, ?_⟩
            rw [hC]
            congr 2
            show ni _ = ni (if an + 1 < ds.length then goL h t ds (an + 1) else [])
            rw [if_pos (by omega)]
            rfl
        · have c2 := of_decide_eq_false (show decide ((an : Int) + 1 < ((ds.length : Nat) : Int)) = false by simpa using c1)
          refine ⟨C, _, _, _, rfl, sm, ?_⟩
          rw [hC]
          show _ = some (HO.lst (ni (if an + 1 < ds.length then goL h t ds (an + 1) else [])))
          rw [if_neg (by omega)]
      rintro σ Hm ⟨C, y9, y10, y11, rfl, sm, hC⟩
      obtain ⟨MV, eMV⟩ : ∃ MV : List Nat, MV = mvsOf h t ds .high an := ⟨_, rfl⟩
      rw [← eMV] at hC
      have sum := due_sum d0 hL ky.1 (f := X.length) (fun e => by first | (cases e; done) | rw [ky.2])
      rw [show mvsOf h t ds .high an = MV from eMV.symm] at sum
      have mlen : MV.length ≤ ds.length := by
        rw [eMV]
        exact mvs_len .high an
      have mlt : ∀ i ∈ MV, i < ds.length := by
        rw [eMV]
        exact mvs_lt .high an
      refine ⟨_, rfl, C, _, rfl, .inl (SqL.of hC), _, _, rfl, rfl, ((MV.length + 1 : Nat) : Int), by rw [ni_len, Int.natCast_add]; rfl, by omega, by omega, ?_⟩
      refine for_range (lo := 0) (n := ((MV.length + 1 : Nat) : Int).toNat) (fun i σ H' => ∃ (y9 y10 y11 : Option V), σ = [some (V.ref p), some l, some (V.str "high"), some (V.int (an : Int)), some (V.ref px), some (V.ref pm), some (V.int ((ds.length : Nat) : Int)), some (V.int ((((List.range i).map fun o => dueT h t ds .high an X.length MV o).sum : Nat) : Int)), some (V.ref C), y9, y10, y11] ∧ Same Hm H') ⟨_, _, _, rfl, Same.refl _⟩ ?_ ?_
      · rintro i σ Hi hi ⟨y9, y10, y11, rfl, si⟩
        have sj := sm.trans si
        have iM : i ≤ MV.length := by omega
        refine ⟨_, rfl, rfl, _, rfl, iteF ?_⟩
        refine ⟨_, rfl, rfl, _, rfl, iteT ?_⟩
        have room := (mvs_room d0 hL ky.1).2.1 rfl
        rw [show mvsOf h t ds .high an = MV from eMV.symm] at room
        refine ⟨_, rfl, _, rfl, _, rfl, _, _, rfl, rfl, _, rfl, _, _, rfl, rfl, _, rfl, _, _, rfl, rfl, _, _, rfl, rfl, ⟨by omega, by omega, by omega, by omega, by omega⟩, fun pr npr => ?_⟩
        rw [rgV_lo (lo := an + 1) (n := i) (by omega) (by omega)]
        have sr : Same Hi (upd Hi pr (.lst (ni ((List.range i).map fun j => an + 1 + j)))) := same_new npr
        have er : upd Hi pr (.lst (ni ((List.range i).map fun j => an + 1 + j))) pr = some (.lst (ni ((List.range i).map fun j => an + 1 + j))) := upd_same
        generalize upd Hi pr (.lst (ni ((List.range i).map fun j => an + 1 + j))) = Hr at sr er
        refine ⟨pr, _, rfl, SqL.of er, fun ps nps => ?_⟩
        rw [show (ni ((List.range i).map fun j => an + 1 + j)).reverse = ni ((List.range i).map fun r => an + i - r) by rw [ni_rev46, rev_up]; congr 1; exact List.map_congr_left fun r _ => by omega]
        have ss : Same Hr (upd Hr ps (.lst (ni ((List.range i).map fun r => an + i - r)))) := same_new nps
        have es : upd Hr ps (.lst (ni ((List.range i).map fun r => an + i - r))) ps = some (.lst (ni ((List.range i).map fun r => an + i - r))) := upd_same
        generalize upd Hr ps (.lst (ni ((List.range i).map fun r => an + i - r))) = Hs at ss es
        have s3s := (sj.trans sr).trans ss
        refine ⟨_, rfl, _, rfl, .ref p, ps, C, i, h, t, ds, (List.range i).map fun r => an + i - r, MV, ?_, ⟨p, pd, rfl, Same.sqA s3s hp, Same.sqA s3s hd⟩, d60, SqL.of es, fun s hs => ?_, ?_, SqL.of (((si.trans sr).trans ss) _ _ hC), mlt, by omega, by omega, fun Hz sz => ?_⟩
        · show [V.ref p, V.ref ps, V.int _, V.ref C] = _
          congr 3
          show V.int (0 + (i : Int)) = V.int ((i : Nat) : Int)
          exact congrArg V.int (by omega)
        · obtain ⟨r, hr, rfl⟩ := List.mem_map.mp hs
          have := List.mem_range.mp hr
          omega
        · rw [List.length_map, List.length_range]
          omega
        refine ⟨_, _, rfl, rfl, some (V.int (0 + (i : Int))), y10, y11, ?_, ((si.trans sr).trans ss).trans sz⟩
        have e : (((List.range (i + 1)).map fun o => dueT h t ds .high an X.length MV o).sum : Nat) = ((List.range i).map fun o => dueT h t ds .high an X.length MV o).sum + Ct.wyN (stepsC h t ds MV ((List.range i).map fun r => an + i - r)) MV.length (i) := by
          rw [List.range_succ, List.map_append, List.sum_append]
          congr 1
        rw [e, Int.natCast_add]
        rfl
      · rintro σ Hi ⟨y9, y10, y11, rfl, si⟩
        refine ⟨_, rfl, ?_⟩
        rw [Int.toNat_natCast, ← sum]
        exact q _ (s03.trans (sm.trans si))
    | top =>
      refine ⟨_, rfl, _, rfl, by omega, by omega, fun C nC => ?_⟩
      refine lc_range (fun j H' => Same H3 H' ∧ H' C = some (.lst (ni ((List.range j).filter fun i => decide (ds.getD i 0 ≤ mk h t ds.length ((an : Nat) : Int)))))) ⟨same_new nC, upd_same⟩ ?_ ?_
      · rintro j H4 hj ⟨s4, hC⟩
        have hj' : j < ds.length := by omega
        refine ⟨rfl, ?_⟩
        refine ⟨_, rfl, rfl, _, rfl, iteT ?_⟩
        have dgj : (ds.map V.int)[j]? = some (.int (ds.getD j 0)) := by simp [hj']
        refine ⟨_, rfl, p, _, 2, .ref pd, rfl, rfl, Same.sqA s4 hp, rfl, _, rfl, pd, _, (j : Int), .int (ds.getD j 0), rfl, by show V.int (0 + (j : Int)) = _; rw [Int.zero_add], Same.sqA s4 hd, atI_nat dgj, _, rfl, _, rfl, pm, _, (an : Int), _, rfl, rfl, SqA.l (s4 _ _ hm), atI_nat (ml_at (i := an) (by omega)), _, _, rfl, rfl, _, rfl, ite2 (fun c => ?_) (fun c => ?_)⟩
        · have c0 := of_decide_eq_true c
          refine ⟨_, rfl, _, hC, ?_, same_over s4 nC, ?_⟩
          · rw [ni_len]
            have h1 := List.length_filter_le (fun i => decide (ds.getD i 0 ≤ mk h t ds.length ((an : Nat) : Int))) (List.range j)
            rw [List.length_range] at h1
            exact small1000 (by omega)
          · rw [upd_same, List.range_succ, List.filter_append, ni_app, List.filter_cons_of_pos (by simpa using c0)]
            show some (HO.lst (_ ++ [V.int (0 + (j : Int))])) = _
            rw [Int.zero_add]
            rfl
        · have c0 : ¬ ds.getD j 0 ≤ mk h t ds.length ((an : Nat) : Int) := fun z => c (decide_eq_true z)
          refine ⟨s4, ?_⟩
          rw [hC, List.range_succ, List.filter_append, List.filter_cons_of_neg (by simpa using c0), List.filter_nil, List.append_nil]
      rintro H4 ⟨s34, hC⟩
      refine ⟨fun σ' H' => ∃ (C : Addr) (y9 y10 y11 : Option V), σ' = [some (V.ref p), some l, some (V.str "open"), some (V.int (an : Int)), some (V.ref px), some (V.ref pm), some (V.int ((ds.length : Nat) : Int)), some (V.int 0), some (V.ref C), y9, y10, y11] ∧ Same H3 H' ∧ H' C = some (.lst (ni (goL h t ds an))), ?_, ?_⟩
      · exact ⟨_, rfl, rfl, _, rfl, iteF (iteF ⟨C, _, _, _, rfl, s34, hC⟩)⟩
      rintro σ Hm ⟨C, y9, y10, y11, rfl, sm, hC⟩
      refine ⟨fun σ' H' => ∃ (C : Addr) (y9 y10 y11 : Option V), σ' = [some (V.ref p), some l, some (V.str "open"), some (V.int (an : Int)), some (V.ref px), some (V.ref pm), some (V.int ((ds.length : Nat) : Int)), some (V.int 0), some (V.ref C), y9, y10, y11] ∧ Same H3 H' ∧ H' C = some (.lst (ni (goL h t ds an))), ?_, ?_⟩
      · exact ⟨_, rfl, rfl, _, rfl, iteF (iteF ⟨C, _, _, _, rfl, sm, hC⟩)⟩
      rintro σ Hm ⟨C, y9, y10, y11, rfl, sm, hC⟩
      obtain ⟨MV, eMV⟩ : ∃ MV : List Nat, MV = goL h t ds an := ⟨_, rfl⟩
      rw [← eMV] at hC
      have sum := due_sum d0 hL ky.1 (f := X.length) (fun e => by first | (cases e; done) | rw [ky.2])
      rw [show mvsOf h t ds .top an = MV from eMV.symm] at sum
      have mlen : MV.length ≤ ds.length := by
        rw [eMV]
        exact mvs_len .top an
      have mlt : ∀ i ∈ MV, i < ds.length := by
        rw [eMV]
        exact mvs_lt .top an
      refine ⟨_, rfl, C, _, rfl, .inl (SqL.of hC), _, _, rfl, rfl, ((MV.length + 1 : Nat) : Int), by rw [ni_len, Int.natCast_add]; rfl, by omega, by omega, ?_⟩
      refine for_range (lo := 0) (n := ((MV.length + 1 : Nat) : Int).toNat) (fun i σ H' => ∃ (y9 y10 y11 : Option V), σ = [some (V.ref p), some l, some (V.str "open"), some (V.int (an : Int)), some (V.ref px), some (V.ref pm), some (V.int ((ds.length : Nat) : Int)), some (V.int ((((List.range i).map fun o => dueT h t ds .top an X.length MV o).sum : Nat) : Int)), some (V.ref C), y9, y10, y11] ∧ Same Hm H') ⟨_, _, _, rfl, Same.refl _⟩ ?_ ?_
      · rintro i σ Hi hi ⟨y9, y10, y11, rfl, si⟩
        have sj := sm.trans si
        have iM : i ≤ MV.length := by omega
        refine ⟨_, rfl, rfl, _, rfl, iteF ?_⟩
        refine ⟨_, rfl, rfl, _, rfl, iteF ?_⟩
        have room := (mvs_room d0 hL ky.1).2.2 rfl
        rw [show mvsOf h t ds .top an = MV from eMV.symm, show keyL h t ds L .top (an : Int) = X from ky.2.symm] at room
        refine ⟨_, rfl, px, _, rfl, .inl (SqL.of (sj _ _ hx2)), ?_⟩
        rw [ni_len]
        refine ⟨_, rfl, _, _, rfl, rfl, _, rfl, _, _, rfl, rfl, _, rfl, ite2 (fun c1 => ?_) (fun c1 => ?_)⟩
        · have c2 := of_decide_eq_true c1
          refine ⟨_, rfl, px, _, rfl, .inl (SqL.of (sj _ _ hx2)), ?_⟩
          rw [ni_len]
          refine ⟨_, rfl, _, _, rfl, rfl, ?_⟩
          refine ⟨_, rfl, _, rfl, _, rfl, _, rfl, _, _, rfl, rfl, _, _, rfl, rfl, ⟨by omega, by omega, by omega, by omega, by omega⟩, fun ps nps => ?_⟩
          rw [rgV_lo (lo := X.length + i) (n := an + 1 - (X.length + i)) (by omega) (by omega)]
          have ss : Same Hi (upd Hi ps (.lst (ni ((List.range (an + 1 - (X.length + i))).map fun j => X.length + i + j)))) := same_new nps
          have es : upd Hi ps (.lst (ni ((List.range (an + 1 - (X.length + i))).map fun j => X.length + i + j))) ps = some (.lst (ni ((List.range (an + 1 - (X.length + i))).map fun j => X.length + i + j))) := upd_same
          generalize upd Hi ps (.lst (ni ((List.range (an + 1 - (X.length + i))).map fun j => X.length + i + j))) = Hs at ss es
          have s3s := sj.trans ss
          refine ⟨_, rfl, C, _, rfl, .inl (SqL.of ((si.trans ss) _ _ hC)), _, rfl, _, _, by rw [ni_len], rfl, _, rfl, .ref p, ps, C, MV.length - i, h, t, ds, (List.range (an + 1 - (X.length + i))).map fun j => X.length + i + j, MV, ?_, ⟨p, pd, rfl, Same.sqA s3s hp, Same.sqA s3s hd⟩, d60, SqL.of es, fun s hs => ?_, ?_, SqL.of ((si.trans ss) _ _ hC), mlt, by omega, by omega, fun Hz sz => ?_⟩
          · show [V.ref p, V.ref ps, V.int _, V.ref C] = _
            congr 3
            show V.int (((MV.length : Nat) : Int) - (0 + (i : Int))) = V.int ((MV.length - i : Nat) : Int)
            exact congrArg V.int (by omega)
          · obtain ⟨r, hr, rfl⟩ := List.mem_map.mp hs
            have := List.mem_range.mp hr
            omega
          · rw [List.length_map, List.length_range]
            omega
          refine ⟨_, _, rfl, rfl, some (V.int (0 + (i : Int))), some (V.int ((X.length : Int) + (0 + (i : Int)))), y11, ?_, (si.trans ss).trans sz⟩
          have e : (((List.range (i + 1)).map fun o => dueT h t ds .top an X.length MV o).sum : Nat) = ((List.range i).map fun o => dueT h t ds .top an X.length MV o).sum + Ct.wyN (stepsC h t ds MV ((List.range (an + 1 - (X.length + i))).map fun j => X.length + i + j)) MV.length (MV.length - i) := by
            rw [List.range_succ, List.map_append, List.sum_append]
            congr 1
            show dueT h t ds .top an X.length MV i + 0 = _
            rw [Nat.add_zero]
            show Ct.wyN (stepsC h t ds MV (if X.length + i ≤ an then _ else _)) MV.length (if X.length + i ≤ an then _ else _) = _
            rw [if_pos (by omega), if_pos (by omega)]
          rw [e, Int.natCast_add]
          rfl
        · have c2 := of_decide_eq_false (show decide (((X.length : Nat) : Int) + (0 + (i : Int)) ≤ (an : Int)) = false by simpa using c1)
          refine ⟨_, rfl, _, rfl, _, rfl, _, rfl, px, _, rfl, .inl (SqL.of (sj _ _ hx2)), ?_⟩
          rw [ni_len]
          refine ⟨_, rfl, _, _, rfl, rfl, _, _, rfl, rfl, ⟨by omega, by omega, by omega, by omega, by omega⟩, fun pr npr => ?_⟩
          rw [rgV_lo (lo := an) (n := X.length + i - an) (by omega) (by omega)]
          have sr : Same Hi (upd Hi pr (.lst (ni ((List.range (X.length + i - an)).map fun j => an + j)))) := same_new npr
          have er : upd Hi pr (.lst (ni ((List.range (X.length + i - an)).map fun j => an + j))) pr = some (.lst (ni ((List.range (X.length + i - an)).map fun j => an + j))) := upd_same
          generalize upd Hi pr (.lst (ni ((List.range (X.length + i - an)).map fun j => an + j))) = Hr at sr er
          refine ⟨pr, _, rfl, SqL.of er, fun ps nps => ?_⟩
          rw [show (ni ((List.range (X.length + i - an)).map fun j => an + j)).reverse = ni ((List.range (X.length + i - an)).map fun r => X.length + i - 1 - r) by rw [ni_rev46, rev_up]; congr 1; exact List.map_congr_left fun r _ => by omega]
          have ss : Same Hr (upd Hr ps (.lst (ni ((List.range (X.length + i - an)).map fun r => X.length + i - 1 - r)))) := same_new nps
          have es : upd Hr ps (.lst (ni ((List.range (X.length + i - an)).map fun r => X.length + i - 1 - r))) ps = some (.lst (ni ((List.range (X.length + i - an)).map fun r => X.length + i - 1 - r))) := upd_same
          generalize upd Hr ps (.lst (ni ((List.range (X.length + i - an)).map fun r => X.length + i - 1 - r))) = Hs at ss es
          have s3s := (sj.trans sr).trans ss
          refine ⟨_, rfl, _, rfl, .ref p, ps, C, i, h, t, ds, (List.range (X.length + i - an)).map fun r => X.length + i - 1 - r, MV, ?_, ⟨p, pd, rfl, Same.sqA s3s hp, Same.sqA s3s hd⟩, d60, SqL.of es, fun s hs => ?_, ?_, SqL.of (((si.trans sr).trans ss) _ _ hC), mlt, by omega, by omega, fun Hz sz => ?_⟩
          · show [V.ref p, V.ref ps, V.int _, V.ref C] = _
            congr 3
            show V.int (0 + (i : Int)) = V.int ((i : Nat) : Int)
            exact congrArg V.int (by omega)
          · obtain ⟨r, hr, rfl⟩ := List.mem_map.mp hs
            have := List.mem_range.mp hr
            omega
          · rw [List.length_map, List.length_range]
            omega
          refine ⟨_, _, rfl, rfl, some (V.int (0 + (i : Int))), y10, y11, ?_, ((si.trans sr).trans ss).trans sz⟩
          have e : (((List.range (i + 1)).map fun o => dueT h t ds .top an X.length MV o).sum : Nat) = ((List.range i).map fun o => dueT h t ds .top an X.length MV o).sum + Ct.wyN (stepsC h t ds MV ((List.range (X.length + i - an)).map fun r => X.length + i - 1 - r)) MV.length (i) := by
            rw [List.range_succ, List.map_append, List.sum_append]
            congr 1
            show dueT h t ds .top an X.length MV i + 0 = _
            rw [Nat.add_zero]
            show Ct.wyN (stepsC h t ds MV (if X.length + i ≤ an then _ else _)) MV.length (if X.length + i ≤ an then _ else _) = _
            rw [if_neg (by omega), if_neg (by omega)]
          rw [e, Int.natCast_add]
          rfl
      · rintro σ Hi ⟨y9, y10, y11, rfl, si⟩
        refine ⟨_, rfl, ?_⟩
        rw [Int.toNat_natCast, ← sum]
        exact q _ (s03.trans (sm.trans si))
end
end Sh

namespace Sh
open PySem PySem.Spec PyProof.Rows L2
/-! ### the law's own choices -/
def spChoose : Sp := fun vs H Q _ => ∃ (n : Nat) (m : Int), vs = [.int (n : Int), .int m] ∧ n ≤ 1000 ∧ m ≤ 1000 ∧ Q (.int ((if m < 0 then 0 else Ct.bin n m.toNat : Nat) : Int)) H
abbrev s__law_choose : Stmt := topS 41
theorem sc__law_choose : FnScope (["_law_some", "_law_few", "_law_found", "_law_k"] : List Str) (["_law_some", "_law_few"] : List Str) (defScope s__law_choose) := ⟨rfl, rfl, rfl, by decide +kernel, rfl, by decide +kernel, by decide +kernel⟩
theorem b__law_choose (kV doc pm : Value) (an : Option Addr) (cdv ct : Value) (us : List Value) (hl : us.length = (["_law_some", "_law_few"] : List Str).length) : bindArgs (PySem.W.fnOf "_law_choose" "_law_choose" (defArgs s__law_choose) (defBody s__law_choose) (defScope s__law_choose) .none kV doc pm an cdv ct) ⟨us, []⟩ = pure ((["_law_some", "_law_few"] : List Str).zip us) :=
  match us, hl with | [_, _], _ => rfl
section
variable {P : Program} {w : World} {K : PySem.W.Frag} {mg : Str → Option Value} {base : Heap}
theorem ok_choose {k : Nat} (D : Df K mg "_law_choose" s__law_choose) (T : Bt mg) : Ok P w K mg base (k + 1) "_law_choose" s__law_choose ["_law_some", "_law_few"] spChoose := by
  refine D.ok sc__law_choose b__law_choose (fun vs H Q E h => ?_) (fun f cdv A outer s H vs Q E hr h => ?_)
  · obtain ⟨n, m, rfl, _⟩ := h
    rfl
  · obtain ⟨n, m, rfl, n1, m1, q⟩ := h
    refine ⟨_, (pss_cons (ps_set (i := 2) sc__law_choose.nd rfl (.inl rfl) (pe_callTy call_int1 (by rfl) T.int_ (by decide +kernel) (pa_cons (pe_chain op_le op_le pe_int (pv 1) (pv 0)) pa_nil)))
      (pss_cons (ps_for PassesOwn.never rfl (pi_range1 (by rfl) T.range_ (pa_cons (pe_ifExp (pt_cmpR op_eq (pv 2) pe_int (nomark _)) (pv 1) pe_int) pa_nil)) (pg_name (i := 3) sc__law_choose.nd rfl (.inl rfl))
        (pss_one (ps_set (i := 2) sc__law_choose.nd rfl (.inl rfl) (pe_op op_fdiv (pe_op op_mul (pv 2) (pe_op op_sub (pv 0) (pv 3))) (pe_op op_add (pv 3) pe_int)))))
      (pss_one (ps_ret (pv 2))))), ?_⟩
    have no : ¬ (0 ≤ m ∧ m ≤ (n : Int)) → (if m < 0 then 0 else Ct.bin n m.toNat : Nat) = 0 := fun z => by
      split
      · rfl
      · exact Ct.bin_gt (by omega)
    have none_ : ¬ (0 ≤ m ∧ m ≤ (n : Int)) → Q (.int 0) H := fun z => by
      rw [no z] at q
      exact q
    refine ⟨_, rfl, _, _, rfl, rfl, _, rfl, ite2 (fun c1 => ?_) (fun c1 => ?_)⟩
    · refine ⟨_, rfl, _, _, rfl, rfl, ?_⟩
      refine .inr ⟨_, rfl, ?_⟩
      by_cases c2 : m ≤ (n : Int)
      · rw [if_pos (decide_eq_true c2)]
        refine ⟨_, rfl, rfl, _, rfl, iteT ?_⟩
        obtain ⟨tn, rfl⟩ := Int.eq_ofNat_of_zero_le (of_decide_eq_true c1)
        rw [if_neg (by omega), Int.toNat_natCast] at q
        refine ⟨_, rfl, (tn : Int), rfl, by omega, by omega, ?_⟩
        refine for_range (lo := 0) (n := tn) (fun i σ H' => ∃ y3 : Option V, σ = [some (.int (n : Int)), some (.int (tn : Int)), some (.int ((Ct.bin n i : Nat) : Int)), y3] ∧ H' = H) ⟨none, by rw [Ct.bin_zero]; rfl, rfl⟩ ?_ ?_
        · rintro i σ H1 hi ⟨y3, rfl, rfl⟩
          refine ⟨_, rfl, _, rfl, _, rfl, _, _, rfl, rfl, _, _, rfl, rfl, .inr ⟨by omega, by omega⟩, _, rfl, _, 1, rfl, rfl, _, _, rfl, rfl, ⟨by omega, by omega⟩, ?_⟩
          refine ⟨some (.int (0 + (i : Int))), ?_, rfl⟩
          have e : ((Ct.bin n i : Nat) : Int) * ((n : Int) - (0 + (i : Int))) / (0 + (i : Int) + 1) = ((Ct.bin n (i + 1) : Nat) : Int) := by
            have b := Ct.bin_step (n := n) (p := i) (by omega)
            have c : ((Ct.bin n i : Nat) : Int) * ((n : Int) - (0 + (i : Int))) = ((Ct.bin n (i + 1) : Nat) : Int) * (0 + (i : Int) + 1) := by
              have d := congrArg (fun n : Nat => (n : Int)) b
              simp only [Int.natCast_mul] at d
              rw [show ((n - i : Nat) : Int) = (n : Int) - (0 + (i : Int)) by omega, show ((i + 1 : Nat) : Int) = 0 + (i : Int) + 1 by omega] at d
              exact d
            rw [c]
            exact Int.mul_ediv_cancel _ (by omega)
          rw [← e]
          rfl
        · rintro σ H1 ⟨y3, rfl, rfl⟩
          exact ⟨_, rfl, q⟩
      · rw [if_neg (by simpa using c2)]
        refine ⟨_, rfl, rfl, _, rfl, iteF ?_⟩
        refine ⟨(0 : Int), rfl, by omega, by omega, ?_⟩
        refine for_range (lo := 0) (n := 0) (fun i σ H' => ∃ y3 : Option V, σ = [some (.int (n : Int)), some (.int m), some (.int 0), y3] ∧ H' = H) ⟨none, rfl, rfl⟩ ?_ ?_
        · intro i σ H1 hi
          exact absurd hi (by simp)
        · rintro σ H1 ⟨y3, rfl, rfl⟩
          exact ⟨_, rfl, none_ (fun z => by omega)⟩
    · refine .inr ⟨false, rfl, ?_⟩
      rw [if_neg Bool.false_ne_true]
      refine ⟨_, rfl, rfl, _, rfl, iteF ?_⟩
      refine ⟨(0 : Int), rfl, by omega, by omega, ?_⟩
      refine for_range (lo := 0) (n := 0) (fun i σ H' => ∃ y3 : Option V, σ = [some (.int (n : Int)), some (.int m), some (.int 0), y3] ∧ H' = H) ⟨none, rfl, rfl⟩ ?_ ?_
      · intro i σ H1 hi
        exact absurd hi (by simp)
      · rintro σ H1 ⟨y3, rfl, rfl⟩
        exact ⟨_, rfl, none_ (fun z => by exact c1 (decide_eq_true z.1))⟩
end
end Sh

namespace Sh
open PySem PySem.Spec PyProof.Rows L2
/-! ### k46: how many lots -/
def spLots46 (K : PySem.W.Frag) : Sp := fun vs H Q _ => ∃ (v : V) (h t : Int) (ds : List Int), vs = [v] ∧ SeaA K H v h t ds ∧ ds.length ≤ 60 ∧ 0 < ds.length ∧ ∀ H', Same H H' → Q (.int ((famsN ds.length (topI h t ds.length).toNat (Gof h t ds) : Nat) : Int)) H'
theorem go_cnt {h t : Int} {ds : List Int} (s : Nat) : (ds.filter fun d => decide (d ≤ mk h t ds.length (s : Int))).length = Th.cnt ds.length (Gof h t ds s) := by
  rw [← goL_len]
  have e : ds = (List.range ds.length).map fun i => ds.getD i 0 := by
    refine List.ext_getElem (by simp) fun i h1 h2 => ?_
    rw [List.getElem_map, List.getElem_range]
    simp [h1]
  conv => lhs; rw [e]
  rw [List.filter_map, List.length_map]
  unfold goL
  rw [List.length_map, List.length_range]
  rfl
abbrev s__law_lots_due : Stmt := topS 42
theorem sc__law_lots_due : FnScope (["_law_pond", "_law_marks_here", "_law_count", "_law_total", "_law_top", "_law_goers", "_law_at", "_law_fast", "_law_mark", "_law_deep"] : List Str) (["_law_pond"] : List Str) (defScope s__law_lots_due) := ⟨rfl, rfl, rfl, by decide +kernel, rfl, by decide +kernel, by decide +kernel⟩
theorem b__law_lots_due (kV doc pm : Value) (an : Option Addr) (cdv ct : Value) (us : List Value) (hl : us.length = (["_law_pond"] : List Str).length) : bindArgs (PySem.W.fnOf "_law_lots_due" "_law_lots_due" (defArgs s__law_lots_due) (defBody s__law_lots_due) (defScope s__law_lots_due) .none kV doc pm an cdv ct) ⟨us, []⟩ = pure ((["_law_pond"] : List Str).zip us) :=
  match us, hl with | [_], _ => rfl
section
variable {P : Program} {w : World} {K : PySem.W.Frag} {mg : Str → Option Value} {base : Heap}
theorem ok_lots46 {k : Nat} (D : Df K mg "_law_lots_due" s__law_lots_due) (T : Bt mg) (O__law_marks : Ok P w K mg base k "_law_marks" s__law_marks ["_law_pond"] (spMarks K)) (O__law_choose : Ok P w K mg base k "_law_choose" s__law_choose ["_law_some", "_law_few"] spChoose) : Ok P w K mg base (k + 1) "_law_lots_due" s__law_lots_due ["_law_pond"] (spLots46 K) := by
  refine D.ok sc__law_lots_due b__law_lots_due (fun vs H Q E h => ?_) (fun f cdv A outer s H vs Q E hr h => ?_)
  · obtain ⟨v, h, t, ds, rfl, _⟩ := h
    rfl
  · obtain ⟨v, h, t, ds, rfl, hv, d60, d0, q⟩ := h
    refine ⟨_, (pss_cons (ps_par3 (i := 1) (j := 2) (l := 3) (by rfl) sc__law_lots_due.nd rfl rfl rfl (by decide) (by decide) (by decide) rfl rfl rfl (pa_cons (pe_fn O__law_marks (hr.mono (by omega)) (pa_cons (pv 0) pa_nil)) (pa_cons (pe_callB call_len_seq (by rfl) T.len_ PySem.boot_len (pa_cons (pe_ix ix_lt (pv 0) pe_int (fun _ _ => rfl)) pa_nil)) (pa_cons pe_int pa_nil))) (by rfl))
      (pss_cons (ps_set (i := 4) sc__law_lots_due.nd rfl (.inl rfl) (pe_bm PySem.F.plainAttrs_list PySem.F.slot_list_index PySem.F.type_list_index mt_index (pv 1) (pa_cons (pe_callB (cr_max rfl) (by rfl) T.max_ (by decide +kernel) (pa_cons (pv 1) pa_nil)) pa_nil)))
      (pss_cons (ps_setLc (i := 5) (own := [("_law_mark", 8)]) (g := (gName 8)) (tt := tYes) (by rfl) sc__law_lots_due.nd rfl rfl (sw_true rfl rfl rfl (by decide +kernel)) (pi_seq (pv 1)) (blkOk_by (own := [("_law_mark", 8)]) (N := (["_law_pond", "_law_marks_here", "_law_count", "_law_total", "_law_top", "_law_goers", "_law_at", "_law_fast", "_law_mark", "_law_deep"] : List Str)) (sc := defScope s__law_lots_due) (by decide +kernel)) (fun _ _ _ _ _ => (pg_name (i := 8) sc__law_lots_due.nd rfl (.inr rfl))) (fun _ _ _ _ _ => pts_nil) (fun _ _ _ _ _ => (pe_callB (call_lenK K) (by rfl) T.len_ PySem.boot_len (pa_cons (pe_lc (own := [("_law_deep", 9)]) (g := (gName 9)) (by rfl) sc__law_lots_due.nd (pi_seqK K (pe_ix (ix_ltK K) (pv 0) pe_int (fun _ _ => rfl))) (blkOk_by (own := [("_law_deep", 9)]) (N := (["_law_pond", "_law_marks_here", "_law_count", "_law_total", "_law_top", "_law_goers", "_law_at", "_law_fast", "_law_mark", "_law_deep"] : List Str)) (sc := { kind := ScopeKind.function, names := [(".0", NameKind.local), ("_law_mark", NameKind.cell), ("len", NameKind.globalImplicit), ("_law_pond", NameKind.cell)], isGenerator := false, isCoroutine := false }) (by decide +kernel)) (fun _ _ _ _ _ => (pg_name (i := 9) sc__law_lots_due.nd rfl (.inl rfl))) (fun _ _ _ _ _ => (pts_one (pt_cmpR op_le (pv 9) (pv 8) (nomark _)))) (fun _ _ _ _ _ => (pv 9))) pa_nil))))
      (pss_cons (ps_for PassesOwn.never rfl (pi_range1 (by rfl) T.range_ (pa_cons (pv 2) pa_nil)) (pg_name (i := 6) sc__law_lots_due.nd rfl (.inl rfl))
        (Evl.pss_cut (ps_if (pt_cmpR op_le (pv 6) (pv 4) (nomark _))
            (pss_one (ps_set (i := 3) sc__law_lots_due.nd rfl (.inl rfl) (pe_op op_add (pv 3) (pe_fn O__law_choose (hr.mono (by omega)) (pa_cons (pe_op op_sub (pv 2) (pe_ix ix_lt (pv 5) (pv 6) (fun _ _ => rfl))) (pa_cons (pe_op op_sub (pv 6) (pe_ix ix_lt (pv 5) (pv 6) (fun _ _ => rfl))) pa_nil))))))
            pss_nil)
          (pss_one (ps_if (pt_cmpR op_ge (pv 6) (pv 4) (nomark _))
            (pss_one (ps_set (i := 3) sc__law_lots_due.nd rfl (.inl rfl) (pe_op op_add (pv 3) (pe_fn O__law_choose (hr.mono (by omega)) (pa_cons (pe_op op_sub (pv 2) (pe_ix ix_lt (pv 5) (pv 6) (fun _ _ => rfl))) (pa_cons (pe_op op_add (pv 6) pe_int) pa_nil))))))
            pss_nil))))
      (pss_cons (ps_for PassesOwn.never rfl (pi_range1 (by rfl) T.range_ (pa_cons (pe_op op_add (pv 4) pe_int) pa_nil)) (pg_name (i := 7) sc__law_lots_due.nd rfl (.inl rfl))
        (pss_one (ps_if (pt_cmpR op_lt (pe_op op_sub (pv 4) (pv 7)) (pe_ix ix_lt (pv 5) (pv 4) (fun _ _ => rfl)) (nomark _))
            (pss_one (ps_set (i := 3) sc__law_lots_due.nd rfl (.inl rfl) (pe_op op_add (pv 3) (pe_fn O__law_choose (hr.mono (by omega)) (pa_cons (pe_op op_sub (pv 2) (pe_ix ix_lt (pv 5) (pv 4) (fun _ _ => rfl))) (pa_cons (pv 7) pa_nil))))))
            pss_nil)))
      (pss_one (ps_ret (pv 3)))))))), ?_⟩
    refine ⟨_, rfl, v, h, t, ds, rfl, hv, d60, fun H1 m s1 nm hm => ?_⟩
    obtain ⟨p, pd, rfl, hp, hd⟩ := hv
    have lm0 : 0 < (ml h t ds.length ds.length).length := by rw [ml_len]; exact d0
    have tl := top_lo h t ds.length
    have th := top_hi h t d0
    obtain ⟨tp, etp⟩ : ∃ tp : Nat, topI h t ds.length = (tp : Int) := ⟨(topI h t ds.length).toNat, by omega⟩
    have hp1 := Same.sqA s1 hp
    have hd1 := Same.sqA s1 hd
    refine ⟨_, rfl, p, _, 2, .ref pd, rfl, rfl, hp1, rfl, pd, _, rfl, hd1, ?_⟩
    rw [List.length_map]
    refine ⟨_, _, _, rfl, ?_⟩
    replace hp := hp1
    replace hd := hd1
    clear hp1 hd1
    have tg : (ml h t ds.length ds.length)[tp]? = some (mk h t ds.length (topI h t ds.length)) := by
      rw [ml_get (by omega), etp]
    refine ⟨_, rfl, .inl ⟨rfl, _, SqL.of hm⟩, _, rfl, m, _, rfl, SqL.of hm, lm0, fun mx mm mle => ?_⟩
    have em : mk h t ds.length (topI h t ds.length) = mx := by
      have a1 := mle _ (List.mem_of_getElem? tg)
      obtain ⟨i0, hi0, e0⟩ := List.mem_map.mp (show mx ∈ (List.range ds.length).map fun (i : Nat) => mk h t ds.length (i : Int) from mm)
      have a2 := top_max h t (List.mem_range.mp hi0)
      omega
    refine ⟨m, _, .int mx, tp, .int mx, rfl, rfl, SqL.of hm, rfl, flat_ints _, ?_, ?_, ?_, ?_⟩
    · rw [List.getElem?_map, tg, em]
      rfl
    · exact beq_self_eq_true mx
    · intro j z' hj hz'
      rw [List.getElem?_map, ml_get (show j < ds.length by omega)] at hz'
      obtain rfl : V.int (mk h t ds.length (j : Int)) = z' := Option.some.inj hz'
      have := top_least h t (show (j : Int) < topI h t ds.length by omega)
      exact beq_eq_false_iff_ne.mpr (by omega)
    -- how many go at each step
    obtain ⟨g, eg⟩ : ∃ g : Nat → Nat, g = fun e => Th.cnt ds.length (Gof h t ds e) := ⟨_, rfl⟩
    refine ⟨_, rfl, m, _, H1, rfl, SqA.l hm, .ofS (Same.refl _), fun J hJ C nC => ?_⟩
    obtain ⟨G, gg, W⟩ := hJ.walk
    refine lc_it W (fun j H' => Same H1 H' ∧ H' C = some (.lst (nl ((List.range j).map g)))) ⟨same_new nC, upd_same⟩ (fun j H' _ z => gg H' (.ofS z.1)) ?_ ?_
    · rintro j x H3 H4 hj ⟨s3, hC⟩ ⟨rfl, gx⟩
      rw [List.length_map, ml_len] at hj
      obtain rfl : .int (mk h t ds.length (j : Int)) = x := Option.some.inj ((ml_at hj).symm.trans gx)
      refine ⟨rfl, tyes (iteT ?_)⟩
      refine ⟨_, rfl, p, _, 2, .ref pd, rfl, rfl, Same.sqA s3 hp, rfl, pd, _, H1, rfl, hd, .ofS s3, fun J2 hJ2 C2 nC2 => ?_⟩
      obtain ⟨G2, g2, W2⟩ := hJ2.walk
      obtain ⟨mm', emm⟩ : ∃ mm' : Int, mm' = mk h t ds.length ((j : Nat) : Int) := ⟨_, rfl⟩
      refine lc_it W2 (fun r H' => Same H4 H' ∧ H' C2 = some (.lst (((ds.take r).filter fun d => decide (d ≤ mm')).map V.int))) ⟨same_new nC2, upd_same⟩ (fun r H' _ z => g2 H' (.ofS (s3.trans z.1))) ?_ ?_
      · rintro r x H5 H6 hr ⟨s5, h5⟩ ⟨rfl, gx⟩
        rw [List.length_map] at hr
        obtain rfl : .int ds[r] = x := by
          have e : (ds.map V.int)[r]? = some (.int ds[r]) := by simp [hr]
          exact Option.some.inj (e.symm.trans gx)
        refine ⟨rfl, ?_⟩
        refine ⟨_, rfl, _, rfl, _, _, rfl, rfl, _, rfl, ite2 (fun c => ?_) (fun c => ?_)⟩
        · have c0 := of_decide_eq_true c
          rw [← emm] at c0
          refine ⟨_, rfl, _, h5, ?_, same_over s5 nC2, ?_⟩
          · rw [List.length_map]
            have h1 := List.length_filter_le (fun d => decide (d ≤ mm')) (ds.take r)
            rw [List.length_take] at h1
            exact small1000 (by omega)
          · rw [upd_same, take_succ_get hr, List.filter_append, List.map_append, List.filter_cons_of_pos (by simpa using c0)]
            rfl
        · have c0 : ¬ ds[r] ≤ mm' := fun z => c (decide_eq_true (by rw [← emm]; exact z))
          refine ⟨s5, ?_⟩
          rw [h5, take_succ_get hr, List.filter_append, List.filter_cons_of_neg (by simpa using c0), List.filter_nil, List.append_nil]
      rintro H6 ⟨s6, h6⟩
      rw [List.length_map, List.take_length] at h6
      refine ⟨C2, _, rfl, .inl (SqL.of h6), ?_⟩
      rw [List.length_map, emm, go_cnt]
      refine ⟨_, s6 _ _ hC, ?_, same_over (s3.trans s6) nC, ?_⟩
      · rw [nl_len, List.length_map, List.length_range]
        exact small1000 (by omega)
      · rw [upd_same, List.range_succ, List.map_append, eg]
        unfold nl
        rw [List.map_append, List.map_append]
        rfl
    rintro H3 ⟨s3, hC⟩
    rw [List.length_map, ml_len] at hC
    have gk : ∀ e, e < ds.length → g e ≤ ds.length := fun e _ => by rw [eg]; exact Th.cnt_le _ _
    have gat : ∀ {a : Nat}, a < ds.length → (nl ((List.range ds.length).map g))[a]? = some (.int ((g a : Nat) : Int)) := fun {a} ha => by
      unfold nl
      rw [List.getElem?_map, List.getElem?_map, List.getElem?_map, List.getElem?_range ha]
      rfl
    have Tk : tp < ds.length := by omega
    have total := Ct.lots_due (k := ds.length) (T := tp) (g := g) Tk gk
    have fam : famsN ds.length (topI h t ds.length).toNat (Gof h t ds) = Ct.lowN ds.length tp g + Ct.topN ds.length tp (g tp) + Ct.lowN ds.length (ds.length - 1 - tp) (fun e => g (ds.length - 1 - e)) := by
      unfold famsN
      rw [show (topI h t ds.length).toNat = tp by omega, eg]
      rfl
    rw [fam, total] at q
    obtain ⟨F, eF⟩ : ∃ F : Nat → Nat, F = fun a => (if a ≤ tp then if a < g a then 0 else Ct.bin (ds.length - g a) (a - g a) else 0) + if tp ≤ a then Ct.bin (ds.length - g a) (a + 1) else 0 := ⟨_, rfl⟩
    obtain ⟨F2, eF2⟩ : ∃ F2 : Nat → Nat, F2 = fun x => if tp < x + g tp then Ct.bin (ds.length - g tp) x else 0 := ⟨_, rfl⟩
    rw [← eF, ← eF2] at q
    clear total fam mle tg
    have up : ∀ (E : Nat → Nat) (n : Nat), ((List.range (n + 1)).map E).sum = ((List.range n).map E).sum + E n := fun E n => by
      rw [List.range_succ, List.map_append, List.sum_append]
      simp
    refine ⟨_, rfl, (ds.length : Int), rfl, by omega, by omega, ?_⟩
    rw [Int.toNat_natCast]
    refine for_range (lo := 0) (n := ds.length) (fun i σ H' => ∃ y6 y7 y8 y9 : Option V, σ = [some (.ref p), some (.ref m), some (.int ((ds.length : Nat) : Int)), some (.int ((((List.range i).map F).sum : Nat) : Int)), some (.int (tp : Int)), some (.ref C), y6, y7, y8, y9] ∧ H' = H3) ⟨none, none, none, none, rfl, rfl⟩ ?_ ?_
    · rintro i σ Hi hi ⟨y6, y7, y8, y9, rfl, rfl⟩
      have gi := gk i hi
      have at0 : atI (nl ((List.range ds.length).map g)) (0 + (i : Int)) = some (.int ((g i : Nat) : Int)) := by
        rw [Int.zero_add]
        exact atI_nat (gat hi)
      refine ⟨fun σ' H' => ∃ y7 y8 y9 : Option V, σ' = [some (.ref p), some (.ref m), some (.int ((ds.length : Nat) : Int)), some (.int ((((List.range i).map F).sum + (if i ≤ tp then if i < g i then 0 else Ct.bin (ds.length - g i) (i - g i) else 0) : Nat) : Int)), some (.int (tp : Int)), some (.ref C), some (.int (i : Int)), y7, y8, y9] ∧ H' = Hi, ?_, ?_⟩
      · refine ⟨_, rfl, _, rfl, _, _, rfl, rfl, _, rfl, ite2 (fun c1 => ?_) (fun c1 => ?_)⟩
        · have c2 := of_decide_eq_true c1
          refine ⟨_, rfl, _, rfl, _, rfl, _, rfl, C, _, 0 + (i : Int), _, rfl, rfl, SqA.l hC, at0, _, _, rfl, rfl, _, rfl, _, rfl, _, rfl, C, _, 0 + (i : Int), _, rfl, rfl, SqA.l hC, at0, _, _, rfl, rfl, ds.length - g i, (i : Int) - (g i : Int), ?_, by omega, by omega, _, _, rfl, rfl, y7, y8, y9, ?_, rfl⟩
          · show [V.int ((ds.length : Int) - (g i : Int)), V.int (0 + (i : Int) - (g i : Int))] = _
            rw [Int.zero_add, show (ds.length : Int) - (g i : Int) = ((ds.length - g i : Nat) : Int) by omega]
          · have e : (if 0 + (i : Int) - (g i : Int) < 0 then 0 else Ct.bin (ds.length - g i) (0 + (i : Int) - (g i : Int)).toNat) = (if i ≤ tp then if i < g i then 0 else Ct.bin (ds.length - g i) (i - g i) else 0) := by
              rw [if_pos (show i ≤ tp by omega), Int.zero_add]
              by_cases z : i < g i
              · rw [if_pos z, if_pos (show (i : Int) - (g i : Int) < 0 by omega)]
              · rw [if_neg z, if_neg (show ¬ (i : Int) - (g i : Int) < 0 by omega), show ((i : Int) - (g i : Int)).toNat = i - g i by omega]
            rw [Int.zero_add] at e ⊢
            rw [e, Int.natCast_add]
            rfl
        · have c2 := of_decide_eq_false (show decide (0 + (i : Int) ≤ (tp : Int)) = false by simpa using c1)
          refine ⟨y7, y8, y9, ?_, rfl⟩
          rw [if_neg (show ¬ i ≤ tp by omega), Nat.add_zero, Int.zero_add]
          rfl
      · rintro σ Hj ⟨y7, y8, y9, rfl, rfl⟩
        have ups := up F i
        refine ⟨_, rfl, _, rfl, _, _, rfl, rfl, _, rfl, ite2 (fun c1 => ?_) (fun c1 => ?_)⟩
        · have c2 := of_decide_eq_true c1
          refine ⟨_, rfl, _, rfl, _, rfl, _, rfl, C, _, (i : Int), _, rfl, rfl, SqA.l hC, atI_nat (gat hi), _, _, rfl, rfl, _, rfl, _, _, rfl, rfl, ds.length - g i, (i : Int) + 1, ?_, by omega, by omega, _, _, rfl, rfl, some (.int (i : Int)), y7, y8, y9, ?_, rfl⟩
          · show [V.int ((ds.length : Int) - (g i : Int)), V.int ((i : Int) + 1)] = _
            rw [show (ds.length : Int) - (g i : Int) = ((ds.length - g i : Nat) : Int) by omega]
          · have e : F i = (if i ≤ tp then if i < g i then 0 else Ct.bin (ds.length - g i) (i - g i) else 0) + Ct.bin (ds.length - g i) (i + 1) := by
              rw [eF]
              show _ + (if tp ≤ i then _ else _) = _
              rw [if_pos (show tp ≤ i by omega)]
            rw [ups, e, if_neg (show ¬ (i : Int) + 1 < 0 by omega), show ((i : Int) + 1).toNat = i + 1 by omega, ← Nat.add_assoc, Int.natCast_add]
            rfl
        · have c2 := of_decide_eq_false (show decide ((tp : Int) ≤ (i : Int)) = false by simpa using c1)
          refine ⟨some (.int (i : Int)), y7, y8, y9, ?_, rfl⟩
          have e : F i = (if i ≤ tp then if i < g i then 0 else Ct.bin (ds.length - g i) (i - g i) else 0) := by
            rw [eF]
            show _ + (if tp ≤ i then _ else _) = _
            rw [if_neg (show ¬ tp ≤ i by omega), Nat.add_zero]
          rw [ups, e]
    · rintro σ Hi ⟨y6, y7, y8, y9, rfl, rfl⟩
      refine ⟨_, rfl, _, 1, rfl, rfl, ((tp + 1 : Nat) : Int), by rw [Int.natCast_add]; rfl, by omega, by omega, ?_⟩
      rw [Int.toNat_natCast]
      have gT := gk tp Tk
      refine for_range (lo := 0) (n := tp + 1) (fun i σ H' => ∃ y7 y8 y9 : Option V, σ = [some (.ref p), some (.ref m), some (.int ((ds.length : Nat) : Int)), some (.int ((((List.range ds.length).map F).sum + ((List.range i).map F2).sum : Nat) : Int)), some (.int (tp : Int)), some (.ref C), y6, y7, y8, y9] ∧ H' = Hi) ⟨y7, y8, y9, rfl, rfl⟩ ?_ ?_
      · rintro i σ Hj hi ⟨y7, y8, y9, rfl, rfl⟩
        have ups := up F2 i
        refine ⟨_, rfl, _, rfl, _, _, rfl, rfl, _, rfl, _, rfl, C, _, (tp : Int), _, rfl, rfl, SqA.l hC, atI_nat (gat Tk), _, _, rfl, rfl, _, rfl, ite2 (fun c1 => ?_) (fun c1 => ?_)⟩
        · have c2 := of_decide_eq_true c1
          refine ⟨_, rfl, _, rfl, _, rfl, _, rfl, C, _, (tp : Int), _, rfl, rfl, SqA.l hC, atI_nat (gat Tk), _, _, rfl, rfl, _, rfl, ds.length - g tp, (i : Int), ?_, by omega, by omega, _, _, rfl, rfl, some (.int (0 + (i : Int))), y8, y9, ?_, rfl⟩
          · show [V.int ((ds.length : Int) - (g tp : Int)), V.int (0 + (i : Int))] = _
            rw [Int.zero_add, show (ds.length : Int) - (g tp : Int) = ((ds.length - g tp : Nat) : Int) by omega]
          · have e : F2 i = Ct.bin (ds.length - g tp) i := by
              rw [eF2]
              show (if tp < i + g tp then _ else _) = _
              rw [if_pos (show tp < i + g tp by omega)]
            rw [ups, e, if_neg (show ¬ (i : Int) < 0 by omega), Int.toNat_natCast, ← Nat.add_assoc, Int.natCast_add (_ + _)]
            rfl
        · have c2 := of_decide_eq_false (show decide ((tp : Int) - (0 + (i : Int)) < (g tp : Int)) = false by simpa using c1)
          refine ⟨some (.int (0 + (i : Int))), y8, y9, ?_, rfl⟩
          have e : F2 i = 0 := by
            rw [eF2]
            show (if tp < i + g tp then _ else _) = _
            rw [if_neg (show ¬ tp < i + g tp by omega)]
          rw [ups, e, Nat.add_zero]
          rfl
      · rintro σ Hj ⟨y7, y8, y9, rfl, rfl⟩
        exact ⟨_, rfl, q _ (s1.trans s3)⟩
end
end Sh

namespace Sh
open PySem PySem.Spec PyProof.Rows L2
/-! ### what is told: seas and standings -/
/-- a standing told: a tuple that is read -/
def LotT (K : PySem.W.Frag) (H : Hp) (v : V) (L : List Nat) : Prop := ∃ p, v = .ref p ∧ SqT K H p (ni L)
theorem LotT.a {K : PySem.W.Frag} {H : Hp} {v : V} {L : List Nat} (h : LotT K H v L) : LotA K H v L := let ⟨p, e, q⟩ := h; ⟨p, e, .inr q⟩
theorem LotT.same {K : PySem.W.Frag} {H H' : Hp} {v : V} {L : List Nat} (h : LotT K H v L) (s : Same H H') : LotT K H' v L := let ⟨p, e, q⟩ := h; ⟨p, e, Same.tup s q⟩
theorem tup_but {K : PySem.W.Frag} {H H' : Hp} {b p : Addr} {n : Nat} {xs : List V} (q : SqT K H p xs) (x : BoxAt H b n) (u : But b H H') : SqT K H' p xs := by
  obtain ⟨ys, hb, _⟩ := x
  rcases q with (q | ⟨o, q⟩) | q
  · exact .inl (.inl (u _ _ (ne_of q hb (by intro z; cases z)) q))
  · exact .inl (.inr ⟨o, u _ _ (ne_of q hb (by intro z; cases z)) q⟩)
  · exact .inr q
theorem LotT.but {K : PySem.W.Frag} {H H' : Hp} {b : Addr} {n : Nat} {v : V} {L : List Nat} (h : LotT K H v L) (x : BoxAt H b n) (u : But b H H') : LotT K H' v L := let ⟨p, e, q⟩ := h; ⟨p, e, tup_but q x u⟩
theorem LotT.dp {K : PySem.W.Frag} {H : Hp} {v : V} {L : List Nat} (h : LotT K H v L) : Dp K H v (.tuple ((L.map fun (i : Nat) => (i : Int)).map .int)) := by
  obtain ⟨p, e, q⟩ := h
  rw [e]
  rw [ni_ints] at q
  exact .tup q (DpAll.ints _)
/-- a sea told -/
def SeaT (K : PySem.W.Frag) (H : Hp) (v : V) (h t : Int) (ds : List Int) : Prop := ∃ p q, v = .ref p ∧ SqT K H p [.int h, .int t, .ref q] ∧ SqT K H q (ds.map V.int)
theorem SeaT.a {K : PySem.W.Frag} {H : Hp} {v : V} {h t : Int} {ds : List Int} (s : SeaT K H v h t ds) : SeaA K H v h t ds := let ⟨p, q, e, a, b⟩ := s; ⟨p, q, e, .inr a, .inr b⟩
theorem SeaT.same {K : PySem.W.Frag} {H H' : Hp} {v : V} {h t : Int} {ds : List Int} (s : SeaT K H v h t ds) (e : Same H H') : SeaT K H' v h t ds := let ⟨p, q, e1, a, b⟩ := s; ⟨p, q, e1, Same.tup e a, Same.tup e b⟩
theorem SeaT.but {K : PySem.W.Frag} {H H' : Hp} {b : Addr} {n : Nat} {v : V} {h t : Int} {ds : List Int} (s : SeaT K H v h t ds) (x : BoxAt H b n) (u : But b H H') : SeaT K H' v h t ds := let ⟨p, q, e1, a, c⟩ := s; ⟨p, q, e1, tup_but a x u, tup_but c x u⟩
theorem SeaT.dp {K : PySem.W.Frag} {H : Hp} {v : V} {h t : Int} {ds : List Int} (s : SeaT K H v h t ds) : Dp K H v (.tuple [.int h, .int t, .tuple (ds.map .int)]) := by
  obtain ⟨p, q, e, a, b⟩ := s
  rw [e]
  exact .tup a (.cons (.int _) (.cons (.int _) (.cons (.tup b (DpAll.ints _)) .nil)))
theorem lv_sea {n : Nat} {h t : Int} {ds : List Int} (l : ds.length ≤ 100000) : Lv (n + 3) (.tuple [.int h, .int t, .tuple (ds.map .int)]) := ⟨by show 3 ≤ 100000; decide, fun e he => by
  rcases List.mem_cons.mp he with z | z
  · rw [z]; exact trivial
  · rcases List.mem_cons.mp z with z | z
    · rw [z]; exact trivial
    · rw [List.mem_singleton.mp z]; exact lv_intsT _ l⟩
theorem lv_lot {n : Nat} {L : List Nat} (l : L.length ≤ 100000) : Lv (n + 2) (.tuple ((L.map fun (i : Nat) => (i : Int)).map .int)) := lv_intsT _ (by rw [List.length_map]; exact l)
end Sh

namespace Sh
open PySem PySem.Spec PyProof.Rows L2
/-! ### k46: the right -/
abbrev s__law_right : Stmt := topS 43
theorem sc__law_right : FnScope (["_law_box_here", "_law_pond", "_law_lot_here", "_law_told"] : List Str) (["_law_box_here"] : List Str) (defScope s__law_right) := ⟨rfl, rfl, rfl, by decide +kernel, rfl, by decide +kernel, by decide +kernel⟩
theorem b__law_right (kV doc pm : Value) (an : Option Addr) (cdv ct : Value) (us : List Value) (hl : us.length = (["_law_box_here"] : List Str).length) : bindArgs (PySem.W.fnOf "_law_right" "_law_right" (defArgs s__law_right) (defBody s__law_right) (defScope s__law_right) .none kV doc pm an cdv ct) ⟨us, []⟩ = pure ((["_law_box_here"] : List Str).zip us) :=
  match us, hl with | [_], _ => rfl
section
variable {P : Program} {w : World} {K : PySem.W.Frag} {mg : Str → Option Value} {base : Heap}
theorem ok_right {k : Nat} (hk : 4 ≤ k) (D : Df K mg "_law_right" s__law_right) (T : Bt mg) (O__law_many : Ok P w K mg base k "_law_many" s__law_many ["_law_box_here"] spMany) (O__law_lot : Ok P w K mg base k "_law_lot" s__law_lot ["_law_box_here", "_law_count"] spLot) (O_family_size : Ok P w K mg base k "family_size" s_family_size ["sea", "standing"] (spFamily K)) (O_families_many : Ok P w K mg base k "families_many" s_families_many ["sea"] (spFamilies K))
    (O__law_due : Ok P w K mg base k "_law_due" s__law_due ["_law_pond", "_law_lot_here"] (spDue46 K)) (O__law_lots_due : Ok P w K mg base k "_law_lots_due" s__law_lots_due ["_law_pond"] (spLots46 K)) (O__law_same : Ok P w K mg base 4 "_law_same" s__law_same ["_law_found", "_law_due_here"] (spSame K 4)) :
    Ok P w K mg base (k + 1) "_law_right" s__law_right ["_law_box_here"] spRight := by
  have O__law_same := O__law_same.mono hk
  refine D.ok sc__law_right b__law_right (fun vs H Q E h => ?_) (fun f cdv A outer s H vs Q E hr h => ?_)
  · obtain ⟨b, rfl, _⟩ := h
    rfl
  · obtain ⟨b, rfl, hb, q⟩ := h
    refine ⟨_, (pss_cons (ps_set (i := 1) sc__law_right.nd rfl (.inl rfl) (pe_fn O__law_many (hr.mono (by omega)) (pa_cons (pv 0) pa_nil)))
      (pss_cons (ps_set (i := 2) sc__law_right.nd rfl (.inl rfl) (pe_fn O__law_lot (hr.mono (by omega)) (pa_cons (pv 0) (pa_cons (pe_callB call_len_seq (by rfl) T.len_ PySem.boot_len (pa_cons (pe_ix ix_lt (pv 1) pe_int (fun _ _ => rfl)) pa_nil)) pa_nil))))
      (pss_cons (ps_set (i := 3) sc__law_right.nd rfl (.inl rfl) (pe_lst (pa_cons (pe_fn O_family_size (hr.mono (by omega)) (pa_cons (pv 1) (pa_cons (pv 2) pa_nil))) (pa_cons (pe_fn O_families_many (hr.mono (by omega)) (pa_cons (pv 1) pa_nil)) pa_nil))))
      (pss_one (ps_ret (pe_and (pe_fn O__law_same (hr.mono (by omega)) (pa_cons (pv 3) (pa_cons (pe_lst (pa_cons (pe_fn O__law_due (hr.mono (by omega)) (pa_cons (pv 1) (pa_cons (pv 2) pa_nil))) (pa_cons (pe_fn O__law_lots_due (hr.mono (by omega)) (pa_cons (pv 1) pa_nil)) pa_nil))) pa_nil))) (pe_one (pe_chain op_le op_le pe_int (pe_ix ix_lt (pv 3) pe_int (fun _ _ => rfl)) (pe_op (op_powC 1152921504606846976) pe_int pe_int))))))))), ?_⟩
    refine ⟨_, rfl, b, 99000, rfl, hb.mono (by omega), fun H1 pp pd h t ds u1 x1 np nd hp hd so => ?_⟩
    obtain ⟨h0, h1, t0, t1, d0, d1, dl⟩ := so
    have hv : SeaT K H1 (.ref pp) h t ds := ⟨pp, pd, rfl, SqT.of hp, SqT.of hd⟩
    refine ⟨_, rfl, _, rfl, pp, _, 2, .ref pd, rfl, rfl, SqA.t hp, rfl, pd, _, rfl, SqA.t hd, ?_⟩
    rw [List.length_map]
    refine ⟨b, 98000, ds.length, rfl, d1, x1.mono (by omega), fun H2 pl L u2 x2 nl hl lot => ?_⟩
    have hv2 := hv.but x1 u2
    refine ⟨_, rfl, _, rfl, .ref pp, .ref pl, h, t, ds, L, rfl, hv2.a, ⟨pl, rfl, SqA.t hl⟩, d1, d0, lot, fun H3 s3 => ?_⟩
    refine ⟨_, rfl, .ref pp, h, t, ds, rfl, (hv2.same s3).a, d1, d0, fun H4 s4 => ?_⟩
    obtain ⟨sz, esz⟩ : ∃ sz : Nat, sz = Ct.fam ds.length (Gof h t ds) (mem L) := ⟨_, rfl⟩
    obtain ⟨fn, efn⟩ : ∃ fn : Nat, fn = famsN ds.length (topI h t ds.length).toNat (Gof h t ds) := ⟨_, rfl⟩
    rw [← esz, ← efn]
    have bnd := Ct.fam_bounds (k := ds.length) (G := Gof h t ds) (S := mem L) (fun i hi => decide_eq_false fun z => hi (lot.lt i z))
    rw [← esz] at bnd
    refine ⟨(by show 2 ≤ sizeLine; decide), fun la nla => ?_⟩
    have s5 : Same H4 (upd H4 la (.lst [.int (sz : Int), .int (fn : Int)])) := same_new nla
    have a5 : upd H4 la (.lst [.int (sz : Int), .int (fn : Int)]) la = some (.lst ([(sz : Int), (fn : Int)].map V.int)) := upd_same
    generalize upd H4 la (.lst [.int (sz : Int), .int (fn : Int)]) = H5 at s5 a5
    have hv5 := hv2.same (s3.trans (s4.trans s5))
    have hl5 := (s3.trans (s4.trans s5)) _ _ hl
    refine ⟨_, rfl, _, rfl, _, rfl, .ref pp, .ref pl, h, t, ds, L, rfl, hv5.a, ⟨pl, rfl, SqA.t hl5⟩, d1, d0, lot, fun H6 s6 => ?_⟩
    rw [← esz]
    refine ⟨_, rfl, .ref pp, h, t, ds, rfl, (hv5.same s6).a, d1, d0, fun H7 s7 => ?_⟩
    rw [← efn]
    refine ⟨(by show 2 ≤ sizeLine; decide), fun lb nlb => ?_⟩
    have s8 : Same H7 (upd H7 lb (.lst [.int (sz : Int), .int (fn : Int)])) := same_new nlb
    have a8 : upd H7 lb (.lst [.int (sz : Int), .int (fn : Int)]) lb = some (.lst ([(sz : Int), (fn : Int)].map V.int)) := upd_same
    generalize upd H7 lb (.lst [.int (sz : Int), .int (fn : Int)]) = H8 at s8 a8
    have s58 := s6.trans (s7.trans s8)
    refine ⟨.ref la, .ref lb, _, rfl, .lst (SqL.of (s58 _ _ a5)) (DpAll.ints _), .lst (SqL.of a8) (DpAll.ints _), lv_ints [(sz : Int), (fn : Int)] (by show 2 ≤ 100000; decide), fun H9 s9 => ?_⟩
    have a9 := (s58.trans s9) _ _ a5
    refine ⟨true, rfl, iteT ?_⟩
    refine ⟨_, rfl, la, _, 0, .int (sz : Int), rfl, rfl, SqA.l a9, rfl, _, _, rfl, rfl, true, congrArg V.bl (decide_eq_true (show (1 : Int) ≤ (sz : Int) by omega)), iteT ?_⟩
    refine ⟨2, 60, rfl, rfl, ⟨⟨by decide, by decide, by decide⟩, by decide +kernel⟩, _, _, rfl, rfl, ?_⟩
    have le : (sz : Int) ≤ 1152921504606846976 := by
      have z : (2 : Nat) ^ ds.length ≤ 2 ^ 60 := Nat.pow_le_pow_right (by decide) d1
      have e : (2 : Nat) ^ 60 = 1152921504606846976 := by decide +kernel
      omega
    show Q (V.bl (decide ((sz : Int) ≤ 1152921504606846976))) H9
    rw [decide_eq_true le]
    exact q _ (((u1.trans u2).trans (Same.but (b := b) (s3.trans (s4.trans s5)))).trans (Same.but (b := b) (s58.trans s9)))
end
end Sh

namespace Sh
open PySem PySem.Spec PyProof.Rows L2
/-! ### the law itself -/
def spLaw (K : PySem.W.Frag) : Sp := fun vs H Q _ => ∃ (a : Addr) (ns : List Int), vs = [.ref a] ∧ SqL K H a (ns.map V.int) ∧ ns.length ≤ 63 ∧ ∀ H', Q (.bl true) H'
abbrev s_law : Stmt := topS 44
theorem sc_law : FnScope (["_law_script", "_law_k"] : List Str) (["_law_script"] : List Str) (defScope s_law) := ⟨rfl, rfl, rfl, by decide +kernel, rfl, by decide +kernel, by decide +kernel⟩
theorem b_law (kV doc pm : Value) (an : Option Addr) (cdv ct : Value) (us : List Value) (hl : us.length = (["_law_script"] : List Str).length) : bindArgs (PySem.W.fnOf "law" "law" (defArgs s_law) (defBody s_law) (defScope s_law) .none kV doc pm an cdv ct) ⟨us, []⟩ = pure ((["_law_script"] : List Str).zip us) :=
  match us, hl with | [_], _ => rfl
section
variable {P : Program} {w : World} {K : PySem.W.Frag} {mg : Str → Option Value} {base : Heap}
theorem ok_law {k : Nat} (D : Df K mg "law" s_law) (T : Bt mg) (O__law_box : Ok P w K mg base k "_law_box" s__law_box ["_law_script", "_law_k"] (spBox K)) (O__law_right : Ok P w K mg base k "_law_right" s__law_right ["_law_box_here"] spRight) :
    Ok P w K mg base (k + 1) "law" s_law ["_law_script"] (spLaw K) := by
  refine D.ok sc_law b_law (fun vs H Q E h => ?_) (fun f cdv A outer s H vs Q E hr h => ?_)
  · obtain ⟨a, ns, rfl, _⟩ := h
    rfl
  · obtain ⟨a, ns, rfl, hS, hl, q⟩ := h
    refine ⟨_, (pss_one (ps_ret (pe_callB (cr_all rfl) (by rfl) T.all_ (by decide +kernel) (pa_cons (pe_lc (own := [("_law_k", 1)]) (g := (gName 1)) (tt := tYes) (by rfl) sc_law.nd (pi_range1 (by rfl) T.range_ (pa_cons (pe_op op_add pe_int (pe_callB (call_min2 rfl) (by rfl) T.min_ (by decide +kernel) (pa_cons pe_int (pa_cons (pe_callB call_len_seq (by rfl) T.len_ PySem.boot_len (pa_cons (pv 0) pa_nil)) pa_nil)))) pa_nil)) (blkOk_by (own := [("_law_k", 1)]) (N := (["_law_script", "_law_k"] : List Str)) (sc := defScope s_law) (by decide +kernel)) (fun _ _ _ _ _ => (pg_name (i := 1) sc_law.nd rfl (.inl rfl))) (fun _ _ _ _ _ => pts_nil) (fun _ _ _ _ _ => (pe_fn O__law_right (hr.mono (by omega)) (pa_cons (pe_fn O__law_box (hr.mono (by omega)) (pa_cons (pv 0) (pa_cons (pv 1) pa_nil))) pa_nil)))) pa_nil)))), ?_⟩
    refine ⟨_, rfl, a, _, rfl, .inl hS, _, _, rfl, 1, _, rfl, rfl, _, rfl, ?_, ?_, fun C nC => ?_⟩
    · split <;> omega
    · rw [List.length_map]
      split <;> omega
    rw [List.length_map]
    generalize en : (1 + if (ns.length : Int) < 1 then (ns.length : Int) else 1).toNat = n
    have hn : n ≤ 4 := by
      rw [← en]
      split <;> omega
    refine lc_range (fun i H' => Same H H' ∧ H' C = some (.lst ((List.replicate i true).map V.bl))) ⟨same_new nC, upd_same⟩ ?_ ?_
    · rintro i H1 hi ⟨sm, hC⟩
      refine ⟨rfl, tyes (iteT ?_)⟩
      refine ⟨_, rfl, _, rfl, a, ns, i, ?_, by omega, sm.seq hS, fun b xs nb bx => ?_⟩
      · show [V.ref a, V.int (0 + (i : Int))] = _
        rw [Int.zero_add]
      refine ⟨b, rfl, (BoxAt.put bx).mono (by decide), fun H2 u2 => ?_⟩
      have nCb : C ≠ b := ne_of_none hC nb
      refine ⟨_, u2 _ _ nCb (by rw [upd_ne nCb]; exact hC), ?_, fun p o ho => ?_, ?_⟩
      · rw [List.length_map, List.length_replicate]
        exact small1000 (by omega)
      · have npb : p ≠ b := ne_of_none (sm _ _ ho) nb
        rw [upd_ne (ne_of_none ho nC)]
        exact u2 _ _ npb (by rw [upd_ne npb]; exact sm _ _ ho)
      · rw [upd_same, List.replicate_succ', List.map_append]
        rfl
    · rintro H1 ⟨sm, hC⟩
      refine ⟨C, _, rfl, SqL.of hC, ?_⟩
      have e : (List.replicate n true).all id = true := by simp
      rw [e]
      exact q _
theorem law_end {k : Nat} {fa : Addr} {sp : Sp} (D : Df K mg "law" s_law) (hfa : mg "law" = some (.ref fa)) (O : ∀ base, Ok P w K mg base k "law" s_law ["_law_script"] sp) :
    ∃ fd : FuncData, (∀ (s : Shared) (v : Value), BindsTo s fd ⟨[v], []⟩ [("_law_script", v)]) ∧ ∀ base : Heap, K.In base → base.Ns mainGlobals mg → FnOk P w K mg base CX0 k fa fd ["_law_script"] sp := by
  obtain ⟨f, fd, F, g⟩ := D.ex
  obtain rfl : fa = f := by
    have e := hfa.symm.trans g
    cases e
    rfl
  refine ⟨fd, fun s v => ?_, fun base _ _ => ?_⟩
  · obtain ⟨oc, od, kV, doc, pm, an, cdv, ct, osl, rfl, lk, hcd⟩ := F.ex
    exact .of_eq (b_law kV doc pm an cdv ct [v] rfl)
  · obtain ⟨f', fd', F', g', _, G⟩ := (O base).ex
    obtain rfl : fa = f' := by
      have e := g.symm.trans g'
      cases e
      rfl
    obtain ⟨_, _, _, _, _, _, _, _, _, _, lk, _⟩ := F.ex
    obtain ⟨_, _, _, _, _, _, _, _, _, _, lk', _⟩ := F'.ex
    have e := lk.symm.trans lk'
    cases e
    exact G
theorem df_mk {x : Str} {st : Stmt} {h : Heap} {f : Addr} {oc : Value} {od an : Option Addr} {sl : Array (Option Value)} {kV dc pm cd ct : Value} (X : K.In h) (G : h.Ns mainGlobals mg)
    (a : PySem.W.nsIn K mainGlobals x = some (some (.ref f))) (l : K.lookup f = some ⟨oc, od, .func (PySem.W.fnOf x x (defArgs st) (defBody st) (defScope st) .none kV dc pm an cd ct), sl⟩)
    (c : PySem.W.codeIn K cd x = true) (k : PySem.W.keepIn K (.ref f) = true) : Df K mg x st := ⟨f, _, fun_mk l c k, PySem.W.mg_of X G a⟩
theorem with_df {R : Prop} {x : Str} {st : Stmt} {h : Heap} {f : Addr} {oc : Value} {od an : Option Addr} {sl : Array (Option Value)} {kV dc pm cd ct : Value} (X : K.In h) (G : h.Ns mainGlobals mg)
    (a : PySem.W.nsIn K mainGlobals x = some (some (.ref f))) (l : K.lookup f = some ⟨oc, od, .func (PySem.W.fnOf x x (defArgs st) (defBody st) (defScope st) .none kV dc pm an cd ct), sl⟩)
    (c : PySem.W.codeIn K cd x = true) (k : PySem.W.keepIn K (.ref f) = true) (r : Df K mg x st → R) : R := r (df_mk X G a l c k)
end
end Sh

open PySem PySem.W PyProof.Rows
set_option maxHeartbeats 0 in
theorem PySem.Challenge.cw_shoalmates_k46_great_seas_counted_holds : PySem.Challenge.rw_shoalmates_k46_great_seas_counted.Holds := by
  w_on; o_law; k_head; (case hw => w_witness2)
  k_fill
  refine L2.walk_of (l := PySem.Challenge.rw_shoalmates_k46_great_seas_counted) (n := 63) (k := 12) (x := "_law_script") (CX := fun _ => L2.CX0) (sp := fun w => Sh.spLaw _) rfl (by decide) rfl ⟨rfl, by decide, by decide⟩ (fun w h Y => PySem.W.kIn_of Y) ?F (fun _ _ a ns hl _ hS => ⟨a, ns, rfl, hS, hl, fun _ => rfl⟩) (fun _ _ _ _ _ h => h)
  case F =>
    intro w mg fa h KX G hmg
    have T : Sh.Bt mg := by
      constructor <;> (refine PySem.W.mg_none_of KX G ?_; k_is)
    refine' Sh.with_cn KX G ?a ?b ?c fun C => ?_
    (case a => k_is); (case b => k_is); (case c => k_is)
    refine' Sh.with_ck (w := w) KX G ?a ?l ?k ?d1 ?d2 ?d3 fun Ck => ?_
    (case a => k_is); (case l => k_is); (case d1 => k_is); (case d2 => k_is); (case d3 => k_is); (case k => exact ⟨⟨_, _, rfl, rfl⟩, ⟨_, _, rfl, rfl⟩, ⟨_, _, rfl, rfl⟩, trivial⟩)
    refine' Sh.with_df (x := "mark_of") (st := Sh.s_mark_of) KX G ?a ?l ?c ?k fun D_mark_of => ?_
    (case a => k_is); (case l => k_is); (case c => k_is); (case k => k_is)
    refine' Sh.with_df (x := "top_of") (st := Sh.s_top_of) KX G ?a ?l ?c ?k fun D_top_of => ?_
    (case a => k_is); (case l => k_is); (case c => k_is); (case k => k_is)
    refine' Sh.with_df (x := "fleet_of") (st := Sh.s_fleet_of) KX G ?a ?l ?c ?k fun D_fleet_of => ?_
    (case a => k_is); (case l => k_is); (case c => k_is); (case k => k_is)
    refine' Sh.with_df (x := "turned_fleet") (st := Sh.s_turned_fleet) KX G ?a ?l ?c ?k fun D_turned_fleet => ?_
    (case a => k_is); (case l => k_is); (case c => k_is); (case k => k_is)
    refine' Sh.with_df (x := "ships_many") (st := Sh.s_ships_many) KX G ?a ?l ?c ?k fun D_ships_many => ?_
    (case a => k_is); (case l => k_is); (case c => k_is); (case k => k_is)
    refine' Sh.with_df (x := "mark_in") (st := Sh.s_mark_in) KX G ?a ?l ?c ?k fun D_mark_in => ?_
    (case a => k_is); (case l => k_is); (case c => k_is); (case k => k_is)
    refine' Sh.with_df (x := "goers_many") (st := Sh.s_goers_many) KX G ?a ?l ?c ?k fun D_goers_many => ?_
    (case a => k_is); (case l => k_is); (case c => k_is); (case k => k_is)
    refine' Sh.with_df (x := "top_in") (st := Sh.s_top_in) KX G ?a ?l ?c ?k fun D_top_in => ?_
    (case a => k_is); (case l => k_is); (case c => k_is); (case k => k_is)
    refine' Sh.with_df (x := "filled_at") (st := Sh.s_filled_at) KX G ?a ?l ?c ?k fun D_filled_at => ?_
    (case a => k_is); (case l => k_is); (case c => k_is); (case k => k_is)
    refine' Sh.with_df (x := "low_stop") (st := Sh.s_low_stop) KX G ?a ?l ?c ?k fun D_low_stop => ?_
    (case a => k_is); (case l => k_is); (case c => k_is); (case k => k_is)
    refine' Sh.with_df (x := "lot_of") (st := Sh.s_lot_of) KX G ?a ?l ?c ?k fun D_lot_of => ?_
    (case a => k_is); (case l => k_is); (case c => k_is); (case k => k_is)
    refine' Sh.with_df (x := "turned_lot") (st := Sh.s_turned_lot) KX G ?a ?l ?c ?k fun D_turned_lot => ?_
    (case a => k_is); (case l => k_is); (case c => k_is); (case k => k_is)
    refine' Sh.with_df (x := "fixed_ones") (st := Sh.s_fixed_ones) KX G ?a ?l ?c ?k fun D_fixed_ones => ?_
    (case a => k_is); (case l => k_is); (case c => k_is); (case k => k_is)
    refine' Sh.with_df (x := "ways_to_take") (st := Sh.s_ways_to_take) KX G ?a ?l ?c ?k fun D_ways_to_take => ?_
    (case a => k_is); (case l => k_is); (case c => k_is); (case k => k_is)
    refine' Sh.with_df (x := "with_more") (st := Sh.s_with_more) KX G ?a ?l ?c ?k fun D_with_more => ?_
    (case a => k_is); (case l => k_is); (case c => k_is); (case k => k_is)
    refine' Sh.with_df (x := "ways_below") (st := Sh.s_ways_below) KX G ?a ?l ?c ?k fun D_ways_below => ?_
    (case a => k_is); (case l => k_is); (case c => k_is); (case k => k_is)
    refine' Sh.with_df (x := "family_size") (st := Sh.s_family_size) KX G ?a ?l ?c ?k fun D_family_size => ?_
    (case a => k_is); (case l => k_is); (case c => k_is); (case k => k_is)
    refine' Sh.with_df (x := "low_lots") (st := Sh.s_low_lots) KX G ?a ?l ?c ?k fun D_low_lots => ?_
    (case a => k_is); (case l => k_is); (case c => k_is); (case k => k_is)
    refine' Sh.with_df (x := "top_lots") (st := Sh.s_top_lots) KX G ?a ?l ?c ?k fun D_top_lots => ?_
    (case a => k_is); (case l => k_is); (case c => k_is); (case k => k_is)
    refine' Sh.with_df (x := "families_many") (st := Sh.s_families_many) KX G ?a ?l ?c ?k fun D_families_many => ?_
    (case a => k_is); (case l => k_is); (case c => k_is); (case k => k_is)
    refine' Sh.with_df (x := "_law_cell_at") (st := Sh.s__law_cell_at) KX G ?a ?l ?c ?k fun D__law_cell_at => ?_
    (case a => k_is); (case l => k_is); (case c => k_is); (case k => k_is)
    refine' Sh.with_df (x := "_law_box") (st := Sh.s__law_box) KX G ?a ?l ?c ?k fun D__law_box => ?_
    (case a => k_is); (case l => k_is); (case c => k_is); (case k => k_is)
    refine' Sh.with_df (x := "_law_take") (st := Sh.s__law_take) KX G ?a ?l ?c ?k fun D__law_take => ?_
    (case a => k_is); (case l => k_is); (case c => k_is); (case k => k_is)
    refine' Sh.with_df (x := "_law_on") (st := Sh.s__law_on) KX G ?a ?l ?c ?k fun D__law_on => ?_
    (case a => k_is); (case l => k_is); (case c => k_is); (case k => k_is)
    refine' Sh.with_df (x := "_law_of") (st := Sh.s__law_of) KX G ?a ?l ?c ?k fun D__law_of => ?_
    (case a => k_is); (case l => k_is); (case c => k_is); (case k => k_is)
    refine' Sh.with_df (x := "_law_same") (st := Sh.s__law_same) KX G ?a ?l ?c ?k fun D__law_same => ?_
    (case a => k_is); (case l => k_is); (case c => k_is); (case k => k_is)
    refine' Sh.with_df (x := "_law_lot") (st := Sh.s__law_lot) KX G ?a ?l ?c ?k fun D__law_lot => ?_
    (case a => k_is); (case l => k_is); (case c => k_is); (case k => k_is)
    refine' Sh.with_df (x := "_law_marks") (st := Sh.s__law_marks) KX G ?a ?l ?c ?k fun D__law_marks => ?_
    (case a => k_is); (case l => k_is); (case c => k_is); (case k => k_is)
    refine' Sh.with_df (x := "_law_key") (st := Sh.s__law_key) KX G ?a ?l ?c ?k fun D__law_key => ?_
    (case a => k_is); (case l => k_is); (case c => k_is); (case k => k_is)
    refine' Sh.with_df (x := "_law_ways") (st := Sh.s__law_ways) KX G ?a ?l ?c ?k fun D__law_ways => ?_
    (case a => k_is); (case l => k_is); (case c => k_is); (case k => k_is)
    refine' Sh.with_df (x := "_law_many") (st := Sh.s__law_many) KX G ?a ?l ?c ?k fun D__law_many => ?_
    (case a => k_is); (case l => k_is); (case c => k_is); (case k => k_is)
    refine' Sh.with_df (x := "_law_sized") (st := Sh.s__law_sized) KX G ?a ?l ?c ?k fun D__law_sized => ?_
    (case a => k_is); (case l => k_is); (case c => k_is); (case k => k_is)
    refine' Sh.with_df (x := "_law_due") (st := Sh.s__law_due) KX G ?a ?l ?c ?k fun D__law_due => ?_
    (case a => k_is); (case l => k_is); (case c => k_is); (case k => k_is)
    refine' Sh.with_df (x := "_law_choose") (st := Sh.s__law_choose) KX G ?a ?l ?c ?k fun D__law_choose => ?_
    (case a => k_is); (case l => k_is); (case c => k_is); (case k => k_is)
    refine' Sh.with_df (x := "_law_lots_due") (st := Sh.s__law_lots_due) KX G ?a ?l ?c ?k fun D__law_lots_due => ?_
    (case a => k_is); (case l => k_is); (case c => k_is); (case k => k_is)
    refine' Sh.with_df (x := "_law_right") (st := Sh.s__law_right) KX G ?a ?l ?c ?k fun D__law_right => ?_
    (case a => k_is); (case l => k_is); (case c => k_is); (case k => k_is)
    refine' Sh.with_df (x := "law") (st := Sh.s_law) KX G ?a ?l ?c ?k fun D_law => ?_
    (case a => k_is); (case l => k_is); (case c => k_is); (case k => k_is)
    exact Sh.law_end D_law hmg fun base =>
      let O__law_take := Sh.ok_take (base := base) (k := 0) D__law_take T
      let O__law_cell_at := Sh.ok_cell_at (base := base) (k := 0) D__law_cell_at T
      let O__law_box := Sh.ok_box (k := 1) D__law_box T O__law_cell_at
      let O__law_of := Sh.ok_of (k := 1) D__law_of T O__law_take
      let O__law_lot := Sh.ok_lot (k := 2) D__law_lot T (O__law_take.mono (by decide)) O__law_of
      let O_mark_of := Sh.ok_mark_of (base := base) (k := 0) D_mark_of T
      let O_top_of := Sh.ok_top_of (base := base) (k := 0) D_top_of T
      let O_ships_many := Sh.ok_ships (base := base) (k := 0) D_ships_many T
      let O_mark_in := Sh.ok_mark_in (k := 1) D_mark_in T O_mark_of O_ships_many
      let O_top_in := Sh.ok_top_in (k := 1) D_top_in T O_top_of O_ships_many
      let O_goers_many := Sh.ok_goers_many (k := 2) D_goers_many T O_mark_in
      let O_filled_at := Sh.ok_filled (k := 2) D_filled_at T O_mark_in
      let O_low_stop := Sh.ok_low_stop (k := 3) D_low_stop T O_filled_at
      let O_turned_fleet := Sh.ok_turned_fleet (base := base) (k := 0) D_turned_fleet T
      let O_lot_of := Sh.ok_lot_of (k := 4) D_lot_of T C (O_ships_many.mono (by decide)) (O_top_in.mono (by decide)) O_low_stop (O_turned_fleet.mono (by decide))
      let O_turned_lot := Sh.ok_turned_lot (k := 1) D_turned_lot T Ck O_ships_many
      let O_fixed_ones := Sh.ok_fixed (k := 2) D_fixed_ones T O_mark_in
      let Owt := Sh.ok_ways_take (base := base) (k := 0) D_ways_to_take T
      let Owm := Sh.ok_with_more (k := 1) D_with_more T Owt
      let Owb := Sh.ok_ways_below (k := 5) D_ways_below T (O_fixed_ones.mono (by decide)) (O_goers_many.mono (by decide)) (Owm.mono (by decide))
      let Off := Sh.ok_fleet_ofA (base := base) (k := 0) D_fleet_of T
      let Ofs := Sh.ok_family (k := 6) D_family_size T C (Off.mono (by decide)) (O_lot_of.mono (by decide)) Owb (O_turned_fleet.mono (by decide)) (O_turned_lot.mono (by decide))
      let Oll := Sh.ok_low_lots (k := 5) D_low_lots T (O_ships_many.mono (by decide)) (O_goers_many.mono (by decide)) (Owt.mono (by decide))
      let Otl := Sh.ok_top_lots (k := 5) D_top_lots T (O_ships_many.mono (by decide)) (O_goers_many.mono (by decide)) (Owt.mono (by decide))
      let Ofm := Sh.ok_families (k := 6) D_families_many T (Off.mono (by decide)) (O_top_in.mono (by decide)) (O_ships_many.mono (by decide)) Oll Otl (O_turned_fleet.mono (by decide))
      let Oon := Sh.ok_on (k := 6) D__law_on T (O__law_take.mono (by decide))
      let Oma := Sh.ok_many (k := 7) D__law_many T (O__law_take.mono (by decide)) (O__law_of.mono (by decide)) Oon
      let Omk := Sh.ok_lmarks (base := base) (k := 0) D__law_marks T
      let Oky := Sh.ok_lkey (k := 1) D__law_key T (Omk.mono (by decide))
      let Oly := Sh.ok_ways (base := base) (k := 0) D__law_ways T
      let Osz := Sh.ok_sized (k := 2) D__law_sized T (Omk.mono (by decide)) (Oly.mono (by decide))
      let Odu := Sh.ok_due46 (k := 3) D__law_due T (Omk.mono (by decide)) (Oky.mono (by decide)) Osz
      let Ocs := Sh.ok_choose (base := base) (k := 0) D__law_choose T
      let Old := Sh.ok_lots46 (k := 2) D__law_lots_due T (Omk.mono (by decide)) (Ocs.mono (by decide))
      let Ort := Sh.ok_right (k := 10) (by decide) D__law_right T (Oma.mono (by decide)) (O__law_lot.mono (by decide)) (Ofs.mono (by decide)) (Ofm.mono (by decide)) (Odu.mono (by decide)) (Old.mono (by decide)) (Sh.ok_same D__law_same T 4)
      Sh.ok_law (k := 11) D_law T (O__law_box.mono (by decide)) Ort
