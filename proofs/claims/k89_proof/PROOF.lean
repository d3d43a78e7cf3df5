import PyProof.Rows.All
import Wide.All
import OpenK.AllK
import Wide.FinOn
import KE.GoesEnum
import HandS.ForMost
import HandS.Walk
import HandS.Zip
import HandS.IsInst
import HandS.NoneIn
import HandS.SortInts
import HandS.Evl
import HandS.Conv
import HandS.Style
import HandS.Star
import HandS.More
import HandS.Strs
import HandS.SetFor
import HandS.Wide
import PyProof.ReprRoads
import PyProof.ReprLen
import HandS.TupAny
import HandS.RevRange
import PySem.Challenge.RW_shoalmates_k89_whole_door_by_door
set_option Elab.async false
set_option linter.all false
set_option maxRecDepth 100000
set_option maxHeartbeats 1000000
/-! Own layer over the hand layer: sequences (a list or a tuple), enumerate of a tuple, defs by one fact each, what is told kept under a growing heap. -/
namespace Sh
open PySem PySem.Spec PyProof.Rows L2

/-! ### heaps -/
theorem same_new {H : Hp} {p : Addr} {o : HO} (h : H p = none) : Same H (upd H p o) := fun b x e => by
  rw [upd_ne (ne_of_none e h)]
  exact e
theorem Same.tup {K : PySem.W.Frag} {H H' : Hp} {a : Addr} {xs : List V} (e : Same H H') (h : SqT K H a xs) : SqT K H' a xs := by
  rcases h with (h | ⟨o, h⟩) | h
  · exact .inl (.inl (e _ _ h))
  · exact .inl (.inr ⟨o, e _ _ h⟩)
  · exact .inr h
/-- a list or a tuple of xs is to be read at a -/
def SqA (K : PySem.W.Frag) (H : Hp) (a : Addr) (xs : List V) : Prop := SqL K H a xs ∨ SqT K H a xs
theorem Same.sqA {K : PySem.W.Frag} {H H' : Hp} {a : Addr} {xs : List V} (e : Same H H') (h : SqA K H a xs) : SqA K H' a xs := h.elim (fun q => .inl (e.seq q)) fun q => .inr (Same.tup e q)
theorem SqA.l {K : PySem.W.Frag} {H : Hp} {a : Addr} {xs : List V} (h : H a = some (.lst xs)) : SqA K H a xs := .inl (SqL.of h)
theorem SqA.t {K : PySem.W.Frag} {H : Hp} {a : Addr} {xs : List V} (h : H a = some (.tup xs)) : SqA K H a xs := .inr (SqT.of h)
/-- nothing but b has changed of what was tracked -/
def But (b : Addr) (H H' : Hp) : Prop := ∀ a o, a ≠ b → H a = some o → H' a = some o
theorem But.refl (b : Addr) (H : Hp) : But b H H := fun _ _ _ e => e
theorem But.trans {b : Addr} {H H1 H2 : Hp} (x : But b H H1) (y : But b H1 H2) : But b H H2 := fun a o n e => y a o n (x a o n e)
theorem Same.but {b : Addr} {H H' : Hp} (e : Same H H') : But b H H' := fun a o _ h => e a o h
theorem But.ups {b : Addr} {H : Hp} {o : HO} : But b H (upd H b o) := fun a x n e => by rw [upd_ne n]; exact e
theorem But.same {b : Addr} {G H H' : Hp} (x : But b H H') (g : Same G H) (n : G b = none) : Same G H' := fun a o e => x a o (ne_of_none e n) (g a o e)

section
variable {K : PySem.W.Frag} {H H' : Hp}
mutual
theorem Dp.same (e : Same H H') : ∀ {v : V} {d : PyData}, Dp K H v d → Dp K H' v d
  | _, _, .non => .non
  | _, _, .bl b => .bl b
  | _, _, .int i => .int i
  | _, _, .str x => .str x
  | _, _, .lst h a => .lst (e.seq h) (DpAll.same e a)
  | _, _, .tup h a => .tup (Same.tup e h) (DpAll.same e a)
theorem DpAll.same (e : Same H H') : ∀ {vs : List V} {ds : List PyData}, DpAll K H vs ds → DpAll K H' vs ds
  | _, _, .nil => .nil
  | _, _, .cons h a => .cons (Dp.same e h) (DpAll.same e a)
end
theorem DpAll.ints : ∀ ns : List Int, DpAll K H (ns.map V.int) (ns.map PyData.int)
  | [] => .nil
  | n :: ns => .cons (.int n) (DpAll.ints ns)
theorem DpAll.len : ∀ {vs : List V} {ds : List PyData}, DpAll K H vs ds → vs.length = ds.length
  | _, _, .nil => rfl
  | _, _, .cons _ a => congrArg Nat.succ (DpAll.len a)
theorem DpAll.get : ∀ {vs : List V} {ds : List PyData} {i : Nat} {v : V}, DpAll K H vs ds → vs[i]? = some v → ∃ d, ds[i]? = some d ∧ Dp K H v d
  | _, _, _, _, .nil, h => by simp at h
  | _, _, 0, _, .cons x _, h => by
    cases Option.some.inj h
    exact ⟨_, rfl, x⟩
  | _, _, i + 1, _, .cons _ a, h => DpAll.get (i := i) a h
end

/-! ### rules for a list or a tuple -/
section
variable {X : Cx}
def rIxA (K : PySem.W.Frag) : R2 := fun x y H Q => ∃ p xs i v, x = .ref p ∧ y = .int i ∧ SqA K H p xs ∧ atI xs i = some v ∧ Q v H
theorem ix_lt : IxR X (rIxA X.K) := fun value slice pins s σ H x y v u Q I rx ry h hs => by
  obtain ⟨p, xs, i, z, e1, e2, hq | hq, he, q⟩ := h
  · exact ix_list value slice pins s σ H x y v u Q I rx ry ⟨p, xs, i, z, e1, e2, hq, he, q⟩ hs
  · exact ix_tup value slice pins s σ H x y v u Q I rx ry ⟨p, xs, i, z, e1, e2, hq, he, q⟩ hs
/-- a written power, its worth written -/
theorem op_powC (v : Int) : OpR X (binaryOp .Pow) (rI (fun i j => CPow i j ∧ i ^ j.toNat = v) fun _ _ => .int v) := fun pins s σ H x y u w Q I rx ry h => by
  obtain ⟨i, j, e1, e2, ⟨hc, hv⟩, q⟩ := h
  exact op_pow pins s σ H x y u w Q I rx ry ⟨i, j, e1, e2, hc, show Q (.int (i ^ j.toNat)) H by rw [hv]; exact q⟩
/-- a < b < c < d -/
def tChain3 (r r' r'' : R2) (ta tb tc td : TE) : TE := fun σ H Q => ta σ H fun x H1 => tb σ H1 fun y H2 => r x y H2 fun z H3 => ∃ k, z = .bl k ∧
  (if k = true then tc σ H3 fun y' H4 => r' y y' H4 fun z' H5 => ∃ k', z' = .bl k' ∧ (if k' = true then td σ H5 fun y'' H6 => r'' y' y'' H6 Q else Q (.bl false) H5) else Q (.bl false) H3)
theorem pe_chain3 {a b c d : Expr} {ta tb tc td : TE} {pos : Pos} {op op' op'' : CmpOp} {r r' r'' : R2} (ho : OpR X (compareOp op) r) (ho' : OpR X (compareOp op') r') (ho'' : OpR X (compareOp op'') r'') (ha : PE X a ta) (hb : PE X b tb) (hc : PE X c tc) (hd : PE X d td)
    (hm : lastMarks [op, op', op''] [b, c, d] = false := by with_unfolding_all rfl) : PE X (.Compare a [op, op', op''] [b, c, d] pos) (tChain3 r r' r'' ta tb tc td) := by
  refine ⟨fun pins s σ H Q I h => ?_⟩
  refine Compare_chain (thn (ha.run pins s σ H _ I h) fun v s1 ⟨x, H1, I1, r1, q1⟩ => chain_link (thn (hb.run pins s1 σ H1 _ I1 q1) fun u s2 ⟨y, H2, I2, r2, q2⟩ =>
    thn (ho pins s2 σ H2 x y v u _ I2 r1 r2 q2) fun e s3 ⟨z, H3, I3, r3, k, ez, q3⟩ => ?_)) hm
  subst ez
  cases r3
  refine wpAny_truthy_bool ?_
  cases k with
  | false => exact ite_ff ⟨.bl false, H3, I3, rfl, q3⟩
  | true =>
    refine ite_tt (chain_link (thn (hc.run pins s3 σ H3 _ I3 q3) fun u' s4 ⟨y', H4, I4, r4, q4⟩ => thn (ho' pins s4 σ H4 y y' u u' _ I4 r2 r4 q4) fun e s5 ⟨z', H5, I5, r5, k', ez', q5⟩ => ?_))
    subst ez'
    cases r5
    refine wpAny_truthy_bool ?_
    cases k' with
    | false => exact ite_ff ⟨.bl false, H5, I5, rfl, q5⟩
    | true => exact ite_tt (chain_last (thn (hd.run pins s5 σ H5 _ I5 q5) fun w' s6 ⟨y'', H6, I6, r6, q6⟩ => ho'' pins s6 σ H6 y' y'' u' w' Q I6 r4 r6 q6))
theorem pt_chain3 {a b c d : Expr} {ta tb tc td : TE} {pos : Pos} {op op' op'' : CmpOp} {r r' r'' : R2} (ho : OpR X (compareOp op) r) (ho' : OpR X (compareOp op') r') (ho'' : OpR X (compareOp op'') r'') (ha : PE X a ta) (hb : PE X b tb) (hc : PE X c tc) (hd : PE X d td)
    (hm : lastMarks [op, op', op''] [b, c, d] = false := by with_unfolding_all rfl) : PT X (.Compare a [op, op', op''] [b, c, d] pos) (tTest (tChain3 r r' r'' ta tb tc td)) := by
  refine ⟨fun pins s σ H Q I h => ?_⟩
  refine isTrue_chain (thn (ha.run pins s σ H _ I h) fun v s1 ⟨x, H1, I1, r1, q1⟩ => test_link (thn (hb.run pins s1 σ H1 _ I1 q1) fun u s2 ⟨y, H2, I2, r2, q2⟩ =>
    thn (ho pins s2 σ H2 x y v u _ I2 r1 r2 q2) fun e s3 ⟨z, H3, I3, r3, k, ez, q3⟩ => ?_)) hm
  subst ez
  cases r3
  refine wpAny_truthy_bool ?_
  cases k with
  | false =>
    obtain ⟨k', e', q'⟩ := q3
    cases e'
    exact ite_ff ⟨H3, I3, q'⟩
  | true =>
    refine ite_tt (test_link (thn (hc.run pins s3 σ H3 _ I3 q3) fun u' s4 ⟨y', H4, I4, r4, q4⟩ => thn (ho' pins s4 σ H4 y y' u u' _ I4 r2 r4 q4) fun e s5 ⟨z', H5, I5, r5, k', ez', q5⟩ => ?_))
    subst ez'
    cases r5
    refine wpAny_truthy_bool ?_
    cases k' with
    | false =>
      obtain ⟨k', e', q'⟩ := q5
      cases e'
      exact ite_ff ⟨H5, I5, q'⟩
    | true =>
      refine ite_tt (test_last (thn (hd.run pins s5 σ H5 _ I5 q5) fun w' s6 ⟨y'', H6, I6, r6, q6⟩ => thn (ho'' pins s6 σ H6 y' y'' u' w' _ I6 r4 r6 q6) fun e s7 ⟨z2, H7, I7, r7, k2, e2, q7⟩ => ?_))
      subst e2
      cases r7
      exact wpAny_truthy_bool ⟨H7, I7, q7⟩
/-- the same, the written part by its own name (within a comprehension) -/
theorem ix_ltK (K : PySem.W.Frag) (hK : X.K = K := by rfl) : IxR X (rIxA K) := hK ▸ ix_lt
theorem call_lenK (K : PySem.W.Frag) (hK : X.K = K := by rfl) : CallR X (.builtin "len") (fun xs H Q => ∃ p ys, xs = [.ref p] ∧ (SqL K H p ys ∨ SqT K H p ys) ∧ Q (.int ys.length) H) := hK ▸ call_len_seq
theorem op_inK (K : PySem.W.Frag) (hK : X.K = K := by rfl) : OpR X (compareOp .In) (rIn K false) := hK ▸ op_in_seq
theorem op_notInK (K : PySem.W.Frag) (hK : X.K = K := by rfl) : OpR X (compareOp .NotIn) (rIn K true) := hK ▸ op_notIn_seq
def gSeq (K : PySem.W.Frag) (n : Nat) (t : TGs) : TG := fun v σ H Q => ∃ a xs, v = .ref a ∧ SqA K H a xs ∧ xs.length = n ∧ t xs σ H Q
theorem pg_seq {es : List Expr} {k : Nat} {t : TGs} {n : Nat} {pos : Pos} (hc : X.calm = true) (h : PGs X es t)
    (hn : (assignEach es X.env).length = n := by rfl) (hst : (assignEach es X.env).findIdx? (·.1) = none := by rfl) : PG X (.Tuple es k pos) (gSeq X.K n t) := by
  refine ⟨fun pins s σ H v u Q I r hw => ?_⟩
  obtain ⟨a, xs, e1, hq | hq, hl, hw⟩ := hw
  · exact (pg_unl hc h hn hst).run pins s σ H v u Q I r ⟨a, xs, e1, hq, hl, hw⟩
  · exact (pg_tup hc h hn hst).run pins s σ H v u Q I r ⟨a, xs, e1, hq, hl, hw⟩
/-- what stands at a stands -/
def Kp (a : Addr) (H H' : Hp) : Prop := ∀ o, H a = some o → H' a = some o
theorem Kp.ofS {a : Addr} {H H' : Hp} (e : Same H H') : Kp a H H' := fun o h => e a o h
theorem Kp.ofB {a b : Addr} {H H' : Hp} (e : But b H H') (n : a ≠ b) : Kp a H H' := fun o h => e a o n h
theorem Kp.refl (a : Addr) (H : Hp) : Kp a H H := fun _ h => h
theorem Kp.sl {K : PySem.W.Frag} {a : Addr} {xs : List V} {H H' : Hp} (k : Kp a H H') (h : SqL K H a xs) : SqL K H' a xs := by
  rcases h with (h | ⟨o, h⟩) | h
  · exact .inl (.inl (k _ h))
  · exact .inl (.inr ⟨o, k _ h⟩)
  · exact .inr h
theorem Kp.st {K : PySem.W.Frag} {a : Addr} {xs : List V} {H H' : Hp} (k : Kp a H H') (h : SqT K H a xs) : SqT K H' a xs := by
  rcases h with (h | ⟨o, h⟩) | h
  · exact .inl (.inl (k _ h))
  · exact .inl (.inr ⟨o, k _ h⟩)
  · exact .inr h
theorem Kp.sa {K : PySem.W.Frag} {a : Addr} {xs : List V} {H H' : Hp} (k : Kp a H H') (h : SqA K H a xs) : SqA K H' a xs := h.elim (fun q => .inl (k.sl q)) fun q => .inr (k.st q)
/-- the walk over what stood at a in H0 -/
def ItA (K : PySem.W.Frag) (H0 : Hp) (a : Addr) (xs : List V) (J : It) : Prop := (J = Itl K a ∧ SqL K H0 a xs) ∨ (J = Itt K a ∧ SqT K H0 a xs)
def iSeq (K : PySem.W.Frag) (tl : TE) : TI := fun σ H R => tl σ H fun x H1 => ∃ (a : Addr) (xs : List V) (H0 : Hp), x = .ref a ∧ SqA K H0 a xs ∧ Kp a H0 H1 ∧ ∀ J, ItA K H0 a xs J → R J H1
theorem pi_seq {tg l : Expr} {tl : TE} (hl : PE X l tl) : PI X tg l (iSeq X.K tl) := by
  refine ⟨fun pins s σ H R I h => ?_⟩
  refine thn (hl.run pins s σ H _ I h) fun v s1 ⟨x, H1, I1, r1, q1⟩ => ?_
  obtain ⟨a, xs, H0, e, hq | hq, hk, q⟩ := q1
  · replace q := q _ (.inl ⟨rfl, hq⟩)
    replace hq := hk.sl hq
    subst e
    cases r1
    obtain ⟨its, rv, p, hz⟩ := I1.list hq
    refine wpAny_pyIter_list p.isList ?_
    refine ⟨s1.heap.objs.size, [s1.heap.objs.size], _, _, H1, rfl, I1.kept (t' := s1.toks) fun b o e => Heap.get?_push_of_some _ e, turn_list a _, ⟨_, Heap.get?_push_size _ rfl, rfl, rfl⟩, fun b hb => ?_, q⟩
    have e : b = s1.heap.objs.size := by simpa using hb
    subst e
    exact I1.fpOk (Nat.le_refl _) (I1.hok.fresh (Nat.le_refl _))
  · replace q := q _ (.inr ⟨rfl, hq⟩)
    replace hq := hk.st hq
    subst e
    cases r1
    obtain ⟨its, rv, p, hz⟩ := I1.tuple hq
    refine wpAny_pyIter_tuple (show s1.heap.IsTuple a its.toArray from p) ?_
    refine ⟨s1.heap.objs.size, [s1.heap.objs.size], _, _, H1, rfl, I1.kept (t' := s1.toks) fun b o e => Heap.get?_push_of_some _ e, turn_tuple a _, ⟨_, Heap.get?_push_size _ rfl, rfl, rfl⟩, fun b hb => ?_, q⟩
    have e : b = s1.heap.objs.size := by simpa using hb
    subst e
    exact I1.fpOk (Nat.le_refl _) (I1.hok.fresh (Nat.le_refl _))
end

theorem ItA.walk {K : PySem.W.Frag} {H0 : Hp} {a : Addr} {xs : List V} {J : It} (h : ItA K H0 a xs J) : ∃ G : Hp → Prop, (∀ H', Kp a H0 H' → G H') ∧ Walk J xs.length G (YAt xs) := by
  rcases h with ⟨rfl, q⟩ | ⟨rfl, q⟩
  · exact ⟨_, fun _ k => k.sl q, walk_list⟩
  · exact ⟨_, fun _ k => k.st q, walk_tup⟩

/-! ### enumerate of a tuple -/
set_option maxHeartbeats 1000000 in
theorem meets_enum1 {v : Value} {o : Obj} {H : Heap → Prop} (B : Begins v o H) :
    Meets (Builtin.«enumerate.__new__» ⟨[.type "enumerate", v], []⟩) (fun _ R s => H s.heap ∧
      R (.ok (.ret (.ref (s.heap.push o).objs.size))) { s with heap := (s.heap.push o).push { cls := .type "enumerate", data := .fields #[.none, .bool false, .ref s.heap.objs.size, rawInt 0, .none, .none] } }) :=
  .of_wp fun prog w A R s h => by
    obtain ⟨hp, g, d, tk, os⟩ := s; obtain ⟨h1, h⟩ := h
    have hsub := sub_enumerate
    have q1 : ∀ {A' : Around} {E : Value → Shared → Prop} {Q : Value → Shared → Prop}, Q (.ref hp.objs.size) ⟨hp.push o, g, d, tk, os⟩ → wpAny (model prog w) A' (pyIter v) Q E ⟨hp, g, d, tk, os⟩ :=
      fun q => B.iter prog w _ _ ⟨hp, g, d, tk, os⟩ _ h1 q
    wp_walk using q1
    refine wpAny_stack_any fun st => wpAny_pure ?_
    split
    · rename_i c _ _ _ _ _
      cases (c == Value.type "enumerate")
      · wp_walk using q1
        exact ⟨_, rfl, h⟩
      · wp_walk using q1
        exact ⟨_, rfl, h⟩
    · wp_walk using q1
      exact ⟨_, rfl, h⟩
section
variable {prog : Program} {w : World} {A : Around} {E : Value → Shared → Prop} {s : Shared}
theorem enum1_begins {v : Value} {o : Obj} {H : Heap → Prop} {Q : Value → Shared → Prop} (B : Begins v o H) (h1 : H s.heap)
    (h : ∀ h', IsEnum h' (s.heap.objs.size + 1) s.heap.objs.size 0 .none → h'.get? s.heap.objs.size = some o → h'.objs.size = s.heap.objs.size + 2 →
      (∀ b o, s.heap.get? b = some o → h'.get? b = some o) → Q (.ref (s.heap.objs.size + 1)) { s with heap := h' }) :
    wpAny (model prog w) A (call (.type "enumerate") [v]) Q E s := by
  refine callType_new F.called_enumerate (by decide) (F.typeCall_enumerate_1 _) (F.newCall_enumerate_1 _) (fun obj => F.args_object_init_2 obj _) F.entry_enumerate_new
    (meets_enum1 B) ⟨h1, ?_⟩
  have hz : (s.heap.push o).objs.size = s.heap.objs.size + 1 := Heap.size_push ..
  show _ ∧ _
  rw [hz]
  have he : IsEnum ((s.heap.push o).push { cls := .type "enumerate", data := .fields #[.none, .bool false, .ref s.heap.objs.size, rawInt 0, .none, .none] }) (s.heap.objs.size + 1) s.heap.objs.size 0 .none := by
    have := Heap.get?_push_size (s.heap.push o) (o := { cls := .type "enumerate", data := .fields #[.none, .bool false, .ref s.heap.objs.size, rawInt 0, .none, .none] }) rfl
    rw [hz] at this; exact this
  refine ⟨⟨_, he, rfl⟩, h _ he (Heap.get?_push_of_some _ (Heap.get?_push_size _ B.free)) (by rw [Heap.size_push, hz]) fun b o x => Heap.get?_push_of_some _ (Heap.get?_push_of_some _ x)⟩
end
/-- the tuple at a as it stands at each turn, each item in a new pair -/
def IteT (K : PySem.W.Frag) (a : Addr) : It :=
  ⟨fun i H => ∃ (xs : List V) (x : V), SqT K H a xs ∧ xs[i]? = some x, fun i H v H' => ∃ T x, v = .ref T ∧ H T = none ∧ H' = upd H T (.tup [.int (i : Nat), x]) ∧ ∀ xs, SqT K H a xs → xs[i]? = some x, fun i H => ∃ xs : List V, SqT K H a xs ∧ xs.length ≤ i⟩
end Sh

namespace Sh
open PySem PySem.Spec PyProof.Rows L2
section
variable {prog : Program} {w : World} {A : Around} {E : Value → Shared → Prop} {s : Shared}
theorem enum_endT {e it t : Addr} {n : Nat} {i : Int} {old : Value} {items : Array Value} {Q : Option Value → Shared → Prop} (hh : A.handled = none)
    (he : IsEnum s.heap e it i old) (hit : s.heap.IsTupleIter it t n) (ht : s.heap.IsTuple t items) (hx : items[n]? = none)
    (hQ : ∀ h', Heap.ExtBut it s.heap h' → Q none { s with heap := h' }) : wpAny (model prog w) A (pyNext (.ref e)) Q E s := by
  have hT : s.TypeIs (.ref e) "enumerate" := ⟨_, he, rfl⟩
  unfold pyNext
  refine wpAny_bind (wpAny_attempt (wpAny_callSpecial?_slot (name := Str.ofString "__next__") hT F.slot_enumerate_next
    (wpAny_call_entry F.slot_enumerate_next hT F.entry_enumerate_next ?_ (F.args_enumerate_next_1 _))))
  show wpAny _ _ (field (.ref e) 2 >>= _) _ _ _
  refine wpAny_bind (wpAny_field he rfl (x := .ref it) rfl ?_)
  refine wpAny_bind (wpAny_nextOf_tuple_end (show _ = none from hh) hit ht hx fun h' x he' hx' => ?_)
  obtain ⟨o, ho, hc⟩ := hx'
  refine wpAny_bind (wpAny_isInstance (T := "StopIteration") (b := true) ⟨o, ho, hc⟩ isSubtype_stop ?_)
  exact wpAny_pure (hQ _ he')
end
theorem turn_enumT {P : Program} {w : World} {K : PySem.W.Frag} {elts : List Expr} {kk : Nat} {tpos : Pos} (a e it : Addr) :
    Turn P w K (.Tuple elts kk tpos) (IteT K a) [e, it] e (fun i h => (∃ old, IsEnum h e it ((i : Nat) : Int) old) ∧ h.IsTupleIter it a i ∧ e ≠ it ∧ a ≠ it ∧ e ≠ a) where
  mem := by simp
  obj := fun i h st b hb => by
    obtain ⟨⟨old, he⟩, ⟨o, ho, hc, hd⟩, _⟩ := st
    have e' : b = e ∨ b = it := by simpa using hb
    rcases e' with z | z
    · rw [z]; exact ⟨_, he, fun v q => nomatch q⟩
    · rw [z]; exact ⟨o, ho, fun v q => by rw [hd] at q; cases q⟩
  keep := fun i h h' st k => let ⟨⟨old, he⟩, hi, hne⟩ := st; ⟨⟨old, k e (by simp) _ he⟩, hi.at fun o q => k it (by simp) o q, hne⟩
  item := by
    intro X hP hw hK hc i pins s σ H E I hf st hg
    subst hP hw hK
    obtain ⟨⟨old, he⟩, hit, hne, hai, hea⟩ := st
    obtain ⟨xs, x, hq, hx⟩ := hg
    obtain ⟨its, rv, p, hz⟩ := I.tuple hq
    obtain ⟨u, hu, ru⟩ := rv.get hx
    have hel : e < s.heap.objs.size := Heap.lt_size he
    have hil : it < s.heap.objs.size := by obtain ⟨_, q, _⟩ := hit; exact Heap.lt_size q
    have D := Draws.tuple (prog := X.prog) (w := X.w) (A := X.A.in1) (show X.A.in1.handled = none from I.ok.hd hc) it a hai its.toArray
    have hlt : i < its.toArray.size := by
      have q := (List.getElem?_eq_some_iff.mp hu).1
      simpa using q
    refine wpAny_pyNext_enum_itemC D he ⟨hit, p⟩ hlt hne (by simp [hne, hea]) fun u' h' tk hP ho hst' hT hsz hk => ?_
    have eu : u' = u := by
      have q : its.toArray[i]? = some u' := hP
      have q2 : its.toArray[i]? = some u := by simpa using hu
      exact Option.some.inj (q.symm.trans q2)
    subst eu
    obtain ⟨hit', _⟩ := hst'
    refine ⟨_, rfl, wpAny_letOwnedTupleGo_enum (s := { s with heap := h', toks := tk + 1 }) ho fun h'' he' sb => ?_⟩
    have hT2 : h''.get? s.heap.objs.size = some { cls := .type "tuple", data := .seq #[.int i tk, u'] } := (sb.2 _ (Nat.ne_of_gt hel)).trans hT
    have new : ObjOk X.prog X.w (upd H s.heap.objs.size (.tup [.int (i : Nat), x])) h'' s.heap.objs.size (.tup [.int (i : Nat), x]) :=
      ⟨by show 2 ≤ sizeLine; decide, [.int i tk, u'], .cons ⟨_, rfl⟩ (.cons ru .nil), ⟨_, hT2, rfl, _, rfl⟩⟩
    have I1 : Inv X pins σ (upd H s.heap.objs.size (.tup [.int (i : Nat), x])) { s with heap := h'', toks := tk + 1 } :=
      I.turnedNew (ch := [e, it]) (fun b ob hb q => (sb.2 b (fun z => hb (by simp [z]))).trans (hk b ob (fun z => hb (by simp [z])) (fun z => hb (by simp [z])) q)) hf (Nat.le_refl _) new
    refine ⟨.ref s.heap.objs.size, _, I1, rfl, ⟨_, x, rfl, I.hok.fresh (Nat.le_refl _), rfl, fun ys hy => by rw [I.tuple_inj hy hq]; exact hx⟩, ⟨⟨u', ?_⟩, hit'.at fun o q => (sb.2 it (Ne.symm hne)).trans q, hne, hai, hea⟩, fun b hb => ?_⟩
    · have e1 : ((i + 1 : Nat) : Int) = (i : Int) + 1 := by omega
      rw [e1]; exact he'
    · have hb' : b < s.heap.objs.size := by
        have e' : b = e ∨ b = it := by simpa using hb
        rcases e' with z | z
        · rw [z]; exact hel
        · rw [z]; exact hil
      rw [upd_ne (Nat.ne_of_lt hb')]
      exact (hf b hb).1
  done := by
    intro X hP hw hK hc i pins s σ H E I hf st hg
    subst hP hw hK
    obtain ⟨⟨old, he⟩, hit, hne, hai, hea⟩ := st
    obtain ⟨xs, hq, hx⟩ := hg
    obtain ⟨its, rv, p, hz⟩ := I.tuple hq
    obtain ⟨f0, f1, f2, f3, f4, f5⟩ := hf it (by simp)
    have hl := rv.length
    exact enum_endT (I.ok.hd hc) he hit p (by simp; omega) fun h' eb => ⟨rfl, I.turned (t' := s.toks) (fun b o hb q => eb b o hb q) f0 f1 f3 f4 f5⟩
  self := fun A i s Q E st h => let ⟨⟨_, he⟩, _⟩ := st; wpAny_pyIter_enum he h
def ItE (K : PySem.W.Frag) (H0 : Hp) (a : Addr) (xs : List V) (J : It) : Prop := (J = Ite K a ∧ SqL K H0 a xs) ∨ (J = IteT K a ∧ SqT K H0 a xs)
def iEnumA (K : PySem.W.Frag) (ta : TA) : TI := fun σ H R => ta σ H fun vs H1 => ∃ (a : Addr) (xs : List V) (H0 : Hp), vs = [.ref a] ∧ SqA K H0 a xs ∧ Kp a H0 H1 ∧ ∀ J, ItE K H0 a xs J → R J H1
theorem pi_enumA {X : Cx} {e : Expr} {ta : TA} {p pos tpos : Pos} {elts : List Expr} {kk : Nat} (hg : Gl X "enumerate") (hm : X.mg "enumerate" = none) (ha : PA X [e] ta) (hs : starEach [e] X.env = [(false, eval e X.env)] := by rfl) :
    PI X (.Tuple elts kk tpos) (.Call (.Name "enumerate" p) [e] [] pos) (iEnumA X.K ta) := by
  refine ⟨fun pins s σ H R I h => ?_⟩
  refine Call_ (ld_blt I hg hm boot_enumerate (PyProof.Rows.callWith_type1 (thn (ha.run pos pins s σ H _ I h) fun us s1 ⟨vs, H1, I1, r1, q1⟩ => ?_) hs rfl))
  obtain ⟨a, xs, H0, ex, hs0, hk, q1⟩ := q1
  subst ex
  cases r1 with
  | cons r rr =>
    cases rr
    cases r
    have fr : ∀ b ∈ [s1.heap.objs.size + 1, s1.heap.objs.size], FpOk X pins H1 b := fun b hb => by
      have e' : b = s1.heap.objs.size + 1 ∨ b = s1.heap.objs.size := by simpa using hb
      have hle : s1.heap.objs.size ≤ b := by
        rcases e' with z | z
        · rw [z]; exact Nat.le_add_right _ _
        · rw [z]; exact Nat.le_refl _
      exact I1.fpOk hle (I1.hok.fresh hle)
    rcases hs0 with hq | hq
    · have q := q1 _ (.inl ⟨rfl, hq⟩)
      replace hq := hk.sl hq
      obtain ⟨its, rv, p', hz⟩ := I1.list hq
      refine call_enumerate_list p'.isList fun h' he hit hsz hk => wpAny_pyIter_enum he ?_
      have I2 : Inv X pins σ H1 { s1 with heap := h' } := I1.kept (t' := s1.toks) hk
      exact ⟨s1.heap.objs.size + 1, [s1.heap.objs.size + 1, s1.heap.objs.size], _, _, H1, rfl, I2, turn_enum a (s1.heap.objs.size + 1) s1.heap.objs.size, ⟨⟨.none, he⟩, hit, Nat.succ_ne_self _⟩, fr, q⟩
    · have q := q1 _ (.inr ⟨rfl, hq⟩)
      replace hq := hk.st hq
      obtain ⟨its, rv, p', hz⟩ := I1.tuple hq
      have al : a < s1.heap.objs.size := by obtain ⟨_, q, _⟩ := id p'; exact Heap.lt_size q
      refine enum1_begins (begins_tuple a its.toArray) p' fun h' he hit hsz hk => wpAny_pyIter_enum he ?_
      have I2 : Inv X pins σ H1 { s1 with heap := h' } := I1.kept (t' := s1.toks) hk
      exact ⟨s1.heap.objs.size + 1, [s1.heap.objs.size + 1, s1.heap.objs.size], _, _, H1, rfl, I2, turn_enumT a (s1.heap.objs.size + 1) s1.heap.objs.size, ⟨⟨.none, he⟩, ⟨_, hit, rfl, rfl⟩, Nat.succ_ne_self _, Nat.ne_of_lt al, Nat.ne_of_gt (Nat.lt_succ_of_lt al)⟩, fr, q⟩
theorem walk_enumT {K : PySem.W.Frag} {a : Addr} {xs : List V} : Walk (IteT K a) xs.length (fun H => SqT K H a xs) (YPair (fun i => some (.int (i : Nat))) (fun i => xs[i]?)) := by
  refine ⟨fun i _ hi q => ⟨xs, xs[i], q, by simp [hi]⟩, fun _ q => ⟨xs, q, Nat.le_refl _⟩, fun i H v H' _ q y => ?_⟩
  obtain ⟨T, x, h1, h2, h3, h4⟩ := y
  exact ⟨T, .int (i : Nat), x, h1, h2, h3, rfl, h4 xs q⟩
theorem ItE.walk {K : PySem.W.Frag} {H0 : Hp} {a : Addr} {xs : List V} {J : It} (h : ItE K H0 a xs J) : ∃ G : Hp → Prop, (∀ H', Kp a H0 H' → G H') ∧ Walk J xs.length G (YPair (fun i => some (.int (i : Nat))) (fun i => xs[i]?)) := by
  rcases h with ⟨rfl, q⟩ | ⟨rfl, q⟩
  · exact ⟨_, fun _ k => k.sl q, walk_enum⟩
  · exact ⟨_, fun _ k => k.st q, walk_enumT⟩
theorem walk_zipT {K : PySem.W.Frag} {a b : Addr} {xs ys : List V} {n : Nat} (hn : n = min xs.length ys.length) : Walk (RZ.ItzT K a b) n (fun H => SqT K H a xs ∧ SqT K H b ys) (YPair (fun i => xs[i]?) (fun i => ys[i]?)) := by
  subst hn
  refine ⟨fun i _ hi q => ?_, fun _ q => ⟨xs, ys, q.1, q.2, by omega⟩, fun i H v H' _ q y => ?_⟩
  · have h1 : i < xs.length := by omega
    have h2 : i < ys.length := by omega
    exact ⟨xs, ys, xs[i], ys[i], q.1, q.2, by simp [h1], by simp [h2]⟩
  · obtain ⟨T, x, z, h1, h2, h3, h4, h5⟩ := y
    exact ⟨T, x, z, h1, h2, h3, h4 xs q.1, h5 ys q.2⟩
end Sh

namespace Sh
open PySem PySem.Spec PyProof.Rows L2
/-- a def of the top: where it stands, and the global name -/
structure Df (K : PySem.W.Frag) (mg : Str → Option Value) (x : Str) (st : Stmt) : Prop where
  ex : ∃ (f : Addr) (fd : FuncData), Fun K x x st f fd ∧ mg x = some (.ref f)
/-- it keeps its promise -/
structure Ok (P : Program) (w : World) (K : PySem.W.Frag) (mg : Str → Option Value) (base : Heap) (k : Nat) (x : Str) (st : Stmt) (ps : List Str) (sp : Sp) : Prop where
  ex : ∃ (f : Addr) (fd : FuncData), Fun K x x st f fd ∧ mg x = some (.ref f) ∧ Binds K fd ps [] ∧ FnOk P w K mg base CX0 k f fd ps sp
section
variable {P : Program} {w : World} {K : PySem.W.Frag} {mg : Str → Option Value} {base : Heap}
theorem Df.ok {x : Str} {st : Stmt} {N ps : List Str} {k : Nat} {sp : Sp} (D : Df K mg x st) (S : FnScope N ps (defScope st))
    (hb : ∀ (kV doc pm : Value) (an : Option Addr) (cdv ct : Value) (us : List Value), us.length = ps.length → bindArgs (PySem.W.fnOf x x (defArgs st) (defBody st) (defScope st) .none kV doc pm an cdv ct) ⟨us, []⟩ = pure (ps.zip us))
    (len : ∀ vs H Q E, sp vs H Q E → vs.length = ps.length)
    (hbody : ∀ (f : Addr) (cdv : Value) (A : Around) (outer : List Env) (s : Shared) (H : Hp) (vs : List V) (Q : VK) (E : XK), Room k (A.deeper (envOfC x (defScope st) s.heap.objs.size f cdv)) → sp vs H Q E →
      ∃ t, PSs (cxOf CX0 P w K mg base N x (defScope st) f cdv A outer s H E).nox (defBody st) t ∧ t { nx := fun _ H' => Q .non H', rt := Q } (start N vs) H) : Ok P w K mg base (k + 1) x st ps sp := by
  obtain ⟨f, fd, F, g⟩ := D.ex
  exact ⟨f, fd, F, g, F.binds hb, F.ok S len (fun cdv A outer s H vs Q E hr h => hbody f cdv A outer s H vs Q E hr h)⟩
theorem Ok.mono {x : Str} {st : Stmt} {ps : List Str} {j k : Nat} {sp : Sp} (O : Ok P w K mg base j x st ps sp) (h : j ≤ k) : Ok P w K mg base k x st ps sp := by
  obtain ⟨f, fd, F, g, b, G⟩ := O.ex
  exact ⟨f, fd, F, g, b, G.mono h⟩
theorem Ok.imp {x : Str} {st : Stmt} {ps : List Str} {k : Nat} {sp sp' : Sp} (O : Ok P w K mg base k x st ps sp) (h : ∀ vs H Q E, sp' vs H Q E → sp vs H Q E) : Ok P w K mg base k x st ps sp' := by
  obtain ⟨f, fd, F, g, b, G⟩ := O.ex
  exact ⟨f, fd, F, g, b, G.imp h⟩
end
/-- the values at the places js -/
def pk {α : Type} (js : List Nat) (l : List α) : List α := js.filterMap fun j => l[j]?
theorem vals_get : ∀ {vs : List V} {us : List Value} (j : Nat), Vals vs us → (vs[j]? = none ∧ us[j]? = none) ∨ ∃ v u, vs[j]? = some v ∧ us[j]? = some u ∧ RelV v u
  | _, _, _, .nil => .inl ⟨by simp, by simp⟩
  | _, _, 0, .cons r _ => .inr ⟨_, _, rfl, rfl, r⟩
  | _, _, j + 1, .cons _ t => by simpa using vals_get j t
theorem vals_app : ∀ {vs zs : List V} {us ws : List Value}, Vals vs us → Vals zs ws → Vals (vs ++ zs) (us ++ ws)
  | _, _, _, _, .nil, h => h
  | _, _, _, _, .cons r t, h => .cons r (vals_app t h)
theorem vals_pk {vs : List V} {us : List Value} (h : Vals vs us) : ∀ js : List Nat, Vals (pk js vs) (pk js us)
  | [] => .nil
  | j :: js => by
    unfold pk
    rcases vals_get j h with ⟨a, b⟩ | ⟨v, u, a, b, r⟩
    · rw [List.filterMap_cons_none a, List.filterMap_cons_none b]
      exact vals_pk h js
    · rw [List.filterMap_cons_some a, List.filterMap_cons_some b]
      exact .cons r (vals_pk h js)
section
variable {X : Cx} {k : Nat} {x : Str} {st : Stmt} {ps : List Str} {sp : Sp} {e : Expr} {es : List Expr} {t tk : TA} {p pos : Pos} {kws : List Keyword} {ks : List Str}
/-- f(e, ..) -/
theorem pe_fn (O : Ok X.prog X.w X.K X.mg X.base k x st ps sp) (hr : Room k X.A) (ha : PA X (e :: es) t) (hg : Gl X x := by rfl)
    (hdb : (x == ("__debug__" : Str)) = false := by decide) (he : starEach (e :: es) X.env = (false, eval e X.env) :: starEach es X.env := by rfl) (hpl : (backTo pos (starEach es X.env)).any (·.1) = false := by rfl) :
    PE X (.Call (.Name x p) (e :: es) [] pos) (tCall sp [] E0 t) := by
  obtain ⟨f, fd, F, g, b, G⟩ := O.ex
  exact pe_call G hr hg g F.kp b .nil pass0 ha hdb he hpl
/-- f(e, .., k = v, ..): the parameters are the places js of all that is handed in -/
def tCallJ (js : List Nat) (n : Nat) (sp : Sp) (t tk : TA) : TE := fun σ H Q => t σ H fun vs H1 => tk σ H1 fun zs H2 => (vs.length + zs.length = n ∧ zs.length = n - vs.length) ∧ sp (pk js (vs ++ zs)) H2 Q E0
theorem run_fnJ {pins : List (Addr × Obj)} {σ : L2.St} {H : Hp} {s : Shared} {Q : VK} {us ws : List Value} {vs zs : List V} {js : List Nat} {f : Addr} {fd : FuncData} (F : Fun X.K x x st f fd) (G : FnOk X.prog X.w X.K X.mg X.base CX0 k f fd ps sp) (hr : Room k X.A)
    (hb : ∀ (kV doc pm : Value) (an : Option Addr) (cdv ct : Value), bindArgs (PySem.W.fnOf x x (defArgs st) (defBody st) (defScope st) .none kV doc pm an cdv ct) ⟨us, ks.zip ws⟩ = pure (ps.zip (pk js (us ++ ws))))
    (I : Inv X pins σ H s) (r : Vals vs us) (rz : Vals zs ws) (h : sp (pk js (vs ++ zs)) H Q E0) : wpAny (model X.prog X.w) X.A (call (.ref f) us (ks.zip ws)) (EP X pins σ Q) X.xe s := by
  obtain ⟨oc, od, kV, doc, pm, an, cdv, ct, osl, rfl, lk, hcd⟩ := F.ex
  refine wpAny_call (codeAny_mono (G.run X.A X.stack s H ⟨us, ks.zip ws⟩ (pk js (us ++ ws)) (pk js (vs ++ zs)) Q E0 hr I.env0 (.of_eq (hb kV doc pm an cdv ct)) (vals_pk (vals_app r rz) js) h) fun r s' hq => ?_)
  cases r with
  | error e => exact pass0 pins σ H s e s' I hq
  | ok fl =>
    cases fl with
    | ret u => exact I.after hq
    | next => exact False.elim hq
    | brk => exact False.elim hq
    | cont => exact False.elim hq
/-- f(k = v, ..) -/
theorem pe_fnK0 (js : List Nat) (O : Ok X.prog X.w X.K X.mg X.base k x st ps sp) (hr : Room k X.A)
    (hb : ∀ (kV doc pm : Value) (an : Option Addr) (cdv ct : Value) (ws : List Value), ws.length = ks.length → bindArgs (PySem.W.fnOf x x (defArgs st) (defBody st) (defScope st) .none kV doc pm an cdv ct) ⟨[], ks.zip ws⟩ = pure (ps.zip (pk js ws)))
    (hkw : PK X kws tk) (hg : Gl X x := by rfl) (hall : (backToKw pos (keywordEach kws X.env)).all (·.1.isSome) = true := by rfl) (hks : (backToKw pos (keywordEach kws X.env)).filterMap (·.1) = ks := by rfl) (hdb : (x == ("__debug__" : Str)) = false := by decide)
    (hpl : ((backTo pos (starEach [] X.env)).any (·.1) || (backToKw pos (keywordEach kws X.env)).any (·.1.isNone)) = false := by rfl) :
    PE X (.Call (.Name x p) [] kws pos) (tCallJ js ks.length sp tNil tk) := by
  obtain ⟨f, fd, F, g, b, G⟩ := O.ex
  refine ⟨fun pins s σ H Q I h => ?_⟩
  refine wpAny_Call_Name_kw (ld_glob I hg g ?_ hdb)
  refine PySem.W.callWith_KW0 (h₀ := X.base) I.ok.mod.kin F.kp hall ?_ hpl
  refine thn (hkw.run pos pins s σ H _ I h) fun ws s2 ⟨zs, H2, I2, rz, l2, q2⟩ => ⟨I2.kIn, ?_⟩
  rw [hks]
  exact run_fnJ (us := []) (vs := []) (js := js) F G hr (fun kV doc pm an cdv ct => hb kV doc pm an cdv ct ws (rz.length.symm.trans l2.2)) I2 .nil rz q2
/-- f(e, .., k = v, ..), n positional ones -/
theorem pe_fnK (js : List Nat) (n : Nat) (O : Ok X.prog X.w X.K X.mg X.base k x st ps sp) (hr : Room k X.A)
    (hb : ∀ (kV doc pm : Value) (an : Option Addr) (cdv ct : Value) (us ws : List Value), us.length = n → ws.length = ks.length → bindArgs (PySem.W.fnOf x x (defArgs st) (defBody st) (defScope st) .none kV doc pm an cdv ct) ⟨us, ks.zip ws⟩ = pure (ps.zip (pk js (us ++ ws))))
    (ha : PA X (e :: es) t) (hkw : PK X kws tk) (hg : Gl X x := by rfl) (hall : (backToKw pos (keywordEach kws X.env)).all (·.1.isSome) = true := by rfl) (hks : (backToKw pos (keywordEach kws X.env)).filterMap (·.1) = ks := by rfl)
    (hdb : (x == ("__debug__" : Str)) = false := by decide) (he : starEach (e :: es) X.env = (false, eval e X.env) :: starEach es X.env := by rfl)
    (hpl : ((backTo pos (starEach (e :: es) X.env)).any (·.1) || (backToKw pos (keywordEach kws X.env)).any (·.1.isNone)) = false := by rfl) :
    PE X (.Call (.Name x p) (e :: es) kws pos) (fun σ H Q => t σ H fun vs H1 => tk σ H1 fun zs H2 => (vs.length = n ∧ zs.length = ks.length) ∧ sp (pk js (vs ++ zs)) H2 Q E0) := by
  obtain ⟨f, fd, F, g, b, G⟩ := O.ex
  refine ⟨fun pins s σ H Q I h => ?_⟩
  refine wpAny_Call_Name_kw (ld_glob I hg g ?_ hdb)
  refine PySem.W.callWith_KW (h₀ := X.base) I.ok.mod.kin F.kp hall (thn (ha.run pos pins s σ H _ I h) fun us s1 ⟨vs, H1, I1, r, q⟩ => ?_) hpl he
  refine thn (hkw.run pos pins s1 σ H1 _ I1 q) fun ws s2 ⟨zs, H2, I2, rz, ⟨l1, l2⟩, q2⟩ => ⟨I2.kIn, ?_⟩
  rw [hks]
  exact run_fnJ (js := js) F G hr (fun kV doc pm an cdv ct => hb kV doc pm an cdv ct us ws (r.length.symm.trans l1) (rz.length.symm.trans l2)) I2 r rz q2
end
theorem tyes {σ : L2.St} {H : Hp} {Q : Bool → Hp → Prop} (h : Q true H) : tYes σ H Q := h
/-! ### xs[a:b:c] -/
def pickV (xs : List V) (lo hi st : Option Int) : List V := pk (sliceRange (sliceBounds lo hi st xs.length).1 (sliceBounds lo hi st xs.length).2.1 (sliceBounds lo hi st xs.length).2.2) xs
theorem pick_vals {xs : List V} {us : List Value} (r : Vals xs us) (lo hi st : Option Int) : Vals (pickV xs lo hi st) (slicePick us.toArray lo hi st).toList := by
  have e := vals_pk r (sliceRange (sliceBounds lo hi st xs.length).1 (sliceBounds lo hi st xs.length).2.1 (sliceBounds lo hi st xs.length).2.2)
  have e2 : (slicePick us.toArray lo hi st).toList = pk (sliceRange (sliceBounds lo hi st xs.length).1 (sliceBounds lo hi st xs.length).2.1 (sliceBounds lo hi st xs.length).2.2) us := by
    unfold slicePick pk
    rw [List.size_toArray, ← r.length]
    simp
  rw [e2]
  exact e
section
variable {X : Cx}
def tStep (K : PySem.W.Frag) (te : TE) (tl th ts : TO) : TE := fun σ H Q => te σ H fun x H1 => tl σ H1 fun l H2 => th σ H2 fun u H3 => ts σ H3 fun o H4 => ∃ a xs, x = .ref a ∧ SqL K H4 a xs ∧ o ≠ some 0 ∧ (pickV xs l u o).length ≤ sizeLine ∧ ∀ p, H4 p = none → Q (.ref p) (upd H4 p (.lst (pickV xs l u o)))
theorem pe_step {e st : Expr} {lo hi : Option Expr} {te : TE} {tl th ts : TO} {p3 pos : Pos} (he : PE X e te) (hlo : PO X lo tl) (hhi : PO X hi th) (hst : PO X (some st) ts) : PE X (.Subscript e (.Slice lo hi (some st) p3) pos) (tStep X.K te tl th ts) := by
  refine ⟨fun pins s σ H Q I h => ?_⟩
  refine Subscript_ (thn (he.run pins s σ H _ I h) fun v s1 ⟨x, H1, I1, r1, q1⟩ => ?_)
  refine wpAny_Slice (thn (hlo.run pins s1 σ H1 _ I1 q1) fun vl s2 ⟨l, H2, I2, pl, q2⟩ => ?_)
  refine thn (hhi.run pins s2 σ H2 _ I2 q2) fun vu s3 ⟨u, H3, I3, pu, q3⟩ => ?_
  refine thn (hst.run pins s3 σ H3 _ I3 q3) fun vs s4 ⟨o, H4, I4, ps, q4⟩ => ?_
  obtain ⟨a, xs, ex, hx, h0, hz2, q⟩ := q4
  subst ex
  cases r1
  have I5 : Inv X pins σ H4 { s4 with heap := s4.heap.push { cls := .type "slice", data := .fields #[vl, vu, vs] } } := I4.kept (t' := s4.toks) fun b ob q => Heap.get?_push_of_some _ q
  obtain ⟨its, r, ht, hz⟩ := I5.list hx
  have hlen := r.length
  show wpAny (model X.prog X.w) X.A (subscriptTail e (.Slice lo hi (some st) p3) (.ref a) (.ref s4.heap.objs.size)) (EP X pins σ Q) X.xe { s4 with heap := s4.heap.push { cls := .type "slice", data := .fields #[vl, vu, vs] } }
  refine tail_any (ops := [.ref a, .ref s4.heap.objs.size]) ht.isList.typeIs (PySem.slot_list_getitem.lookup) ?_ (by with_unfolding_all rfl)
  refine wpAny_getItem_list_slice ht.isList (Heap.IsSliceOf.new _ vl vu vs) pl pu ps h0 ?_ (by rw [List.size_toArray]; omega)
  refine ⟨.ref _, _, I5.laid (t' := s4.toks) (o := .lst (pickV xs l u o)) (fun b ob q => Heap.get?_push_of_some _ q) (Nat.le_refl _) ?_, rfl, q _ (I5.hok.fresh (Nat.le_refl _))⟩
  exact ⟨hz2, (slicePick its.toArray l u o).toList, 0, pick_vals r l u o, Heap.get?_push_size _ rfl⟩
end
/-! ### set(t) of a tuple of ints, as a thing that stands -/
def rSetT (K : PySem.W.Frag) (w : World) : List V → Hp → VK → Prop := fun xs H Q => ∃ (q : Addr) (ns : List Int), xs = [.ref q] ∧ SqT K H q (ns.map V.int) ∧ ns.length ≤ 1000 ∧ ∀ (a : Addr) (c : Nat), H a = none → c ≤ ns.length → Q (.ref a) (upd H a (SetO w a (fun j => decide (j ∈ ns)) c))
theorem cr_setT {X : Cx} (hc : X.calm = true) : CallR X (.type "set") (rSetT X.K X.w) := by
  intro pins s σ H xs us Q I r h
  obtain ⟨q, ns, rfl, hq, hl, k⟩ := h
  rw [Vals.ref1 r]
  obtain ⟨its, rv, pt, hz⟩ := I.tuple hq
  have hi : IntsAre its.toArray.toList ns := ints_of_vals rv
  refine call_set_tupI ns (I.ok.hd hc) (show s.heap.IsTuple q its.toArray from pt) hi (by unfold scanBound; omega) fun h' tk c R1 hcn kk => ?_
  exact ⟨.ref _, upd H s.heap.objs.size (SetO X.w s.heap.objs.size _ c), I.laid (t' := tk) kk (Nat.le_refl _) (setO_new R1), rfl, k _ _ (I.hok.fresh (Nat.le_refl _)) hcn⟩
theorem cr_setTw {X : Cx} (w : World) (hc : X.calm = true) (hw : X.w = w := by rfl) : CallR X (.type "set") (rSetT X.K w) := hw ▸ cr_setT hc
theorem cr_sortedSetw {X : Cx} (w : World) (hc : X.calm = true) (hw : X.w = w := by rfl) : CallR X (.builtin "sorted") (rSortedSet w) := hw ▸ cr_sortedSet hc
/-- names of Python's own that the top leaves alone -/
structure Bt (mg : Str → Option Value) : Prop where
  len_ : mg "len" = none
  range_ : mg "range" = none
  abs_ : mg "abs" = none
  int_ : mg "int" = none
  min_ : mg "min" = none
  max_ : mg "max" = none
  list_ : mg "list" = none
  tuple_ : mg "tuple" = none
  all_ : mg "all" = none
  any_ : mg "any" = none
  sorted_ : mg "sorted" = none
  sum_ : mg "sum" = none
  repr_ : mg "repr" = none
  zip_ : mg "zip" = none
  enumerate_ : mg "enumerate" = none
  isinstance_ : mg "isinstance" = none
  reversed_ : mg "reversed" = none
  str_ : mg "str" = none
  bool_ : mg "bool" = none
  set_ : mg "set" = none
end Sh

/-! calls where no text of a list is under way: then repr(..) is known -/
namespace Sh
open PySem PySem.Spec PyProof.Rows L2
/-- a def's promise, kept where no repr is under way -/
structure FnG (P : Program) (w : World) (K : PySem.W.Frag) (mg : Str → Option Value) (bs : Heap) (k : Nat) (f : Addr) (fd : FuncData) (ps : List Str) (sp : Sp) : Prop where
  many : ∀ vs H Q E, sp vs H Q E → vs.length = ps.length
  go : ∀ (B : Around) (fr : List Env) (s : Shared) (H : Hp) (gs : Args) (us : List Value) (vs : List V) (Q : VK) (E : XK), Room k B → B.guards = some [] → Env0 P w K mg bs B fr s H → BindsTo s fd gs (ps.zip us) → Vals vs us → sp vs H Q E → codeAny (model P w) B (.call (.ref f) gs) (CR CX0 fr P w H s Q E) s
structure OkG (P : Program) (w : World) (K : PySem.W.Frag) (mg : Str → Option Value) (bs : Heap) (k : Nat) (x : Str) (st : Stmt) (ps : List Str) (sp : Sp) : Prop where
  ex : ∃ (f : Addr) (fd : FuncData), Fun K x x st f fd ∧ mg x = some (.ref f) ∧ Binds K fd ps [] ∧ FnG P w K mg bs k f fd ps sp
section
variable {P : Program} {w : World} {K : PySem.W.Frag} {mg : Str → Option Value} {bs : Heap}
theorem FnG.mono {j k : Nat} {f : Addr} {fd : FuncData} {ps : List Str} {sp : Sp} (G : FnG P w K mg bs j f fd ps sp) (h : j ≤ k) : FnG P w K mg bs k f fd ps sp := ⟨G.many, fun B fr s H gs us vs Q E hr => G.go B fr s H gs us vs Q E (hr.mono h)⟩
theorem OkG.mono {x : Str} {st : Stmt} {ps : List Str} {j k : Nat} {sp : Sp} (O : OkG P w K mg bs j x st ps sp) (h : j ≤ k) : OkG P w K mg bs k x st ps sp := by
  obtain ⟨f, fd, F, g, b, G⟩ := O.ex
  exact ⟨f, fd, F, g, b, G.mono h⟩
theorem Df.okG {x : Str} {st : Stmt} {N ps : List Str} {k : Nat} {sp : Sp} (D : Df K mg x st) (S : FnScope N ps (defScope st))
    (hb : ∀ (kV dc pm : Value) (an : Option Addr) (cdv ct : Value) (us : List Value), us.length = ps.length → bindArgs (PySem.W.fnOf x x (defArgs st) (defBody st) (defScope st) .none kV dc pm an cdv ct) ⟨us, []⟩ = pure (ps.zip us))
    (many : ∀ vs H Q E, sp vs H Q E → vs.length = ps.length)
    (bd : ∀ (f : Addr) (cdv : Value) (B : Around) (fr : List Env) (s : Shared) (H : Hp) (vs : List V) (Q : VK) (E : XK), Room k (B.deeper (envOfC x (defScope st) s.heap.objs.size f cdv)) → (B.deeper (envOfC x (defScope st) s.heap.objs.size f cdv)).guards = some [] → sp vs H Q E →
      ∃ t, PSs (cxOf CX0 P w K mg bs N x (defScope st) f cdv B fr s H E).nox (defBody st) t ∧ t { nx := fun _ J => Q .non J, rt := Q } (start N vs) H) : OkG P w K mg bs (k + 1) x st ps sp := by
  obtain ⟨f, fd, F, g⟩ := D.ex
  have F0 := F
  obtain ⟨oc, od, kV, dc, pm, an, cdv, ct, osl, rfl, lk, hcd⟩ := F.ex
  refine ⟨f, _, F0, g, F0.binds hb, many, fun B fr s H gs us vs Q E rm gd e0 bnd r wish => ?_⟩
  have nm := many _ _ _ _ wish
  have kin : K.In s.heap := e0.mod.kin.keeps fun a o e => (e0.bs a o e).1
  have nol : s.heap.NoLimit := e0.mod.nolimit.keeps fun a o e => (e0.bs a o e).1
  have kinds : ∀ y ∈ ps.zip us, (defScope st).names.lookup y.1 = some .local ∨ ((defScope st).names.lookup y.1 = some .cell ∧ ((cellsFrom (s.heap.objs.size + 1) (defScope st).names []).lookup y.1).isSome = true) := by
    rintro ⟨n, v⟩ hy
    cases S.par n (List.of_mem_zip hy).1 with
    | inl q => exact .inl q
    | inr q => exact .inr ⟨q, PySem.W.cellsFrom_some _ _ _ (.inl q)⟩
  refine codeAny_call_function rm.depth (kin _ _ lk) rfl S.co S.gen rfl (PySem.W.codeRec_of kin hcd) (bnd _ _ _ _ ?_)
  refine wpAny_newFunctionEnv_cells S.kind kinds fun env ee s1 z => ?_
  subst ee
  refine ⟨nol.keeps z.toInCall.keep, codeAny_func ?_⟩
  obtain ⟨t, ht, hq⟩ := bd f cdv B fr s H vs Q E (rm.deeper _) gd wish
  have ht' := ht.nox
  have I : Inv (cxOf CX0 P w K mg bs N x (defScope st) f cdv B fr s H E) [] (start N vs) H s1 := inv_start S rm.hd e0 nm r z
  refine wpAny_mono (ht'.run [] s1 (start N vs) H _ I hq) (fun fl s2 hs => ?_) fun e s2 hs => hs
  cases fl with
  | ret u =>
    obtain ⟨v, σ2, H2, J, rv, q⟩ := hs
    exact ⟨v, H2, J.os, J.bare, J.base, J.hok, rv, q⟩
  | next =>
    obtain ⟨σ2, H2, J, q⟩ := hs
    exact ⟨V.non, H2, J.os, J.bare, J.base, J.hok, rfl, q⟩
  | brk =>
    obtain ⟨_, _, _, q⟩ := hs
    exact q.elim
  | cont =>
    obtain ⟨_, _, _, q⟩ := hs
    exact q.elim
end
section
variable {X : Cx} {k : Nat} {x : Str} {st : Stmt} {ps : List Str} {sp : Sp} {e : Expr} {es : List Expr} {t : TA} {p pos : Pos}
/-- f(e, ..) -/
theorem pe_fnG (O : OkG X.prog X.w X.K X.mg X.base k x st ps sp) (hr : Room k X.A) (gd : X.A.guards = some []) (ha : PA X (e :: es) t) (hg : Gl X x := by rfl)
    (hdb : (x == ("__debug__" : Str)) = false := by decide) (he : starEach (e :: es) X.env = (false, eval e X.env) :: starEach es X.env := by rfl) (hpl : (backTo pos (starEach es X.env)).any (·.1) = false := by rfl) :
    PE X (.Call (.Name x p) (e :: es) [] pos) (tCall sp [] E0 t) := by
  obtain ⟨f, fd, F, g, b, G⟩ := O.ex
  refine ⟨fun pins s σ H Q I h => ?_⟩
  refine wpAny_Call_Name_kw (ld_glob I hg g ?_ hdb)
  refine PySem.W.callWith_K (h₀ := X.base) I.ok.mod.kin F.kp (thn (ha.run pos pins s σ H _ I h) fun us s1 ⟨vs, H1, I1, r, q⟩ => ⟨I1.kIn, ?_⟩) he hpl
  have q' : sp vs H1 Q E0 := by
    have z : sp (vs ++ []) H1 Q E0 := q
    rw [List.append_nil] at z
    exact z
  have nm : us.length = ps.length := by
    rw [← r.length]
    exact G.many _ _ _ _ q'
  have bd : BindsTo s1 fd ⟨us, []⟩ (ps.zip us) := by
    have z := b s1 us I1.kIn (by rw [List.append_nil]; exact nm)
    rw [List.append_nil] at z
    exact z
  refine wpAny_call (codeAny_mono (G.go X.A X.stack s1 H1 ⟨us, []⟩ us vs Q E0 hr gd I1.env0 bd r q') fun y s2 hq => ?_)
  cases y with
  | error e => exact pass0 pins σ H1 s1 e s2 I1 hq
  | ok fl =>
    cases fl with
    | ret u => exact I1.after hq
    | next => exact hq.elim
    | brk => exact hq.elim
    | cont => exact hq.elim
theorem reprU {A : Around} (r : Room k A) : A.units + 66 < cLine := by
  have := r.un
  omega
/-- repr(x) of a list or a tuple of data -/
def rRepr (K : PySem.W.Frag) : List V → Hp → VK → Prop := fun xs H Q => ∃ (a : Addr) (d : PyData), xs = [.ref a] ∧ Dp K H (.ref a) d ∧ SeqAt.shaped d = true ∧ d.showable = true ∧ d.shown.length ≤ sizeLine ∧ Q (.str d.shown) H
theorem cr_repr (gd : X.A.guards = some []) (hu : X.A.units + 66 < cLine) : CallR X (.builtin "repr") (rRepr X.K) := by
  intro pins s σ H xs us Q I r h
  obtain ⟨a, d, rfl, hd, sd, sh, sz, q⟩ := h
  rw [Vals.ref1 r]
  obtain ⟨as, r1⟩ := Dp.reads I d (.ref a) (.ref a) hd rfl
  have lay := SeqAt.canLay_of_shaped sd
  have dp : d.depth ≤ 64 := by
    have z := sd
    unfold SeqAt.shaped at z
    rw [Bool.and_eq_true] at z
    exact of_decide_eq_true z.2
  exact repr_of_reads' r1 sh (PyData.noDict_hsm (PyData.hasDict_of_canLay _ lay)) gd (by omega) (fun _ _ e => e) (fun h' u tk hk => ⟨.str d.shown, H, I.kept hk, ⟨u, rfl⟩, q⟩) sz
end
/-! ### the law's call, where nothing is under way -/
section
theorem script_call {P : Program} {w : World} {K : PySem.W.Frag} {mg mb : Str → Option Value} {k : Nat} {fa a : Addr} {fd : FuncData} {x : Str} {sp : Sp} {s1 : Shared} {vs : List Value} {ns : List Int}
    (kin : K.In s1.heap) (hns : s1.heap.Ns mainGlobals mg) (hbn : s1.heap.Ns builtinsNs mb) (hbb : ∀ y : Str, y ≠ "__name__" → mb y = bootBuiltins y) (nol : s1.heap.NoLimit) (hgn : s1.gens = #[])
    (hla : s1.heap.get? a = some { cls := .type "list", data := .seq vs.toArray }) (hit : IntsAre vs ns) (hsz : ns.length ≤ sizeLine) (rm : Room k callerA)
    (F : ∀ bs : Heap, K.In bs → bs.Ns mainGlobals mg → FnG P w K mg bs k fa fd [x] sp) (bnd : ∀ (s : Shared) (u : Value), BindsTo s fd ⟨[u], []⟩ [(x, u)])
    (wish : ∀ H : Hp, Only H → SqL K H a (ns.map V.int) → sp [.ref a] H (fun v _ => v = .bl true) fun _ _ _ => False) :
    codeAny (model P w) callerA (.call (.ref fa) ⟨[.ref a], []⟩) (fun y s2 => y = .ok (.ret (.bool true)) ∧ OldK s1.heap s2.heap ∧ s2.os = s1.os ∧ AllBare s2.gens) s1 := by
  have rv := vals_ints hit
  have many := hit.length
  have step : ∀ H : Hp, Only H → SqL K H a (ns.map V.int) → HOk P w H s1.heap → (∀ b, H b ≠ none → b = a) → (H a ≠ none → K.lookup a = none) →
      codeAny (model P w) callerA (.call (.ref fa) ⟨[.ref a], []⟩) (fun y s2 => y = .ok (.ret (.bool true)) ∧ OldK s1.heap s2.heap ∧ s2.os = s1.os ∧ AllBare s2.gens) s1 := by
    intro H only sq hok sole apart
    have hid : ∀ {b : Addr} {o : Obj}, s1.heap.get? b = some o → H b = none → (hidT s1.heap H).get? b = some o := fun e n => hidT_get e n
    have isa : ∀ {b : Addr} {u : HO}, H b = some u → b = a := fun {b u} q => sole b (by rw [q]; exact fun z => nomatch z)
    have bare : ∀ {b : Addr} {o : Obj} {es : Array DictEntry} {ep : Nat}, s1.heap.get? b = some o → o.data = .dict es ep → H b = none := by
      intro b o es ep e d
      cases q : H b with
      | none => rfl
      | some u =>
        obtain rfl := isa q
        rw [hla] at e
        cases e
        cases (show Data.seq vs.toArray _ = Data.dict es ep from d)
    have spaces : ∀ {b : Addr} {m : Str → Option Value}, s1.heap.Ns b m → (hidT s1.heap H).Ns b m := by
      rintro b m ⟨o, es, ep, e, d, r⟩
      exact ⟨o, es, ep, hid e (bare e d), d, r⟩
    have kin0 : K.In (hidT s1.heap H) := by
      intro b o e
      refine hid (kin b o e) ?_
      cases q : H b with
      | none => rfl
      | some u =>
        obtain rfl := isa q
        rw [apart (by rw [q]; exact fun z => nomatch z)] at e
        cases e
    have md : Mod K mg (hidT s1.heap H) := by
      obtain ⟨mc, n1, n2⟩ := nol
      exact ⟨kin0, spaces hns, ⟨mb, spaces hbn, hbb⟩, ⟨mc, spaces n1, n2⟩⟩
    have at0 : Env0 P w K mg (hidT s1.heap H) callerA [] s1 H := by
      refine ⟨rfl, md, fun b o e => of_hidT e, Nat.le_of_eq (hidT_size _ _), trivial, fun b hb => ?_, hok, .of_eq hgn⟩
      exact absurd (show b ∈ ([] : List Addr) from hb) List.not_mem_nil
    refine codeAny_mono ((F _ kin0 (spaces hns)).go callerA [] s1 H ⟨[.ref a], []⟩ [.ref a] [.ref a] _ _ rm rfl at0 (bnd s1 (.ref a)) (.cons rfl .nil) (wish H only sq)) fun y s2 h => ?_
    cases y with
    | error e => exact False.elim (show False from h)
    | ok fl =>
      cases fl with
      | next => exact h.elim
      | brk => exact h.elim
      | cont => exact h.elim
      | ret u =>
        obtain ⟨v, H2, os, br, un, hok2, r2, q⟩ := h
        obtain rfl : v = .bl true := q
        obtain rfl : u = Value.bool true := r2
        refine ⟨rfl, OldK.of_keep fun b o e => ?_, os, br⟩
        cases q : H b with
        | none => exact un.keep b o e q (fun z => absurd (show b ∈ ([] : List Addr) from z) List.not_mem_nil) (by simp)
        | some u =>
          cases only b with
          | inl z =>
            rw [q] at z
            cases z
          | inr z =>
            obtain ⟨ob, xs, z⟩ := z
            have z2 := un.frzs b ob _ z
            obtain ⟨e1, _⟩ := hok b _ z
            obtain ⟨e2, _⟩ := hok2 b _ z2
            rw [e] at e1
            cases e1
            exact e2
  cases hk : K.lookup a with
  | some o =>
    have e := kin a o hk
    rw [hla] at e
    cases e
    refine step (fun _ => none) (fun _ => .inl rfl) (.inr ⟨_, vs.toArray, _, hk, rfl, rfl, rfl, by rw [List.size_toArray, many]; exact hsz, by simpa using rv⟩) ?_ (fun b z => absurd rfl z) fun z => absurd rfl z
    intro b u z
    cases (show (none : Option HO) = some u from z)
  | none =>
    refine step (fun b => if b = a then some (.frz { cls := .type "list", data := .seq vs.toArray } (.lst (ns.map V.int))) else none) ?_ (.inl (.inr ⟨{ cls := .type "list", data := .seq vs.toArray }, if_pos rfl⟩)) ?_ ?_ fun _ => hk
    · intro b
      by_cases c : b = a
      · exact .inr ⟨_, _, if_pos c⟩
      · exact .inl (if_neg c)
    · intro b u z
      by_cases c : b = a
      · cases (if_pos c).symm.trans z
        subst c
        exact ⟨hla, by rw [List.length_map]; exact hsz, vs, _, rv, hla⟩
      · cases (if_neg c).symm.trans z
    · intro b z
      by_cases c : b = a
      · exact c
      · exact absurd (if_neg c) z
theorem walk_ofG {l : PySem.W.OpenLaw} {n k : Nat} {q : Program} {loose : List Str} {XP : (Str → Option Value) → Heap → Prop} {YP : World → Heap → Prop} {d : DefRec} {K : Params → PySem.W.Frag} {sp : World → Sp} {x : Str}
    (hn : l.most = some n) (hz : n ≤ sizeLine) (hdf : d.params.defaults = []) (rm : Room k callerA) (hY : ∀ (w : World) (h : Heap), YP w h → (K w.params).In h)
    (F : ∀ (w : World) (mg : Str → Option Value) (fa : Addr) (h : Heap), (K w.params).In h → h.Ns mainGlobals mg → mg d.name = some (.ref fa) → ∃ fd : FuncData, (∀ (s : Shared) (u : Value), BindsTo s fd ⟨[u], []⟩ [(x, u)]) ∧ ∀ bs : Heap, (K w.params).In bs → bs.Ns mainGlobals mg → FnG l.prog w (K w.params) mg bs k fa fd [x] (sp w))
    (wish : ∀ (w : World) (H : Hp) (a : Addr) (ns : List Int), ns.length ≤ n → Only H → SqL (K w.params) H a (ns.map V.int) → sp w [.ref a] H (fun v _ => v = .bl true) fun _ _ _ => False) :
    PySem.W.WalkO q loose XP YP l.row.toRowW d [] (fun f vs => PySem.call f vs) := by
  refine Att.attach_call hn hdf fun w s0 s1 mg mb fa o pm cd dc a vs ns G Y ho hd hcd hmg hobj hints hlen hg => ?_
  obtain ⟨fd, bnd, hF⟩ := F w mg fa _ (hY w _ Y) G.T.g hmg
  exact script_call (hY w _ Y) G.T.g G.T.b G.T.builtins G.T.nolimit hg hobj hints (Nat.le_trans hlen hz) rm hF bnd fun H hO hS => wish w H a ns hlen hO hS
end
end Sh

/-! a[i] += e of a list; for i in reversed(range(..)) -/
namespace Sh
open PySem PySem.Spec PyProof.Rows L2
section
variable {X : Cx}
def rGetN (K : PySem.W.Frag) : V → V → Hp → VK → Prop := fun o i H Q => ∃ (p : Addr) (xs : List V) (j : Nat) (v : V), o = .ref p ∧ i = .int (j : Int) ∧ SqL K H p xs ∧ xs[j]? = some v ∧ Q v H
theorem pget_nat : PGet X (rGetN X.K) := by
  intro pins s σ H o i ov iv Q I ro ri h
  obtain ⟨p, xs, j, v, rfl, rfl, hq, hj, q⟩ := h
  cases ro
  obtain ⟨t, rfl⟩ := ri
  obtain ⟨its, r, pl, hz⟩ := I.list hq
  obtain ⟨u, hu, ru⟩ := r.get hj
  have jl := (List.getElem?_eq_some_iff.mp hj).1
  have sz := sizeLine_eq
  refine wpAny_getItem_list (x := u) pl.isList (by omega) (by omega) ?_ ⟨v, H, I, ru, q⟩
  rw [Int.toNat_natCast]
  simpa using hu
end
end Sh

namespace Sh
open PySem PySem.Spec PyProof.Rows L2
/-! ### the text by places -/
def topS (i : Nat) : Stmt := PySem.Challenge.pw_shoalmates_k89_whole_door_by_door.main.body.getD i (.Pass ⟨0, 0, 0, 0⟩)
end Sh

namespace Sh
open PySem PySem.Spec PyProof.Rows L2
/-! ### what is drawn from -/
def BoxOk (xs : List V) (n : Nat) : Prop := ∃ b0 b1 b2 : Int, xs = [.int b0, .int b1, .int b2] ∧ 0 ≤ b0 ∧ 0 ≤ b1 ∧ b1 < 4611686018427387904 ∧ 0 ≤ b2 ∧ b2 + (n : Int) ≤ 1099511627776
def BoxAt (H : Hp) (b : Addr) (n : Nat) : Prop := ∃ xs, H b = some (.lst xs) ∧ BoxOk xs n
theorem BoxOk.mono {xs : List V} {n m : Nat} (h : BoxOk xs n) (l : m ≤ n) : BoxOk xs m := by
  obtain ⟨b0, b1, b2, e, h0, h1, h2, h3, h4⟩ := h
  exact ⟨b0, b1, b2, e, h0, h1, h2, h3, by omega⟩
theorem BoxAt.mono {H : Hp} {b : Addr} {n m : Nat} (h : BoxAt H b n) (l : m ≤ n) : BoxAt H b m := let ⟨xs, e, k⟩ := h; ⟨xs, e, k.mono l⟩
theorem BoxAt.same {H H' : Hp} {b : Addr} {n : Nat} (h : BoxAt H b n) (s : Same H H') : BoxAt H' b n := let ⟨xs, e, k⟩ := h; ⟨xs, s _ _ e, k⟩
theorem BoxAt.some {H : Hp} {b : Addr} {n : Nat} (h : BoxAt H b n) : H b ≠ none := fun z => by
  obtain ⟨xs, e, _⟩ := h
  rw [e] at z
  cases z
/-- a new place is not the box -/
theorem BoxAt.ne {H : Hp} {b p : Addr} {n : Nat} (h : BoxAt H b n) (z : H p = none) : b ≠ p := let ⟨_, e, _⟩ := h; ne_of_none e z
def spTake : Sp := fun vs H Q _ => ∃ (b : Addr) (n : Nat) (span : Int), vs = [.ref b, .int span] ∧ 0 < span ∧ span < 1152921504606846976 ∧ BoxAt H b (n + 1) ∧ ∀ (v : Int) (xs : List V), 0 ≤ v → v < span → BoxOk xs n → Q (.int v) (upd H b (.lst xs))
abbrev s__law_take : Stmt := topS 57
theorem sc__law_take : FnScope (["_law_box_here", "_law_span", "_law_found", "_law_once", "_law_twice"] : List Str) (["_law_box_here", "_law_span"] : List Str) (defScope s__law_take) := ⟨rfl, rfl, rfl, by decide +kernel, rfl, by decide +kernel, by decide +kernel⟩
theorem b__law_take (kV doc pm : Value) (an : Option Addr) (cdv ct : Value) (us : List Value) (hl : us.length = (["_law_box_here", "_law_span"] : List Str).length) : bindArgs (PySem.W.fnOf "_law_take" "_law_take" (defArgs s__law_take) (defBody s__law_take) (defScope s__law_take) .none kV doc pm an cdv ct) ⟨us, []⟩ = pure ((["_law_box_here", "_law_span"] : List Str).zip us) :=
  match us, hl with | [_, _], _ => rfl
section
variable {P : Program} {w : World} {K : PySem.W.Frag} {mg : Str → Option Value} {base : Heap}
theorem ok_take {k : Nat} (D : Df K mg "_law_take" s__law_take) (T : Bt mg) : Ok P w K mg base (k + 1) "_law_take" s__law_take ["_law_box_here", "_law_span"] spTake := by
  refine D.ok sc__law_take b__law_take (fun vs H Q E h => ?_) (fun f cdv A outer s H vs Q E hr h => ?_)
  · obtain ⟨b, n, span, rfl, _⟩ := h
    rfl
  · obtain ⟨b, n, span, rfl, s0, s1, ⟨xs, hb, b0, b1, b2, rfl, h0, h1, h1', h2, h3⟩, q⟩ := h
    refine ⟨_, (pss_cons (ps_if (pt_cmpR op_gt (pe_ix ix_lt (pv 0) pe_int (fun _ _ => rfl)) pe_int (nomark _))
        (pss_cons (ps_set (i := 2) sc__law_take.nd rfl (.inl rfl) (pe_op op_mod (pe_ix ix_lt (pv 0) pe_int (fun _ _ => rfl)) (pv 1)))
          (pss_cons (ps_asg (pe_op op_fdivW (pe_ix ix_lt (pv 0) pe_int (fun _ _ => rfl)) (pv 1)) (pg_sub (pv 0) pe_int set_list))
          (pss_one (ps_ret (pv 2)))))
        pss_nil)
      (pss_cons (ps_asg (pe_op op_add (pe_ix ix_lt (pv 0) pe_int (fun _ _ => rfl)) pe_int) (pg_sub (pv 0) pe_int set_list))
      (pss_cons (ps_set (i := 3) sc__law_take.nd rfl (.inl rfl) (pe_op op_mod (pe_op op_mul (pe_op op_add (pe_ix ix_lt (pv 0) pe_int (fun _ _ => rfl)) (pe_op op_mul pe_int (pe_ix ix_lt (pv 0) pe_int (fun _ _ => rfl)))) (pe_op op_add pe_int (pe_ix ix_lt (pv 0) pe_int (fun _ _ => rfl)))) pe_int))
      (pss_cons (ps_set (i := 4) sc__law_take.nd rfl (.inl rfl) (pe_op op_mod (pe_op op_mul (pe_op op_add (pe_op op_add (pv 3) (pe_ix ix_lt (pv 0) pe_int (fun _ _ => rfl))) (pe_op op_fdiv (pe_ix ix_lt (pv 0) pe_int (fun _ _ => rfl)) pe_int)) (pe_op op_add (pe_op op_mod (pv 3) pe_int) pe_int)) pe_int))
      (pss_one (ps_ret (pe_op op_mod (pe_op op_fdiv (pe_op op_mod (pe_op op_add (pe_op op_mul (pv 4) pe_int) (pv 3)) pe_int) pe_int) (pv 1)))))))), ?_⟩
    have hq : SqA K H b [.int b0, .int b1, .int b2] := SqA.l hb
    refine ⟨_, rfl, b, _, 0, .int b0, rfl, rfl, hq, rfl, b0, 0, rfl, rfl, _, rfl, ite2 (fun c => ?_) (fun c => ?_)⟩
    · have c0 : 0 < b0 := of_decide_eq_true c
      refine ⟨_, rfl, b, _, 0, .int b0, rfl, rfl, hq, rfl, _, rfl, b0, span, rfl, rfl, s0, ?_⟩
      refine ⟨_, rfl, b, _, 0, .int b0, rfl, rfl, hq, rfl, _, rfl, b0, span, rfl, rfl, wide_div (b := 60) s0 (show span.natAbs < 1152921504606846976 by omega) (by decide) (by decide), ?_⟩
      refine ⟨_, rfl, b, _, 0, 0, rfl, rfl, hb, rfl, ?_⟩
      refine ⟨_, rfl, ?_⟩
      exact q _ _ (Int.emod_nonneg _ (by omega)) (Int.emod_lt_of_pos _ s0) ⟨b0 / span, b1, b2, rfl, Int.ediv_nonneg h0 (by omega), h1, h1', h2, by omega⟩
    · refine ⟨_, rfl, b, _, 2, .int b2, rfl, rfl, hq, rfl, b2, 1, rfl, rfl, ?_⟩
      refine ⟨_, rfl, b, _, 2, 2, rfl, rfl, hb, rfl, ?_⟩
      have hq2 : SqA K (upd H b (.lst [.int b0, .int b1, .int (b2 + 1)])) b [.int b0, .int b1, .int (b2 + 1)] := SqA.l upd_same
      have m1 : 0 ≤ (b1 + 48271 * (b2 + 1)) * (39373 + (b2 + 1)) % 2147483647 := Int.emod_nonneg _ (by decide)
      have m2 : (b1 + 48271 * (b2 + 1)) * (39373 + (b2 + 1)) % 2147483647 < 2147483647 := Int.emod_lt_of_pos _ (by decide)
      refine ⟨_, rfl, b, _, 1, .int b1, rfl, rfl, hq2, rfl, _, rfl, b, _, 2, .int (b2 + 1), rfl, rfl, hq2, rfl, 48271, b2 + 1, rfl, rfl, .inl ⟨by decide, by decide⟩, b1, _, rfl, rfl, ?_⟩
      refine ⟨_, rfl, b, _, 2, .int (b2 + 1), rfl, rfl, hq2, rfl, 39373, b2 + 1, rfl, rfl, _, _, rfl, rfl, .inr ⟨by omega, by omega⟩, _, 2147483647, rfl, rfl, (show (0 : Int) < 2147483647 by decide), ?_⟩
      dsimp only
      generalize (b1 + 48271 * (b2 + 1)) * (39373 + (b2 + 1)) % 2147483647 = once at m1 m2
      have o1 : 0 ≤ once % 40009 := Int.emod_nonneg _ (by decide)
      have o2 : once % 40009 < 40009 := Int.emod_lt_of_pos _ (by decide)
      refine ⟨_, rfl, _, rfl, b, _, 2, .int (b2 + 1), rfl, rfl, hq2, rfl, once, b2 + 1, rfl, rfl, _, rfl, b, _, 1, .int b1, rfl, rfl, hq2, rfl, b1, 1000003, rfl, rfl, ⟨by decide, by decide⟩, _, _, rfl, rfl, ?_⟩
      refine ⟨_, rfl, once, 40009, rfl, rfl, (show (0 : Int) < 40009 by decide), _, 7, rfl, rfl, _, _, rfl, rfl, .inr ⟨by omega, by omega⟩, _, 2147483629, rfl, rfl, (show (0 : Int) < 2147483629 by decide), ?_⟩
      dsimp only
      have t1 : 0 ≤ (once + (b2 + 1) + b1 / 1000003) * (once % 40009 + 7) % 2147483629 := Int.emod_nonneg _ (by decide)
      have t2 : (once + (b2 + 1) + b1 / 1000003) * (once % 40009 + 7) % 2147483629 < 2147483629 := Int.emod_lt_of_pos _ (by decide)
      generalize (once + (b2 + 1) + b1 / 1000003) * (once % 40009 + 7) % 2147483629 = twice at t1 t2
      refine ⟨_, rfl, twice, 48271, rfl, rfl, .inl ⟨by omega, by omega⟩, _, rfl, _, once, rfl, rfl, _, 2147483587, rfl, rfl, (show (0 : Int) < 2147483587 by decide), _, 64, rfl, rfl, ⟨by decide, by decide⟩, _, rfl, _, span, rfl, rfl, s0, ?_⟩
      exact q _ _ (Int.emod_nonneg _ (by omega)) (Int.emod_lt_of_pos _ s0) ⟨b0, b1, b2 + 1, rfl, h0, h1, h1', by omega, by omega⟩
end
end Sh

namespace Sh
open PySem PySem.Spec PyProof.Rows L2
theorem SqA.at {K : PySem.W.Frag} {H : Hp} {b l : Addr} {o : HO} {xs : List V} (n : l ≠ b) (h : SqA K H l xs) : SqA K (upd H b o) l xs := by
  rcases h with ((h | ⟨z, h⟩) | h) | ((h | ⟨z, h⟩) | h)
  · exact .inl (.inl (.inl (by rw [upd_ne n]; exact h)))
  · exact .inl (.inl (.inr ⟨z, by rw [upd_ne n]; exact h⟩))
  · exact .inl (.inr h)
  · exact .inr (.inl (.inl (by rw [upd_ne n]; exact h)))
  · exact .inr (.inl (.inr ⟨z, by rw [upd_ne n]; exact h⟩))
  · exact .inr (.inr h)
theorem at_nat {xs : List V} {i : Int} {j : Nat} {v : V} (e : i = (j : Int)) (h : xs[j]? = some v) : atI xs i = some v := L2.at_of e h
theorem b01 (c : Bool) : (0 : Int) ≤ if c = true then 1 else 0 := by cases c <;> decide
theorem b01' (c : Bool) : (-(2 ^ 64) : Int) < (if c = true then 1 else 0) ∧ (if c = true then 1 else 0) < (2 ^ 64 : Int) := by cases c <;> decide
/-- a cell of the script: some int -/
def spCellAt (K : PySem.W.Frag) : Sp := fun vs H Q _ => ∃ (l : Addr) (ns : List Int) (j : Nat), vs = [.ref l, .int (j : Int)] ∧ SqL K H l (ns.map V.int) ∧ ∀ z : Int, Q (.int z) H
abbrev s__law_cell_at : Stmt := topS 55
theorem sc__law_cell_at : FnScope (["_law_script", "_law_k"] : List Str) (["_law_script", "_law_k"] : List Str) (defScope s__law_cell_at) := ⟨rfl, rfl, rfl, by decide +kernel, rfl, by decide +kernel, by decide +kernel⟩
theorem b__law_cell_at (kV doc pm : Value) (an : Option Addr) (cdv ct : Value) (us : List Value) (hl : us.length = (["_law_script", "_law_k"] : List Str).length) : bindArgs (PySem.W.fnOf "_law_cell_at" "_law_cell_at" (defArgs s__law_cell_at) (defBody s__law_cell_at) (defScope s__law_cell_at) .none kV doc pm an cdv ct) ⟨us, []⟩ = pure ((["_law_script", "_law_k"] : List Str).zip us) :=
  match us, hl with | [_, _], _ => rfl
def spBox (K : PySem.W.Frag) : Sp := fun vs H Q _ => ∃ (l : Addr) (ns : List Int) (j : Nat), vs = [.ref l, .int (j : Int)] ∧ j ≤ 100 ∧ SqL K H l (ns.map V.int) ∧ ∀ (p : Addr) (xs : List V), H p = none → BoxOk xs 549755813888 → Q (.ref p) (upd H p (.lst xs))
abbrev s__law_box : Stmt := topS 56
theorem sc__law_box : FnScope (["_law_script", "_law_k", "_law_core"] : List Str) (["_law_script", "_law_k"] : List Str) (defScope s__law_box) := ⟨rfl, rfl, rfl, by decide +kernel, rfl, by decide +kernel, by decide +kernel⟩
theorem b__law_box (kV doc pm : Value) (an : Option Addr) (cdv ct : Value) (us : List Value) (hl : us.length = (["_law_script", "_law_k"] : List Str).length) : bindArgs (PySem.W.fnOf "_law_box" "_law_box" (defArgs s__law_box) (defBody s__law_box) (defScope s__law_box) .none kV doc pm an cdv ct) ⟨us, []⟩ = pure ((["_law_script", "_law_k"] : List Str).zip us) :=
  match us, hl with | [_, _], _ => rfl
section
variable {P : Program} {w : World} {K : PySem.W.Frag} {mg : Str → Option Value} {base : Heap}
theorem ok_cell_at {k : Nat} (D : Df K mg "_law_cell_at" s__law_cell_at) (T : Bt mg) : Ok P w K mg base (k + 1) "_law_cell_at" s__law_cell_at ["_law_script", "_law_k"] (spCellAt K) := by
  refine D.ok sc__law_cell_at b__law_cell_at (fun vs H Q E h => ?_) (fun f cdv A outer s H vs Q E hr h => ?_)
  · obtain ⟨l, ns, j, rfl, _⟩ := h
    rfl
  · obtain ⟨l, ns, j, rfl, hs, q⟩ := h
    refine ⟨_, (pss_cons (ps_if (pt_cmpR op_lt (pv 1) (pe_callB call_len_seq (by rfl) T.len_ PySem.boot_len (pa_cons (pv 0) pa_nil)) (nomark _))
        (pss_one (ps_ret (pe_ix ix_lt (pv 0) (pv 1) (fun _ _ => rfl))))
        pss_nil)
      (pss_one (ps_ret pe_int))), ?_⟩
    refine ⟨_, rfl, _, rfl, l, _, rfl, .inl hs, _, _, rfl, rfl, _, rfl, ite2 (fun c => ?_) (fun c => ?_)⟩
    · have c0 : (j : Int) < ((ns.map V.int).length : Int) := of_decide_eq_true c
      rw [List.length_map] at c0
      have c1 : j < ns.length := by omega
      refine ⟨_, rfl, _, rfl, l, _, _, .int ns[j], rfl, rfl, .inl hs, at_nat rfl (by simp [c1]), q _⟩
    · exact q 0
theorem ok_box {k : Nat} (D : Df K mg "_law_box" s__law_box) (T : Bt mg) (O__law_cell_at : Ok P w K mg base k "_law_cell_at" s__law_cell_at ["_law_script", "_law_k"] (spCellAt K)) : Ok P w K mg base (k + 1) "_law_box" s__law_box ["_law_script", "_law_k"] (spBox K) := by
  refine D.ok sc__law_box b__law_box (fun vs H Q E h => ?_) (fun f cdv A outer s H vs Q E hr h => ?_)
  · obtain ⟨l, ns, j, rfl, _⟩ := h
    rfl
  · obtain ⟨l, ns, j, rfl, hj, hs, q⟩ := h
    refine ⟨_, (pss_cons (ps_set (i := 2) sc__law_box.nd rfl (.inl rfl) (pe_fn O__law_cell_at (hr.mono (by omega)) (pa_cons (pv 0) (pa_cons (pv 1) pa_nil))))
      (pss_one (ps_ret (pe_lst (pa_cons (pe_op op_mul (pe_callB call_abs (by rfl) T.abs_ (by decide +kernel) (pa_cons (pv 2) pa_nil)) (pe_callTy call_int1 (by rfl) T.int_ (by decide +kernel) (pa_cons (pe_cmpR op_ge (pe_callB call_abs (by rfl) T.abs_ (by decide +kernel) (pa_cons (pv 2) pa_nil)) (pe_op (op_powC 1000000000000000000) pe_int pe_int) (nomark _)) pa_nil))) (pa_cons (pe_op op_add (pe_op op_add (pe_op op_mod (pv 2) pe_int) (pe_op op_mul pe_int (pv 1))) pe_int) (pa_cons pe_int pa_nil))))))), ?_⟩
    refine ⟨_, rfl, _, rfl, l, ns, j, rfl, hs, fun z => ?_⟩
    have z1 : 0 ≤ z % 2305843009213693951 := Int.emod_nonneg _ (by decide)
    have z2 : z % 2305843009213693951 < 2305843009213693951 := Int.emod_lt_of_pos _ (by decide)
    have za : 0 ≤ (if z < 0 then -z else z) := by split <;> omega
    refine ⟨_, rfl, z, rfl, _, rfl, z, rfl, 10, 18, rfl, rfl, ⟨⟨by decide, by decide, by decide⟩, by decide⟩, _, _, rfl, rfl, .inr ⟨_, rfl, ?_⟩⟩
    refine ⟨_, _, rfl, rfl, .inr (b01' _), ?_⟩
    refine ⟨_, rfl, z, _, rfl, rfl, (show (0 : Int) < 2305843009213693951 by decide), _, rfl, 39373, (j : Int), rfl, rfl, .inl ⟨by decide, by decide⟩, _, _, rfl, rfl, _, 17, rfl, rfl, ?_⟩
    refine ⟨(by show 3 ≤ sizeLine; decide), fun p np => ?_⟩
    refine q p _ np ⟨_, _, 0, rfl, ?_, by omega, by omega, by omega, by omega⟩
    exact Int.mul_nonneg za (b01 _)
end
/-! ### one of some -/
def spOf (K : PySem.W.Frag) : Sp := fun vs H Q _ => ∃ (b l : Addr) (n : Nat) (xs : List V), vs = [.ref b, .ref l] ∧ SqA K H l xs ∧ l ≠ b ∧ 0 < xs.length ∧ xs.length < 1000000 ∧ BoxAt H b (n + 1) ∧ ∀ (v : V) (ys : List V), v ∈ xs → BoxOk ys n → Q v (upd H b (.lst ys))
abbrev s__law_of : Stmt := topS 58
theorem sc__law_of : FnScope (["_law_box_here", "_law_some"] : List Str) (["_law_box_here", "_law_some"] : List Str) (defScope s__law_of) := ⟨rfl, rfl, rfl, by decide +kernel, rfl, by decide +kernel, by decide +kernel⟩
theorem b__law_of (kV doc pm : Value) (an : Option Addr) (cdv ct : Value) (us : List Value) (hl : us.length = (["_law_box_here", "_law_some"] : List Str).length) : bindArgs (PySem.W.fnOf "_law_of" "_law_of" (defArgs s__law_of) (defBody s__law_of) (defScope s__law_of) .none kV doc pm an cdv ct) ⟨us, []⟩ = pure ((["_law_box_here", "_law_some"] : List Str).zip us) :=
  match us, hl with | [_, _], _ => rfl
section
variable {P : Program} {w : World} {K : PySem.W.Frag} {mg : Str → Option Value} {base : Heap}
theorem ok_of {k : Nat} (D : Df K mg "_law_of" s__law_of) (T : Bt mg) (O__law_take : Ok P w K mg base k "_law_take" s__law_take ["_law_box_here", "_law_span"] spTake) : Ok P w K mg base (k + 1) "_law_of" s__law_of ["_law_box_here", "_law_some"] (spOf K) := by
  refine D.ok sc__law_of b__law_of (fun vs H Q E h => ?_) (fun f cdv A outer s H vs Q E hr h => ?_)
  · obtain ⟨b, l, n, xs, rfl, _⟩ := h
    rfl
  · obtain ⟨b, l, n, xs, rfl, hl, hne, l0, l1, hb, q⟩ := h
    refine ⟨_, (pss_one (ps_ret (pe_ix ix_lt (pv 1) (pe_fn O__law_take (hr.mono (by omega)) (pa_cons (pv 0) (pa_cons (pe_callB call_len_seq (by rfl) T.len_ PySem.boot_len (pa_cons (pv 1) pa_nil)) pa_nil))) (fun _ _ => rfl)))), ?_⟩
    refine ⟨_, rfl, _, rfl, _, rfl, l, xs, rfl, hl, b, n, _, rfl, by omega, by omega, hb, fun v ys v0 v1 hy => ?_⟩
    have hi : v.toNat < xs.length := by omega
    refine ⟨l, xs, v, xs[v.toNat], rfl, rfl, SqA.at hne hl, at_nat (j := v.toNat) (by omega) (by simp [hi]), ?_⟩
    exact q _ _ (List.getElem_mem hi) hy
end
end Sh

namespace Sh
open PySem PySem.Spec PyProof.Rows L2
/-! ### what is told is what is due -/
def tyS : PyData → String
  | .none => "NoneType" | .bool _ => "bool" | .int _ => "int" | .str _ => "str" | .list _ => "list" | .tuple _ => "tuple" | .dict _ => "dict"
/-- at most so deep, no longer than a hundred thousand -/
def Lv : Nat → PyData → Prop
  | 0, _ => False
  | _ + 1, .none => True
  | _ + 1, .bool _ => True
  | _ + 1, .int _ => True
  | _ + 1, .str _ => True
  | n + 1, .list ds => ds.length ≤ 100000 ∧ ∀ e ∈ ds, Lv n e
  | n + 1, .tuple ds => ds.length ≤ 100000 ∧ ∀ e ∈ ds, Lv n e
  | _ + 1, .dict _ => False
theorem lv_ints {n : Nat} (ns : List Int) (h : ns.length ≤ 100000) : Lv (n + 2) (.list (ns.map .int)) := ⟨by rw [List.length_map]; exact h, fun e he => by
  obtain ⟨i, _, rfl⟩ := List.mem_map.mp he
  exact trivial⟩
theorem lv_intsT {n : Nat} (ns : List Int) (h : ns.length ≤ 100000) : Lv (n + 2) (.tuple (ns.map .int)) := ⟨by rw [List.length_map]; exact h, fun e he => by
  obtain ⟨i, _, rfl⟩ := List.mem_map.mp he
  exact trivial⟩
section
variable {K : PySem.W.Frag} {H : Hp}
theorem ty_list {a : Addr} {xs : List V} (h : SqL K H a xs) : TyX K H (.ref a) (.type "list") := by
  rcases h with (h | ⟨o, h⟩) | ⟨o, its, n, h, c, _⟩
  · exact .base (.lst h)
  · exact .base (.frz h)
  · exact .kList h c
theorem ty_tup {a : Addr} {xs : List V} (h : SqT K H a xs) : TyX K H (.ref a) (.type "tuple") := by
  rcases h with (h | ⟨o, h⟩) | ⟨o, its, n, h, c, _⟩
  · exact .base (.tup h)
  · exact .fTuple h
  · exact .kTuple h c
theorem ty_of {v : V} {d : PyData} (h : Dp K H v d) : TyX K H v (.type (tyS d)) := by
  cases h with
  | non => exact .base .non
  | bl b => exact .base (.bl b)
  | int i => exact .base (.int i)
  | str x => exact .base (.str x)
  | lst h _ => exact ty_list h
  | tup h _ => exact ty_tup h
theorem kit2 {t a b : String} {r1 r2 r : Bool} (h1 : kitB t a = some r1) (h2 : kitB t b = some r2) (hr : (r1 || r2) = r) : PySem.W.kitAny K (.type t) [.type a, .type b] = some r := by
  refine kitAny_cons (b := r1) (kit_ty h1) (fun e => ?_) (fun e => ?_)
  · refine kitAny_cons (b := r2) (kit_ty h2) (fun e2 => ?_) (fun e2 => ?_)
    · rw [← hr, e, e2]
      exact kitAny_nil
    · rw [← hr, e, e2]
      all_goals rfl
  · rw [← hr, e]
    all_goals rfl
end
end Sh

namespace Sh
open PySem PySem.Spec PyProof.Rows L2
/-! ### a drawn sea -/
theorem But.put {b p : Addr} {H H' : Hp} {o : HO} (h : But b H H') (n : H p = none) : But b H (upd H' p o) := fun a x na e => by
  rw [upd_ne (ne_of_none e n)]
  exact h a x na e
theorem But.box {b : Addr} {H H' : Hp} {o : HO} (h : But b H H') : But b H (upd H' b o) := fun a x na e => by
  rw [upd_ne na]
  exact h a x na e
theorem BoxAt.put {H : Hp} {b : Addr} {n : Nat} {xs : List V} (h : BoxOk xs n) : BoxAt (upd H b (.lst xs)) b n := ⟨xs, upd_same, h⟩
theorem BoxAt.at {H : Hp} {b p : Addr} {n : Nat} {o : HO} (h : BoxAt H b n) (ne : b ≠ p) : BoxAt (upd H p o) b n := let ⟨xs, e, k⟩ := h; ⟨xs, by rw [upd_ne ne]; exact e, k⟩
structure SeaOk (most : Nat) (h t : Int) (ds : List Int) : Prop where
  h0 : 0 ≤ h
  h1 : h ≤ 1000000000000
  t0 : 0 ≤ t
  t1 : t ≤ 1000000000000
  l0 : 0 < ds.length
  l1 : ds.length ≤ most
  d0 : ∀ d ∈ ds, 0 ≤ d ∧ d ≤ 1000000000000
def spSea : Sp := fun vs H Q _ => ∃ (b : Addr) (n most : Nat), vs = [.ref b, .int (most : Int)] ∧ 0 < most ∧ most ≤ 60 ∧ BoxAt H b (n + 200) ∧
  ∀ (H' : Hp) (p q : Addr) (h t : Int) (ds : List Int), But b H H' → BoxAt H' b n → H p = none → H q = none → H' p = some (.tup [.int h, .int t, .ref q]) → H' q = some (.tup (ds.map V.int)) → SeaOk most h t ds → Q (.ref p) H'
abbrev s__law_sea : Stmt := topS 60
theorem sc__law_sea : FnScope (["_law_box_here", "_law_most", "_law_count", "_law_far", "_law_wide", "_law_depths", "_law_draughts", "_law_brink", "_law_whom"] : List Str) (["_law_box_here", "_law_most"] : List Str) (defScope s__law_sea) := ⟨rfl, rfl, rfl, by decide +kernel, rfl, by decide +kernel, by decide +kernel⟩
theorem b__law_sea (kV doc pm : Value) (an : Option Addr) (cdv ct : Value) (us : List Value) (hl : us.length = (["_law_box_here", "_law_most"] : List Str).length) : bindArgs (PySem.W.fnOf "_law_sea" "_law_sea" (defArgs s__law_sea) (defBody s__law_sea) (defScope s__law_sea) .none kV doc pm an cdv ct) ⟨us, []⟩ = pure ((["_law_box_here", "_law_most"] : List Str).zip us) :=
  match us, hl with | [_, _], _ => rfl
section
variable {P : Program} {w : World} {K : PySem.W.Frag} {mg : Str → Option Value} {base : Heap}
/-- a new object, a draw: what stands, stands -/
theorem al {b p : Addr} {H Hc : Hp} {n : Nat} {o : HO} (u : But b H Hc) (x : BoxAt Hc b n) (np : Hc p = none) : But b H (upd Hc p o) ∧ BoxAt (upd Hc p o) b n ∧ upd Hc p o p = some o ∧ p ≠ b :=
  ⟨fun a z na e => by rw [upd_ne (ne_of_none (u a z na e) np)]; exact u a z na e, x.at (x.ne np), upd_same, (x.ne np).symm⟩
theorem tk {b : Addr} {H Hc : Hp} {n : Nat} {ys : List V} (u : But b H Hc) (y : BoxOk ys n) : But b H (upd Hc b (.lst ys)) ∧ BoxAt (upd Hc b (.lst ys)) b n := ⟨u.box, .put y⟩
theorem But.free {b p : Addr} {H H' : Hp} (u : But b H H') (n : p ≠ b) (h : H' p = none) : H p = none := by
  cases e : H p with
  | none => rfl
  | some o =>
    rw [u p o n e] at h
    cases h
theorem two_of {ns : List Int} (h : ns.length = 2) : ∃ a b, ns = [a, b] := by
  match ns, h with
  | [a, b], _ => exact ⟨a, b, rfl⟩
theorem ints_mem {v : V} {ns : List Int} (h : v ∈ ns.map V.int) : ∃ i ∈ ns, v = .int i := by
  obtain ⟨i, hi, e⟩ := List.mem_map.mp h
  exact ⟨i, hi, e.symm⟩
theorem ne_box {H : Hp} {b p : Addr} {n : Nat} (h : BoxAt H b n) (z : H p = none) : p ≠ b := (h.ne z).symm
set_option maxHeartbeats 4000000 in
theorem ok_sea {k : Nat} (D : Df K mg "_law_sea" s__law_sea) (T : Bt mg) (O__law_take : Ok P w K mg base k "_law_take" s__law_take ["_law_box_here", "_law_span"] spTake) (O__law_of : Ok P w K mg base k "_law_of" s__law_of ["_law_box_here", "_law_some"] (spOf K)) :
    Ok P w K mg base (k + 1) "_law_sea" s__law_sea ["_law_box_here", "_law_most"] spSea := by
  refine D.ok sc__law_sea b__law_sea (fun vs H Q E h => ?_) (fun f cdv A outer s H vs Q E hr h => ?_)
  · obtain ⟨b, n, most, rfl, _⟩ := h
    rfl
  · obtain ⟨b, n, most, rfl, m0, m1, hb, q⟩ := h
    refine ⟨_, (pss_cons (ps_asg (pe_tup (pa_cons (pe_op op_add pe_int (pe_fn O__law_take (hr.mono (by omega)) (pa_cons (pv 0) (pa_cons (pv 1) pa_nil)))) (pa_cons (pe_fn O__law_of (hr.mono (by omega)) (pa_cons (pv 0) (pa_cons (pe_lst (pa_cons pe_int (pa_cons pe_int (pa_cons pe_int (pa_cons (pe_op op_sub (pe_op op_sub (pe_op (op_powC 1000000000000) pe_int pe_int) pe_int) (pe_fn O__law_take (hr.mono (by omega)) (pa_cons (pv 0) (pa_cons (pe_op (op_powC 1000000) pe_int pe_int) pa_nil)))) pa_nil))))) pa_nil))) pa_nil))) (pg_seq rfl (pgs_cons (pg_name (i := 2) sc__law_sea.nd rfl (.inr rfl)) (pgs_cons (pg_name (i := 3) sc__law_sea.nd rfl (.inr rfl)) pgs_nil))))
      (pss_cons (ps_set (i := 4) sc__law_sea.nd rfl (.inr rfl) (pe_fn O__law_of (hr.mono (by omega)) (pa_cons (pv 0) (pa_cons (pe_lst (pa_cons pe_int (pa_cons (pe_op op_add (pv 2) pe_int) (pa_cons (pe_op op_add (pe_op op_mul pe_int (pv 2)) pe_int) pa_nil)))) pa_nil))))
      (pss_cons (ps_setLc (i := 5) (own := [("_law_brink", 7)]) (g := (gName 7)) (tt := tYes) (by rfl) sc__law_sea.nd rfl rfl (sw_true rfl rfl rfl (by decide +kernel)) (pi_range1 (by rfl) T.range_ (pa_cons pe_int pa_nil)) (blkOk_by (own := [("_law_brink", 7)]) (N := (["_law_box_here", "_law_most", "_law_count", "_law_far", "_law_wide", "_law_depths", "_law_draughts", "_law_brink", "_law_whom"] : List Str)) (sc := defScope s__law_sea) (by decide +kernel)) (fun _ _ _ _ _ => (pg_name (i := 7) sc__law_sea.nd rfl (.inl rfl))) (fun _ _ _ _ _ => pts_nil) (fun _ _ _ _ _ => (pe_op op_add (pv 3) (pe_op op_mul (pe_fn O__law_take (hr.mono (by omega)) (pa_cons (pv 0) (pa_cons (pe_op op_add (pv 2) pe_int) pa_nil))) (pe_fn O__law_take (hr.mono (by omega)) (pa_cons (pv 0) (pa_cons pe_int pa_nil)))))))
      (pss_cons (ps_set (i := 6) sc__law_sea.nd rfl (.inr rfl) (pe_lc (own := [("_law_whom", 8)]) (g := (gName 8)) (tt := tYes) (by rfl) sc__law_sea.nd (pi_range1 (by rfl) T.range_ (pa_cons (pv 2) pa_nil)) (blkOk_by (own := [("_law_whom", 8)]) (N := (["_law_box_here", "_law_most", "_law_count", "_law_far", "_law_wide", "_law_depths", "_law_draughts", "_law_brink", "_law_whom"] : List Str)) (sc := defScope s__law_sea) (by decide +kernel)) (fun _ _ _ _ _ => (pg_name (i := 8) sc__law_sea.nd rfl (.inl rfl))) (fun _ _ _ _ _ => pts_nil) (fun _ _ _ _ _ => (pe_op op_add (pv 3) (pe_fn O__law_take (hr.mono (by omega)) (pa_cons (pv 0) (pa_cons (pv 4) pa_nil)))))))
      (pss_cons (ps_if (pt_cmpR op_eq (pe_fn O__law_take (hr.mono (by omega)) (pa_cons (pv 0) (pa_cons pe_int pa_nil))) pe_int (nomark _))
        (pss_one (ps_set (i := 6) sc__law_sea.nd rfl (.inr rfl) (pe_lc (own := [("_law_whom", 8)]) (g := (gName 8)) (tt := tYes) (by rfl) sc__law_sea.nd (pi_range1 (by rfl) T.range_ (pa_cons (pv 2) pa_nil)) (blkOk_by (own := [("_law_whom", 8)]) (N := (["_law_box_here", "_law_most", "_law_count", "_law_far", "_law_wide", "_law_depths", "_law_draughts", "_law_brink", "_law_whom"] : List Str)) (sc := defScope s__law_sea) (by decide +kernel)) (fun _ _ _ _ _ => (pg_name (i := 8) sc__law_sea.nd rfl (.inl rfl))) (fun _ _ _ _ _ => pts_nil) (fun _ _ _ _ _ => (pe_ifExp (pt_cmpR op_eq (pe_fn O__law_take (hr.mono (by omega)) (pa_cons (pv 0) (pa_cons pe_int pa_nil))) pe_int (nomark _)) (pe_ix (ix_ltK K) (pv 6) (pv 8) (fun _ _ => rfl)) (pe_ix (ix_ltK K) (pv 6) pe_int (fun _ _ => rfl)))))))
        pss_nil)
      (pss_one (ps_ret (pe_tup (pa_cons (pe_ix ix_lt (pv 5) pe_int (fun _ _ => rfl)) (pa_cons (pe_ix ix_lt (pv 5) pe_int (fun _ _ => rfl)) (pa_cons (pe_callTy call_tuple_of (by rfl) T.tuple_ (by decide +kernel) (pa_cons (pv 6) pa_nil)) pa_nil))))))))))), ?_⟩
    -- 1 + take(box, most)
    refine ⟨_, rfl, _, rfl, b, n + 199, _, rfl, by omega, by omega, hb, fun c ys1 c0 c1 y1 => ?_⟩
    refine ⟨1, c, rfl, rfl, ?_⟩
    have u1 : But b H (upd H b (.lst ys1)) := But.ups
    have x1 : BoxAt (upd H b (.lst ys1)) b (n + 199) := .put y1
    generalize upd H b (.lst ys1) = H1 at u1 x1
    -- of(box, [0, 0, 0, 10 ** 12 - 200 - take(box, 10 ** 6)])
    refine ⟨_, rfl, 10, 12, rfl, rfl, ⟨⟨by decide, by decide, by decide⟩, by decide⟩, _, 200, rfl, rfl, _, rfl, 10, 6, rfl, rfl, ⟨⟨by decide, by decide, by decide⟩, by decide⟩, ?_⟩
    refine ⟨b, n + 198, 1000000, rfl, by decide, by decide, x1, fun r ys2 r0 r1 y2 => ?_⟩
    have u2 : But b H (upd H1 b (.lst ys2)) := u1.box
    have x2 : BoxAt (upd H1 b (.lst ys2)) b (n + 198) := .put y2
    generalize upd H1 b (.lst ys2) = H2 at u2 x2
    refine ⟨_, _, rfl, rfl, (by show 4 ≤ sizeLine; decide), fun l nl => ?_⟩
    have u3 : But b H (upd H2 l (.lst [.int 0, .int 0, .int 0, .int (1000000000000 - 200 - r)])) := fun a o na e => by
      rw [upd_ne (ne_of_none (u2 a o na e) nl)]
      exact u2 a o na e
    refine ⟨b, l, n + 197, _, rfl, SqA.l upd_same, ne_box x2 nl, (by show 0 < 4; decide), (by show 4 < 1000000; decide), x2.at (x2.ne nl), fun v ys3 hv y3 => ?_⟩
    obtain ⟨far, f0, f1, rfl⟩ : ∃ far : Int, 0 ≤ far ∧ far ≤ 1000000000000 - 200 ∧ v = .int far := by
      have e4 : v = .int 0 ∨ v = .int (1000000000000 - 200 - r) := by
        have e5 : v = .int 0 ∨ v = .int 0 ∨ v = .int 0 ∨ v = .int (1000000000000 - 200 - r) := by simpa using hv
        rcases e5 with e | e | e | e
        · exact .inl e
        · exact .inl e
        · exact .inl e
        · exact .inr e
      rcases e4 with e | e
      · exact ⟨0, by decide, by decide, e⟩
      · exact ⟨_, by omega, by omega, e⟩
    replace u3 : But b H (upd (upd H2 l (.lst [.int 0, .int 0, .int 0, .int (1000000000000 - 200 - r)])) b (.lst ys3)) := u3.box
    have x3 : BoxAt (upd (upd H2 l (.lst [.int 0, .int 0, .int 0, .int (1000000000000 - 200 - r)])) b (.lst ys3)) b (n + 197) := .put y3
    try dsimp only
    generalize upd (upd H2 l (.lst [.int 0, .int 0, .int 0, .int (1000000000000 - 200 - r)])) b (.lst ys3) = H3 at u3 x3
    refine ⟨(by show 2 ≤ sizeLine; decide), fun tp ntp => ?_⟩
    refine ⟨tp, _, rfl, SqA.t upd_same, rfl, _, _, rfl, _, _, rfl, rfl, ?_⟩
    obtain ⟨u4, x4, _, _⟩ := al (o := .tup [.int (1 + c), .int far]) u3 x3 ntp
    try dsimp only
    generalize upd H3 tp (.tup [.int (1 + c), .int far]) = H4 at u4 x4
    obtain ⟨cn, ec⟩ : ∃ cn : Nat, 1 + c = ((cn : Nat) : Int) := ⟨(1 + c).toNat, by omega⟩
    have cn0 : 0 < cn := by omega
    have cn1 : cn ≤ most := by omega
    rw [ec]
    -- wide
    refine ⟨_, rfl, _, rfl, _, 2, rfl, rfl, _, rfl, 2, _, rfl, rfl, .inl ⟨by decide, by decide⟩, _, 2, rfl, rfl, (by show 3 ≤ sizeLine; decide), fun l2 nl2 => ?_⟩
    obtain ⟨u5, x5, e5, n5⟩ := al (o := .lst [.int 2, .int ((cn : Int) + 2), .int (2 * (cn : Int) + 2)]) u4 x4 nl2
    refine ⟨b, l2, n + 196, _, rfl, SqA.l upd_same, n5, (by show 0 < 3; decide), (by show 3 < 1000000; decide), x5.mono (by omega), fun v ys6 hv y6 => ?_⟩
    obtain ⟨wide, w0, w1, rfl⟩ : ∃ wide : Int, 2 ≤ wide ∧ wide ≤ 122 ∧ v = .int wide := by
      have e5 : v = .int 2 ∨ v = .int ((cn : Int) + 2) ∨ v = .int (2 * (cn : Int) + 2) := by simpa using hv
      rcases e5 with e | e | e
      · exact ⟨2, by decide, by decide, e⟩
      · exact ⟨_, by omega, by omega, e⟩
      · exact ⟨_, by omega, by omega, e⟩
    obtain ⟨u6, x6⟩ := tk u5 y6
    try dsimp only
    generalize upd (upd H4 l2 (.lst [.int 2, .int ((cn : Int) + 2), .int (2 * (cn : Int) + 2)])) b (.lst ys6) = H6 at u6 x6
    -- depths
    refine ⟨2, rfl, by decide, by decide, fun C nC => ?_⟩
    refine lc_range (fun i Hc => ∃ ns : List Int, But b H6 Hc ∧ BoxAt Hc b (n + 196 - 2 * i) ∧ Hc C = some (.lst (ns.map V.int)) ∧ ns.length = i ∧ ∀ d ∈ ns, 0 ≤ d ∧ d ≤ 1000000000000) ?_ ?_ ?_
    · exact ⟨[], (al (But.refl b H6) x6 nC).1, (al (But.refl b H6) x6 nC).2.1, upd_same, rfl, fun d hd => by simp at hd⟩
    · rintro i Hc hi ⟨ns, uc, xc, hC, hl, hn⟩
      have nCb : C ≠ b := (x6.ne nC).symm
      have i2 : i < 2 := hi
      refine ⟨rfl, tyes (iteT ?_)⟩
      refine ⟨_, rfl, _, rfl, _, rfl, _, 2, rfl, rfl, ?_⟩
      refine ⟨b, n + 196 - 2 * i - 1, _, rfl, by omega, by omega, xc.mono (by omega), fun v ys v0 v1 y => ?_⟩
      obtain ⟨ud, xd⟩ := tk uc y
      have hD : upd Hc b (.lst ys) C = some (.lst (ns.map V.int)) := by rw [upd_ne nCb]; exact hC
      generalize upd Hc b (.lst ys) = Hd at ud xd hD
      refine ⟨_, rfl, ?_⟩
      refine ⟨b, n + 196 - 2 * i - 2, 2, rfl, by decide, by decide, xd.mono (by omega), fun v' ys' v0' v1' y' => ?_⟩
      obtain ⟨ue, xe⟩ := tk ud y'
      have hE : upd Hd b (.lst ys') C = some (.lst (ns.map V.int)) := by rw [upd_ne nCb]; exact hD
      generalize upd Hd b (.lst ys') = He at ue xe hE
      refine ⟨v, v', rfl, rfl, .inl ⟨by omega, by omega⟩, far, v * v', rfl, rfl, ns.map V.int, hE, ?_, ns ++ [far + v * v'], ?_, ?_, ?_, ?_, ?_⟩
      · rw [List.length_map, hl]
        exact Nat.lt_trans i2 (by decide)
      · exact fun a o na e => by rw [upd_ne (ne_of_none e nC)]; exact ue a o na e
      · exact (xe.at (x6.ne nC)).mono (by omega)
      · rw [upd_same, List.map_append]
        rfl
      · simp [hl]
      · intro d hd
        rcases List.mem_append.mp hd with z | z
        · exact hn d z
        · have e : d = far + v * v' := by simpa using z
          have e01 : v' = 0 ∨ v' = 1 := by omega
          rcases e01 with z | z <;> (rw [e, z]; omega)
    · rintro H7 ⟨ds2, u7', x7, h7, l7, b7⟩
      have u7 : But b H H7 := u6.trans u7'
      clear u7'
      replace x7 : BoxAt H7 b (n + 192) := x7.mono (by omega)
      have nCb : C ≠ b := (x6.ne nC).symm
      -- draughts
      refine ⟨_, rfl, _, rfl, by omega, by omega, fun C2 nC2 => ?_⟩
      rw [show ((cn : Int)).toNat = cn by omega]
      refine lc_range (fun i Hc => ∃ ns : List Int, But b H7 Hc ∧ BoxAt Hc b (n + 192 - i) ∧ Hc C2 = some (.lst (ns.map V.int)) ∧ ns.length = i ∧ ∀ d ∈ ns, 0 ≤ d ∧ d ≤ 1000000000000) ?_ ?_ ?_
      · exact ⟨[], (al (But.refl b H7) x7 nC2).1, (al (But.refl b H7) x7 nC2).2.1, upd_same, rfl, fun d hd => by simp at hd⟩
      · rintro i Hc hi ⟨ns, uc, xc, hC, hl, hn⟩
        have nCb2 : C2 ≠ b := (x7.ne nC2).symm
        refine ⟨rfl, tyes (iteT ?_)⟩
        refine ⟨_, rfl, _, rfl, _, rfl, ?_⟩
        refine ⟨b, n + 192 - i - 1, wide, rfl, by omega, by omega, xc.mono (by omega), fun v ys v0 v1 y => ?_⟩
        obtain ⟨ud, xd⟩ := tk uc y
        have hD : upd Hc b (.lst ys) C2 = some (.lst (ns.map V.int)) := by rw [upd_ne nCb2]; exact hC
        generalize upd Hc b (.lst ys) = Hd at ud xd hD
        refine ⟨far, v, rfl, rfl, ns.map V.int, hD, ?_, ns ++ [far + v], ?_, ?_, ?_, ?_, ?_⟩
        · rw [List.length_map, hl]
          exact Nat.lt_of_lt_of_le hi (Nat.le_trans (show cn ≤ 60 by omega) (by decide))
        · exact fun a o na e => by rw [upd_ne (ne_of_none e nC2)]; exact ud a o na e
        · exact (xd.at (x7.ne nC2)).mono (by omega)
        · rw [upd_same, List.map_append]
          rfl
        · simp [hl]
        · intro d hd
          rcases List.mem_append.mp hd with z | z
          · exact hn d z
          · have e : d = far + v := by simpa using z
            omega
      · rintro H8 ⟨ds, u8', x8, h8, l8, b8⟩
        have h7' : H8 C = some (.lst (ds2.map V.int)) := u8' _ _ nCb h7
        have u8 : But b H H8 := u7.trans u8'
        have nC2b : C2 ≠ b := (x7.ne nC2).symm
        have nCC : C ≠ C2 := ne_of_none h7 nC2
        replace x8 : BoxAt H8 b (n + 132) := x8.mono (by omega)
        clear u8'
        -- take(box, 4) == 0
        refine ⟨_, rfl, b, n + 131, 4, rfl, by decide, by decide, x8.mono (by omega), fun v ys v0 v1 y => ?_⟩
        obtain ⟨u9, x9⟩ := tk u8 y
        have h9 : upd H8 b (.lst ys) C = some (.lst (ds2.map V.int)) := by rw [upd_ne nCb]; exact h7'
        have g9 : upd H8 b (.lst ys) C2 = some (.lst (ds.map V.int)) := by rw [upd_ne nC2b]; exact h8
        generalize upd H8 b (.lst ys) = H9 at u9 x9 h9 g9
        obtain ⟨d0, d1, rfl⟩ := two_of l7
        refine ⟨rfl, _, rfl, ite2 (fun c => ?_) (fun c => ?_)⟩
        · refine ⟨_, rfl, _, rfl, by omega, by omega, fun C3 nC3 => ?_⟩
          rw [show ((cn : Int)).toNat = cn by omega]
          have nC3b : C3 ≠ b := (x9.ne nC3).symm
          refine lc_range (fun i Hc => ∃ ns : List Int, But b H9 Hc ∧ BoxAt Hc b (n + 131 - i) ∧ Hc C3 = some (.lst (ns.map V.int)) ∧ ns.length = i ∧ ∀ d ∈ ns, 0 ≤ d ∧ d ≤ 1000000000000) ?_ ?_ ?_
          · exact ⟨[], (al (But.refl b H9) x9 nC3).1, (al (But.refl b H9) x9 nC3).2.1, upd_same, rfl, fun d hd => by simp at hd⟩
          · rintro i Hc hi ⟨ns, uc, xc, hC, hl, hn⟩
            refine ⟨rfl, tyes (iteT ?_)⟩
            refine ⟨_, rfl, b, n + 131 - i - 1, 2, rfl, by decide, by decide, xc.mono (by omega), fun v ys v0 v1 y => ?_⟩
            obtain ⟨ud, xd⟩ := tk uc y
            have hD : upd Hc b (.lst ys) C3 = some (.lst (ns.map V.int)) := by rw [upd_ne nC3b]; exact hC
            generalize upd Hc b (.lst ys) = Hd at ud xd hD
            have gd : Hd C2 = some (.lst (ds.map V.int)) := ud _ _ nC2b g9
            have fin : ∀ z ∈ ds, ∃ acc : List V, Hd C3 = some (.lst acc) ∧ acc.length < sizeLine ∧ ∃ ns : List Int, But b H9 (upd Hd C3 (.lst (acc ++ [.int z]))) ∧ BoxAt (upd Hd C3 (.lst (acc ++ [.int z]))) b (n + 131 - (i + 1)) ∧
                upd Hd C3 (.lst (acc ++ [.int z])) C3 = some (.lst (ns.map V.int)) ∧ ns.length = i + 1 ∧ ∀ d ∈ ns, 0 ≤ d ∧ d ≤ 1000000000000 := fun z hz => by
              refine ⟨ns.map V.int, hD, ?_, ns ++ [z], ?_, ?_, ?_, ?_, ?_⟩
              · rw [List.length_map, hl]
                exact Nat.lt_of_lt_of_le hi (Nat.le_trans (show cn ≤ 60 by omega) (by decide))
              · exact fun a o na e => by rw [upd_ne (ne_of_none e nC3)]; exact ud a o na e
              · exact (xd.at (x9.ne nC3)).mono (by omega)
              · rw [upd_same, List.map_append]
                rfl
              · simp [hl]
              · intro d hd
                rcases List.mem_append.mp hd with z2 | z2
                · exact hn d z2
                · have e : d = z := by simpa using z2
                  rw [e]
                  exact b8 z hz
            refine ⟨rfl, _, rfl, ite2 (fun c => ?_) (fun c => ?_)⟩
            · have hi' : i < ds.length := by omega
              exact ⟨_, rfl, _, rfl, C2, _, _, .int ds[i], rfl, rfl, SqA.l gd, at_nat (j := i) (by omega) (by simp [hi']), fin _ (List.getElem_mem hi')⟩
            · have hi' : 0 < ds.length := by omega
              exact ⟨_, rfl, C2, _, _, .int ds[0], rfl, rfl, SqA.l gd, at_nat (j := 0) rfl (by simp [hi']), fin _ (List.getElem_mem hi')⟩
          · rintro H10 ⟨ds', u10', x10, h10, l10, b10⟩
            have u10 : But b H H10 := u9.trans u10'
            refine ⟨_, rfl, C, _, 0, .int d0, rfl, rfl, SqA.l (u10' _ _ nCb h9), rfl, _, rfl, C, _, 1, .int d1, rfl, rfl, SqA.l (u10' _ _ nCb h9), rfl, _, rfl, C3, _, rfl, .inl ⟨SqL.of h10, fun q' nq => ?_⟩⟩
            refine ⟨(by show 3 ≤ sizeLine; decide), fun p np => ?_⟩
            obtain ⟨uq, xq, eq, nqb⟩ := al (o := .tup (ds'.map V.int)) u10 x10 nq
            obtain ⟨up, xp, ep, npb⟩ := al (o := .tup [.int d0, .int d1, .ref q']) uq xq np
            refine q _ p q' d0 d1 ds' up (xp.mono (by omega)) (uq.free npb np) (u10.free nqb nq) ep ?_ ⟨(b7 d0 (by simp)).1, (b7 d0 (by simp)).2, (b7 d1 (by simp)).1, (b7 d1 (by simp)).2, by omega, by omega, b10⟩
            rw [upd_ne (ne_of_none eq np)]
            exact eq
        · refine ⟨_, rfl, C, _, 0, .int d0, rfl, rfl, SqA.l h9, rfl, _, rfl, C, _, 1, .int d1, rfl, rfl, SqA.l h9, rfl, _, rfl, C2, _, rfl, .inl ⟨SqL.of g9, fun q' nq => ?_⟩⟩
          refine ⟨(by show 3 ≤ sizeLine; decide), fun p np => ?_⟩
          obtain ⟨uq, xq, eq, nqb⟩ := al (o := .tup (ds.map V.int)) u9 x9 nq
          obtain ⟨up, xp, ep, npb⟩ := al (o := .tup [.int d0, .int d1, .ref q']) uq xq np
          refine q _ p q' d0 d1 ds up (xp.mono (by omega)) (uq.free npb np) (u9.free nqb nq) ep ?_ ⟨(b7 d0 (by simp)).1, (b7 d0 (by simp)).2, (b7 d1 (by simp)).1, (b7 d1 (by simp)).2, by omega, by omega, b8⟩
          rw [upd_ne (ne_of_none eq np)]
          exact eq
end
end Sh

namespace Sh
open PySem PySem.Spec PyProof.Rows L2
/-! ### what many laws ask -/
/-- a sea (list or tuple) is handed in -/
def SeaA (K : PySem.W.Frag) (H : Hp) (v : V) (h t : Int) (ds : List Int) : Prop := ∃ p q, v = .ref p ∧ SqA K H p [.int h, .int t, .ref q] ∧ SqA K H q (ds.map V.int)
theorem SeaA.same {K : PySem.W.Frag} {H H' : Hp} {v : V} {h t : Int} {ds : List Int} (s : SeaA K H v h t ds) (e : Same H H') : SeaA K H' v h t ds := let ⟨p, q, a, b, c⟩ := s; ⟨p, q, a, Same.sqA e b, Same.sqA e c⟩
theorem lay_ints : ∀ ns : List Int, PyData.canLayAll0 (ns.map .int) = true ∧ PyData.depthAll (ns.map .int) = 0
  | [] => ⟨rfl, rfl⟩
  | n :: ns => by
    obtain ⟨a, b⟩ := lay_ints ns
    constructor
    · show (PyData.canLay0 (.int n) && PyData.canLayAll0 (ns.map .int)) = true
      rw [a]
      rfl
    · show max (PyData.depth (.int n)) (PyData.depthAll (ns.map .int)) = 0
      rw [b]
      rfl
theorem shaped_ints (ns : List Int) : SeqAt.shaped (.list (ns.map .int)) = true := by
  obtain ⟨a, b⟩ := lay_ints ns
  unfold SeqAt.shaped
  rw [show PyData.canLay0 (.list (ns.map .int)) = PyData.canLayAll0 (ns.map .int) from rfl, show PyData.depth (.list (ns.map .int)) = PyData.depthAll (ns.map .int) + 1 from rfl, a, b]
  rfl
theorem flat_ints (ns : List Int) : (ns.map V.int).all flatV = true := by
  rw [List.all_map]
  exact List.all_eq_true.mpr fun _ _ => rfl
theorem same_over {H H1 : Hp} {p : Addr} {o : HO} (s : Same H H1) (n : H p = none) : Same H (upd H1 p o) := fun a x e => by
  rw [upd_ne (ne_of_none e n)]
  exact s _ _ e
end Sh

namespace Sh
open PySem PySem.Spec PyProof.Rows L2
/-! ### standings as lists of ships -/
def ni (L : List Nat) : List V := L.map fun (i : Nat) => V.int (i : Int)
theorem ni_len (L : List Nat) : (ni L).length = L.length := by unfold ni; simp
theorem ni_get {L : List Nat} {i : Nat} (h : i < L.length) : (ni L)[i]? = some (.int ((L[i] : Nat) : Int)) := by unfold ni; simp [h]
theorem ni_app (L M : List Nat) : ni (L ++ M) = ni L ++ ni M := by unfold ni; simp
theorem ni_ints (L : List Nat) : ni L = (L.map fun (i : Nat) => (i : Int)).map V.int := by unfold ni; simp
theorem ni_flat (L : List Nat) : (ni L).all flatV = true := by unfold ni; rw [List.all_map]; exact List.all_eq_true.mpr fun _ _ => rfl
/-- a rising lot of ships below c -/
structure Lot (c : Nat) (L : List Nat) : Prop where
  up : L.Pairwise (· < ·)
  lt : ∀ i ∈ L, i < c
theorem up_len : ∀ {L : List Nat} {lo c : Nat}, L.Pairwise (· < ·) → (∀ i ∈ L, lo ≤ i ∧ i < c) → L.length ≤ c - lo
  | [], _, _, _, _ => Nat.zero_le _
  | a :: r, lo, c, h, hb => by
    obtain ⟨h1, h2⟩ := List.pairwise_cons.mp h
    have ha := hb a List.mem_cons_self
    have := up_len (lo := a + 1) (c := c) h2 fun i hi => ⟨h1 i hi, (hb i (List.mem_cons_of_mem _ hi)).2⟩
    rw [List.length_cons]
    omega
theorem Lot.len {c : Nat} {L : List Nat} (h : Lot c L) : L.length ≤ c := up_len (lo := 0) h.up fun i hi => ⟨Nat.zero_le _, h.lt i hi⟩
theorem Lot.nil (c : Nat) : Lot c [] := ⟨.nil, fun _ h => by cases h⟩
theorem Lot.all (c : Nat) : Lot c (List.range c) := ⟨List.pairwise_lt_range, fun _ h => List.mem_range.mp h⟩
theorem Lot.filter {c : Nat} {L : List Nat} (h : Lot c L) (p : Nat → Bool) : Lot c (L.filter p) := ⟨h.up.filter p, fun i hi => h.lt i (List.mem_filter.mp hi).1⟩
theorem rgV_ni (n : Nat) : rgV 0 (n : Int) = ni (List.range n) := by
  unfold rgV ni
  rw [show ((n : Int) - 0).toNat = n by omega]
  refine List.map_congr_left fun i _ => ?_
  rw [Int.zero_add]
theorem dp_ni {K : PySem.W.Frag} {H : Hp} {a : Addr} {L : List Nat} (h : H a = some (.lst (ni L))) : Dp K H (.ref a) (.list ((L.map fun (i : Nat) => (i : Int)).map .int)) := by
  rw [ni_ints] at h
  exact .lst (SqL.of h) (DpAll.ints _)
end Sh

namespace Sh
open PySem PySem.Spec PyProof.Rows L2
/-! ### a drawn lot -/
def spLot : Sp := fun vs H Q _ => ∃ (b : Addr) (n c : Nat), vs = [.ref b, .int (c : Int)] ∧ c ≤ 60 ∧ BoxAt H b (n + 100) ∧
  ∀ (H' : Hp) (p : Addr) (L : List Nat), But b H H' → BoxAt H' b n → H p = none → H' p = some (.tup (ni L)) → Lot c L → Q (.ref p) H'
abbrev s__law_lot : Stmt := topS 61
theorem sc__law_lot : FnScope (["_law_box_here", "_law_count", "_law_odds", "_law_whom"] : List Str) (["_law_box_here", "_law_count"] : List Str) (defScope s__law_lot) := ⟨rfl, rfl, rfl, by decide +kernel, rfl, by decide +kernel, by decide +kernel⟩
theorem b__law_lot (kV doc pm : Value) (an : Option Addr) (cdv ct : Value) (us : List Value) (hl : us.length = (["_law_box_here", "_law_count"] : List Str).length) : bindArgs (PySem.W.fnOf "_law_lot" "_law_lot" (defArgs s__law_lot) (defBody s__law_lot) (defScope s__law_lot) .none kV doc pm an cdv ct) ⟨us, []⟩ = pure ((["_law_box_here", "_law_count"] : List Str).zip us) :=
  match us, hl with | [_, _], _ => rfl
section
variable {P : Program} {w : World} {K : PySem.W.Frag} {mg : Str → Option Value} {base : Heap}
theorem ok_lot {k : Nat} (D : Df K mg "_law_lot" s__law_lot) (T : Bt mg) (O__law_take : Ok P w K mg base k "_law_take" s__law_take ["_law_box_here", "_law_span"] spTake) (O__law_of : Ok P w K mg base k "_law_of" s__law_of ["_law_box_here", "_law_some"] (spOf K)) :
    Ok P w K mg base (k + 1) "_law_lot" s__law_lot ["_law_box_here", "_law_count"] spLot := by
  refine D.ok sc__law_lot b__law_lot (fun vs H Q E h => ?_) (fun f cdv A outer s H vs Q E hr h => ?_)
  · obtain ⟨b, n, c, rfl, _⟩ := h
    rfl
  · obtain ⟨b, n, c, rfl, c60, hb, q⟩ := h
    refine ⟨_, (pss_cons (ps_set (i := 2) sc__law_lot.nd rfl (.inr rfl) (pe_fn O__law_of (hr.mono (by omega)) (pa_cons (pv 0) (pa_cons (pe_lst (pa_cons pe_int (pa_cons pe_int (pa_cons pe_int (pa_cons pe_int (pa_cons pe_int pa_nil)))))) pa_nil))))
      (pss_cons (ps_if (pt_cmpR op_eq (pe_fn O__law_take (hr.mono (by omega)) (pa_cons (pv 0) (pa_cons pe_int pa_nil))) pe_int (nomark _))
        (pss_one (ps_ret (pe_ifExp (pt_cmpR op_eq (pe_fn O__law_take (hr.mono (by omega)) (pa_cons (pv 0) (pa_cons pe_int pa_nil))) pe_int (nomark _)) (pe_tupRg (by rfl) (by rfl) T.tuple_ (prg_1 (by rfl) T.range_ (pv 1))) (pe_tup pa_nil))))
        pss_nil)
      (pss_one (ps_ret (pe_callTy call_tuple_of (by rfl) T.tuple_ (by decide +kernel) (pa_cons (pe_lc (own := [("_law_whom", 3)]) (g := (gName 3)) (by rfl) sc__law_lot.nd (pi_range1 (by rfl) T.range_ (pa_cons (pv 1) pa_nil)) (blkOk_by (own := [("_law_whom", 3)]) (N := (["_law_box_here", "_law_count", "_law_odds", "_law_whom"] : List Str)) (sc := defScope s__law_lot) (by decide +kernel)) (fun _ _ _ _ _ => (pg_name (i := 3) sc__law_lot.nd rfl (.inl rfl))) (fun _ _ _ _ _ => (pts_one (pt_cmpR op_eq (pe_fn O__law_take (hr.mono (by omega)) (pa_cons (pv 0) (pa_cons (pv 2) pa_nil))) pe_int (nomark _)))) (fun _ _ _ _ _ => (pv 3))) pa_nil)))))), ?_⟩
    -- odds
    refine ⟨_, rfl, (by show 5 ≤ sizeLine; decide), fun l nl => ?_⟩
    obtain ⟨u1, x1, e1, n1⟩ := al (o := .lst [.int 1, .int 2, .int 2, .int 3, .int 4]) (But.refl b H) hb nl
    refine ⟨b, l, n + 99, _, rfl, SqA.l upd_same, n1, (by show 0 < 5; decide), (by show 5 < 1000000; decide), x1.mono (by omega), fun v ys hv y => ?_⟩
    obtain ⟨o, o0, o1, rfl⟩ : ∃ o : Int, 1 ≤ o ∧ o ≤ 4 ∧ v = .int o := by
      have e5 : v = .int 1 ∨ v = .int 2 ∨ v = .int 3 ∨ v = .int 4 := by simpa using hv
      rcases e5 with e | e | e | e
      · exact ⟨1, by decide, by decide, e⟩
      · exact ⟨2, by decide, by decide, e⟩
      · exact ⟨3, by decide, by decide, e⟩
      · exact ⟨4, by decide, by decide, e⟩
    obtain ⟨u2, x2⟩ := tk u1 y
    generalize upd (upd H l (.lst [.int 1, .int 2, .int 2, .int 3, .int 4])) b (.lst ys) = H2 at u2 x2
    -- take(box, 8) == 0
    refine ⟨_, rfl, b, n + 98, 8, rfl, by decide, by decide, x2.mono (by omega), fun v ys v0 v1 y => ?_⟩
    obtain ⟨u3, x3⟩ := tk u2 y
    generalize upd H2 b (.lst ys) = H3 at u3 x3
    refine ⟨rfl, _, rfl, ite2 (fun _ => ?_) (fun _ => ?_)⟩
    · refine ⟨_, rfl, b, n + 97, 2, rfl, by decide, by decide, x3.mono (by omega), fun v ys v0 v1 y => ?_⟩
      obtain ⟨u4, x4⟩ := tk u3 y
      generalize upd H3 b (.lst ys) = H4 at u4 x4
      refine ⟨rfl, _, rfl, ite2 (fun _ => ?_) (fun _ => ?_)⟩
      · refine ⟨_, rfl, _, rfl, .of_le (by omega) (by omega) (by omega) (by omega), fun p np => ?_⟩
        rw [rgV_ni]
        obtain ⟨u5, x5, e5, n5⟩ := al (o := .tup (ni (List.range c))) u4 x4 np
        exact q _ p _ u5 (x5.mono (by omega)) (u4.free n5 np) e5 (Lot.all c)
      · refine ⟨Nat.zero_le _, fun p np => ?_⟩
        obtain ⟨u5, x5, e5, n5⟩ := al (o := .tup []) u4 x4 np
        exact q _ p [] u5 (x5.mono (by omega)) (u4.free n5 np) e5 (Lot.nil c)
    · refine ⟨_, rfl, _, rfl, by omega, by omega, fun C nC => ?_⟩
      rw [show ((c : Int)).toNat = c by omega]
      have nCb : C ≠ b := (x3.ne nC).symm
      refine lc_range (fun i Hc => ∃ L : List Nat, But b H3 Hc ∧ BoxAt Hc b (n + 98 - i) ∧ Hc C = some (.lst (ni L)) ∧ Lot i L) ?_ ?_ ?_
      · exact ⟨[], (al (But.refl b H3) x3 nC).1, (al (But.refl b H3) x3 nC).2.1, upd_same, Lot.nil 0⟩
      · rintro i Hc hi ⟨L, uc, xc, hC, hL⟩
        refine ⟨rfl, ?_⟩
        refine ⟨_, rfl, _, rfl, b, n + 98 - i - 1, o, rfl, by omega, by omega, xc.mono (by omega), fun v ys v0 v1 y => ?_⟩
        obtain ⟨ud, xd⟩ := tk uc y
        have hD : upd Hc b (.lst ys) C = some (.lst (ni L)) := by rw [upd_ne nCb]; exact hC
        generalize upd Hc b (.lst ys) = Hd at ud xd hD
        refine ⟨rfl, _, rfl, ite2 (fun _ => ?_) (fun _ => ?_)⟩
        · refine ⟨_, rfl, _, hD, ?_, L ++ [i], ?_, ?_, ?_, ?_⟩
          · rw [ni_len]
            exact small1000 (by have := hL.len; omega)
          · exact fun a z na e => by rw [upd_ne (ne_of_none e nC)]; exact ud a z na e
          · exact (xd.at (x3.ne nC)).mono (by omega)
          · rw [upd_same, ni_app]
            exact congrArg (fun z => some (HO.lst (ni L ++ [V.int z]))) (Int.zero_add (i : Int))
          · refine ⟨List.pairwise_append.mpr ⟨hL.up, List.pairwise_singleton _ _, fun a ha z hz => ?_⟩, fun a ha => ?_⟩
            · rw [List.mem_singleton.mp hz]
              exact hL.lt a ha
            · rcases List.mem_append.mp ha with z | z
              · have := hL.lt a z
                omega
              · rw [List.mem_singleton.mp z]
                omega
        · exact ⟨L, ud, xd.mono (by omega), hD, hL.up, fun a ha => Nat.lt_succ_of_lt (hL.lt a ha)⟩
      · rintro H4 ⟨L, u4', x4, h4, hL⟩
        have u4 := u3.trans u4'
        refine ⟨C, _, rfl, .inl ⟨SqL.of h4, fun p np => ?_⟩⟩
        obtain ⟨u5, x5, e5, n5⟩ := al (o := .tup (ni L)) u4 x4 np
        exact q _ p L u5 (x5.mono (by omega)) (u4.free n5 np) e5 hL
end
end Sh

namespace Sh
open PySem PySem.Spec PyProof.Rows L2
/-! ### who may go -/
/-- how many others lie here -/
def near (L : List Nat) (i : Nat) : Nat := (L.filter fun j => !decide (j = i)).length
def mayB (h t : Int) (ds : List Int) (L : List Nat) (i : Nat) : Bool := decide (ds.getD i 0 ≤ h + (near L i : Int)) && decide (ds.getD i 0 ≤ t + (ds.length : Int) - 1 - (near L i : Int))
def lets (h t : Int) (ds : List Int) (L : List Nat) (n : Nat) : List Nat := (List.range n).filter (mayB h t ds L)
theorem filter_succ (p : Nat → Bool) (n : Nat) : (List.range (n + 1)).filter p = (List.range n).filter p ++ (if p n = true then [n] else []) := by
  rw [List.range_succ, List.filter_append]
  congr 1
  by_cases h : p n = true
  · rw [if_pos h, List.filter_cons_of_pos h]
    rfl
  · rw [if_neg h, List.filter_cons_of_neg h]
    rfl
theorem filter_len (p : Nat → Bool) (n : Nat) : ((List.range n).filter p).length ≤ n := Nat.le_trans (List.length_filter_le _ _) (by simp)
theorem take_succ_get {α : Type} {L : List α} {i : Nat} (h : i < L.length) : L.take (i + 1) = L.take i ++ [L[i]] := by rw [List.take_add_one, List.getElem?_eq_getElem h]; rfl
/-- a standing is handed in -/
def LotA (K : PySem.W.Frag) (H : Hp) (v : V) (L : List Nat) : Prop := ∃ p, v = .ref p ∧ SqA K H p (ni L)
theorem LotA.same {K : PySem.W.Frag} {H H' : Hp} {v : V} {L : List Nat} (s : LotA K H v L) (e : Same H H') : LotA K H' v L := let ⟨p, a, b⟩ := s; ⟨p, a, Same.sqA e b⟩
end Sh

namespace Sh
open PySem PySem.Spec PyProof.Rows L2
def spLets (K : PySem.W.Frag) : Sp := fun vs H Q _ => ∃ (v l : V) (h t : Int) (ds : List Int) (L : List Nat), vs = [v, l] ∧ SeaA K H v h t ds ∧ LotA K H l L ∧ ds.length ≤ 1000 ∧ L.length ≤ 1000 ∧
  ∀ (H' : Hp) (p : Addr), Same H H' → H p = none → H' p = some (.lst (ni (lets h t ds L ds.length))) → Q (.ref p) H'
abbrev s__law_lets : Stmt := topS 62
theorem sc__law_lets : FnScope (["_law_sea_here", "_law_lot_here", "_law_depth", "_law_other_depth", "_law_draughts", "_law_found", "_law_whom", "_law_deep", "_law_near", "_law_mate"] : List Str) (["_law_sea_here", "_law_lot_here"] : List Str) (defScope s__law_lets) := ⟨rfl, rfl, rfl, by decide +kernel, rfl, by decide +kernel, by decide +kernel⟩
theorem b__law_lets (kV doc pm : Value) (an : Option Addr) (cdv ct : Value) (us : List Value) (hl : us.length = (["_law_sea_here", "_law_lot_here"] : List Str).length) : bindArgs (PySem.W.fnOf "_law_lets" "_law_lets" (defArgs s__law_lets) (defBody s__law_lets) (defScope s__law_lets) .none kV doc pm an cdv ct) ⟨us, []⟩ = pure ((["_law_sea_here", "_law_lot_here"] : List Str).zip us) :=
  match us, hl with | [_, _], _ => rfl
section
variable {P : Program} {w : World} {K : PySem.W.Frag} {mg : Str → Option Value} {base : Heap}
theorem ok_lets {k : Nat} (D : Df K mg "_law_lets" s__law_lets) (T : Bt mg) : Ok P w K mg base (k + 1) "_law_lets" s__law_lets ["_law_sea_here", "_law_lot_here"] (spLets K) := by
  refine D.ok sc__law_lets b__law_lets (fun vs H Q E h => ?_) (fun f cdv A outer s H vs Q E hr h => ?_)
  · obtain ⟨v, l, h, t, ds, L, rfl, _⟩ := h
    rfl
  · obtain ⟨v, l, h, t, ds, L, rfl, ⟨p, q, rfl, hp, hq⟩, ⟨pl, rfl, hl⟩, d1, l1, k⟩ := h
    refine ⟨_, (pss_cons (ps_asg (pv 0) (pg_seq rfl (pgs_cons (pg_name (i := 2) sc__law_lets.nd rfl (.inl rfl)) (pgs_cons (pg_name (i := 3) sc__law_lets.nd rfl (.inl rfl)) (pgs_cons (pg_name (i := 4) sc__law_lets.nd rfl (.inl rfl)) pgs_nil)))))
      (pss_cons (ps_set (i := 5) sc__law_lets.nd rfl (.inl rfl) (pe_lst pa_nil))
      (pss_cons (ps_for PassesOwn.never rfl (pi_enumA (by rfl) T.enumerate_ (pa_cons (pv 4) pa_nil)) (pg_seq rfl (pgs_cons (pg_name (i := 6) sc__law_lets.nd rfl (.inr rfl)) (pgs_cons (pg_name (i := 7) sc__law_lets.nd rfl (.inl rfl)) pgs_nil)))
        (pss_cons (ps_set (i := 8) sc__law_lets.nd rfl (.inl rfl) (pe_callB call_len_seq (by rfl) T.len_ PySem.boot_len (pa_cons (pe_lc (own := [("_law_mate", 9)]) (g := (gName 9)) (by rfl) sc__law_lets.nd (pi_seq (pv 1)) (blkOk_by (own := [("_law_mate", 9)]) (N := (["_law_sea_here", "_law_lot_here", "_law_depth", "_law_other_depth", "_law_draughts", "_law_found", "_law_whom", "_law_deep", "_law_near", "_law_mate"] : List Str)) (sc := defScope s__law_lets) (by decide +kernel)) (fun _ _ _ _ _ => (pg_name (i := 9) sc__law_lets.nd rfl (.inl rfl))) (fun _ _ _ _ _ => (pts_one (pt_cmpR op_ne (pv 9) (pv 6) (nomark _)))) (fun _ _ _ _ _ => (pv 9))) pa_nil)))
          (pss_one (ps_if (PW.pt (pw_and (pt_cmpR op_le (pv 7) (pe_op op_add (pv 2) (pv 8)) (nomark _)) (pw_and1 (pt_cmpR op_le (pv 7) (pe_op op_sub (pe_op op_sub (pe_op op_add (pv 3) (pe_callB call_len_seq (by rfl) T.len_ PySem.boot_len (pa_cons (pv 4) pa_nil))) pe_int) (pv 8)) (nomark _)))))
            (pss_one (ps_expr (pe_bm PySem.F.plainAttrs_list PySem.F.slot_list_append PySem.F.type_list_append mt_append (pv 5) (pa_cons (pv 6) pa_nil))))
            pss_nil))))
      (pss_one (ps_ret (pv 5)))))), ?_⟩
    refine ⟨_, rfl, p, _, rfl, hp, rfl, _, _, rfl, _, _, rfl, _, _, rfl, rfl, ?_⟩
    refine ⟨Nat.zero_le _, fun F nF => ?_⟩
    have s1 : Same H (upd H F (.lst [])) := same_new nF
    refine ⟨_, rfl, q, _, H, rfl, hq, .ofS s1, fun J hJ => ?_⟩
    obtain ⟨G, g, W⟩ := hJ.walk
    refine for_it W (fun i σ H' => ∃ y6 y7 y8 y9 : Option V, σ = [some (.ref p), some (.ref pl), some (.int h), some (.int t), some (.ref q), some (.ref F), y6, y7, y8, y9] ∧ Same H H' ∧ H' F = some (.lst (ni (lets h t ds L i))))
      ⟨none, none, none, none, rfl, s1, upd_same⟩ (fun i σ H' _ ⟨_, _, _, _, _, z, _⟩ => g H' (.ofS z)) ?_ ?_
    · rintro i x σ H1 H2 hi ⟨y6, y7, y8, y9, rfl, sm, hF⟩ ⟨u, x1, x2, rfl, nu, rfl, g1, g2⟩
      rw [List.length_map] at hi
      obtain rfl : .int (i : Nat) = x1 := Option.some.inj g1
      obtain rfl : .int ds[i] = x2 := by
        have g3 : (ds.map V.int)[i]? = some (.int ds[i]) := by simp [hi]
        exact Option.some.inj (g3.symm.trans g2)
      have ed : ds.getD i 0 = ds[i] := by simp [hi]
      have s2 : Same H1 (upd H1 u (.tup [.int (i : Nat), .int ds[i]])) := same_new nu
      refine ⟨u, _, rfl, SqA.t upd_same, rfl, _, _, rfl, _, _, rfl, rfl, ?_⟩
      have sm2 := sm.trans s2
      have hF2 := s2 _ _ hF
      generalize upd H1 u (.tup [.int (i : Nat), .int ds[i]]) = H2 at sm2 hF2
      -- near
      refine ⟨_, rfl, pl, _, H, rfl, hl, .ofS sm2, fun J2 hJ2 C nC => ?_⟩
      obtain ⟨G2, gg, W2⟩ := hJ2.walk
      refine lc_it W2 (fun j H' => Same H2 H' ∧ H' C = some (.lst (ni ((L.take j).filter fun m => !decide (m = i))))) ⟨same_new nC, upd_same⟩ (fun j H' _ z => gg H' (.ofS (sm2.trans z.1))) ?_ ?_
      · rintro j x H3 H4 hj ⟨s3, hC⟩ ⟨rfl, gx⟩
        rw [ni_len] at hj
        obtain rfl : .int ((L[j] : Nat) : Int) = x := Option.some.inj ((ni_get hj).symm.trans gx)
        refine ⟨rfl, ?_⟩
        refine ⟨_, rfl, _, rfl, rfl, _, rfl, ite2 (fun c => ?_) (fun c => ?_)⟩
        · have c0 : ¬ L[j] = i := fun e => by
            rw [e] at c
            simp at c
          refine ⟨_, rfl, _, hC, ?_, same_over s3 nC, ?_⟩
          · rw [ni_len]
            have h1 := List.length_filter_le (fun m => !decide (m = i)) (L.take j)
            rw [List.length_take] at h1
            exact small1000 (by omega)
          · rw [upd_same, take_succ_get hj, List.filter_append, ni_app, List.filter_cons_of_pos (by simpa using c0)]
            rfl
        · have c0 : L[j] = i := by
            have c1 : ¬ (!decide (V.int ((L[j] : Nat) : Int) = V.int (i : Nat))) = true := c
            have c2 : decide (V.int ((L[j] : Nat) : Int) = V.int (i : Nat)) = true := by
              cases e : decide (V.int ((L[j] : Nat) : Int) = V.int (i : Nat)) with
              | true => rfl
              | false => rw [e] at c1; exact absurd rfl c1
            have c3 := V.int.inj (of_decide_eq_true c2)
            omega
          refine ⟨s3, ?_⟩
          rw [hC, take_succ_get hj, List.filter_append, List.filter_cons_of_neg (by simpa using c0)]
          simp
      rintro H3 ⟨s3, hC⟩
      rw [ni_len, List.take_length] at hC
      refine ⟨C, _, rfl, .inl (SqL.of hC), ?_⟩
      rw [ni_len]
      have sm3 := sm2.trans s3
      have hF3 := s3 _ _ hF2
      -- the test
      have fin : ∀ bb : Bool, mayB h t ds L i = bb → (if bb = true then H3 F = some (.lst (ni (lets h t ds L i))) else H3 F = some (.lst (ni (lets h t ds L (i + 1))))) := fun bb e => by
        cases bb with
        | true => rw [if_pos rfl]; exact hF3
        | false =>
          rw [if_neg Bool.false_ne_true, hF3]
          unfold lets
          rw [filter_succ, e]
          simp
      refine ⟨_, rfl, _, rfl, _, rfl, h, _, rfl, rfl, ds[i], _, rfl, rfl, _, rfl, ite2 (fun c => ?_) (fun c => ?_)⟩
      · have c0 : ds[i] ≤ h + (near L i : Int) := of_decide_eq_true c
        refine ⟨_, rfl, _, rfl, _, rfl, q, _, rfl, Same.sqA sm3 hq, t, _, rfl, rfl, _, 1, rfl, rfl, _, rfl, _, _, rfl, rfl, ds[i], _, rfl, rfl, _, rfl, ite2 (fun c => ?_) (fun c => ?_)⟩
        · have c1 : ds[i] ≤ t + (ds.length : Int) - 1 - (near L i : Int) := by
            have z := of_decide_eq_true c
            rw [List.length_map] at z
            exact z
          have e : mayB h t ds L i = true := by
            unfold mayB
            rw [ed, decide_eq_true c0, decide_eq_true c1]
            rfl
          refine ⟨_, rfl, .inl ⟨rfl, _, SqL.of hF3⟩, _, rfl, F, _, _, rfl, rfl, hF3, ?_, _, _, _, _, rfl, same_over sm3 nF, ?_⟩
          · rw [ni_len]
            exact Nat.lt_of_le_of_lt (filter_len _ _) (small1000 (by omega))
          · rw [upd_same]
            unfold lets
            rw [filter_succ, if_pos e, ni_app]
            rfl
        · have c1 : ¬ ds[i] ≤ t + (ds.length : Int) - 1 - (near L i : Int) := fun z => c (decide_eq_true (by rw [List.length_map]; exact z))
          have e : mayB h t ds L i = false := by
            unfold mayB
            rw [ed, decide_eq_false c1, Bool.and_false]
          exact ⟨_, _, _, _, rfl, sm3, fin false e⟩
      · have c0 : ¬ ds[i] ≤ h + (near L i : Int) := fun z => c (decide_eq_true z)
        have e : mayB h t ds L i = false := by
          unfold mayB
          rw [ed, decide_eq_false c0, Bool.false_and]
        exact iteF ⟨_, _, _, _, rfl, sm3, fin false e⟩
    · rintro σ H1 ⟨y6, y7, y8, y9, rfl, sm, hF⟩
      rw [List.length_map] at hF
      exact ⟨_, rfl, k H1 F sm nF hF⟩
end
end Sh

namespace Sh
open PySem PySem.Spec PyProof.Rows L2
/-! ### who is afloat -/
theorem Lot.mem_eq {c : Nat} {L : List Nat} (h : Lot c L) : L = (List.range c).filter fun j => decide (j ∈ L) := by
  have h2 : Lot c ((List.range c).filter fun j => decide (j ∈ L)) := (Lot.all c).filter _
  refine List.Perm.eq_of_pairwise (le := (· < ·)) (fun a b _ _ h1 h2 => absurd (Nat.lt_trans h1 h2) (Nat.lt_irrefl _)) h.up h2.up ?_
  refine (List.perm_ext_iff_of_nodup (h.up.imp Nat.ne_of_lt) (h2.up.imp Nat.ne_of_lt)).mpr fun a => ?_
  rw [List.mem_filter, List.mem_range, decide_eq_true_eq]
  exact ⟨fun q => ⟨h.lt a q, q⟩, fun q => q.2⟩
theorem filter_filter_len (p q : Nat → Bool) : ∀ l : List Nat, (l.filter p).length = (l.filter fun j => p j && q j).length + (l.filter fun j => p j && !q j).length
  | [] => rfl
  | a :: l => by
    have ih := filter_filter_len p q l
    cases hp : p a <;> cases hq : q a <;> simp [List.filter_cons, hp, hq, ih] <;> omega
/-- how many mates: here, or there -/
def mates (c : Nat) (L : List Nat) (i : Nat) : List Nat := (List.range c).filter fun j => !decide (j = i) && (decide (j ∈ L) == decide (i ∈ L))
theorem near_in {c : Nat} {L : List Nat} (h : Lot c L) (i : Nat) : near L i = ((List.range c).filter fun j => decide (j ∈ L) && !decide (j = i)).length := by
  unfold near
  conv => lhs; rw [h.mem_eq]
  rw [List.filter_filter]
  congr 1
  refine List.filter_congr fun a _ => ?_
  cases decide (a ∈ L) <;> cases decide (a = i) <;> rfl
theorem mates_here {c : Nat} {L : List Nat} (h : Lot c L) {i : Nat} (hi : i ∈ L) : (mates c L i).length = near L i := by
  rw [near_in h, mates]
  congr 1
  refine List.filter_congr fun a _ => ?_
  rw [decide_eq_true hi]
  cases decide (a ∈ L) <;> cases decide (a = i) <;> rfl
theorem one_of {c i : Nat} (hi : i < c) : ((List.range c).filter fun j => decide (j = i)).length = 1 := by
  have e : ((List.range c).filter fun j => decide (j = i)) = [i] := by
    refine List.Perm.eq_of_pairwise (le := (· < ·)) (fun a b _ _ h1 h2 => absurd (Nat.lt_trans h1 h2) (Nat.lt_irrefl _)) (List.pairwise_lt_range.filter _) (List.pairwise_singleton _ _) ?_
    refine (List.perm_ext_iff_of_nodup ((List.pairwise_lt_range.filter _).imp Nat.ne_of_lt) (by simp)).mpr fun a => ?_
    rw [List.mem_filter, List.mem_range, decide_eq_true_eq, List.mem_singleton]
    exact ⟨fun q => q.2, fun q => ⟨q ▸ hi, q⟩⟩
  rw [e]
  rfl
theorem mates_there {c : Nat} {L : List Nat} (h : Lot c L) {i : Nat} (hc : i < c) (hi : i ∉ L) : ((mates c L i).length : Int) = (c : Int) - 1 - (near L i : Int) := by
  have e1 := filter_filter_len (fun j => !decide (j = i)) (fun j => decide (j ∈ L)) (List.range c)
  have e2 := filter_filter_len (fun _ => true) (fun j => decide (j = i)) (List.range c)
  have e3 : ((List.range c).filter fun j => true && decide (j = i)).length = 1 := one_of hc
  have e4 : ((List.range c).filter fun _ => true).length = c := by rw [List.filter_eq_self.mpr fun _ _ => rfl, List.length_range]
  have e5 : ((List.range c).filter fun j => !decide (j = i) && decide (j ∈ L)).length = near L i := by
    rw [near_in h]
    congr 1
    exact List.filter_congr fun a _ => Bool.and_comm _ _
  have e6 : ((List.range c).filter fun j => !decide (j = i) && !decide (j ∈ L)).length = (mates c L i).length := by
    unfold mates
    congr 1
    refine List.filter_congr fun a _ => ?_
    rw [decide_eq_false hi]
    cases decide (a ∈ L) <;> cases decide (a = i) <;> rfl
  have e7 : ((List.range c).filter fun j => true && !decide (j = i)).length = ((List.range c).filter fun j => !decide (j = i)).length := rfl
  rw [e5, e6] at e1
  rw [e3, e4, e7] at e2
  omega
/-- afloat where it lies -/
def aflB (h t : Int) (ds : List Int) (L : List Nat) (i : Nat) : Bool := if i ∈ L then decide (ds.getD i 0 ≤ h + (near L i : Int)) else decide (ds.getD i 0 ≤ t + ((ds.length : Int) - 1 - (near L i : Int)))
def afl (h t : Int) (ds : List Int) (L : List Nat) (n : Nat) : List Nat := (List.range n).filter (aflB h t ds L)
theorem aflB_mates {h t : Int} {ds : List Int} {L : List Nat} {i : Nat} (hL : Lot ds.length L) (hi : i < ds.length) :
    aflB h t ds L i = decide (ds.getD i 0 ≤ (if i ∈ L then h else t) + ((mates ds.length L i).length : Int)) := by
  unfold aflB
  by_cases z : i ∈ L
  · rw [if_pos z, if_pos z, mates_here hL z]
  · rw [if_neg z, if_neg z, mates_there hL hi z]
theorem in_ni {i : Nat} {L : List Nat} : inV (.int (i : Int)) (ni L) = decide (i ∈ L) := by
  unfold inV ni
  rw [List.any_map, Bool.eq_iff_iff, List.any_eq_true, decide_eq_true_eq]
  constructor
  · rintro ⟨x, hx, e⟩
    have e' : ((x : Int) == (i : Int)) = true := e
    have : x = i := by have := beq_iff_eq.mp e'; omega
    rw [← this]
    exact hx
  · intro hx
    exact ⟨i, hx, beq_self_eq_true (i : Int)⟩
def spAfl (K : PySem.W.Frag) : Sp := fun vs H Q _ => ∃ (v l : V) (h t : Int) (ds : List Int) (L : List Nat), vs = [v, l] ∧ SeaA K H v h t ds ∧ LotA K H l L ∧ ds.length ≤ 1000 ∧ Lot ds.length L ∧
  ∀ (H' : Hp) (p : Addr), Same H H' → H p = none → H' p = some (.lst (ni (afl h t ds L ds.length))) → Q (.ref p) H'
/-- the same of who may go: of a standing -/
def spMay (K : PySem.W.Frag) : Sp := fun vs H Q _ => ∃ (v l : V) (h t : Int) (ds : List Int) (L : List Nat), vs = [v, l] ∧ SeaA K H v h t ds ∧ LotA K H l L ∧ ds.length ≤ 1000 ∧ Lot ds.length L ∧
  ∀ (H' : Hp) (p : Addr), Same H H' → H p = none → H' p = some (.lst (ni (lets h t ds L ds.length))) → Q (.ref p) H'
end Sh

namespace Sh
open PySem PySem.Spec PyProof.Rows L2
theorem eqv_nil (ns : List Int) : PyData.eqv (.list (ns.map .int)) (.list []) = ns.isEmpty := by cases ns <;> rfl
end Sh

namespace Sh
open PySem PySem.Spec PyProof.Rows L2
/-! ### strewn: the same ones in some order -/
def spStrewn (K : PySem.W.Frag) : Sp := fun vs H Q _ => ∃ (b p : Addr) (n : Nat) (ns : List Int), vs = [.ref b, .ref p] ∧ SqA K H p (ns.map V.int) ∧ ns.length ≤ 100 ∧ BoxAt H b (n + 100) ∧
  ∀ (H' : Hp) (r : Addr) (ys : List Int), But b H H' → BoxAt H' b n → H r = none → H' r = some (.lst (ys.map V.int)) → ys.Perm ns → Q (.ref r) H'
theorem map_erase : ∀ (l : List Int) (i : Nat), (l.map V.int).eraseIdx i = (l.eraseIdx i).map V.int
  | [], _ => rfl
  | _ :: _, 0 => rfl
  | a :: l, i + 1 => congrArg (V.int a :: ·) (map_erase l i)
theorem erase_perm : ∀ {l : List Int} {i : Nat} (h : i < l.length), (l[i] :: l.eraseIdx i).Perm l
  | a :: l, 0, _ => List.Perm.refl _
  | a :: l, i + 1, h => (List.Perm.swap _ _ _).trans ((erase_perm (l := l) (i := i) (by simpa using h)).cons a)
theorem six {i : Nat} {n : Nat} {z : Int} (e : z = (i : Int)) (h : i < n) : seqIndex? z n = some i := by
  unfold seqIndex?
  subst e
  have h1 : ¬ ((i : Int) < 0) := by omega
  simp only [if_neg h1]
  simp [h]
abbrev s__law_strewn : Stmt := topS 59
theorem sc__law_strewn : FnScope (["_law_box_here", "_law_some", "_law_left", "_law_found"] : List Str) (["_law_box_here", "_law_some"] : List Str) (defScope s__law_strewn) := ⟨rfl, rfl, rfl, by decide +kernel, rfl, by decide +kernel, by decide +kernel⟩
theorem b__law_strewn (kV doc pm : Value) (an : Option Addr) (cdv ct : Value) (us : List Value) (hl : us.length = (["_law_box_here", "_law_some"] : List Str).length) : bindArgs (PySem.W.fnOf "_law_strewn" "_law_strewn" (defArgs s__law_strewn) (defBody s__law_strewn) (defScope s__law_strewn) .none kV doc pm an cdv ct) ⟨us, []⟩ = pure ((["_law_box_here", "_law_some"] : List Str).zip us) :=
  match us, hl with | [_, _], _ => rfl
section
variable {P : Program} {w : World} {K : PySem.W.Frag} {mg : Str → Option Value} {base : Heap}
theorem ok_strewn {k : Nat} (D : Df K mg "_law_strewn" s__law_strewn) (T : Bt mg) (O__law_take : Ok P w K mg base k "_law_take" s__law_take ["_law_box_here", "_law_span"] spTake) :
    Ok P w K mg base (k + 1) "_law_strewn" s__law_strewn ["_law_box_here", "_law_some"] (spStrewn K) := by
  refine D.ok sc__law_strewn b__law_strewn (fun vs H Q E h => ?_) (fun f cdv A outer s H vs Q E hr h => ?_)
  · obtain ⟨b, p, n, ns, rfl, _⟩ := h
    rfl
  · obtain ⟨b, p, n, ns, rfl, hp, hn, hb, q⟩ := h
    refine ⟨_, (pss_cons (ps_par (i := 2) (j := 3) (by rfl) sc__law_strewn.nd rfl rfl (by decide) rfl rfl (pa_cons (pe_callTy call_list_of (by rfl) T.list_ (by decide +kernel) (pa_cons (pv 1) pa_nil)) (pa_cons (pe_lst pa_nil) pa_nil)) (by rfl))
      (pss_cons (ps_while PassesOwn.never (pt_cmpR (op_neD hr.units) (pv 2) (pe_lst pa_nil) (nomark _))
        (pss_one (ps_expr (pe_bm PySem.F.plainAttrs_list PySem.F.slot_list_append PySem.F.type_list_append mt_append (pv 3) (pa_cons (pe_bm PySem.F.plainAttrs_list PySem.F.slot_list_pop PySem.F.type_list_pop mt_popAt (pv 2) (pa_cons (pe_fn O__law_take (hr.mono (by omega)) (pa_cons (pv 0) (pa_cons (pe_callB call_len_seq (by rfl) T.len_ PySem.boot_len (pa_cons (pv 2) pa_nil)) pa_nil))) pa_nil)) pa_nil)))))
      (pss_one (ps_ret (pv 3))))), ?_⟩
    refine ⟨_, rfl, p, _, rfl, hp, fun l nl => ?_⟩
    obtain ⟨u1, x1, e1, n1⟩ := al (o := .lst (ns.map V.int)) (But.refl b H) hb nl
    refine ⟨Nat.zero_le _, fun F nF => ?_⟩
    obtain ⟨u2, x2, e2, n2⟩ := al (o := .lst []) u1 x1 nF
    have lF : l ≠ F := ne_of_none e1 nF
    have e1' : upd (upd H l (.lst (ns.map V.int))) F (.lst []) l = some (.lst (ns.map V.int)) := by rw [upd_ne lF]; exact e1
    have hl0 : H l = none := nl
    have hF0 : H F = none := (same_new nl).free nF
    generalize upd (upd H l (.lst (ns.map V.int))) F (.lst []) = H2 at u2 x2 e2 e1'
    refine ⟨_, _, rfl, fun m σ H' => ∃ ls ys : List Int, σ = [some (.ref b), some (.ref p), some (.ref l), some (.ref F)] ∧ But b H H' ∧ BoxAt H' b (n + ls.length) ∧ H' l = some (.lst (ls.map V.int)) ∧ H' F = some (.lst (ys.map V.int)) ∧ ls.length = m ∧ (ys ++ ls).Perm ns,
      ⟨ns.length, ns, [], rfl, u2, x2.mono (by omega), e1', e2, rfl, List.Perm.refl _⟩, ?_⟩
    rintro m σ H3 ⟨ls, ys, rfl, u3, x3, hl, hF, rfl, pm⟩
    have pl : ys.length + ls.length = ns.length := by rw [← List.length_append]; exact pm.length_eq
    refine ⟨_, rfl, Nat.zero_le _, fun E0' nE => ?_⟩
    obtain ⟨u4, x4, e4, n4⟩ := al (o := .lst []) u3 x3 nE
    have hl4 : upd H3 E0' (.lst []) l = some (.lst (ls.map V.int)) := same_new nE _ _ hl
    have hF4 : upd H3 E0' (.lst []) F = some (.lst (ys.map V.int)) := same_new nE _ _ hF
    generalize upd H3 E0' (.lst []) = H4 at u4 x4 e4 hl4 hF4
    refine ⟨.list (ls.map .int), .list [], .lst (SqL.of hl4) (DpAll.ints _), .lst (SqL.of e4) .nil, shaped_ints _, rfl, _, rfl, ?_⟩
    rw [eqv_nil]
    by_cases hls : ls = []
    · subst hls
      refine iteF ?_
      rw [List.append_nil] at pm
      exact ⟨_, rfl, q H4 F ys u4 (x4.mono (by simp)) hF0 hF4 pm⟩
    · have l0 : 0 < ls.length := List.length_pos_iff.mpr hls
      have ie : ls.isEmpty = false := by cases ls with | nil => exact absurd rfl hls | cons => rfl
      rw [ie]
      refine iteT ?_
      refine ⟨fun σ' H' => ∃ ls' ys' : List Int, σ' = [some (.ref b), some (.ref p), some (.ref l), some (.ref F)] ∧ But b H H' ∧ BoxAt H' b (n + ls'.length) ∧ H' l = some (.lst (ls'.map V.int)) ∧ H' F = some (.lst (ys'.map V.int)) ∧ ls'.length < ls.length ∧ (ys' ++ ls').Perm ns,
        fun σ' H' ⟨ls', ys', z1, z2, z3, z4, z5, z6, z7⟩ => ⟨_, z6, ls', ys', z1, z2, z3, z4, z5, rfl, z7⟩, ?_⟩
      refine ⟨_, rfl, .inl ⟨rfl, _, SqL.of hF4⟩, _, rfl, .inl ⟨rfl, _, SqL.of hl4⟩, _, rfl, _, rfl, l, _, rfl, .inl (SqL.of hl4), ?_⟩
      rw [List.length_map]
      refine ⟨b, n + ls.length - 1, _, rfl, by omega, by omega, x4.mono (by omega), fun v zs v0 v1 y => ?_⟩
      obtain ⟨u5, x5⟩ := tk u4 y
      have hl5 : upd H4 b (.lst zs) l = some (.lst (ls.map V.int)) := by rw [upd_ne n1]; exact hl4
      have hF5 : upd H4 b (.lst zs) F = some (.lst (ys.map V.int)) := by rw [upd_ne n2]; exact hF4
      generalize upd H4 b (.lst zs) = H5 at u5 x5 hl5 hF5
      have hi : v.toNat < ls.length := by omega
      refine ⟨l, _, v, v.toNat, .int ls[v.toNat], rfl, rfl, hl5, by omega, by omega, six (by omega) (by rw [List.length_map]; exact hi), by simp [hi], ?_⟩
      have hF6 : upd H5 l (.lst ((ls.map V.int).eraseIdx v.toNat)) F = some (.lst (ys.map V.int)) := by rw [upd_ne lF.symm]; exact hF5
      refine ⟨F, _, _, rfl, rfl, hF6, ?_, ls.eraseIdx v.toNat, ys ++ [ls[v.toNat]], rfl, ?_, ?_, ?_, ?_, ?_, ?_⟩
      · rw [List.length_map]
        exact small1000 (by omega)
      · exact (u5.put hl0).put hF0
      · have e : n + (ls.eraseIdx v.toNat).length = n + ls.length - 1 := by rw [List.length_eraseIdx, if_pos hi]; omega
        rw [e]
        exact (x5.at n1.symm).at n2.symm
      · rw [upd_ne lF, upd_same, map_erase]
      · rw [upd_same, List.map_append]
        rfl
      · rw [List.length_eraseIdx, if_pos hi]
        omega
      · refine List.Perm.trans ?_ pm
        rw [List.append_assoc]
        refine List.Perm.append_left ys ?_
        rw [List.singleton_append]
        exact erase_perm hi
end
end Sh

namespace Sh
open PySem PySem.Spec PyProof.Rows L2
/-! ### the program: steps -/
def mk (h t : Int) (k : Nat) (s : Int) : Int := if t + ((k : Int) - 1 - s) < h + s then t + ((k : Int) - 1 - s) else h + s
def gs (m : Int) (ds : List Int) (n : Nat) : List Nat := (List.range n).filter fun i => decide (ds.getD i 0 ≤ m)
def topI (h t : Int) (k : Nat) : Int := if (if (t + ((k : Int) - 1) - h) / 2 < (k : Int) - 1 then (t + ((k : Int) - 1) - h) / 2 else (k : Int) - 1) > 0 then (if (t + ((k : Int) - 1) - h) / 2 < (k : Int) - 1 then (t + ((k : Int) - 1) - h) / 2 else (k : Int) - 1) else 0
def lowI (h d : Int) : Int := if d - h > 0 then d - h else 0
def highI (t : Int) (k : Nat) (d : Int) : Int := if t + ((k : Int) - 1) - d < (k : Int) - 1 then t + ((k : Int) - 1) - d else (k : Int) - 1
def spMark (K : PySem.W.Frag) : Sp := fun vs H Q _ => ∃ (v : V) (h t s : Int) (ds : List Int), vs = [v, .int s] ∧ SeaA K H v h t ds ∧ Q (.int (mk h t ds.length s)) H
def spGoers (K : PySem.W.Frag) : Sp := fun vs H Q _ => ∃ (v : V) (h t s : Int) (ds : List Int), vs = [v, .int s] ∧ SeaA K H v h t ds ∧ ds.length ≤ 1000 ∧
  ∀ (H' : Hp) (p : Addr), Same H H' → H p = none → H' p = some (.lst (((gs (mk h t ds.length s) ds ds.length).map fun (i : Nat) => (i : Int)).map V.int)) → Q (.ref p) H'
def spTop (K : PySem.W.Frag) : Sp := fun vs H Q _ => ∃ (v : V) (h t : Int) (ds : List Int), vs = [v] ∧ SeaA K H v h t ds ∧ Q (.int (topI h t ds.length)) H
def spWindow (K : PySem.W.Frag) : Sp := fun vs H Q _ => ∃ (v : V) (h t d : Int) (j : Nat) (ds : List Int), vs = [v, .int (j : Int)] ∧ SeaA K H v h t ds ∧ ds[j]? = some d ∧
  (lowI h d > highI t ds.length d → Q .non H) ∧ (¬ lowI h d > highI t ds.length d → ∀ p, H p = none → Q (.ref p) (upd H p (.tup [.int (lowI h d), .int (highI t ds.length d)])))
theorem gs_succ {m : Int} {ds : List Int} {n : Nat} : gs m ds (n + 1) = gs m ds n ++ (if ds.getD n 0 ≤ m then [n] else []) := by
  unfold gs
  rw [List.range_succ, List.filter_append]
  congr 1
  by_cases h : ds.getD n 0 ≤ m
  · rw [if_pos h, List.filter_cons_of_pos (by simpa using h)]
    rfl
  · rw [if_neg h, List.filter_cons_of_neg (by simpa using h)]
    rfl
theorem gs_len {m : Int} {ds : List Int} {n : Nat} : (gs m ds n).length ≤ n := by
  unfold gs
  exact Nat.le_trans (List.length_filter_le _ _) (by simp)
theorem mk_alt (h t : Int) (k : Nat) (s : Int) : (if t + (k : Int) - 1 - s < h + s then t + (k : Int) - 1 - s else h + s) = mk h t k s := by
  unfold mk
  rw [show t + (k : Int) - 1 - s = t + ((k : Int) - 1 - s) by omega]
end Sh

namespace Sh
open PySem PySem.Spec PyProof.Rows L2
/-! ### steps: the mathematics -/
def ml (h t : Int) (k n : Nat) : List Int := (List.range n).map fun (i : Nat) => mk h t k (i : Int)
theorem ml_succ (h t : Int) (k n : Nat) : ml h t k (n + 1) = ml h t k n ++ [mk h t k (n : Int)] := by
  unfold ml
  rw [List.range_succ, List.map_append]
  rfl
theorem ml_len (h t : Int) (k n : Nat) : (ml h t k n).length = n := by
  unfold ml
  simp
theorem ml_get {h t : Int} {k n i : Nat} (hi : i < n) : (ml h t k n)[i]? = some (mk h t k (i : Int)) := by
  unfold ml
  simp [hi]
theorem top_lo (h t : Int) (k : Nat) : 0 ≤ topI h t k := by
  unfold topI
  split <;> omega
theorem top_hi (h t : Int) {k : Nat} (hk : 0 < k) : topI h t k < (k : Int) := by
  unfold topI
  repeat' split
  all_goals omega
theorem top_max (h t : Int) {k i : Nat} (hi : i < k) : mk h t k (i : Int) ≤ mk h t k (topI h t k) := by
  unfold mk topI
  repeat' split
  all_goals omega
theorem top_least (h t : Int) {k i : Nat} (hi : (i : Int) < topI h t k) : mk h t k (i : Int) < mk h t k (topI h t k) := by
  unfold mk topI at *
  repeat' split
  all_goals (repeat' split at hi)
  all_goals omega
theorem win_iff (h t d : Int) {k i : Nat} (hi : i < k) : d ≤ mk h t k (i : Int) ↔ lowI h d ≤ (i : Int) ∧ (i : Int) ≤ highI t k d := by
  unfold mk lowI highI
  constructor
  · intro z
    split at z <;> (constructor <;> split <;> omega)
  · intro z
    split <;> (obtain ⟨z1, z2⟩ := z; split at z1 <;> split at z2 <;> omega)
/-- the steps at which it may go -/
def fl (h t d : Int) (k n : Nat) : List Nat := (List.range n).filter fun (i : Nat) => decide (d ≤ mk h t k (i : Int))
theorem fl_succ {h t d : Int} {k n : Nat} : fl h t d k (n + 1) = fl h t d k n ++ (if d ≤ mk h t k (n : Int) then [n] else []) := by
  unfold fl
  rw [List.range_succ, List.filter_append]
  congr 1
  by_cases z : d ≤ mk h t k (n : Int)
  · rw [if_pos z, List.filter_cons_of_pos (by simpa using z)]
    rfl
  · rw [if_neg z, List.filter_cons_of_neg (by simpa using z)]
    rfl
theorem fl_len {h t d : Int} {k n : Nat} : (fl h t d k n).length ≤ n := by
  unfold fl
  exact Nat.le_trans (List.length_filter_le _ _) (by simp)
theorem fl_mem {h t d : Int} {k i : Nat} : i ∈ fl h t d k k ↔ i < k ∧ lowI h d ≤ (i : Int) ∧ (i : Int) ≤ highI t k d := by
  unfold fl
  rw [List.mem_filter, List.mem_range, decide_eq_true_eq]
  constructor
  · rintro ⟨a, b⟩
    exact ⟨a, (win_iff h t d a).mp b⟩
  · rintro ⟨a, b⟩
    exact ⟨a, (win_iff h t d a).mpr b⟩
theorem fl_sorted (h t d : Int) (k : Nat) : (fl h t d k k).Pairwise (· < ·) := by
  unfold fl
  exact List.Pairwise.filter _ List.pairwise_lt_range
theorem high_lt (t d : Int) {k : Nat} (hk : 0 < k) : highI t k d < (k : Int) := by
  unfold highI
  split <;> omega
theorem low_nn (h d : Int) : 0 ≤ lowI h d := by
  unfold lowI
  split <;> omega
theorem fl_nil {h t d : Int} {k : Nat} (z : lowI h d > highI t k d) : fl h t d k k = [] := by
  cases e : fl h t d k k with
  | nil => rfl
  | cons x r =>
    have m : x ∈ fl h t d k k := by rw [e]; exact List.mem_cons_self
    obtain ⟨_, a, b⟩ := fl_mem.mp m
    omega
/-- a rising list has its least first, its greatest last -/
theorem fl_ends {h t d : Int} {k : Nat} (hk : 0 < k) (z : ¬ lowI h d > highI t k d) : ∃ (l : List Nat) (r : List Nat) (a b : Nat), fl h t d k k = a :: r ∧ fl h t d k k = l ++ [b] ∧ (a : Int) = lowI h d ∧ (b : Int) = highI t k d := by
  have hh := high_lt t d hk
  have hl := low_nn h d
  have ml' : (lowI h d).toNat ∈ fl h t d k k := fl_mem.mpr ⟨by omega, by omega, by omega⟩
  have mh : (highI t k d).toNat ∈ fl h t d k k := fl_mem.mpr ⟨by omega, by omega, by omega⟩
  have ne : fl h t d k k ≠ [] := List.ne_nil_of_mem ml'
  have st := fl_sorted h t d k
  obtain ⟨a, r, e1⟩ : ∃ a r, fl h t d k k = a :: r := by
    cases e : fl h t d k k with
    | nil => exact absurd e ne
    | cons x r => exact ⟨x, r, rfl⟩
  have e2 : fl h t d k k = (fl h t d k k).dropLast ++ [(fl h t d k k).getLast ne] := (List.dropLast_concat_getLast ne).symm
  refine ⟨_, r, a, _, e1, e2, ?_, ?_⟩
  · have ma : a ∈ fl h t d k k := by rw [e1]; exact List.mem_cons_self
    obtain ⟨_, g1, g2⟩ := fl_mem.mp ma
    have le : a ≤ (lowI h d).toNat := by
      rw [e1] at ml' st
      rcases List.mem_cons.mp ml' with q | q
      · omega
      · have := (List.pairwise_cons.mp st).1 _ q
        omega
    omega
  · have mb := List.getLast_mem ne
    obtain ⟨_, g1, g2⟩ := fl_mem.mp mb
    have le : (highI t k d).toNat ≤ (fl h t d k k).getLast ne := by
      have st2 := st
      rw [e2] at mh st2
      rcases List.mem_append.mp mh with q | q
      · have := (List.pairwise_append.mp st2).2.2 _ q _ List.mem_cons_self
        omega
      · have : (highI t k d).toNat = (fl h t d k k).getLast ne := by simpa using q
        omega
    omega
end Sh

namespace Sh
open PySem PySem.Spec PyProof.Rows L2
/-! ### sorted lists of ships -/
theorem nat_list {c : Nat} : ∀ {ns : List Int}, (∀ z ∈ ns, 0 ≤ z ∧ z < (c : Int)) → ∃ L : List Nat, ns = L.map (fun (i : Nat) => (i : Int)) ∧ ∀ i ∈ L, i < c
  | [], _ => ⟨[], rfl, fun _ h => by cases h⟩
  | z :: ns, h => by
    obtain ⟨L, e, hL⟩ := nat_list (ns := ns) fun y hy => h y (List.mem_cons_of_mem _ hy)
    have hz := h z List.mem_cons_self
    refine ⟨z.toNat :: L, ?_, fun i hi => ?_⟩
    · rw [List.map_cons, ← e]
      congr 1
      omega
    · rcases List.mem_cons.mp hi with q | q
      · omega
      · exact hL i q
theorem map_inj {L M : List Nat} (h : (L.map fun (i : Nat) => (i : Int)).Perm (M.map fun (i : Nat) => (i : Int))) : L.Perm M := by
  have h2 := h.map Int.toNat
  rw [List.map_map, List.map_map] at h2
  have e : (Int.toNat ∘ fun (i : Nat) => (i : Int)) = id := by
    funext i
    exact Int.toNat_natCast i
  rw [e, List.map_id, List.map_id] at h2
  exact h2
/-- sorted ints that are a rearrangement of different ships: a lot -/
theorem lot_sorted {c : Nat} {ns : List Int} {M : List Nat} (pm : ns.Perm (M.map fun (i : Nat) => (i : Int))) (up : ns.Pairwise (· ≤ ·)) (nd : M.Nodup) (lt : ∀ i ∈ M, i < c) :
    ∃ L : List Nat, ns = L.map (fun (i : Nat) => (i : Int)) ∧ L.Perm M ∧ Lot c L := by
  obtain ⟨L, rfl, hL⟩ := nat_list (c := c) (ns := ns) fun z hz => by
    obtain ⟨i, hi, rfl⟩ := List.mem_map.mp (pm.mem_iff.mp hz)
    have := lt i hi
    omega
  have p2 := map_inj pm
  refine ⟨L, rfl, p2, ?_, hL⟩
  have ndL : L.Nodup := p2.nodup_iff.mpr nd
  have up2 : L.Pairwise (· ≤ ·) := by
    rw [List.pairwise_map] at up
    exact up.imp fun h => by omega
  exact (up2.and ndL).imp fun h => Nat.lt_of_le_of_ne h.1 h.2
theorem cut_take (xs : List V) (l : Nat) : cutV xs none (some (l : Int)) = xs.take l := by
  unfold cutV
  rw [HT.sIx_none, HT.sIx_nat]
  show (xs.drop 0).take (min l xs.length - 0) = xs.take l
  rw [List.drop_zero, Nat.sub_zero]
  by_cases h : l ≤ xs.length
  · rw [Nat.min_eq_left h]
  · rw [Nat.min_eq_right (by omega), List.take_length, List.take_of_length_le (by omega)]
theorem near_out {L : List Nat} {i : Nat} (h : i ∉ L) : near L i = L.length := by
  unfold near
  rw [List.filter_eq_self.mpr fun a ha => ?_]
  have : ¬ a = i := fun e => h (e ▸ ha)
  simpa using this
theorem near_perm {L M : List Nat} (i : Nat) (h : L.Perm M) : near L i = near M i := (h.filter _).length_eq
theorem near_add {L : List Nat} {i : Nat} (h : i ∉ L) : near (L ++ [i]) i = L.length := by
  rw [← near_out h]
  unfold near
  rw [List.filter_append]
  simp
end Sh

namespace Th
/-! ### counting ships below k -/
def cnt (k : Nat) (S : Nat → Bool) : Nat := (List.range k).countP S
theorem cnt_zero (S : Nat → Bool) : cnt 0 S = 0 := rfl
theorem cnt_succ (k : Nat) (S : Nat → Bool) : cnt (k + 1) S = cnt k S + (if S k = true then 1 else 0) := by
  unfold cnt
  rw [List.range_succ, List.countP_append]
  congr 1
  cases h : S k <;> simp [h]
theorem cnt_le (k : Nat) (S : Nat → Bool) : cnt k S ≤ k := by
  induction k with
  | zero => exact Nat.le_refl _
  | succ k ih => rw [cnt_succ]; split <;> omega
theorem cnt_congr {k : Nat} {S U : Nat → Bool} (h : ∀ i, i < k → S i = U i) : cnt k S = cnt k U := by
  induction k with
  | zero => rfl
  | succ k ih => rw [cnt_succ, cnt_succ, ih fun i hi => h i (by omega), h k (by omega)]
theorem cnt_mono {k : Nat} {S U : Nat → Bool} (h : ∀ i, i < k → S i = true → U i = true) : cnt k S ≤ cnt k U := by
  induction k with
  | zero => exact Nat.le_refl _
  | succ k ih =>
    have := ih fun i hi => h i (by omega)
    rw [cnt_succ, cnt_succ]
    by_cases e : S k = true
    · rw [if_pos e, if_pos (h k (by omega) e)]
      omega
    · rw [if_neg e]
      omega
/-- as many, and all of the one among the other: the same -/
theorem cnt_eq {k : Nat} {S U : Nat → Bool} (h : ∀ i, i < k → S i = true → U i = true) (e : cnt k U ≤ cnt k S) : ∀ i, i < k → U i = true → S i = true := by
  induction k with
  | zero => intro i hi; omega
  | succ k ih =>
    have hm := cnt_mono (k := k) fun i hi => h i (by omega)
    rw [cnt_succ, cnt_succ] at e
    intro i hi hu
    by_cases ek : S k = true
    · have uk := h k (by omega) ek
      rw [if_pos ek, if_pos uk] at e
      by_cases z : i = k
      · rw [z]; exact ek
      · exact ih (fun i hi => h i (by omega)) (by omega) i (by omega) hu
    · rw [if_neg ek] at e
      by_cases uk : U k = true
      · rw [if_pos uk] at e
        omega
      · rw [if_neg uk] at e
        by_cases z : i = k
        · rw [z] at hu; exact absurd hu uk
        · exact ih (fun i hi => h i (by omega)) (by omega) i (by omega) hu
theorem cnt_ex {k : Nat} {S U : Nat → Bool} (e : cnt k S < cnt k U) : ∃ i, i < k ∧ U i = true ∧ S i = false := by
  induction k with
  | zero => rw [cnt_zero, cnt_zero] at e; omega
  | succ k ih =>
    rw [cnt_succ, cnt_succ] at e
    by_cases uk : U k = true
    · by_cases sk : S k = true
      · rw [if_pos uk, if_pos sk] at e
        obtain ⟨i, h1, h2⟩ := ih (by omega)
        exact ⟨i, by omega, h2⟩
      · exact ⟨k, by omega, uk, by simpa using sk⟩
    · rw [if_neg uk] at e
      obtain ⟨i, h1, h2⟩ := ih (by omega)
      exact ⟨i, by omega, h2⟩
theorem cnt_pos_ex {k : Nat} {S : Nat → Bool} (e : 0 < cnt k S) : ∃ i, i < k ∧ S i = true := by
  induction k with
  | zero => rw [cnt_zero] at e; omega
  | succ k ih =>
    by_cases sk : S k = true
    · exact ⟨k, by omega, sk⟩
    · rw [cnt_succ, if_neg sk] at e
      obtain ⟨i, h1, h2⟩ := ih (by omega)
      exact ⟨i, by omega, h2⟩
def flip (S : Nat → Bool) (i : Nat) : Nat → Bool := fun j => if j = i then !S j else S j
theorem flip_self (S : Nat → Bool) (i : Nat) : flip S i i = !S i := by unfold flip; rw [if_pos rfl]
theorem flip_ne (S : Nat → Bool) {i j : Nat} (h : j ≠ i) : flip S i j = S j := by unfold flip; rw [if_neg h]
theorem flip_flip (S : Nat → Bool) (i : Nat) : flip (flip S i) i = S := by
  funext j
  by_cases h : j = i
  · subst h
    rw [flip_self, flip_self, Bool.not_not]
  · rw [flip_ne _ h, flip_ne _ h]
theorem cnt_flip_up {k : Nat} {S : Nat → Bool} {i : Nat} (hi : i < k) (h : S i = false) : cnt k (flip S i) = cnt k S + 1 := by
  induction k with
  | zero => omega
  | succ k ih =>
    rw [cnt_succ, cnt_succ]
    by_cases z : i = k
    · subst z
      rw [flip_self, h]
      rw [cnt_congr (k := i) (S := flip S i) (U := S) fun j hj => flip_ne S (by omega)]
      simp
    · rw [ih (by omega), flip_ne S (show k ≠ i by omega)]
      omega
theorem cnt_flip_dn {k : Nat} {S : Nat → Bool} {i : Nat} (hi : i < k) (h : S i = true) : cnt k (flip S i) + 1 = cnt k S := by
  have e : flip S i i = false := by rw [flip_self, h]; rfl
  have := cnt_flip_up hi e
  rw [flip_flip] at this
  omega
theorem cnt_pos {k : Nat} {S : Nat → Bool} {i : Nat} (hi : i < k) (h : S i = true) : 0 < cnt k S := by
  have := cnt_flip_dn hi h
  omega
theorem cnt_or_not {k : Nat} (S U : Nat → Bool) : cnt k (fun i => S i || U i) = cnt k S + cnt k (fun i => U i && !S i) := by
  induction k with
  | zero => rfl
  | succ k ih =>
    rw [cnt_succ, cnt_succ, cnt_succ, ih]
    cases S k <;> cases U k <;> simp <;> omega
theorem cnt_split {k : Nat} (S U : Nat → Bool) : cnt k S = cnt k (fun i => S i && U i) + cnt k (fun i => S i && !U i) := by
  induction k with
  | zero => rfl
  | succ k ih =>
    rw [cnt_succ, cnt_succ, cnt_succ, ih]
    cases S k <;> cases U k <;> simp <;> omega
theorem cnt_not {k : Nat} (S : Nat → Bool) : cnt k S + cnt k (fun i => !S i) = k := by
  induction k with
  | zero => rfl
  | succ k ih =>
    rw [cnt_succ, cnt_succ]
    cases S k <;> simp <;> omega

/-! ### crossings -/
section
variable (k : Nat) (G : Nat → Nat → Bool)
inductive Step : (Nat → Bool) → (Nat → Bool) → Prop
  | up {S : Nat → Bool} {i : Nat} (hi : i < k) (hs : S i = false) (hg : G (cnt k S) i = true) : Step S (flip S i)
  | dn {S : Nat → Bool} {i : Nat} (hi : i < k) (hs : S i = true) (hg : G (cnt k S - 1) i = true) : Step S (flip S i)
inductive Reach : (Nat → Bool) → (Nat → Bool) → Prop
  | refl (S : Nat → Bool) : Reach S S
  | step {S U W : Nat → Bool} : Reach S U → Step k G U W → Reach S W
end
section
variable {k : Nat} {G : Nat → Nat → Bool} {S U W : Nat → Bool}
theorem Step.symm (h : Step k G S U) : Step k G U S := by
  cases h with
  | @up i hi hs hg =>
    have e : Step k G (flip S i) (flip (flip S i) i) := .dn hi (by rw [flip_self, hs]; rfl) (by rw [cnt_flip_up hi hs, Nat.add_sub_cancel]; exact hg)
    rwa [flip_flip] at e
  | @dn i hi hs hg =>
    have e : Step k G (flip S i) (flip (flip S i) i) := .up hi (by rw [flip_self, hs]; rfl) (by have := cnt_flip_dn hi hs; rw [show cnt k (flip S i) = cnt k S - 1 by omega]; exact hg)
    rwa [flip_flip] at e
theorem Reach.trans (a : Reach k G S U) (b : Reach k G U W) : Reach k G S W := by
  induction b with
  | refl => exact a
  | step _ s ih => exact .step ih s
theorem Reach.one (s : Step k G S U) : Reach k G S U := .step (.refl _) s
theorem Reach.symm (a : Reach k G S U) : Reach k G U S := by
  induction a with
  | refl => exact .refl _
  | step _ s ih => exact (Reach.one s.symm).trans ih
/-- whatever every crossing keeps -/
theorem Reach.inv {P : (Nat → Bool) → Prop} (hp : ∀ S U, P S → Step k G S U → P U) (a : Reach k G S U) (h : P S) : P U := by
  induction a with
  | refl => exact h
  | step _ s ih => exact hp _ _ ih s
/-! ### filled from below -/
/-- between a and b goers grow -/
def Grow (G : Nat → Nat → Bool) (b : Nat) : Prop := ∀ s s' i, s ≤ s' → s' ≤ b → G s i = true → G s' i = true
/-- S can be filled to N, if at each number on the way somebody lacks -/
theorem fill {T : Nat} (gr : Grow G T) (N : Nat) (hN : N ≤ T + 1) (h0 : cnt k S ≤ N) (hl : ∀ n, cnt k S ≤ n → n < N → n < cnt k (fun i => S i || G n i)) :
    ∃ U, Reach k G S U ∧ cnt k U = N ∧ (∀ i, S i = true → U i = true) ∧ ∀ i, i < k → U i = true → S i = true ∨ (0 < N ∧ G (N - 1) i = true) := by
  induction N with
  | zero => exact ⟨S, .refl _, by omega, fun _ h => h, fun _ _ h => .inl h⟩
  | succ N ih =>
    by_cases e : cnt k S = N + 1
    · exact ⟨S, .refl _, e, fun _ h => h, fun _ _ h => .inl h⟩
    · obtain ⟨U, r, c, h1, h2⟩ := ih (by omega) (by omega) fun n a b => hl n a (by omega)
      have hlt := hl N (by omega) (by omega)
      obtain ⟨i, hi, g, u⟩ := cnt_ex (k := k) (S := U) (U := fun i => S i || G N i) (by omega)
      have gi : G N i = true := by
        cases hs : S i with
        | true => rw [h1 i hs] at u; cases u
        | false => rw [hs] at g; exact g
      refine ⟨flip U i, r.step (.up hi u (by rw [c]; exact gi)), by rw [cnt_flip_up hi u, c], fun j hj => ?_, fun j hj hf => ?_⟩
      · by_cases z : j = i
        · subst z
          rw [h1 j hj] at u
          cases u
        · rw [flip_ne _ z]
          exact h1 j hj
      · by_cases z : j = i
        · exact .inr ⟨by omega, by rw [z]; exact gi⟩
        · rw [flip_ne _ z] at hf
          rcases h2 j hj hf with q | ⟨q, g2⟩
          · exact .inl q
          · exact .inr ⟨by omega, gr _ _ _ (by omega) (by omega) g2⟩
/-- stuck at N: the fullest one is S with all goers at N -/
theorem stuck {T N : Nat} (gr : Grow G T) (hN : N ≤ T) (h0 : cnt k S ≤ N) (hl : ∀ n, cnt k S ≤ n → n < N → n < cnt k (fun i => S i || G n i)) (hs : cnt k (fun i => S i || G N i) ≤ N) :
    ∃ U, Reach k G S U ∧ cnt k U = N ∧ ∀ i, i < k → U i = (S i || G N i) := by
  obtain ⟨U, r, c, h1, h2⟩ := fill gr N (by omega) h0 hl
  have hm : ∀ i, i < k → U i = true → (S i || G N i) = true := fun i hi hu => by
    rcases h2 i hi hu with q | ⟨_, q⟩
    · rw [q]; rfl
    · rw [gr _ _ _ (by omega) hN q, Bool.or_true]
  have he := cnt_eq (k := k) (S := U) (U := fun i => S i || G N i) hm (by omega)
  refine ⟨U, r, c, fun i hi => ?_⟩
  cases hu : U i with
  | true => exact (hm i hi hu).symm
  | false =>
    cases hq : (S i || G N i) with
    | false => rfl
    | true => rw [he i hi hq] at hu; cases hu
/-- under a low bar at N nobody gets out -/
theorem low_inv {T N : Nat} (gr : Grow G T) (hN : N ≤ T) {F : Nat → Bool} (hF : cnt k F = N) (hG : ∀ i, i < k → G N i = true → F i = true) :
    ∀ S U, (cnt k S ≤ N ∧ ∀ i, i < k → (S i || G N i) = F i) → Step k G S U → (cnt k U ≤ N ∧ ∀ i, i < k → (U i || G N i) = F i) := by
  rintro S U ⟨c, h⟩ s
  have sub : ∀ i, i < k → S i = true → F i = true := fun i hi hs => by rw [← h i hi, hs]; rfl
  cases s with
  | @up i hi hs hg =>
    by_cases z : cnt k S = N
    · exfalso
      rw [z] at hg
      have := cnt_eq sub (by omega) i hi (hG i hi hg)
      rw [hs] at this
      cases this
    · refine ⟨by rw [cnt_flip_up hi hs]; omega, fun j hj => ?_⟩
      by_cases e : j = i
      · subst e
        have gN := gr _ _ _ (by omega) hN hg
        rw [gN, Bool.or_true, hG j hj gN]
      · rw [flip_ne _ e]
        exact h j hj
  | @dn i hi hs hg =>
    have := cnt_flip_dn hi hs
    refine ⟨by omega, fun j hj => ?_⟩
    by_cases e : j = i
    · subst e
      have gN := gr _ _ _ (by omega) hN hg
      rw [gN, Bool.or_true, hG j hj gN]
    · rw [flip_ne _ e]
      exact h j hj
end
end Th
namespace Th
section
variable {k : Nat} {G : Nat → Nat → Bool} {S U W : Nat → Bool}
/-! ### met from the other basin -/
def co (S : Nat → Bool) : Nat → Bool := fun i => !S i
def dual (k : Nat) (G : Nat → Nat → Bool) : Nat → Nat → Bool := fun s i => G (k - 1 - s) i
theorem co_co (S : Nat → Bool) : co (co S) = S := by funext i; exact Bool.not_not _
theorem cnt_co (k : Nat) (S : Nat → Bool) : cnt k S + cnt k (co S) = k := cnt_not S
theorem flip_co (S : Nat → Bool) (i : Nat) : flip (co S) i = co (flip S i) := by
  funext j
  unfold co flip
  split <;> rfl
theorem Step.dual (h : Step k G S U) : Step k (dual k G) (co S) (co U) := by
  cases h with
  | @up i hi hs hg =>
    rw [← flip_co]
    have c1 := cnt_co k S
    have c2 := cnt_le k (flip S i)
    rw [cnt_flip_up hi hs] at c2
    refine .dn hi (by unfold co; rw [hs]; rfl) ?_
    unfold Th.dual
    rw [show k - 1 - (cnt k (co S) - 1) = cnt k S by omega]
    exact hg
  | @dn i hi hs hg =>
    rw [← flip_co]
    have c1 := cnt_co k S
    have c2 := cnt_pos hi hs
    refine .up hi (by unfold co; rw [hs]; rfl) ?_
    unfold Th.dual
    rw [show k - 1 - cnt k (co S) = cnt k S - 1 by omega]
    exact hg
theorem dual_dual_at {s : Nat} (hs : s < k) (i : Nat) : Th.dual k (Th.dual k G) s i = G s i := by
  unfold Th.dual
  rw [show k - 1 - (k - 1 - s) = s by omega]
theorem Reach.dual (h : Reach k G S U) : Reach k (Th.dual k G) (co S) (co U) := by
  induction h with
  | refl => exact .refl _
  | step _ s ih => exact .step ih s.dual
theorem Step.congr {G' : Nat → Nat → Bool} (hg : ∀ s i, s < k → G s i = G' s i) (h : Step k G S U) : Step k G' S U := by
  cases h with
  | @up i hi hs g =>
    have := cnt_le k (flip S i)
    rw [cnt_flip_up hi hs] at this
    exact .up hi hs (by rw [← hg _ _ (by omega)]; exact g)
  | @dn i hi hs g =>
    have := cnt_le k S
    have := cnt_pos hi hs
    exact .dn hi hs (by rw [← hg _ _ (by omega)]; exact g)
theorem Reach.congr {G' : Nat → Nat → Bool} (hg : ∀ s i, s < k → G s i = G' s i) (h : Reach k G S U) : Reach k G' S U := by
  induction h with
  | refl => exact .refl _
  | step _ s ih => exact .step ih (s.congr hg)
theorem Reach.codual (h : Reach k (Th.dual k G) (co S) (co U)) : Reach k G S U := by
  have h2 := h.dual
  rw [co_co, co_co] at h2
  exact h2.congr fun s i hs => dual_dual_at hs i
/-! ### at the top -/
structure Top (k : Nat) (G : Nat → Nat → Bool) (T : Nat) : Prop where
  lt : T < k
  up : Grow G T
  dn : ∀ s s' i, T ≤ s → s ≤ s' → s' < k → G s' i = true → G s i = true
theorem Top.all {T : Nat} (t : Top k G T) {s i : Nat} (hs : s < k) (h : G s i = true) : G T i = true := by
  by_cases z : s ≤ T
  · exact t.up s T i z (Nat.le_refl _) h
  · exact t.dn T s i (Nat.le_refl _) (by omega) hs h
theorem Top.dual {T : Nat} (t : Top k G T) : Top k (Th.dual k G) (k - 1 - T) := by
  have := t.lt
  refine ⟨by omega, fun s s' i a b g => ?_, fun s s' i a b c g => ?_⟩
  · exact t.dn (k - 1 - s') (k - 1 - s) i (by omega) (by omega) (by omega) g
  · exact t.up (k - 1 - s') (k - 1 - s) i (by omega) (by omega) g
/-- who isn't a goer at the top never goes -/
theorem fast_inv {T : Nat} (t : Top k G T) (h : Reach k G S U) : ∀ i, i < k → G T i = false → U i = S i := by
  intro i hi hg
  refine Reach.inv (P := fun W => W i = S i) (fun A B e s => ?_) h rfl
  cases s with
  | @up j hj hs g =>
    have c := cnt_le k (flip A j)
    rw [cnt_flip_up hj hs] at c
    have : i ≠ j := fun z => by
      subst z
      rw [t.all (by omega) g] at hg
      cases hg
    rw [flip_ne _ this]
    exact e
  | @dn j hj hs g =>
    have c := cnt_le k A
    have c2 := cnt_pos hj hs
    have : i ≠ j := fun z => by
      subst z
      rw [t.all (by omega) g] at hg
      cases hg
    rw [flip_ne _ this]
    exact e
def diff (k : Nat) (S U : Nat → Bool) : Nat := cnt k (fun i => S i && !U i)
theorem reach_out (h : Reach k G S U) : ∀ i, ¬ i < k → U i = S i := by
  intro i hi
  refine Reach.inv (P := fun W => W i = S i) (fun A B e s => ?_) h rfl
  cases s with
  | @up j hj hs g =>
    rw [flip_ne _ (show i ≠ j by omega)]
    exact e
  | @dn j hj hs g =>
    rw [flip_ne _ (show i ≠ j by omega)]
    exact e
/-- at the top's own number goers can be exchanged -/
theorem swap {T : Nat} (t : Top k G T) : ∀ (n : Nat) (S U : Nat → Bool), diff k S U ≤ n → cnt k S = T → cnt k U = T → (∀ i, i < k → G T i = false → U i = S i) → (∀ i, ¬ i < k → U i = S i) → Reach k G S U := by
  intro n
  induction n with
  | zero =>
    intro S U hd cs cu hf ho
    have hsub : ∀ i, i < k → S i = true → U i = true := fun i hi hs => by
      cases hu : U i with
      | true => rfl
      | false =>
        have := cnt_pos (k := k) (S := fun i => S i && !U i) hi (by show (S i && !U i) = true; rw [hs, hu]; rfl)
        unfold diff at hd
        omega
    have heq := cnt_eq hsub (by omega)
    have : U = S := by
      funext i
      by_cases hi : i < k
      · cases hs : S i with
        | true => exact hsub i hi hs
        | false =>
          cases hu : U i with
          | false => rfl
          | true => rw [heq i hi hu] at hs; cases hs
      · exact ho i hi
    rw [this]
    exact .refl _
  | succ n ih =>
    intro S U hd cs cu hf ho
    by_cases z : diff k S U = 0
    · exact ih S U (by omega) cs cu hf ho
    · obtain ⟨i, hi, h1⟩ := cnt_pos_ex (k := k) (S := fun i => S i && !U i) (by unfold diff at z; omega)
      have si : S i = true := by revert h1; cases S i <;> simp
      have ui : U i = false := by revert h1; cases U i <;> simp
      have e1 := cnt_split (k := k) S U
      have e2 := cnt_split (k := k) U S
      have e3 : cnt k (fun i => S i && U i) = cnt k (fun i => U i && S i) := cnt_congr fun i _ => Bool.and_comm _ _
      obtain ⟨j, hj, h2⟩ := cnt_pos_ex (k := k) (S := fun i => U i && !S i) (by unfold diff at z; omega)
      have uj : U j = true := by revert h2; cases U j <;> simp
      have sj : S j = false := by revert h2; cases S j <;> simp
      have gi : G T i = true := by
        cases g : G T i with
        | true => rfl
        | false => rw [hf i hi g, si] at ui; cases ui
      have gj : G T j = true := by
        cases g : G T j with
        | true => rfl
        | false => rw [hf j hj g, sj] at uj; cases uj
      have ij : i ≠ j := fun e => by rw [e, sj] at si; cases si
      have s1 : Step k G S (flip S j) := .up hj sj (by rw [cs]; exact gj)
      have c1 : cnt k (flip S j) = T + 1 := by rw [cnt_flip_up hj sj, cs]
      have s2 : Step k G (flip S j) (flip (flip S j) i) := .dn hi (by rw [flip_ne _ ij]; exact si) (by rw [c1, Nat.add_sub_cancel]; exact gi)
      have c2 := cnt_flip_dn (k := k) (S := flip S j) hi (by rw [flip_ne _ ij]; exact si)
      refine ((Reach.one s1).trans (Reach.one s2)).trans (ih _ U ?_ (by omega) cu (fun l hl g => ?_) (fun l hl => ?_))
      · have e : (fun l => flip (flip S j) i l && !U l) = flip (fun l => S l && !U l) i := by
          funext l
          by_cases li : l = i
          · subst li
            rw [flip_self, flip_self, flip_ne _ ij, si, ui]
            rfl
          · rw [flip_ne _ li, flip_ne _ li]
            by_cases lj : l = j
            · subst lj
              rw [flip_self, sj, uj]
              rfl
            · rw [flip_ne _ lj]
        unfold diff
        rw [e]
        have := cnt_flip_dn (k := k) (S := fun l => S l && !U l) hi h1
        unfold diff at hd
        omega
      · have li : l ≠ i := fun e => by rw [e, gi] at g; cases g
        have lj : l ≠ j := fun e => by rw [e, gj] at g; cases g
        rw [flip_ne _ li, flip_ne _ lj]
        exact hf l hl g
      · rw [flip_ne _ (show l ≠ i by omega), flip_ne _ (show l ≠ j by omega)]
        exact ho l hl
/-! ### which lot a standing is in -/
/-- from below it gets to the top's number -/
def Rises (k : Nat) (G : Nat → Nat → Bool) (T : Nat) (S : Nat → Bool) : Prop := cnt k S ≤ T ∧ ∀ n, cnt k S ≤ n → n < T → n < cnt k (fun i => S i || G n i)
/-- from above -/
def Sinks (k : Nat) (G : Nat → Nat → Bool) (T : Nat) (S : Nat → Bool) : Prop := T < cnt k S ∧ ∀ s, T ≤ s → s < cnt k S → cnt k (fun i => S i && !G s i) ≤ s
theorem Rises.to {T : Nat} (t : Top k G T) (h : Rises k G T S) : ∃ U, Reach k G S U ∧ cnt k U = T := by
  obtain ⟨U, r, c, _⟩ := fill t.up T (by omega) h.1 h.2
  exact ⟨U, r, c⟩
theorem co_or (S : Nat → Bool) (f : Nat → Bool) : (fun i => co S i || f i) = co (fun i => S i && !f i) := by
  funext i
  show (!S i || f i) = !(S i && !f i)
  cases S i <;> cases f i <;> rfl
theorem Sinks.to {T : Nat} (t : Top k G T) (h : Sinks k G T S) : ∃ U, Reach k G S U ∧ cnt k U = T := by
  have tl := t.lt
  have c0 := cnt_co k S
  have cle := cnt_le k S
  obtain ⟨h1, h2⟩ := h
  obtain ⟨U, r, c, _⟩ := fill (k := k) (G := Th.dual k G) (S := co S) t.dual.up (k - 1 - T + 1) (by omega) (by omega) fun n a b => by
    have e : (fun i => co S i || Th.dual k G n i) = co (fun i => S i && !G (k - 1 - n) i) := co_or S _
    rw [e]
    have q := h2 (k - 1 - n) (by omega) (by omega)
    have c1 := cnt_co k (fun i => S i && !G (k - 1 - n) i)
    omega
  refine ⟨co U, ?_, ?_⟩
  · refine Reach.codual ?_
    rw [co_co]
    exact r
  · have := cnt_co k U
    omega
/-- two that get to the top's number and have the same fast ones here come to one another -/
theorem open_reach {T : Nat} (t : Top k G T) (hS : Rises k G T S ∨ Sinks k G T S) (hU : Rises k G T U ∨ Sinks k G T U) (hf : ∀ i, i < k → G T i = false → U i = S i) (ho : ∀ i, ¬ i < k → U i = S i) : Reach k G S U := by
  obtain ⟨S', rS, cS⟩ := hS.elim (fun h => h.to t) (fun h => h.to t)
  obtain ⟨U', rU, cU⟩ := hU.elim (fun h => h.to t) (fun h => h.to t)
  refine rS.trans (Reach.trans ?_ rU.symm)
  refine swap t _ S' U' (Nat.le_refl _) cS cU (fun i hi g => ?_) (fun i hi => ?_)
  · rw [fast_inv t rS i hi g, fast_inv t rU i hi g, hf i hi g]
  · rw [reach_out rS i hi, reach_out rU i hi, ho i hi]
/-- the first number at which filling is stuck -/
def StuckLow (k : Nat) (G : Nat → Nat → Bool) (N : Nat) (S : Nat → Bool) : Prop := cnt k S ≤ N ∧ (∀ n, cnt k S ≤ n → n < N → n < cnt k (fun i => S i || G n i)) ∧ cnt k (fun i => S i || G N i) ≤ N
theorem StuckLow.full {N : Nat} (h : StuckLow k G N S) {T : Nat} (t : Top k G T) (hN : N ≤ T) : ∃ U, Reach k G S U ∧ cnt k U = N ∧ ∀ i, i < k → U i = (S i || G N i) := stuck t.up hN h.1 h.2.1 h.2.2
theorem StuckLow.cnt_full {N : Nat} (h : StuckLow k G N S) {T : Nat} (t : Top k G T) (hN : N ≤ T) : cnt k (fun i => S i || G N i) = N := by
  obtain ⟨U, _, c, e⟩ := h.full t hN
  exact (cnt_congr e).symm.trans c
/-- nobody leaves the lot under it -/
theorem StuckLow.under {N T : Nat} (h : StuckLow k G N S) (t : Top k G T) (hN : N ≤ T) (r : Reach k G S U) : cnt k U ≤ N ∧ ∀ i, i < k → (U i || G N i) = (S i || G N i) := by
  refine Reach.inv (P := fun W => cnt k W ≤ N ∧ ∀ i, i < k → (W i || G N i) = (S i || G N i)) (low_inv t.up hN (h.cnt_full t hN) fun i _ g => by rw [g, Bool.or_true]) r ⟨h.1, fun _ _ => rfl⟩
/-- all of a lot are stuck alike -/
theorem StuckLow.same {N T : Nat} (h : StuckLow k G N S) (t : Top k G T) (hN : N ≤ T) (r : Reach k G S U) : StuckLow k G N U := by
  obtain ⟨c, e⟩ := h.under t hN r
  have ce : cnt k (fun i => U i || G N i) = N := by
    rw [cnt_congr e]
    exact h.cnt_full t hN
  refine ⟨c, fun n a b => ?_, by omega⟩
  -- stuck earlier it would never get to S's fullest one
  by_cases z : n < cnt k (fun i => U i || G n i)
  · exact z
  · exfalso
    -- the first such number
    have ex : ∃ m, cnt k U ≤ m ∧ m < N ∧ ¬ m < cnt k (fun i => U i || G m i) ∧ ∀ m', cnt k U ≤ m' → m' < m → m' < cnt k (fun i => U i || G m' i) := by
      clear ce e
      induction n using Nat.strongRecOn with
      | _ n ih =>
        by_cases q : ∀ m', cnt k U ≤ m' → m' < n → m' < cnt k (fun i => U i || G m' i)
        · exact ⟨n, a, b, z, q⟩
        · have : ∃ m', cnt k U ≤ m' ∧ m' < n ∧ ¬ m' < cnt k (fun i => U i || G m' i) := by
            refine Classical.byContradiction fun w => q fun m' x y => ?_
            refine Classical.byContradiction fun v => w ⟨m', x, y, v⟩
          obtain ⟨m', x, y, v⟩ := this
          exact ih m' y x (by omega) v
    obtain ⟨m, x, y, v, u⟩ := ex
    have sl : StuckLow k G m U := ⟨x, u, by omega⟩
    obtain ⟨F, rF, cF, _⟩ := h.full t hN
    have := (sl.under t (by omega) (r.symm.trans rF)).1
    omega
theorem StuckLow.iff {N T : Nat} (h : StuckLow k G N S) (t : Top k G T) (hN : N ≤ T) (ho : ∀ i, ¬ i < k → U i = S i) : Reach k G S U ↔ StuckLow k G N U ∧ ∀ i, i < k → (U i || G N i) = (S i || G N i) := by
  constructor
  · intro r
    exact ⟨h.same t hN r, (h.under t hN r).2⟩
  · rintro ⟨hu, e⟩
    obtain ⟨A, rA, _, eA⟩ := h.full t hN
    obtain ⟨B, rB, _, eB⟩ := hu.full t hN
    have : A = B := by
      funext i
      by_cases hi : i < k
      · rw [eA i hi, eB i hi, e i hi]
      · rw [reach_out rA i hi, reach_out rB i hi, ho i hi]
    rw [this] at rA
    exact rA.trans rB.symm
/-- each standing of no more than the top's number is stuck below it, or gets there -/
theorem low_or {T : Nat} (h : cnt k S ≤ T) : (∃ N, N < T ∧ StuckLow k G N S) ∨ Rises k G T S := by
  by_cases q : ∀ n, cnt k S ≤ n → n < T → n < cnt k (fun i => S i || G n i)
  · exact .inr ⟨h, q⟩
  · refine .inl ?_
    have : ∃ m, cnt k S ≤ m ∧ m < T ∧ ¬ m < cnt k (fun i => S i || G m i) := by
      refine Classical.byContradiction fun w => q fun m' x y => ?_
      refine Classical.byContradiction fun v => w ⟨m', x, y, v⟩
    obtain ⟨n, a, b, z⟩ := this
    clear q
    induction n using Nat.strongRecOn with
    | _ n ih =>
      by_cases q : ∀ m', cnt k S ≤ m' → m' < n → m' < cnt k (fun i => S i || G m' i)
      · exact ⟨n, b, a, q, by omega⟩
      · have : ∃ m', cnt k S ≤ m' ∧ m' < n ∧ ¬ m' < cnt k (fun i => S i || G m' i) := by
          refine Classical.byContradiction fun w => q fun m' x y => ?_
          refine Classical.byContradiction fun v => w ⟨m', x, y, v⟩
        obtain ⟨m', x, y, v⟩ := this
        exact ih m' y x (by omega) v
end
end Th
namespace Th
section
variable {k : Nat} {G : Nat → Nat → Bool} {S U W : Nat → Bool}
/-- i may go at U -/
def May (k : Nat) (G : Nat → Nat → Bool) (U : Nat → Bool) (i : Nat) : Prop := G (if U i = true then cnt k U - 1 else cnt k U) i = true
theorem May.step {i : Nat} (hi : i < k) (h : May k G U i) : Step k G U (flip U i) := by
  unfold May at h
  cases e : U i with
  | true => rw [e, if_pos rfl] at h; exact .dn hi e h
  | false => rw [e, if_neg Bool.false_ne_true] at h; exact .up hi e h
/-- ever goes -/
def Moves (k : Nat) (G : Nat → Nat → Bool) (S : Nat → Bool) (i : Nat) : Prop := ∃ U, Reach k G S U ∧ May k G U i
theorem moves_low {N T i : Nat} (h : StuckLow k G N S) (t : Top k G T) (hN : N ≤ T) (hi : i < k) : Moves k G S i ↔ 0 < N ∧ G (N - 1) i = true := by
  constructor
  · rintro ⟨U, r, m⟩
    obtain ⟨c, e⟩ := h.under t hN r
    unfold May at m
    cases u : U i with
    | true =>
      rw [u, if_pos rfl] at m
      have := cnt_pos hi u
      exact ⟨by omega, t.up _ _ _ (by omega) (by omega) m⟩
    | false =>
      rw [u, if_neg Bool.false_ne_true] at m
      by_cases z : cnt k U = N
      · exfalso
        rw [z] at m
        have cf := h.cnt_full t hN
        have hsub : ∀ j, j < k → U j = true → (S j || G N j) = true := fun j hj uj => by rw [← e j hj, uj]; rfl
        have := cnt_eq hsub (by omega) i hi (by rw [m, Bool.or_true])
        rw [u] at this
        cases this
      · exact ⟨by omega, t.up _ _ _ (by omega) (by omega) m⟩
  · rintro ⟨n0, g⟩
    obtain ⟨F, r, c, e⟩ := h.full t hN
    refine ⟨F, r, ?_⟩
    have fi : F i = true := by rw [e i hi, t.up _ _ _ (show N - 1 ≤ N by omega) hN g, Bool.or_true]
    unfold May
    rw [fi, if_pos rfl, c]
    exact g
/-- gets to the top's number, and there's somebody out who may go there -/
theorem moves_open {T i : Nat} (t : Top k G T) (hS : Rises k G T S ∨ Sinks k G T S) (hc : T < cnt k (fun i => S i || G T i)) (hi : i < k) : Moves k G S i ↔ G T i = true := by
  constructor
  · rintro ⟨U, r, m⟩
    unfold May at m
    have := cnt_le k U
    by_cases u : U i = true
    · rw [if_pos u] at m
      have := cnt_pos hi u
      exact t.all (by omega) m
    · rw [if_neg u] at m
      have u' : U i = false := by simpa using u
      have c := cnt_le k (flip U i)
      rw [cnt_flip_up hi u'] at c
      exact t.all (by omega) m
  · intro g
    obtain ⟨U, r, c⟩ := hS.elim (fun h => h.to t) (fun h => h.to t)
    by_cases u : U i = true
    · -- somebody j is out: exchange them
      have hf := fast_inv t r
      have ce : cnt k (fun i => U i || G T i) = cnt k (fun i => S i || G T i) := cnt_congr fun j hj => by
        cases q : G T j with
        | true => rw [Bool.or_true, Bool.or_true]
        | false => rw [Bool.or_false, Bool.or_false, hf j hj q]
      obtain ⟨j, hj, h1, h2⟩ := cnt_ex (k := k) (S := U) (U := fun i => U i || G T i) (by omega)
      have gj : G T j = true := by rw [h2] at h1; exact h1
      have ij : i ≠ j := fun e => by rw [e, h2] at u; cases u
      have s1 : Step k G U (flip U j) := .up hj h2 (by rw [c]; exact gj)
      have c1 : cnt k (flip U j) = T + 1 := by rw [cnt_flip_up hj h2, c]
      refine ⟨flip U j, r.step s1, ?_⟩
      unfold May
      rw [flip_ne _ ij, u, if_pos rfl, c1, Nat.add_sub_cancel]
      exact g
    · refine ⟨U, r, ?_⟩
      unfold May
      rw [if_neg u, c]
      exact g
/-- stuck at some number up to N, or not before it -/
theorem stuck_or (N : Nat) : (∃ n, n < N ∧ StuckLow k G n S) ∨ ∀ n, cnt k S ≤ n → n < N → n < cnt k (fun i => S i || G n i) := by
  by_cases h : cnt k S ≤ N
  · rcases low_or (k := k) (G := G) (S := S) h with ⟨n, a, b⟩ | r
    · exact .inl ⟨n, a, b⟩
    · exact .inr r.2
  · exact .inr fun n a b => by omega
/-- the three sorts of lots -/
theorem sorts {T : Nat} (t : Top k G T) : (∃ N, N ≤ T ∧ StuckLow k G N S) ∨ (∃ N, N ≤ k - 1 - T ∧ StuckLow k (Th.dual k G) N (co S)) ∨ ((Rises k G T S ∨ Sinks k G T S) ∧ T < cnt k (fun i => S i || G T i)) := by
  have tl := t.lt
  by_cases h : cnt k S ≤ T
  · rcases stuck_or (k := k) (G := G) (S := S) (T + 1) with ⟨N, a, b⟩ | r
    · exact .inl ⟨N, by omega, b⟩
    · exact .inr (.inr ⟨.inl ⟨h, fun n a b => r n a (by omega)⟩, r T h (by omega)⟩)
  · have c0 := cnt_co k S
    rcases stuck_or (k := k) (G := Th.dual k G) (S := co S) (k - 1 - T + 1) with ⟨N, a, b⟩ | r
    · exact .inr (.inl ⟨N, by omega, b⟩)
    · refine .inr (.inr ⟨.inr ⟨by omega, fun s a b => ?_⟩, ?_⟩)
      · have cle := cnt_le k S
        have q := r (k - 1 - s) (by omega) (by omega)
        have e : (fun i => co S i || Th.dual k G (k - 1 - s) i) = co (fun i => S i && !G s i) := by
          rw [co_or]
          funext i
          show (!(S i && !Th.dual k G (k - 1 - s) i)) = !(S i && !G s i)
          have := dual_dual_at (G := G) (k := k) (s := s) (by omega) i
          unfold Th.dual at this ⊢
          rw [this]
        rw [e] at q
        have c1 := cnt_co k (fun i => S i && !G s i)
        omega
      · have := cnt_mono (k := k) (S := S) (U := fun i => S i || G T i) fun i _ hs => by show (S i || G T i) = true; rw [hs]; rfl
        omega
theorem may_co {i : Nat} (hi : i < k) : May k (Th.dual k G) (co U) i ↔ May k G U i := by
  have c0 := cnt_co k U
  have cl := cnt_le k U
  unfold May Th.dual
  cases u : U i with
  | true =>
    have := cnt_pos hi u
    have e : co U i = false := by unfold co; rw [u]; rfl
    rw [e, if_neg Bool.false_ne_true, if_pos rfl, show k - 1 - cnt k (co U) = cnt k U - 1 by omega]
  | false =>
    have e : co U i = true := by unfold co; rw [u]; rfl
    have := cnt_pos (S := co U) hi e
    rw [e, if_pos rfl, if_neg Bool.false_ne_true, show k - 1 - (cnt k (co U) - 1) = cnt k U by omega]
theorem moves_co {i : Nat} (hi : i < k) : Moves k (Th.dual k G) (co S) i ↔ Moves k G S i := by
  constructor
  · rintro ⟨U, r, m⟩
    refine ⟨co U, ?_, ?_⟩
    · refine Reach.codual ?_
      rw [co_co]
      exact r
    · rw [← may_co hi, co_co]
      exact m
  · rintro ⟨U, r, m⟩
    exact ⟨co U, r.dual, (may_co hi).mpr m⟩
/-- stuck from above at N (of the turned sea): who moves -/
theorem moves_high {N T i : Nat} (h : StuckLow k (Th.dual k G) N (co S)) (t : Top k G T) (hN : N ≤ k - 1 - T) (hi : i < k) : Moves k G S i ↔ 0 < N ∧ G (k - N) i = true := by
  have tl := t.lt
  rw [← moves_co hi, moves_low h t.dual hN hi]
  constructor
  · rintro ⟨a, b⟩
    refine ⟨a, ?_⟩
    unfold Th.dual at b
    rw [show k - N = k - 1 - (N - 1) by omega]
    exact b
  · rintro ⟨a, b⟩
    refine ⟨a, ?_⟩
    unfold Th.dual
    rw [show k - 1 - (N - 1) = k - N by omega]
    exact b
end
end Th
namespace Th
section
variable {k : Nat} {G : Nat → Nat → Bool} {S U W : Nat → Bool}
def Sub (k : Nat) (A B : Nat → Bool) : Prop := ∀ i, i < k → A i = true → B i = true
/-- so many of Z, such that each set of a nested family is among them or they among it -/
theorem chain (F : Nat → Nat → Bool) (P : Nat → Prop) (nest : ∀ s s', P s → P s' → Sub k (F s) (F s') ∨ Sub k (F s') (F s)) (Z : Nat → Bool) (inZ : ∀ s, P s → Sub k (F s) Z) :
    ∀ m, m ≤ cnt k Z → ∃ A : Nat → Bool, Sub k A Z ∧ cnt k A = m ∧ (∀ i, ¬ i < k → A i = false) ∧ ∀ s, P s → Sub k A (F s) ∨ Sub k (F s) A := by
  intro m
  induction m with
  | zero =>
    intro _
    have e : ∀ n, cnt n (fun _ => false) = 0 := fun n => by
      induction n with
      | zero => rfl
      | succ n ih => rw [cnt_succ, ih]; rfl
    exact ⟨fun _ => false, (fun _ _ h => by cases h), e k, (fun _ _ => rfl), fun s _ => .inl (fun _ _ h => by cases h)⟩
  | succ m ih =>
    intro hm
    obtain ⟨A, a1, a2, a3, a4⟩ := ih (by omega)
    -- a smallest set of the family that isn't among them, or Z
    have pick : ∃ i, i < k ∧ A i = false ∧ Z i = true ∧ ∀ s, P s → ¬ Sub k (F s) A → F s i = true := by
      -- by how many members
      have go : ∀ n, (∃ s, P s ∧ ¬ Sub k (F s) A ∧ cnt k (F s) ≤ n) → ∃ i, i < k ∧ A i = false ∧ Z i = true ∧ ∀ s, P s → ¬ Sub k (F s) A → F s i = true := by
        intro n
        induction n using Nat.strongRecOn with
        | _ n ih2 =>
          rintro ⟨s, ps, hs, hn⟩
          by_cases q : ∃ s', P s' ∧ ¬ Sub k (F s') A ∧ cnt k (F s') < cnt k (F s)
          · obtain ⟨s', ps', hs', hlt⟩ := q
            exact ih2 (cnt k (F s')) (by omega) ⟨s', ps', hs', Nat.le_refl _⟩
          · have : ∃ i, i < k ∧ F s i = true ∧ A i = false := by
              refine Classical.byContradiction fun w => hs fun i hi f => ?_
              cases e : A i with
              | true => rfl
              | false => exact absurd ⟨i, hi, f, e⟩ w
            obtain ⟨i, hi, f, e⟩ := this
            refine ⟨i, hi, e, inZ s ps i hi f, fun s' ps' hs' => ?_⟩
            rcases nest s s' ps ps' with w | w
            · exact w i hi f
            · have hge : cnt k (F s) ≤ cnt k (F s') := by
                refine Classical.byContradiction fun v => q ⟨s', ps', hs', by omega⟩
              exact cnt_eq w hge i hi f
      by_cases q : ∃ s, P s ∧ ¬ Sub k (F s) A
      · obtain ⟨s, ps, hs⟩ := q
        exact go _ ⟨s, ps, hs, Nat.le_refl _⟩
      · obtain ⟨i, hi, z, e⟩ := cnt_ex (k := k) (S := A) (U := Z) (by omega)
        exact ⟨i, hi, e, z, fun s ps hs => absurd ⟨s, ps, hs⟩ q⟩
    obtain ⟨i, hi, e, z, hp⟩ := pick
    refine ⟨flip A i, fun j hj h => ?_, by rw [cnt_flip_up hi e, a2], fun j hj => ?_, fun s ps => ?_⟩
    · by_cases q : j = i
      · rw [q]; exact z
      · rw [flip_ne _ q] at h
        exact a1 j hj h
    · rw [flip_ne _ (show j ≠ i by omega)]
      exact a3 j hj
    · by_cases q : Sub k (F s) A
      · refine .inr fun j hj h => ?_
        by_cases w : j = i
        · subst w
          have := q j hj h
          rw [e] at this
          cases this
        · rw [flip_ne _ w]
          exact q j hj h
      · rcases a4 s ps with w | w
        · refine .inl fun j hj h => ?_
          by_cases v : j = i
          · rw [v]; exact hp s ps q
          · rw [flip_ne _ v] at h
            exact w j hj h
        · exact absurd w q
theorem cnt_diff {A B : Nat → Bool} (h : Sub k B A) : cnt k (fun i => A i && !B i) + cnt k B = cnt k A := by
  have e := cnt_split (k := k) A B
  have e2 : cnt k (fun i => A i && B i) = cnt k B := cnt_congr fun i hi => by
    cases b : B i with
    | true => rw [h i hi b]; rfl
    | false => rw [Bool.and_false]
  omega
theorem cnt_none {A : Nat → Bool} (h : ∀ i, i < k → A i = false) : cnt k A = 0 := by
  have := cnt_congr (k := k) (S := A) (U := fun _ => false) h
  have e : ∀ n, cnt n (fun _ => false) = 0 := fun n => by
    induction n with
    | zero => rfl
    | succ n ih => rw [cnt_succ, ih]; rfl
  rw [this, e]
/-- how few can come to lie here, of a lot that is stuck at N -/
theorem low_counts {N T n : Nat} (h : StuckLow k G N S) (t : Top k G T) (hN : N ≤ T) (hn : n ≤ N) : (∃ U, Reach k G S U ∧ cnt k U = n) ↔ ∀ m, m < N → m + 1 ≤ n + cnt k (G m) := by
  constructor
  · rintro ⟨U, r, c⟩ m hm
    by_cases z : n ≤ m
    · have q := (h.same t hN r).2.1 m (by omega) hm
      have e := cnt_or_not (k := k) U (G m)
      have e2 := cnt_mono (k := k) (S := fun i => G m i && !U i) (U := G m) fun i _ hh => by revert hh; cases G m i <;> simp
      omega
    · omega
  · intro hc
    have cf := h.cnt_full t hN
    -- the goers at N, so many of them out: the shallowest ones
    have cR : cnt k (fun i => S i && !G N i) + cnt k (G N) = N := by
      have e := cnt_or_not (k := k) (G N) S
      have e1 : (fun i => G N i || S i) = (fun i => S i || G N i) := funext fun i => Bool.or_comm _ _
      rw [e1] at e
      omega
    have hle : N - n ≤ cnt k (G N) := by
      by_cases z : N = 0
      · omega
      · have q := hc (N - 1) (by omega)
        have := cnt_mono (k := k) (S := G (N - 1)) (U := G N) fun i _ g => t.up _ _ _ (by omega) hN g
        omega
    obtain ⟨A, a1, a2, a3, a4⟩ := chain (k := k) G (fun m => m ≤ N) (fun s s' hs hs' => by
      by_cases z : s ≤ s'
      · exact .inl fun i _ g => t.up _ _ _ z (by omega) g
      · exact .inr fun i _ g => t.up _ _ _ (by omega) (by omega) g) (G N) (fun s hs i _ g => t.up _ _ _ hs hN g) (N - n) hle
    -- all others of the fullest one
    have hout : ∀ i, ¬ i < k → (fun i => if i < k then (S i || G N i) && !A i else S i) i = S i := fun i hi => by show (if i < k then (S i || G N i) && !A i else S i) = S i; rw [if_neg hi]
    have hin : ∀ i, i < k → (fun i => if i < k then (S i || G N i) && !A i else S i) i = ((S i || G N i) && !A i) := fun i hi => by show (if i < k then (S i || G N i) && !A i else S i) = _; rw [if_pos hi]
    have subA : Sub k A (fun i => S i || G N i) := fun i hi q => by show (S i || G N i) = true; rw [a1 i hi q, Bool.or_true]
    have cU : cnt k (fun i => if i < k then (S i || G N i) && !A i else S i) = n := by
      rw [cnt_congr hin]
      have := cnt_diff subA
      omega
    have or_eq : ∀ i, i < k → ((fun i => if i < k then (S i || G N i) && !A i else S i) i || G N i) = (S i || G N i) := fun i hi => by
      rw [hin i hi]
      cases q : A i with
      | true =>
        have := a1 i hi q
        rw [this, Bool.or_true, Bool.or_true]
      | false => cases S i <;> cases G N i <;> rfl
    have sl : StuckLow k G N (fun i => if i < k then (S i || G N i) && !A i else S i) := by
      refine ⟨by omega, fun m x y => ?_, ?_⟩
      · have q := hc m y
        -- all of the fullest one but those of A that aren't goers at m
        have e1 : cnt k (fun i => (fun i => if i < k then (S i || G N i) && !A i else S i) i || G m i) = cnt k (fun i => (S i || G N i) && !(A i && !G m i)) := cnt_congr fun i hi => by
          rw [hin i hi]
          cases g : G m i with
          | true =>
            rw [t.up _ _ _ (show m ≤ N by omega) hN g]
            cases S i <;> cases A i <;> rfl
          | false => cases S i <;> cases G N i <;> cases A i <;> rfl
        have sub2 : Sub k (fun i => A i && !G m i) (fun i => S i || G N i) := fun i hi w => subA i hi (by have w' : (A i && !G m i) = true := w; revert w'; cases A i <;> simp)
        have e2 := cnt_diff sub2
        rw [e1]
        rcases a4 m (by omega) with w | w
        · have e3 : cnt k (fun i => A i && !G m i) = 0 := cnt_none fun i hi => by
            cases q : A i with
            | false => rfl
            | true => rw [w i hi q]; rfl
          omega
        · have e3 := cnt_diff w
          omega
      · rw [cnt_congr or_eq]
        omega
    exact ⟨_, (h.iff t hN hout).mpr ⟨sl, or_eq⟩, cU⟩
/-- how many can come to lie here, of a lot that gets to the top's number -/
theorem open_counts {T n : Nat} (t : Top k G T) (hS : Rises k G T S ∨ Sinks k G T S) (hn : T ≤ n) : (∃ U, Reach k G S U ∧ cnt k U = n) ↔ n ≤ cnt k (fun i => S i || G T i) ∧ ∀ s, T ≤ s → s < k → n ≤ s + cnt k (G s) := by
  obtain ⟨V, rV, cV⟩ := hS.elim (fun h => h.to t) (fun h => h.to t)
  have tl := t.lt
  constructor
  · rintro ⟨U, r, c⟩
    have sub : Sub k U (fun i => S i || G T i) := fun i hi u => by
      cases g : G T i with
      | true => show (S i || G T i) = true; rw [g, Bool.or_true]
      | false =>
        rw [fast_inv t r i hi g] at u
        show (S i || G T i) = true
        rw [u]; rfl
    refine ⟨by rw [← c]; exact cnt_mono sub, fun s hs hk => ?_⟩
    by_cases z : n ≤ s
    · omega
    · -- U isn't stuck from above
      have c0 := cnt_co k U
      have cle := cnt_le k U
      rcases stuck_or (k := k) (G := Th.dual k G) (S := co U) (k - 1 - T + 1) with ⟨N, a, b⟩ | q
      · exfalso
        have hr := (rV.symm.trans r).symm.dual
        have := (b.under t.dual (by omega) hr).1
        have c1 := cnt_co k V
        omega
      · have q2 := q (k - 1 - s) (by omega) (by omega)
        have e : (fun i => co U i || Th.dual k G (k - 1 - s) i) = co (fun i => U i && !G s i) := by
          rw [co_or]
          funext i
          show (!(U i && !Th.dual k G (k - 1 - s) i)) = !(U i && !G s i)
          have := dual_dual_at (G := G) (k := k) (s := s) hk i
          unfold Th.dual at this ⊢
          rw [this]
        rw [e] at q2
        have c1 := cnt_co k (fun i => U i && !G s i)
        have c2 := cnt_split (k := k) U (G s)
        have c3 := cnt_mono (k := k) (S := fun i => U i && G s i) (U := G s) fun i _ h => by revert h; cases U i <;> simp
        omega
  · rintro ⟨h1, h2⟩
    have cR : cnt k (fun i => S i && !G T i) + cnt k (G T) = cnt k (fun i => S i || G T i) := by
      have e := cnt_or_not (k := k) (G T) S
      have e1 : (fun i => G T i || S i) = (fun i => S i || G T i) := funext fun i => Bool.or_comm _ _
      rw [e1] at e
      omega
    have rT : cnt k (fun i => S i && !G T i) ≤ T := by
      refine Nat.le_trans (cnt_mono (U := V) fun i hi q => ?_) (Nat.le_of_eq cV)
      have q' : (S i && !G T i) = true := q
      have g : G T i = false := by revert q'; cases G T i <;> cases S i <;> simp
      have s : S i = true := by revert q'; cases G T i <;> cases S i <;> simp
      rw [fast_inv t rV i hi g]
      exact s
    obtain ⟨A, a1, a2, a3, a4⟩ := chain (k := k) G (fun s => T ≤ s ∧ s < k) (fun s s' hs hs' => by
      by_cases z : s ≤ s'
      · exact .inr fun i _ g => t.dn _ _ _ hs.1 z hs'.2 g
      · exact .inl fun i _ g => t.dn _ _ _ hs'.1 (by omega) hs.2 g) (G T) (fun s hs i _ g => t.dn _ _ _ (Nat.le_refl _) hs.1 hs.2 g) (n - cnt k (fun i => S i && !G T i)) (by omega)
    have hout : ∀ i, ¬ i < k → (fun i => if i < k then (S i && !G T i) || A i else S i) i = S i := fun i hi => by show (if i < k then (S i && !G T i) || A i else S i) = S i; rw [if_neg hi]
    have hin : ∀ i, i < k → (fun i => if i < k then (S i && !G T i) || A i else S i) i = ((S i && !G T i) || A i) := fun i hi => by show (if i < k then (S i && !G T i) || A i else S i) = _; rw [if_pos hi]
    have cU : cnt k (fun i => if i < k then (S i && !G T i) || A i else S i) = n := by
      rw [cnt_congr hin, cnt_or_not]
      have : cnt k (fun i => A i && !(S i && !G T i)) = cnt k A := cnt_congr fun i hi => by
        cases q : A i with
        | false => rfl
        | true => rw [a1 i hi q]; cases S i <;> rfl
      omega
    refine ⟨_, open_reach t hS ?_ (fun i hi g => ?_) hout, cU⟩
    · by_cases z : n = T
      · exact .inl ⟨by omega, fun m x y => by omega⟩
      · refine .inr ⟨by omega, fun s x y => ?_⟩
        rw [cU] at y
        have sk : s < k := by
          have := cnt_le k (fun i => if i < k then (S i && !G T i) || A i else S i)
          omega
        have q := h2 s x sk
        have e1 : cnt k (fun i => (fun i => if i < k then (S i && !G T i) || A i else S i) i && !G s i) ≤ cnt k (fun i => S i && !G T i) + cnt k (fun i => A i && !G s i) := by
          have e : cnt k (fun i => (fun i => if i < k then (S i && !G T i) || A i else S i) i && !G s i) ≤ cnt k (fun i => (S i && !G T i) || (A i && !G s i)) := cnt_mono fun i hi w => by
            rw [hin i hi] at w
            show ((S i && !G T i) || (A i && !G s i)) = true
            revert w
            cases S i <;> cases G T i <;> cases A i <;> cases G s i <;> simp
          have e2 := cnt_or_not (k := k) (fun i => S i && !G T i) (fun i => A i && !G s i)
          have e3 := cnt_mono (k := k) (S := fun i => (A i && !G s i) && !(S i && !G T i)) (U := fun i => A i && !G s i) fun i _ w => by revert w; cases (A i && !G s i) <;> simp
          omega
        rcases a4 s ⟨x, sk⟩ with w | w
        · have e3 : cnt k (fun i => A i && !G s i) = 0 := cnt_none fun i hi => by
            cases q : A i with
            | false => rfl
            | true => rw [w i hi q]; rfl
          omega
        · have e3 := cnt_diff w
          omega
    · show (if i < k then S i && !G T i || A i else S i) = S i
      rw [if_pos hi, g]
      cases q : A i with
      | true => rw [a1 i hi q] at g; cases g
      | false => cases S i <;> rfl
end
end Th

namespace Sh
open PySem PySem.Spec PyProof.Rows L2
def spRight : Sp := fun vs H Q _ => ∃ b : Addr, vs = [.ref b] ∧ BoxAt H b 100000 ∧ ∀ H', But b H H' → Q (.bl true) H'
end Sh

namespace Sh
open PySem PySem.Spec PyProof.Rows L2
/-! ### windows, goers, seas beside the box -/
theorem may_mk {h t : Int} {ds : List Int} {L : List Nat} {i : Nat} : mayB h t ds L i = decide (ds.getD i 0 ≤ mk h t ds.length (near L i : Int)) := by
  unfold mayB mk
  rw [Bool.eq_iff_iff, Bool.and_eq_true, decide_eq_true_eq, decide_eq_true_eq, decide_eq_true_eq]
  constructor
  · rintro ⟨a, b⟩
    split <;> omega
  · intro a
    split at a <;> omega
theorem in_lets {h t : Int} {ds : List Int} {L : List Nat} {i : Nat} (hi : i < ds.length) : inV (.int (i : Int)) (ni (lets h t ds L ds.length)) = mayB h t ds L i := by
  rw [in_ni, Bool.eq_iff_iff, decide_eq_true_eq]
  unfold lets
  rw [List.mem_filter, List.mem_range]
  exact ⟨fun q => q.2, fun q => ⟨hi, q⟩⟩
theorem in_gs {m : Int} {ds : List Int} {i : Nat} (hi : i < ds.length) : inV (.int (i : Int)) (((gs m ds ds.length).map fun (i : Nat) => (i : Int)).map V.int) = decide (ds.getD i 0 ≤ m) := by
  rw [← ni_ints, in_ni, Bool.eq_iff_iff, decide_eq_true_eq, decide_eq_true_eq]
  unfold gs
  rw [List.mem_filter, List.mem_range, decide_eq_true_eq]
  exact ⟨fun q => q.2, fun q => ⟨hi, q⟩⟩
/-- a sea that is none of the box -/
def SeaB (K : PySem.W.Frag) (H : Hp) (b : Addr) (v : V) (h t : Int) (ds : List Int) : Prop := ∃ p q, v = .ref p ∧ SqA K H p [.int h, .int t, .ref q] ∧ SqA K H q (ds.map V.int) ∧ p ≠ b ∧ q ≠ b
theorem SeaB.but {K : PySem.W.Frag} {H H' : Hp} {b : Addr} {v : V} {h t : Int} {ds : List Int} (s : SeaB K H b v h t ds) (u : But b H H') : SeaB K H' b v h t ds := let ⟨p, q, e, hp, hq, pb, qb⟩ := s; ⟨p, q, e, (Kp.ofB u pb).sa hp, (Kp.ofB u qb).sa hq, pb, qb⟩
theorem SeaB.a {K : PySem.W.Frag} {H : Hp} {b : Addr} {v : V} {h t : Int} {ds : List Int} (s : SeaB K H b v h t ds) : SeaA K H v h t ds := let ⟨p, q, e, hp, hq, _, _⟩ := s; ⟨p, q, e, hp, hq⟩
/-- a window as it is told: None, or a new pair -/
def WinAt (H H' : Hp) (sp : V) (lo hi : Int) : Prop := (lo > hi ∧ sp = .non) ∨ (¬ lo > hi ∧ ∃ a, sp = .ref a ∧ H a = none ∧ H' a = some (.tup [.int lo, .int hi]))
def spWin (K : PySem.W.Frag) : Sp := fun vs H Q _ => ∃ (v : V) (h t d : Int) (j : Nat) (ds : List Int), vs = [v, .int (j : Int)] ∧ SeaA K H v h t ds ∧ ds[j]? = some d ∧ ∀ (sp : V) (H' : Hp), Same H H' → WinAt H H' sp (lowI h d) (highI t ds.length d) → Q sp H'
theorem win_imp {K : PySem.W.Frag} (vs : List V) (H : Hp) (Q : VK) (E : XK) (z : spWin K vs H Q E) : spWindow K vs H Q E := by
  obtain ⟨v, h, t, d, j, ds, rfl, hv, hj, q⟩ := z
  exact ⟨v, h, t, d, j, ds, rfl, hv, hj, fun c => q .non H (Same.refl _) (.inl ⟨c, rfl⟩), fun c p np => q (.ref p) _ (same_new np) (.inr ⟨c, p, rfl, np, upd_same⟩)⟩
end Sh

namespace Sh
open PySem PySem.Spec PyProof.Rows L2
/-! ### lots as sets, crossings of lots -/
def mem (L : List Nat) : Nat → Bool := fun i => decide (i ∈ L)
theorem cnt_mem {c : Nat} {L : List Nat} (h : Lot c L) : Th.cnt c (mem L) = L.length := by
  unfold Th.cnt mem
  rw [List.countP_eq_length_filter]
  exact congrArg List.length h.mem_eq.symm
theorem mem_out {c : Nat} {L : List Nat} (h : Lot c L) {i : Nat} (hi : ¬ i < c) : mem L i = false := decide_eq_false fun z => hi (h.lt i z)
theorem lot_ext {c : Nat} {L M : List Nat} (h : Lot c L) (h' : Lot c M) (e : ∀ i, i < c → mem L i = mem M i) : L = M := by
  rw [h.mem_eq, h'.mem_eq]
  exact List.filter_congr fun i hi => e i (List.mem_range.mp hi)
/-- who goes at a step -/
def Gof (h t : Int) (ds : List Int) : Nat → Nat → Bool := fun s i => decide (ds.getD i 0 ≤ mk h t ds.length (s : Int))
theorem near_cnt {c : Nat} {L : List Nat} (h : Lot c L) {i : Nat} (hi : i < c) : near L i = if i ∈ L then L.length - 1 else L.length := by
  by_cases z : i ∈ L
  · rw [if_pos z, near_in h]
    have e := filter_filter_len (fun j => decide (j ∈ L)) (fun j => decide (j = i)) (List.range c)
    have e1 : ((List.range c).filter fun j => decide (j ∈ L)).length = L.length := congrArg List.length h.mem_eq.symm
    have e2 : ((List.range c).filter fun j => decide (j ∈ L) && decide (j = i)).length = 1 := by
      rw [← one_of hi]
      congr 1
      refine List.filter_congr fun a _ => ?_
      by_cases q : a = i
      · subst q
        rw [decide_eq_true z]
        rfl
      · rw [decide_eq_false q, Bool.and_false]
    omega
  · rw [if_neg z]
    exact near_out z
theorem may_G {h t : Int} {ds : List Int} {L : List Nat} {i : Nat} : mayB h t ds L i = Gof h t ds (near L i) i := may_mk
/-- the standing behind i's going over -/
def gone (L : List Nat) (i : Nat) : List Nat := if i ∈ L then L.filter (fun j => !decide (j = i)) else L.filter (fun j => decide (j < i)) ++ i :: L.filter (fun j => decide (i < j))
theorem gone_lot {c : Nat} {L : List Nat} (h : Lot c L) {i : Nat} (hi : i < c) : Lot c (gone L i) := by
  unfold gone
  split
  · exact h.filter _
  · refine ⟨List.pairwise_append.mpr ⟨h.up.filter _, List.pairwise_cons.mpr ⟨fun a ha => ?_, h.up.filter _⟩, fun a ha b hb => ?_⟩, fun a ha => ?_⟩
    · simpa using (List.mem_filter.mp ha).2
    · have h1 : a < i := by simpa using (List.mem_filter.mp ha).2
      rcases List.mem_cons.mp hb with q | q
      · omega
      · have : i < b := by simpa using (List.mem_filter.mp q).2
        omega
    · rcases List.mem_append.mp ha with q | q
      · exact h.lt a (List.mem_filter.mp q).1
      · rcases List.mem_cons.mp q with q | q
        · omega
        · exact h.lt a (List.mem_filter.mp q).1
theorem gone_mem {L : List Nat} {i : Nat} : mem (gone L i) = Th.flip (mem L) i := by
  funext j
  unfold mem gone
  by_cases z : i ∈ L
  · rw [if_pos z]
    by_cases e : j = i
    · subst e
      rw [Th.flip_self]
      simp [z]
    · rw [Th.flip_ne _ e]
      simp [e]
  · rw [if_neg z]
    by_cases e : j = i
    · subst e
      rw [Th.flip_self]
      simp [z]
    · rw [Th.flip_ne _ e]
      by_cases q : j < i
      · simp [e, q]
        omega
      · have : i < j := by omega
        simp [e, q, this]
/-- one comes to the other -/
def Rl (h t : Int) (ds : List Int) (L M : List Nat) : Prop := Th.Reach ds.length (Gof h t ds) (mem L) (mem M)
theorem rl_one {h t : Int} {ds : List Int} {L : List Nat} {i : Nat} (hL : Lot ds.length L) (hi : i < ds.length) (m : mayB h t ds L i = true) : Rl h t ds L (gone L i) := by
  unfold Rl
  rw [gone_mem]
  rw [may_G, near_cnt hL hi] at m
  refine .one ?_
  by_cases z : i ∈ L
  · rw [if_pos z] at m
    exact .dn hi (decide_eq_true z) (by rw [cnt_mem hL]; exact m)
  · rw [if_neg z] at m
    exact .up hi (decide_eq_false z) (by rw [cnt_mem hL]; exact m)
/-- behind its going over it may go back -/
theorem may_back {h t : Int} {ds : List Int} {L : List Nat} {i : Nat} (hL : Lot ds.length L) (hi : i < ds.length) : near (gone L i) i = near L i := by
  rw [near_cnt (gone_lot hL hi) hi, near_cnt hL hi]
  have m : mem (gone L i) i = !mem L i := by rw [gone_mem, Th.flip_self]
  have c1 := cnt_mem hL
  have c2 := cnt_mem (gone_lot hL hi)
  rw [gone_mem] at c2
  by_cases z : i ∈ L
  · have z2 : ¬ i ∈ gone L i := fun q => by
      have : mem (gone L i) i = true := decide_eq_true q
      rw [m, show mem L i = true from decide_eq_true z] at this
      cases this
    have := Th.cnt_flip_dn (k := ds.length) (S := mem L) hi (decide_eq_true z)
    rw [if_pos z, if_neg z2]
    omega
  · have z2 : i ∈ gone L i := by
      have : mem (gone L i) i = true := by rw [m, show mem L i = false from decide_eq_false z]; rfl
      exact of_decide_eq_true this
    have := Th.cnt_flip_up (k := ds.length) (S := mem L) hi (decide_eq_false z)
    rw [if_neg z, if_pos z2]
    omega
theorem top_of (h t : Int) (ds : List Int) (hk : 0 < ds.length) : Th.Top ds.length (Gof h t ds) (topI h t ds.length).toNat := by
  have t0 := top_lo h t ds.length
  have t1 := top_hi h t hk
  refine ⟨by omega, fun s s' i a b g => ?_, fun s s' i a b c g => ?_⟩
  · have g' : ds.getD i 0 ≤ mk h t ds.length (s : Int) := of_decide_eq_true g
    refine decide_eq_true (Int.le_trans g' ?_)
    have b' : (s' : Int) ≤ topI h t ds.length := by omega
    clear g g' t0 t1
    unfold mk topI at *
    repeat' split
    all_goals (repeat' split at b')
    all_goals omega
  · have g' : ds.getD i 0 ≤ mk h t ds.length (s' : Int) := of_decide_eq_true g
    refine decide_eq_true (Int.le_trans g' ?_)
    have b' : topI h t ds.length ≤ (s : Int) := by omega
    clear g g' t0 t1
    unfold mk topI at *
    repeat' split
    all_goals (repeat' split at b')
    all_goals omega
/-! ### what is told of it -/
def IsMost (h t : Int) (ds : List Int) (L : List Nat) (m : Nat) : Prop := (∃ M, Lot ds.length M ∧ Rl h t ds L M ∧ M.length = m) ∧ ∀ M, Lot ds.length M → Rl h t ds L M → M.length ≤ m
def IsLeast (h t : Int) (ds : List Int) (L : List Nat) (m : Nat) : Prop := (∃ M, Lot ds.length M ∧ Rl h t ds L M ∧ M.length = m) ∧ ∀ M, Lot ds.length M → Rl h t ds L M → m ≤ M.length
def IsMovers (h t : Int) (ds : List Int) (L ms : List Nat) : Prop := Lot ds.length ms ∧ ∀ i, i < ds.length → (i ∈ ms ↔ ∃ M, Lot ds.length M ∧ Rl h t ds L M ∧ mayB h t ds M i = true)
theorem IsMost.uniq {h t : Int} {ds : List Int} {L L' : List Nat} {m m' : Nat} (r : Rl h t ds L L') (a : IsMost h t ds L m) (b : IsMost h t ds L' m') : m = m' := by
  obtain ⟨⟨M, l1, r1, e1⟩, h1⟩ := a
  obtain ⟨⟨M', l2, r2, e2⟩, h2⟩ := b
  have := h1 M' l2 (r.trans r2)
  have := h2 M l1 (r.symm.trans r1)
  omega
theorem IsLeast.uniq {h t : Int} {ds : List Int} {L L' : List Nat} {m m' : Nat} (r : Rl h t ds L L') (a : IsLeast h t ds L m) (b : IsLeast h t ds L' m') : m = m' := by
  obtain ⟨⟨M, l1, r1, e1⟩, h1⟩ := a
  obtain ⟨⟨M', l2, r2, e2⟩, h2⟩ := b
  have := h1 M' l2 (r.trans r2)
  have := h2 M l1 (r.symm.trans r1)
  omega
theorem IsMovers.uniq {h t : Int} {ds : List Int} {L L' ms ms' : List Nat} (r : Rl h t ds L L') (a : IsMovers h t ds L ms) (b : IsMovers h t ds L' ms') : ms = ms' := by
  refine lot_ext a.1 b.1 fun i hi => ?_
  unfold mem
  rw [decide_eq_decide, a.2 i hi, b.2 i hi]
  exact ⟨fun ⟨M, l, q, m⟩ => ⟨M, l, r.symm.trans q, m⟩, fun ⟨M, l, q, m⟩ => ⟨M, l, r.trans q, m⟩⟩
/-- a sea whose draughts are a tuple is handed in -/
def SeaD (K : PySem.W.Frag) (H : Hp) (v : V) (h t : Int) (ds : List Int) : Prop := ∃ p q, v = .ref p ∧ SqA K H p [.int h, .int t, .ref q] ∧ SqT K H q (ds.map V.int)
theorem SeaD.same {K : PySem.W.Frag} {H H' : Hp} {v : V} {h t : Int} {ds : List Int} (s : SeaD K H v h t ds) (e : Same H H') : SeaD K H' v h t ds := let ⟨p, q, a, b, c⟩ := s; ⟨p, q, a, Same.sqA e b, Same.tup e c⟩
theorem SeaD.a {K : PySem.W.Frag} {H : Hp} {v : V} {h t : Int} {ds : List Int} (s : SeaD K H v h t ds) : SeaA K H v h t ds := let ⟨p, q, a, b, c⟩ := s; ⟨p, q, a, b, .inr c⟩
def spMost (K : PySem.W.Frag) : Sp := fun vs H Q _ => ∃ (v l : V) (h t : Int) (ds : List Int) (L : List Nat), vs = [v, l] ∧ SeaD K H v h t ds ∧ LotA K H l L ∧ ds.length ≤ 60 ∧ 0 < ds.length ∧ Lot ds.length L ∧ ∀ (H' : Hp) (m : Nat), Same H H' → IsMost h t ds L m → Q (.int (m : Int)) H'
def spLeast (K : PySem.W.Frag) : Sp := fun vs H Q _ => ∃ (v l : V) (h t : Int) (ds : List Int) (L : List Nat), vs = [v, l] ∧ SeaD K H v h t ds ∧ LotA K H l L ∧ ds.length ≤ 60 ∧ 0 < ds.length ∧ Lot ds.length L ∧ ∀ (H' : Hp) (m : Nat), Same H H' → IsLeast h t ds L m → Q (.int (m : Int)) H'
def spMovers (K : PySem.W.Frag) : Sp := fun vs H Q _ => ∃ (v l : V) (h t : Int) (ds : List Int) (L : List Nat), vs = [v, l] ∧ SeaD K H v h t ds ∧ LotA K H l L ∧ ds.length ≤ 60 ∧ 0 < ds.length ∧ Lot ds.length L ∧
  ∀ (H' : Hp) (p : Addr) (ms : List Nat), Same H H' → H p = none → H' p = some (.lst (ni ms)) → IsMovers h t ds L ms → Q (.ref p) H'
def spComes (K : PySem.W.Frag) : Sp := fun vs H Q _ => ∃ (v l m : V) (h t : Int) (ds : List Int) (L M : List Nat), vs = [v, l, m] ∧ SeaD K H v h t ds ∧ LotA K H l L ∧ LotA K H m M ∧ ds.length ≤ 60 ∧ 0 < ds.length ∧ Lot ds.length L ∧ Lot ds.length M ∧
  ∀ (H' : Hp) (b : Bool), Same H H' → (b = true ↔ Rl h t ds L M) → Q (.bl b) H'
/-! ### turned about -/
def away (c : Nat) (L : List Nat) : List Nat := (List.range c).filter fun i => !decide (i ∈ L)
theorem away_lot (c : Nat) (L : List Nat) : Lot c (away c L) := (Lot.all c).filter _
theorem mk_turn {h t : Int} {k s : Nat} (hs : s < k) : mk t h k (s : Int) = mk h t k ((k - 1 - s : Nat) : Int) := by
  unfold mk
  split <;> split <;> omega
theorem mem_away {c : Nat} {L : List Nat} {i : Nat} (hi : i < c) : mem (away c L) i = !mem L i := by
  unfold mem away
  rw [Bool.eq_iff_iff, decide_eq_true_eq, List.mem_filter, List.mem_range]
  simp [hi]
end Sh

namespace Sh
/-! ### fleets: sums over sorts, and ships one by one -/
abbrev Srt := Int × Nat × Nat
def mny (ss : List Srt) : Nat := (ss.map fun x => x.2.1 + x.2.2).sum
def ourn (ss : List Srt) : Nat := (ss.map fun x => x.2.1).sum
def gmF (ss : List Srt) (m : Int) : Nat := ((ss.filter fun x => decide (x.1 ≤ m)).map fun x => x.2.1 + x.2.2).sum
def filF (ss : List Srt) (m : Int) : Nat := (ss.map fun x => x.2.1 + if x.1 ≤ m then x.2.2 else 0).sum
def fxF (ss : List Srt) (m : Int) : List Nat := (ss.filter fun x => decide (x.1 > m)).map fun x => x.2.1
def turnF (ss : List Srt) : List Srt := ss.map fun x => (x.1, x.2.2, x.2.1)
theorem mny_turn (ss : List Srt) : mny (turnF ss) = mny ss := by
  unfold mny turnF
  rw [List.map_map]
  congr 1
  exact List.map_congr_left fun x _ => Nat.add_comm _ _
theorem turn_turn (ss : List Srt) : turnF (turnF ss) = ss := by
  unfold turnF
  rw [List.map_map]
  exact (List.map_congr_left fun x _ => rfl).trans (List.map_id ss)
/-- the ships of a fleet one by one -/
structure Rp (ss : List Srt) (k : Nat) (D : Nat → Int) (S : Nat → Bool) : Prop where
  here : ∀ P : Int → Bool, ((ss.filter fun x => P x.1).map fun x => x.2.1).sum = Th.cnt k (fun i => P (D i) && S i)
  there : ∀ P : Int → Bool, ((ss.filter fun x => P x.1).map fun x => x.2.2).sum = Th.cnt k (fun i => P (D i) && !S i)
theorem sum_two (f g : Srt → Nat) : ∀ l : List Srt, (l.map fun x => f x + g x).sum = (l.map f).sum + (l.map g).sum
  | [] => rfl
  | a :: l => by
    simp only [List.map_cons, List.sum_cons, sum_two f g l]
    omega
theorem sum_filter (P : Srt → Bool) (f : Srt → Nat) : ∀ l : List Srt, (l.map fun x => if P x = true then f x else 0).sum = ((l.filter P).map f).sum
  | [] => rfl
  | a :: l => by
    cases h : P a <;> simp [h, sum_filter P f l]
section
variable {ss : List Srt} {k : Nat} {D : Nat → Int} {S : Nat → Bool}
theorem Rp.gm (r : Rp ss k D S) (m : Int) : gmF ss m = Th.cnt k (fun i => decide (D i ≤ m)) := by
  unfold gmF
  rw [sum_two (fun x => x.2.1) (fun x => x.2.2), r.here fun d => decide (d ≤ m), r.there fun d => decide (d ≤ m)]
  exact (Th.cnt_split _ S).symm
theorem Rp.ourn (r : Rp ss k D S) : ourn ss = Th.cnt k S := by
  have e := r.here fun _ => true
  rw [List.filter_eq_self.mpr fun _ _ => rfl] at e
  exact e
theorem Rp.mny (r : Rp ss k D S) : mny ss = k := by
  have e := r.there fun _ => true
  rw [List.filter_eq_self.mpr fun _ _ => rfl] at e
  unfold Sh.mny
  rw [sum_two (fun x => x.2.1) (fun x => x.2.2), e]
  have e2 := r.ourn
  unfold Sh.ourn at e2
  rw [e2]
  exact Th.cnt_not S
theorem Rp.fil (r : Rp ss k D S) (m : Int) : filF ss m = Th.cnt k (fun i => S i || decide (D i ≤ m)) := by
  unfold filF
  rw [sum_two (fun x => x.2.1) (fun x => if x.1 ≤ m then x.2.2 else 0)]
  have e1 := r.ourn
  unfold Sh.ourn at e1
  have e2 : (ss.map fun x => if x.1 ≤ m then x.2.2 else 0).sum = Th.cnt k (fun i => decide (D i ≤ m) && !S i) := by
    rw [← r.there fun d => decide (d ≤ m), ← sum_filter]
    congr 1
    refine List.map_congr_left fun x _ => ?_
    by_cases z : x.1 ≤ m
    · rw [if_pos z, if_pos (decide_eq_true z)]
    · rw [if_neg z, if_neg (by simpa using z)]
  rw [e1, e2, Th.cnt_or_not]
theorem Rp.fx (r : Rp ss k D S) (m : Int) : (fxF ss m).sum = Th.cnt k (fun i => S i && !decide (D i ≤ m)) := by
  unfold fxF
  rw [r.here fun d => decide (d > m)]
  refine Th.cnt_congr fun i _ => ?_
  rw [Bool.and_comm]
  congr 1
  by_cases z : D i ≤ m
  · rw [decide_eq_true z, decide_eq_false (by omega)]; rfl
  · rw [decide_eq_false z, decide_eq_true (by omega)]; rfl
theorem Rp.turn (r : Rp ss k D S) : Rp (turnF ss) k D (Th.co S) := by
  refine ⟨fun P => ?_, fun P => ?_⟩
  · have e := r.there P
    unfold turnF
    rw [List.filter_map, List.map_map]
    exact e
  · have e := r.here P
    unfold turnF
    rw [List.filter_map, List.map_map]
    refine Eq.trans e ?_
    refine Th.cnt_congr fun i _ => ?_
    unfold Th.co
    rw [Bool.not_not]
end
/-- who goes at a step -/
def Gd (h t : Int) (k : Nat) (D : Nat → Int) : Nat → Nat → Bool := fun s i => decide (D i ≤ mk h t k (s : Int))
theorem top_lo' (h t : Int) (k : Nat) : 0 ≤ topI h t k := by
  unfold topI
  split <;> omega
theorem top_hi' (h t : Int) {k : Nat} (hk : 0 < k) : topI h t k < (k : Int) := by
  unfold topI
  repeat' split
  all_goals omega
theorem mk_le {h t : Int} {k : Nat} {s s' : Int} (s0 : 0 ≤ s) (a : s ≤ s') (b : s' ≤ topI h t k) : mk h t k s ≤ mk h t k s' := by
  unfold mk topI at *
  repeat' split
  all_goals (repeat' split at b)
  all_goals omega
theorem mk_dn {h t : Int} {k : Nat} {s s' : Int} (c : topI h t k ≤ s) (a : s ≤ s') (d : s' < (k : Int)) : mk h t k s' ≤ mk h t k s := by
  unfold mk topI at *
  repeat' split
  all_goals (repeat' split at c)
  all_goals omega
theorem mk_turn' {h t : Int} {k : Nat} {s : Int} : mk t h k s = mk h t k ((k : Int) - 1 - s) := by
  unfold mk
  split <;> split <;> omega
/-- up to the top the water here bounds -/
theorem mk_low {h t : Int} {k : Nat} {s : Int} (s0 : 0 ≤ s) (b : s < topI h t k) : mk h t k s = h + s := by
  unfold mk topI at *
  repeat' split at b
  all_goals split
  all_goals omega
theorem mk_high {h t : Int} {k : Nat} {s : Int} (s0 : 0 ≤ s) (b : s < (k : Int) - 1 - topI h t k) : mk t h k s = t + s := by
  unfold mk topI at *
  repeat' split at b
  all_goals split
  all_goals omega
theorem top_D (h t : Int) {k : Nat} (D : Nat → Int) (hk : 0 < k) : Th.Top k (Gd h t k D) (topI h t k).toNat := by
  have t0 := top_lo' h t k
  have t1 := top_hi' h t hk
  refine ⟨by omega, fun s s' i a b g => ?_, fun s s' i a b c g => ?_⟩
  · have g' : D i ≤ mk h t k (s : Int) := of_decide_eq_true g
    exact decide_eq_true (Int.le_trans g' (mk_le (by omega) (by omega) (by omega)))
  · have g' : D i ≤ mk h t k (s' : Int) := of_decide_eq_true g
    exact decide_eq_true (Int.le_trans g' (mk_dn (by omega) (by omega) (by omega)))
theorem Gd_turn {h t : Int} {k : Nat} {D : Nat → Int} {s i : Nat} (hs : s < k) : Gd t h k D s i = Th.dual k (Gd h t k D) s i := by
  unfold Gd Th.dual
  rw [mk_turn', show ((k : Int) - 1 - (s : Int)) = ((k - 1 - s : Nat) : Int) by omega]
/-! ### stuck, by sums -/
def StuckF (h t : Int) (ss : List Srt) (N : Nat) : Prop := ourn ss ≤ N ∧ (∀ n : Nat, ourn ss ≤ n → n < N → n < filF ss (mk h t (mny ss) (n : Int))) ∧ filF ss (mk h t (mny ss) (N : Int)) ≤ N
theorem Rp.stuck {ss : List Srt} {k : Nat} {D : Nat → Int} {S : Nat → Bool} (r : Rp ss k D S) (h t : Int) (N : Nat) : StuckF h t ss N ↔ Th.StuckLow k (Gd h t k D) N S := by
  unfold StuckF Th.StuckLow
  rw [r.ourn, r.mny, r.fil]
  have e : ∀ n : Nat, filF ss (Sh.mk h t k (n : Int)) = Th.cnt k (fun i => S i || Gd h t k D n i) := fun n => r.fil _
  simp only [e]
  exact Iff.rfl
end Sh
namespace Th
theorem StuckLow.congr {k : Nat} {G G' : Nat → Nat → Bool} {S : Nat → Bool} {N : Nat} (hN : N < k) (e : ∀ s i, s < k → G s i = G' s i) (h : StuckLow k G N S) : StuckLow k G' N S := by
  have e2 : ∀ n, n < k → cnt k (fun i => S i || G n i) = cnt k (fun i => S i || G' n i) := fun n hn => cnt_congr fun i _ => by rw [e n i hn]
  refine ⟨h.1, fun n a b => ?_, ?_⟩
  · rw [← e2 n (by omega)]
    exact h.2.1 n a b
  · rw [← e2 N hN]
    exact h.2.2
/-- gets to the top's number, and somebody may go there -/
def Open (k : Nat) (G : Nat → Nat → Bool) (T : Nat) (S : Nat → Bool) : Prop := (Rises k G T S ∨ Sinks k G T S) ∧ T < cnt k (fun i => S i || G T i)
theorem Open.congr {k : Nat} {G G' : Nat → Nat → Bool} {T : Nat} {S : Nat → Bool} (hT : T < k) (e : ∀ s i, s < k → G s i = G' s i) (h : Open k G T S) : Open k G' T S := by
  have e2 : ∀ n, n < k → cnt k (fun i => S i || G n i) = cnt k (fun i => S i || G' n i) := fun n hn => cnt_congr fun i _ => by rw [e n i hn]
  have e3 : ∀ n, n < k → cnt k (fun i => S i && !G n i) = cnt k (fun i => S i && !G' n i) := fun n hn => cnt_congr fun i _ => by rw [e n i hn]
  have cl := cnt_le k S
  refine ⟨h.1.imp (fun q => ⟨q.1, fun n a b => ?_⟩) (fun q => ⟨q.1, fun s a b => ?_⟩), ?_⟩
  · rw [← e2 n (by omega)]
    exact q.2 n a b
  · rw [← e3 s (by omega)]
    exact q.2 s a b
  · rw [← e2 T hT]
    exact h.2
theorem cnt_and_or {k : Nat} (S f : Nat → Bool) : cnt k (fun i => S i && !f i) + cnt k f = cnt k (fun i => S i || f i) := by
  have e := cnt_or_not (k := k) f S
  have e1 : (fun i => f i || S i) = (fun i => S i || f i) := funext fun i => Bool.or_comm _ _
  rw [e1] at e
  omega
theorem Open.dual {k : Nat} {G : Nat → Nat → Bool} {T : Nat} {S : Nat → Bool} (t : Top k G T) (h : Open k G T S) : Open k (Th.dual k G) (k - 1 - T) (co S) := by
  have tl := t.lt
  have c0 := cnt_co k S
  have cle := cnt_le k S
  have key : ∀ n, n < k → cnt k (fun i => co S i && !Th.dual k G (k - 1 - n) i) + cnt k (fun i => S i || G n i) = k := fun n hn => by
    have e : (fun i => co S i && !Th.dual k G (k - 1 - n) i) = co (fun i => S i || G n i) := by
      funext i
      have := dual_dual_at (G := G) (k := k) (s := n) hn i
      unfold Th.dual at this
      show (!S i && !G (k - 1 - (k - 1 - n)) i) = !(S i || G n i)
      rw [this]
      cases S i <;> cases G n i <;> rfl
    rw [e, Nat.add_comm]
    exact cnt_co k _
  have key2 : ∀ n, n < k → cnt k (fun i => co S i || Th.dual k G (k - 1 - n) i) + cnt k (fun i => S i && !G n i) = k := fun n hn => by
    have e : (fun i => co S i || Th.dual k G (k - 1 - n) i) = co (fun i => S i && !G n i) := by
      rw [co_or]
      funext i
      have := dual_dual_at (G := G) (k := k) (s := n) hn i
      unfold Th.dual at this
      show (!(S i && !G (k - 1 - (k - 1 - n)) i)) = !(S i && !G n i)
      rw [this]
    rw [e, Nat.add_comm]
    exact cnt_co k _
  obtain ⟨rs, hc⟩ := h
  have hf : cnt k (fun i => S i && !G T i) ≤ T := by
    rcases rs with q | q
    · exact Nat.le_trans (cnt_mono fun i _ w => by revert w; cases S i <;> simp) q.1
    · exact q.2 T (Nat.le_refl _) q.1
  refine ⟨?_, ?_⟩
  · rcases rs with ⟨q1, q2⟩ | ⟨q1, q2⟩
    · refine .inr ⟨by omega, fun s a b => ?_⟩
      have hk := key (k - 1 - s) (by omega)
      rw [show k - 1 - (k - 1 - s) = s by omega] at hk
      have : k - 1 - s < cnt k (fun i => S i || G (k - 1 - s) i) := by
        by_cases z : k - 1 - s = T
        · rw [z]; exact hc
        · exact q2 _ (by omega) (by omega)
      omega
    · refine .inl ⟨by omega, fun n a b => ?_⟩
      have hk := key2 (k - 1 - n) (by omega)
      rw [show k - 1 - (k - 1 - n) = n by omega] at hk
      have := q2 (k - 1 - n) (by omega) (by omega)
      omega
  · have hk := key2 T tl
    omega
/-- how few can come to lie here, of a lot that gets to the top's number -/
theorem open_counts_low {k : Nat} {G : Nat → Nat → Bool} {T n : Nat} {S : Nat → Bool} (t : Top k G T) (h : Open k G T S) (hn : n ≤ T + 1) : (∃ U, Reach k G S U ∧ cnt k U = n) ↔ cnt k (fun i => S i && !G T i) ≤ n ∧ ∀ m, m ≤ T → m + 1 ≤ n + cnt k (G m) := by
  have tl := t.lt
  have hd := h.dual t
  have oc := open_counts (n := k - n) t.dual hd.1 (by omega)
  have e1 : (∃ U, Reach k G S U ∧ cnt k U = n) ↔ ∃ U, Reach k (Th.dual k G) (co S) U ∧ cnt k U = k - n := by
    constructor
    · rintro ⟨U, r, c⟩
      refine ⟨co U, r.dual, ?_⟩
      have := cnt_co k U
      omega
    · rintro ⟨U, r, c⟩
      refine ⟨co U, ?_, ?_⟩
      · refine Reach.codual ?_
        rw [co_co]
        exact r
      · have := cnt_co k U
        omega
  have e2 : cnt k (fun i => co S i || Th.dual k G (k - 1 - T) i) + cnt k (fun i => S i && !G T i) = k := by
    have e : (fun i => co S i || Th.dual k G (k - 1 - T) i) = co (fun i => S i && !G T i) := by
      rw [co_or]
      funext i
      have := dual_dual_at (G := G) (k := k) (s := T) tl i
      unfold Th.dual at this
      show (!(S i && !G (k - 1 - (k - 1 - T)) i)) = !(S i && !G T i)
      rw [this]
    rw [e, Nat.add_comm]
    exact cnt_co k _
  rw [e1, oc]
  constructor
  · rintro ⟨a, b⟩
    refine ⟨by omega, fun m hm => ?_⟩
    have := b (k - 1 - m) (by omega) (by omega)
    unfold Th.dual at this
    rw [show k - 1 - (k - 1 - m) = m by omega] at this
    have this' : k - n ≤ k - 1 - m + cnt k (G m) := this
    omega
  · rintro ⟨a, b⟩
    refine ⟨by omega, fun s hs hk => ?_⟩
    have := b (k - 1 - s) (by omega)
    show k - n ≤ s + cnt k (G (k - 1 - s))
    omega
def IsMin (k : Nat) (G : Nat → Nat → Bool) (S : Nat → Bool) (n : Nat) : Prop := (∃ U, Reach k G S U ∧ cnt k U = n) ∧ ∀ U, Reach k G S U → n ≤ cnt k U
def IsMax (k : Nat) (G : Nat → Nat → Bool) (S : Nat → Bool) (n : Nat) : Prop := (∃ U, Reach k G S U ∧ cnt k U = n) ∧ ∀ U, Reach k G S U → cnt k U ≤ n
theorem IsMin.co {k : Nat} {G : Nat → Nat → Bool} {S : Nat → Bool} {n : Nat} (h : IsMin k (Th.dual k G) (co S) n) : n ≤ k ∧ IsMax k G S (k - n) := by
  obtain ⟨⟨U, r, c⟩, hm⟩ := h
  have cu := cnt_le k U
  refine ⟨by omega, ⟨Th.co U, ?_, ?_⟩, fun W rW => ?_⟩
  · refine Reach.codual ?_
    rw [co_co]
    exact r
  · have := cnt_co k U
    omega
  · have := hm _ rW.dual
    have := cnt_co k W
    omega
theorem IsMin.congr {k : Nat} {G G' : Nat → Nat → Bool} {S : Nat → Bool} {n : Nat} (e : ∀ s i, s < k → G s i = G' s i) (h : IsMin k G S n) : IsMin k G' S n := by
  obtain ⟨⟨U, r, c⟩, hm⟩ := h
  exact ⟨⟨U, r.congr e, c⟩, fun W rW => hm W (rW.congr fun s i hs => (e s i hs).symm)⟩
theorem stuck_min_high {k : Nat} {G : Nat → Nat → Bool} {T N : Nat} {S : Nat → Bool} (t : Top k G T) (hN : N ≤ T) (h : StuckLow k G N S) : IsMax k G S N := by
  obtain ⟨U, r, c, _⟩ := h.full t hN
  exact ⟨⟨U, r, c⟩, fun W rW => (h.under t hN rW).1⟩
end Th
namespace Sh
/-! ### the least number, as it's told -/
/-- m is the greatest of what least_in looks at -/
def LeastI (h t : Int) (ss : List Srt) (step : Int) (m : Int) : Prop :=
  (m = ((fxF ss (mk h t (mny ss) step)).sum : Int) ∨ ∃ e : Int, (e = step ∨ (∃ x ∈ ss, e = x.1 - h ∧ e < step)) ∧ 0 < e ∧ m = e - (gmF ss (mk h t (mny ss) (e - 1)) : Int)) ∧
  ((fxF ss (mk h t (mny ss) step)).sum : Int) ≤ m ∧ ∀ e : Int, (e = step ∨ (∃ x ∈ ss, e = x.1 - h ∧ e < step)) → 0 < e → e - (gmF ss (mk h t (mny ss) (e - 1)) : Int) ≤ m
/-- the ends are enough -/
theorem least_ends {h t : Int} {ss : List Srt} {N : Nat} {m0 : Int} (hm : ∀ m : Nat, m < N → mk h t (mny ss) (m : Int) = h + m)
    (ub : ∀ e : Int, (e = (N : Int) ∨ (∃ x ∈ ss, e = x.1 - h ∧ e < (N : Int))) → 0 < e → e - (gmF ss (mk h t (mny ss) (e - 1)) : Int) ≤ m0) :
    ∀ (j m : Nat), m < N → N - m = j → (m : Int) + 1 - (gmF ss (mk h t (mny ss) (m : Int)) : Int) ≤ m0 := by
  intro j
  induction j with
  | zero => intro m a b; omega
  | succ j ih =>
    intro m a b
    by_cases z : m + 1 = N
    · have := ub N (.inl rfl) (by omega)
      rw [show (N : Int) - 1 = (m : Int) by omega] at this
      omega
    · by_cases q : ∃ x ∈ ss, x.1 - h = (m : Int) + 1
      · obtain ⟨x, hx, e⟩ := q
        have := ub ((m : Int) + 1) (.inr ⟨x, hx, e.symm, by omega⟩) (by omega)
        rw [show (m : Int) + 1 - 1 = (m : Int) by omega] at this
        exact this
      · have i2 := ih (m + 1) (by omega) (by omega)
        rw [hm (m + 1) (by omega)] at i2
        rw [hm m a]
        have e : gmF ss (h + ((m + 1 : Nat) : Int)) = gmF ss (h + (m : Int)) := by
          unfold gmF
          congr 2
          refine List.filter_congr fun x hx => ?_
          rw [decide_eq_decide]
          have : ¬ x.1 - h = (m : Int) + 1 := fun w => q ⟨x, hx, w⟩
          omega
        rw [e] at i2
        omega
section
variable {ss : List Srt} {k : Nat} {D : Nat → Int} {S : Nat → Bool} {h t : Int}
theorem least_low (r : Rp ss k D S) {T N : Nat} (tp : Th.Top k (Gd h t k D) T) (hN : N ≤ T) (sl : Th.StuckLow k (Gd h t k D) N S) (hm : ∀ m : Nat, m < N → mk h t k (m : Int) = h + m) {m0 : Int} (L : LeastI h t ss (N : Int) m0) :
    ∃ n : Nat, m0 = (n : Int) ∧ Th.IsMin k (Gd h t k D) S n := by
  obtain ⟨l1, l2, l3⟩ := L
  have km := r.mny
  have hends := least_ends (h := h) (t := t) (ss := ss) (N := N) (by rw [km]; exact hm) l3
  have efx := r.fx (mk h t (mny ss) (N : Int))
  rw [km] at efx hends l1 l2 l3
  have gme : ∀ m : Nat, gmF ss (mk h t k (m : Int)) = Th.cnt k (Gd h t k D m) := fun m => r.gm _
  have fxle : (fxF ss (mk h t k (N : Int))).sum ≤ Th.cnt k S := by
    rw [efx]
    exact Th.cnt_mono fun i _ w => by revert w; cases S i <;> simp
  have m0N : m0 ≤ (N : Int) := by
    have := sl.1
    rcases l1 with e | ⟨e, he, e0, e1⟩
    · omega
    · rcases he with he | ⟨x, _, _, he⟩ <;> omega
  have cond : ∀ m, m < N → m + 1 ≤ m0.toNat + Th.cnt k (Gd h t k D m) := fun m a => by
    have := hends _ m a rfl
    rw [gme] at this
    omega
  refine ⟨m0.toNat, by omega, (Th.low_counts sl tp hN (by omega)).mpr cond, fun U rU => ?_⟩
  have ur := sl.under tp hN rU
  have lc := (Th.low_counts sl tp hN ur.1).mp ⟨U, rU, rfl⟩
  rcases l1 with e | ⟨e, he, e0, e1⟩
  · have : Th.cnt k (fun i => S i && !Gd h t k D N i) ≤ Th.cnt k U := Th.cnt_mono fun i hi w => by
      have := ur.2 i hi
      revert w this
      cases S i <;> cases U i <;> cases Gd h t k D N i <;> simp
    have e3 : (fxF ss (mk h t k (N : Int))).sum = Th.cnt k (fun i => S i && !Gd h t k D N i) := efx
    omega
  · have eN : e ≤ (N : Int) := by rcases he with he | ⟨x, _, _, he⟩ <;> omega
    have := lc (e - 1).toNat (by omega)
    rw [show e - 1 = (((e - 1).toNat : Nat) : Int) by omega, gme] at e1
    omega
theorem least_open (r : Rp ss k D S) {T : Nat} (tp : Th.Top k (Gd h t k D) T) (op : Th.Open k (Gd h t k D) T S) (hm : ∀ m : Nat, m < T → mk h t k (m : Int) = h + m) {m0 : Int} (L : LeastI h t ss (T : Int) m0) :
    ∃ n : Nat, m0 = (n : Int) ∧ Th.IsMin k (Gd h t k D) S n := by
  obtain ⟨l1, l2, l3⟩ := L
  have km := r.mny
  have hends := least_ends (h := h) (t := t) (ss := ss) (N := T) (by rw [km]; exact hm) l3
  have efx := r.fx (mk h t (mny ss) (T : Int))
  rw [km] at efx hends l1 l2 l3
  have e3 : (fxF ss (mk h t k (T : Int))).sum = Th.cnt k (fun i => S i && !Gd h t k D T i) := efx
  have gme : ∀ m : Nat, gmF ss (mk h t k (m : Int)) = Th.cnt k (Gd h t k D m) := fun m => r.gm _
  have fT : Th.cnt k (fun i => S i && !Gd h t k D T i) ≤ T := by
    rcases op.1 with q | q
    · exact Nat.le_trans (Th.cnt_mono fun i _ w => by revert w; cases S i <;> simp) q.1
    · exact q.2 T (Nat.le_refl _) q.1
  have m0N : m0 ≤ (T : Int) := by
    rcases l1 with e | ⟨e, he, e0, e1⟩
    · omega
    · rcases he with he | ⟨x, _, _, he⟩ <;> omega
  have ca := Th.cnt_and_or (k := k) S (Gd h t k D T)
  have opc := op.2
  refine ⟨m0.toNat, by omega, (Th.open_counts_low tp op (by omega)).mpr ⟨by omega, fun m a => ?_⟩, fun U rU => ?_⟩
  · by_cases z : m = T
    · subst z
      omega
    · have := hends _ m (by omega) rfl
      rw [gme] at this
      omega
  · by_cases z : Th.cnt k U ≤ T + 1
    · have lc := (Th.open_counts_low tp op z).mp ⟨U, rU, rfl⟩
      rcases l1 with e | ⟨e, he, e0, e1⟩
      · have := lc.1
        omega
      · have eN : e ≤ (T : Int) := by rcases he with he | ⟨x, _, _, he⟩ <;> omega
        have := lc.2 (e - 1).toNat (by omega)
        rw [show e - 1 = (((e - 1).toNat : Nat) : Int) by omega, gme] at e1
        omega
    · omega
end
end Sh

namespace Sh
open PySem PySem.Spec PyProof.Rows L2
theorem may_May {h t : Int} {ds : List Int} {L : List Nat} {i : Nat} (hL : Lot ds.length L) (hi : i < ds.length) : mayB h t ds L i = true ↔ Th.May ds.length (Gof h t ds) (mem L) i := by
  rw [may_G, near_cnt hL hi]
  unfold Th.May
  rw [cnt_mem hL]
  unfold mem
  by_cases z : i ∈ L
  · rw [if_pos z, decide_eq_true z, if_pos rfl]
  · rw [if_neg z, decide_eq_false z, if_neg Bool.false_ne_true]
/-- the lot of a set -/
def lotOf (c : Nat) (U : Nat → Bool) : List Nat := (List.range c).filter U
theorem lotOf_lot (c : Nat) (U : Nat → Bool) : Lot c (lotOf c U) := (Lot.all c).filter _
theorem lotOf_mem {c : Nat} {U : Nat → Bool} {i : Nat} (hi : i < c) : mem (lotOf c U) i = U i := by
  unfold mem lotOf
  rw [Bool.eq_iff_iff, decide_eq_true_eq, List.mem_filter, List.mem_range]
  exact ⟨fun q => q.2, fun q => ⟨hi, q⟩⟩
theorem lotOf_eq {h t : Int} {ds : List Int} {L : List Nat} {U : Nat → Bool} (hL : Lot ds.length L) (r : Th.Reach ds.length (Gof h t ds) (mem L) U) : mem (lotOf ds.length U) = U := by
  funext i
  by_cases hi : i < ds.length
  · exact lotOf_mem hi
  · rw [Th.reach_out r i hi, mem_out hL hi, mem_out (lotOf_lot _ _) hi]
/-- to be one of those that ever go, by lots or by sets -/
theorem ex_moves {h t : Int} {ds : List Int} {L : List Nat} (hL : Lot ds.length L) {i : Nat} (hi : i < ds.length) : (∃ M, Lot ds.length M ∧ Rl h t ds L M ∧ mayB h t ds M i = true) ↔ Th.Moves ds.length (Gof h t ds) (mem L) i := by
  constructor
  · rintro ⟨M, l, r, m⟩
    exact ⟨mem M, r, (may_May l hi).mp m⟩
  · rintro ⟨U, r, m⟩
    have e := lotOf_eq hL r
    refine ⟨lotOf ds.length U, lotOf_lot _ _, ?_, ?_⟩
    · unfold Rl
      rw [e]
      exact r
    · rw [may_May (lotOf_lot _ _) hi, e]
      exact m
theorem movers_moves {h t : Int} {ds : List Int} {L ms : List Nat} (hL : Lot ds.length L) (im : IsMovers h t ds L ms) {i : Nat} (hi : i < ds.length) : i ∈ ms ↔ Th.Moves ds.length (Gof h t ds) (mem L) i := by
  rw [im.2 i hi, ex_moves hL hi]
/-- the most, the least, by sets -/
theorem isMost_of {h t : Int} {ds : List Int} {L : List Nat} {n : Nat} (hL : Lot ds.length L) (q : Th.IsMax ds.length (Gof h t ds) (mem L) n) : IsMost h t ds L n := by
  obtain ⟨⟨U, r, c⟩, hm⟩ := q
  have e := lotOf_eq hL r
  refine ⟨⟨lotOf ds.length U, lotOf_lot _ _, ?_, ?_⟩, fun M l rM => ?_⟩
  · unfold Rl
    rw [e]
    exact r
  · rw [← cnt_mem (lotOf_lot _ _), e]
    exact c
  · rw [← cnt_mem l]
    exact hm _ rM
theorem isLeast_of {h t : Int} {ds : List Int} {L : List Nat} {n : Nat} (hL : Lot ds.length L) (q : Th.IsMin ds.length (Gof h t ds) (mem L) n) : IsLeast h t ds L n := by
  obtain ⟨⟨U, r, c⟩, hm⟩ := q
  have e := lotOf_eq hL r
  refine ⟨⟨lotOf ds.length U, lotOf_lot _ _, ?_, ?_⟩, fun M l rM => ?_⟩
  · unfold Rl
    rw [e]
    exact r
  · rw [← cnt_mem (lotOf_lot _ _), e]
    exact c
  · rw [← cnt_mem l]
    exact hm _ rM
end Sh

/-! set(xs) of a list of ints, by the walk of the list -/
namespace Sh
open PySem PySem.Spec PyProof.Rows L2
section
variable {P : Program} {w : World} {A : Around} {E : Value → Shared → Prop} {s : Shared}
/-- a set as it is born -/
abbrev Bare (w : World) : Obj := { cls := .type "set", dict := none, data := .set #[] 0 (.fresh 0 0 (!w.params.followText "set-order")) }
/-- what is left: a set of the ints; all that stood stands -/
def Made (w : World) (s : Shared) (ns : List Int) (t : Shared) : Prop := ∃ (h' : Heap) (tk c : Nat), t = { s with heap := h', toks := tk } ∧ SetR w h' s.heap.objs.size (fun j => decide (j ∈ ns)) c ∧ c ≤ ns.length ∧ ∀ b o, s.heap.get? b = some o → h'.get? b = some o
/-- the ints of the list, one by one, into the set that was born at the end of the heap -/
theorem fill_lst {A3 : Around} {l : Addr} {items : Array Value} {ns : List Int} {R : Result → Shared → Prop} (hh : A3.in1.handled = none) (hl : s.heap.IsList l items) (hit : IntsAre items.toList ns) (hb : ns.length + 1 < scanBound)
    (hR : ∀ t, Made w s ns t → R (.ok (.ret .none)) t) :
    codeAny (model P w) A3 (.builtin "set.update.loop" ⟨[.ref s.heap.objs.size, .ref (s.heap.push (Bare w)).objs.size], []⟩) R { s with heap := (s.heap.push (Bare w)).push { cls := .type "list_iterator", data := .fields #[.ref l, .int 0 0] } } := by
  have n1 : items.size = ns.length := by rw [← Array.length_toList]; exact hit.length
  obtain ⟨ol, e1, e2, e3⟩ := id hl
  have l1 : l < s.heap.objs.size := Heap.lt_size e1
  have z1 : (s.heap.push (Bare w)).objs.size = s.heap.objs.size + 1 := Heap.size_push ..
  have l2 : l ≠ (s.heap.push (Bare w)).objs.size := by rw [z1]; exact Nat.ne_of_lt (Nat.lt_succ_of_lt l1)
  have vals : ∀ (i : Nat) (v : Value), items[i]? = some v → ∃ k t, ns[i]? = some k ∧ v = .int k t := by
    intro i v hv
    have hi : i < ns.length := n1 ▸ (Array.getElem?_eq_some_iff.mp hv).1
    obtain ⟨t, e⟩ := IntsAre.int_at hit i v (by rw [Array.getElem?_toList]; exact hv)
    exact ⟨ns[i], t, List.getElem?_eq_getElem hi, by rw [e, List.getD_eq_getElem?_getD, List.getElem?_eq_getElem hi]; rfl⟩
  have born : ((s.heap.push (Bare w)).push { cls := .type "list_iterator", data := .fields #[.ref l, .int 0 0] }).get? s.heap.objs.size = some (Bare w) := Heap.get?_push_of_some _ (Heap.get?_push_size _ rfl)
  refine set_update_ints ((Walks.list hh _ l l2 items).toS) s.heap.objs.size (by rw [z1]; simp only [List.mem_cons, List.not_mem_nil, or_false, not_or]; exact ⟨Nat.ne_of_lt (Nat.lt_succ_self _), Nat.ne_of_gt l1⟩) ns n1 hb vals (items.size - 0) 0 _ (by omega) (Nat.zero_le _) ⟨⟨_, Heap.get?_push_size _ rfl, rfl, rfl⟩, (hl.push _).push _⟩ ⟨0, Nat.le_refl 0, setR_new_at born⟩ ?_
  rintro ⟨h', g2, d', tk', os'⟩ c' mv hc' hS'
  obtain rfl : g2 = s.gens := mv.gens
  obtain rfl : d' = s.drawn := mv.drawn
  obtain rfl : os' = s.os := mv.os
  refine hR _ ⟨h', tk', c', rfl, hS', by omega, fun b o e => ?_⟩
  have b0 := Heap.lt_size e
  exact mv.heap b o (by rw [z1]; simp only [List.mem_cons, List.not_mem_nil, or_false, not_or]; exact ⟨Nat.ne_of_lt b0, Nat.ne_of_lt (Nat.lt_succ_of_lt b0)⟩) (Heap.get?_push_of_some _ (Heap.get?_push_of_some _ e))
set_option maxHeartbeats 4000000 in
/-- set(xs) -/
theorem call_set_lst {l : Addr} {items : Array Value} {ns : List Int} {Q : Value → Shared → Prop} (hh : A.handled = none) (hl : s.heap.IsList l items) (hit : IntsAre items.toList ns) (hb : ns.length + 1 < scanBound)
    (h : ∀ t, Made w s ns t → Q (.ref s.heap.objs.size) t) : wpAny (model P w) A (call (.type "set") [.ref l]) Q E s := by
  have ⟨_, _, m1⟩ := F.called_set.mro; have m2 := F.called_set.made; have m3 := F.called_set.sub; have m4 := F.called_set.notType; have m5 := F.called_set.canCreate; have m6 := F.typeCall_set_1 (.ref l)
  refine wpAny_call (codeAny_of_tree (show wpAny _ _ (callAny (.type "set") _) _ _ _ from wpAny_pure ⟨Code.quiet_builtin _ (by decide +kernel), codeAny_builtin F.entry_type_call ?_⟩))
  rw [Around.under_plain (weight_type_call_type "set" [.ref l] []) rfl]
  repeat (any_goals (first | assumption | wp_step))
  refine codeAny_mono (code_set_led1 (.ref l) (E := E) (Q₁ := fun x t => x = .ref s.heap.objs.size ∧ t = { s with heap := s.heap.push (Bare w) }) ⟨rfl, rfl⟩) fun r t hr => ?_
  rcases r with e | fl
  · exact hr
  · rcases fl with x | _ | _ | _
    all_goals try exact hr.elim
    obtain ⟨rfl, rfl⟩ := hr
    have born : (s.heap.push (Bare w)).get? s.heap.objs.size = some (Bare w) := Heap.get?_push_size _ rfl
    have ty : Shared.TypeIs { s with heap := s.heap.push (Bare w) } (.ref s.heap.objs.size) "set" := ⟨_, born, rfl⟩
    have i1 := F.called_set.init.lookup; have i2 := F.called_set.init.bind (.ref s.heap.objs.size)
    repeat (any_goals (first | assumption | wp_step))
    refine codeAny_mono (codeAny_call_builtin (R := wants (fun x t => x = .none ∧ Made w s ns t) E) F.called_set.init.plain F.entry_set_init (check_set_init_1 ty ?_)) fun r2 t2 hr2 => ?_
    · obtain ⟨⟨ocls, odict, odata, oslots⟩, e1, e2, nl, e3⟩ := id hl
      simp only at e2 e3
      subst e2 e3
      have l1 : (s.heap.push (Bare w)).IsList l items := hl.push _
      have e4 : (s.heap.push (Bare w)).get? l = some { cls := .type "list", dict := odict, data := .seq items nl, slots := oslots } := Heap.get?_push_of_some _ e1
      have f1 := F.sub_list_set; have f2 := F.sub_list_frozenset; have f3 : (Value.type "list" == Value.type "dict") = false := by decide
      unfold Builtin.«set.__init__» noKeywords Builtin.Frozenset.updateFrom
      generalize eI : pyIter = it; wp_walk; subst eI
      refine wpAny_pyIter_list l1 (wpAny_bind (wpAny_runValue (fill_lst (by simp [hh]) hl hit hb fun t m => ?_)))
      exact wpAny_pure (wpAny_pure ⟨rfl, m⟩)
    · rcases r2 with e | fl
      · exact hr2
      · rcases fl with x | _ | _ | _
        all_goals try exact hr2.elim
        obtain ⟨rfl, m⟩ := hr2
        repeat (any_goals (first | assumption | wp_step))
        exact h _ m
/-- the members, each once -/
theorem SetR.keys {h : Heap} {a : Addr} {ns : List Int} {c : Nat} (R : SetR w h a (fun j => decide (j ∈ ns)) c) : ∃ ks : List Int, ks.Nodup ∧ (∀ k, k ∈ ks ↔ k ∈ ns) ∧ c = ks.length := by
  obtain ⟨o, es, ep, t, _, _, _, _, nd, hm, _, _, hn, _⟩ := R
  refine ⟨es.toList.map keyOf, nd, fun k => ?_, ?_⟩
  · rw [← hm k, decide_eq_true_eq]
  · rw [List.length_map, Array.length_toList, hn]
/-- set(xs) of a list or a tuple of ints, as a thing that stands -/
def rSetA (K : PySem.W.Frag) (w : World) : List V → Hp → VK → Prop := fun xs H Q => ∃ (q : Addr) (ns : List Int), xs = [.ref q] ∧ SqA K H q (ns.map V.int) ∧ ns.length ≤ 1000 ∧ ∀ (a : Addr) (ks : List Int), H a = none → ks.Nodup → (∀ k, k ∈ ks ↔ k ∈ ns) → Q (.ref a) (upd H a (SetO w a (fun j => decide (j ∈ ns)) ks.length))
theorem cr_setA {X : Cx} (hc : X.calm = true) : CallR X (.type "set") (rSetA X.K X.w) := by
  intro pins s σ H xs us Q I r h
  obtain ⟨q, ns, rfl, hq | hq, hl, k⟩ := h
  · rw [Vals.ref1 r]
    obtain ⟨its, rv, pl, hz⟩ := I.list hq
    refine call_set_lst (ns := ns) (I.ok.hd hc) pl.isList (ints_of_vals rv) (by unfold scanBound; omega) ?_
    rintro t ⟨h', tk, c, rfl, R1, hcn, kk⟩
    obtain ⟨ks, k1, k2, rfl⟩ := SetR.keys R1
    exact ⟨.ref _, upd H s.heap.objs.size (SetO X.w s.heap.objs.size _ ks.length), I.laid (t' := tk) kk (Nat.le_refl _) (setO_new R1), rfl, k _ _ (I.hok.fresh (Nat.le_refl _)) k1 k2⟩
  · rw [Vals.ref1 r]
    obtain ⟨its, rv, pt, hz⟩ := I.tuple hq
    refine call_set_tupI ns (I.ok.hd hc) (show s.heap.IsTuple q its.toArray from pt) (ints_of_vals rv) (by unfold scanBound; omega) fun h' tk c R1 hcn kk => ?_
    obtain ⟨ks, k1, k2, rfl⟩ := SetR.keys R1
    exact ⟨.ref _, upd H s.heap.objs.size (SetO X.w s.heap.objs.size _ ks.length), I.laid (t' := tk) kk (Nat.le_refl _) (setO_new R1), rfl, k _ _ (I.hok.fresh (Nat.le_refl _)) k1 k2⟩
theorem cr_setAw {X : Cx} (w : World) (hc : X.calm = true) (hw : X.w = w := by rfl) : CallR X (.type "set") (rSetA X.K w) := hw ▸ cr_setA hc
end
end Sh

namespace Sh
open PySem PySem.Spec PyProof.Rows L2
/-! ### what is told: seas and standings -/
/-- a standing told: a tuple that is read -/
def LotT (K : PySem.W.Frag) (H : Hp) (v : V) (L : List Nat) : Prop := ∃ p, v = .ref p ∧ SqT K H p (ni L)
theorem LotT.a {K : PySem.W.Frag} {H : Hp} {v : V} {L : List Nat} (h : LotT K H v L) : LotA K H v L := let ⟨p, e, q⟩ := h; ⟨p, e, .inr q⟩
theorem LotT.same {K : PySem.W.Frag} {H H' : Hp} {v : V} {L : List Nat} (h : LotT K H v L) (s : Same H H') : LotT K H' v L := let ⟨p, e, q⟩ := h; ⟨p, e, Same.tup s q⟩
theorem tup_but {K : PySem.W.Frag} {H H' : Hp} {b p : Addr} {n : Nat} {xs : List V} (q : SqT K H p xs) (x : BoxAt H b n) (u : But b H H') : SqT K H' p xs := by
  obtain ⟨ys, hb, _⟩ := x
  rcases q with (q | ⟨o, q⟩) | q
  · exact .inl (.inl (u _ _ (ne_of q hb (by intro z; cases z)) q))
  · exact .inl (.inr ⟨o, u _ _ (ne_of q hb (by intro z; cases z)) q⟩)
  · exact .inr q
theorem LotT.but {K : PySem.W.Frag} {H H' : Hp} {b : Addr} {n : Nat} {v : V} {L : List Nat} (h : LotT K H v L) (x : BoxAt H b n) (u : But b H H') : LotT K H' v L := let ⟨p, e, q⟩ := h; ⟨p, e, tup_but q x u⟩
theorem LotT.dp {K : PySem.W.Frag} {H : Hp} {v : V} {L : List Nat} (h : LotT K H v L) : Dp K H v (.tuple ((L.map fun (i : Nat) => (i : Int)).map .int)) := by
  obtain ⟨p, e, q⟩ := h
  rw [e]
  rw [ni_ints] at q
  exact .tup q (DpAll.ints _)
/-- a sea told -/
def SeaT (K : PySem.W.Frag) (H : Hp) (v : V) (h t : Int) (ds : List Int) : Prop := ∃ p q, v = .ref p ∧ SqT K H p [.int h, .int t, .ref q] ∧ SqT K H q (ds.map V.int)
theorem SeaT.a {K : PySem.W.Frag} {H : Hp} {v : V} {h t : Int} {ds : List Int} (s : SeaT K H v h t ds) : SeaA K H v h t ds := let ⟨p, q, e, a, b⟩ := s; ⟨p, q, e, .inr a, .inr b⟩
theorem SeaT.same {K : PySem.W.Frag} {H H' : Hp} {v : V} {h t : Int} {ds : List Int} (s : SeaT K H v h t ds) (e : Same H H') : SeaT K H' v h t ds := let ⟨p, q, e1, a, b⟩ := s; ⟨p, q, e1, Same.tup e a, Same.tup e b⟩
theorem SeaT.but {K : PySem.W.Frag} {H H' : Hp} {b : Addr} {n : Nat} {v : V} {h t : Int} {ds : List Int} (s : SeaT K H v h t ds) (x : BoxAt H b n) (u : But b H H') : SeaT K H' v h t ds := let ⟨p, q, e1, a, c⟩ := s; ⟨p, q, e1, tup_but a x u, tup_but c x u⟩
theorem SeaT.dp {K : PySem.W.Frag} {H : Hp} {v : V} {h t : Int} {ds : List Int} (s : SeaT K H v h t ds) : Dp K H v (.tuple [.int h, .int t, .tuple (ds.map .int)]) := by
  obtain ⟨p, q, e, a, b⟩ := s
  rw [e]
  exact .tup a (.cons (.int _) (.cons (.int _) (.cons (.tup b (DpAll.ints _)) .nil)))
end Sh

namespace Th
section
variable {k : Nat} {G : Nat → Nat → Bool} {S U : Nat → Bool}
/-- what lies beyond the ships doesn't matter -/
theorem Reach.ext (h : Reach k G S U) : ∀ {S' U' : Nat → Bool}, (∀ i, i < k → S' i = S i) → (∀ i, i < k → U' i = U i) → (∀ i, ¬ i < k → U' i = S' i) → Reach k G S' U' := by
  induction h with
  | refl =>
    intro S' U' a b c
    have : U' = S' := by
      funext i
      by_cases hi : i < k
      · rw [b i hi, a i hi]
      · exact c i hi
    rw [this]
    exact .refl _
  | @step B W r s ih =>
    intro S' U' a b c
    have r' := ih (S' := S') (U' := fun i => if i < k then B i else S' i) a (fun i hi => by show (if i < k then B i else S' i) = B i; rw [if_pos hi]) (fun i hi => by show (if i < k then B i else S' i) = S' i; rw [if_neg hi])
    refine r'.step ?_
    have cB : cnt k (fun i => if i < k then B i else S' i) = cnt k B := cnt_congr fun i hi => by show (if i < k then B i else S' i) = B i; rw [if_pos hi]
    have fl : ∀ i, i < k → W = flip B i → U' = flip (fun i => if i < k then B i else S' i) i := fun i hi e => by
      funext j
      by_cases hj : j < k
      · rw [b j hj, e]
        by_cases z : j = i
        · subst z
          rw [flip_self, flip_self]
          show _ = !(if j < k then B j else S' j)
          rw [if_pos hj]
        · rw [flip_ne _ z, flip_ne _ z]
          show _ = (if j < k then B j else S' j)
          rw [if_pos hj]
      · rw [c j hj, flip_ne _ (show j ≠ i by omega)]
        show _ = (if j < k then B j else S' j)
        rw [if_neg hj]
    cases s with
    | @up i hi hs hg =>
      rw [fl i hi rfl]
      exact .up hi (by show (if i < k then B i else S' i) = false; rw [if_pos hi]; exact hs) (by rw [cB]; exact hg)
    | @dn i hi hs hg =>
      rw [fl i hi rfl]
      exact .dn hi (by show (if i < k then B i else S' i) = true; rw [if_pos hi]; exact hs) (by rw [cB]; exact hg)
end
end Th
namespace Sh
open PySem PySem.Spec PyProof.Rows L2
theorem away_away {c : Nat} {L : List Nat} (h : Lot c L) : away c (away c L) = L := lot_ext (away_lot c _) h fun i hi => by rw [mem_away hi, mem_away hi, Bool.not_not]
theorem away_len {c : Nat} {L : List Nat} (h : Lot c L) : (away c L).length + L.length = c := by
  rw [← cnt_mem h, ← cnt_mem (away_lot c L), Th.cnt_congr (S := mem (away c L)) (U := Th.co (mem L)) fun i hi => mem_away hi]
  have := Th.cnt_co c (mem L)
  omega
theorem gof_turn {h t : Int} {ds : List Int} {s i : Nat} (hs : s < ds.length) : Th.dual ds.length (Gof h t ds) s i = Gof t h ds s i := by
  unfold Th.dual Gof
  rw [mk_turn hs]
theorem rl_turn {h t : Int} {ds : List Int} {L M : List Nat} (hL : Lot ds.length L) (hM : Lot ds.length M) (r : Rl h t ds L M) : Rl t h ds (away ds.length L) (away ds.length M) := by
  have r2 := (Th.Reach.dual r).congr (G' := Gof t h ds) fun s i hs => gof_turn hs
  exact r2.ext (fun i hi => mem_away hi) (fun i hi => mem_away hi) (fun i hi => by rw [mem_out (away_lot _ _) hi, mem_out (away_lot _ _) hi])
theorem near_away {c : Nat} {L : List Nat} (h : Lot c L) {i : Nat} (hi : i < c) : near (away c L) i = c - 1 - near L i := by
  have l1 := away_len h
  have l2 := h.len
  rw [near_cnt h hi, near_cnt (away_lot c L) hi]
  have m := mem_away (L := L) hi
  unfold mem at m
  by_cases z : i ∈ L
  · have z2 : ¬ i ∈ away c L := fun q => by rw [decide_eq_true q, decide_eq_true z] at m; cases m
    have lp : 0 < L.length := List.length_pos_iff.mpr (List.ne_nil_of_mem z)
    rw [if_pos z, if_neg z2]
    omega
  · have z2 : i ∈ away c L := by
      rw [decide_eq_false z] at m
      exact of_decide_eq_true m
    rw [if_neg z, if_pos z2]
    omega
theorem may_turn {h t : Int} {ds : List Int} {L : List Nat} (hL : Lot ds.length L) {i : Nat} (hi : i < ds.length) : mayB t h ds (away ds.length L) i = mayB h t ds L i := by
  rw [may_G, may_G, near_away hL hi]
  have hn : near L i < ds.length := by
    have l2 := hL.len
    rw [near_cnt hL hi]
    split
    · omega
    · rename_i z
      have : L.length ≠ ds.length := fun e => by
        have l1 := away_len hL
        have e0 : away ds.length L = [] := List.eq_nil_of_length_eq_zero (by omega)
        have m := mem_away (L := L) hi
        unfold mem at m
        rw [e0, decide_eq_false z] at m
        simp at m
      omega
  unfold Gof
  rw [mk_turn (h := h) (t := t) (by omega), show ds.length - 1 - (ds.length - 1 - near L i) = near L i by omega]
theorem most_turn {h t : Int} {ds : List Int} {L : List Nat} {m : Nat} (hL : Lot ds.length L) (a : IsLeast h t ds L m) : IsMost t h ds (away ds.length L) (ds.length - m) := by
  obtain ⟨⟨M, l1, r1, e1⟩, h1⟩ := a
  refine ⟨⟨away ds.length M, away_lot _ _, rl_turn hL l1 r1, ?_⟩, fun M' l2 r2 => ?_⟩
  · have := away_len l1
    omega
  · have r3 := rl_turn (away_lot _ _) l2 r2
    rw [away_away hL] at r3
    have := h1 _ (away_lot _ _) r3
    have := away_len l2
    omega
theorem least_turn {h t : Int} {ds : List Int} {L : List Nat} {m : Nat} (hL : Lot ds.length L) (a : IsMost h t ds L m) : IsLeast t h ds (away ds.length L) (ds.length - m) := by
  obtain ⟨⟨M, l1, r1, e1⟩, h1⟩ := a
  refine ⟨⟨away ds.length M, away_lot _ _, rl_turn hL l1 r1, ?_⟩, fun M' l2 r2 => ?_⟩
  · have := away_len l1
    omega
  · have r3 := rl_turn (away_lot _ _) l2 r2
    rw [away_away hL] at r3
    have := h1 _ (away_lot _ _) r3
    have := away_len l2
    omega
theorem movers_turn {h t : Int} {ds : List Int} {L ms : List Nat} (hL : Lot ds.length L) (a : IsMovers h t ds L ms) : IsMovers t h ds (away ds.length L) ms := by
  refine ⟨a.1, fun i hi => ?_⟩
  rw [a.2 i hi]
  constructor
  · rintro ⟨M, l, r, m⟩
    exact ⟨away ds.length M, away_lot _ _, rl_turn hL l r, by rw [may_turn l hi]; exact m⟩
  · rintro ⟨M, l, r, m⟩
    have r3 := rl_turn (away_lot _ _) l r
    rw [away_away hL] at r3
    exact ⟨away ds.length M, away_lot _ _, r3, by rw [may_turn l hi]; exact m⟩
/-! ### rows of crossings -/
def goes (h t : Int) (ds : List Int) : List Nat → List Nat → Option (List Nat)
  | L, [] => some L
  | L, i :: r => if i < ds.length ∧ mayB h t ds L i = true then goes h t ds (gone L i) r else none
theorem goes_app {h t : Int} {ds : List Int} : ∀ {r : List Nat} {L M : List Nat} (s : List Nat), goes h t ds L r = some M → goes h t ds L (r ++ s) = goes h t ds M s
  | [], L, M, s, e => by
    cases e
    rfl
  | i :: r, L, M, s, e => by
    unfold goes at e
    by_cases c : i < ds.length ∧ mayB h t ds L i = true
    · rw [if_pos c] at e
      show (if i < ds.length ∧ mayB h t ds L i = true then goes h t ds (gone L i) (r ++ s) else none) = _
      rw [if_pos c]
      exact goes_app s e
    · rw [if_neg c] at e
      cases e
theorem goes_rl {h t : Int} {ds : List Int} : ∀ {r : List Nat} {L M : List Nat}, Lot ds.length L → goes h t ds L r = some M → Lot ds.length M ∧ Rl h t ds L M
  | [], L, M, hL, e => by
    cases e
    exact ⟨hL, .refl _⟩
  | i :: r, L, M, hL, e => by
    unfold goes at e
    by_cases c : i < ds.length ∧ mayB h t ds L i = true
    · rw [if_pos c] at e
      obtain ⟨a, b⟩ := goes_rl (gone_lot hL c.1) e
      exact ⟨a, (rl_one hL c.1 c.2).trans b⟩
    · rw [if_neg c] at e
      cases e
theorem gone_gone {c : Nat} {L : List Nat} {i : Nat} (hL : Lot c L) (hi : i < c) : gone (gone L i) i = L := lot_ext (gone_lot (gone_lot hL hi) hi) hL fun j _ => by rw [gone_mem, gone_mem, Th.flip_flip]
theorem goes_back {h t : Int} {ds : List Int} : ∀ {r : List Nat} {L M : List Nat}, Lot ds.length L → goes h t ds L r = some M → goes h t ds M r.reverse = some L
  | [], L, M, hL, e => by
    cases e
    rfl
  | i :: r, L, M, hL, e => by
    unfold goes at e
    by_cases c : i < ds.length ∧ mayB h t ds L i = true
    · rw [if_pos c] at e
      have b := goes_back (gone_lot hL c.1) e
      rw [List.reverse_cons, goes_app [i] b]
      show (if i < ds.length ∧ mayB h t ds (gone L i) i = true then goes h t ds (gone (gone L i) i) [] else none) = _
      have m : mayB h t ds (gone L i) i = true := by rw [may_G, may_back (h := h) (t := t) hL c.1, ← may_G]; exact c.2
      rw [if_pos ⟨c.1, m⟩, gone_gone hL c.1]
      rfl
    · rw [if_neg c] at e
      cases e
theorem SeaT.d {K : PySem.W.Frag} {H : Hp} {v : V} {h t : Int} {ds : List Int} (s : SeaT K H v h t ds) : SeaD K H v h t ds := let ⟨p, q, e, a, b⟩ := s; ⟨p, q, e, .inr a, b⟩
def spOther (K : PySem.W.Frag) : Sp := fun vs H Q _ => ∃ (v l : V) (h t : Int) (ds : List Int) (L : List Nat), vs = [v, l] ∧ SeaA K H v h t ds ∧ LotA K H l L ∧ ds.length ≤ 100 ∧ Lot ds.length L ∧ ∀ (H' : Hp) (r : V), Same H H' → LotT K H' r (away ds.length L) → Q r H'
def spTurned (K : PySem.W.Frag) : Sp := fun vs H Q _ => ∃ (v : V) (h t : Int) (ds : List Int), vs = [v] ∧ SeaA K H v h t ds ∧ ds.length ≤ 100 ∧ ∀ (H' : Hp) (r : V), Same H H' → SeaT K H' r t h ds → Q r H'
/-- a row of ships is handed in: all may go -/
def spCrossedAll (K : PySem.W.Frag) : Sp := fun vs H Q _ => ∃ (v l r : V) (h t : Int) (ds : List Int) (L M row : List Nat), vs = [v, l, r] ∧ SeaA K H v h t ds ∧ LotA K H l L ∧ LotA K H r row ∧ ds.length ≤ 100 ∧ row.length ≤ 1000 ∧ Lot ds.length L ∧ goes h t ds L row = some M ∧
  ∀ (H' : Hp) (z : V), Same H H' → LotT K H' z M → Q z H'
end Sh

namespace Sh
open PySem PySem.Spec PyProof.Rows L2
/-! ### the program: seas told otherwise -/
/-- the draughts of those ships, as they come -/
def pickD (ds : List Int) (os : List Nat) : List Int := os.map fun o => ds.getD o 0
/-- the places of an order at which one of the lot stands -/
def renS (os L : List Nat) : List Nat := (List.range os.length).filter fun j => decide (os.getD j 0 ∈ L)
theorem renS_lot (os L : List Nat) : Lot os.length (renS os L) := (Lot.all os.length).filter _
def spRenum (K : PySem.W.Frag) : Sp := fun vs H Q _ => ∃ (v l : V) (h t : Int) (ds : List Int) (os : List Nat), vs = [v, l] ∧ SeaA K H v h t ds ∧ LotA K H l os ∧ os.length ≤ 100 ∧ (∀ o ∈ os, o < ds.length) ∧ ∀ (H' : Hp) (r : V), Same H H' → SeaT K H' r h t (pickD ds os) → Q r H'
def spRenumS (K : PySem.W.Frag) : Sp := fun vs H Q _ => ∃ (l m : V) (os L : List Nat), vs = [l, m] ∧ LotA K H l os ∧ LotA K H m L ∧ os.length ≤ 100 ∧ ∀ (H' : Hp) (r : V), Same H H' → LotT K H' r (renS os L) → Q r H'
theorem map_take {α β : Type} (f : α → β) {xs : List α} {i : Nat} (hi : i < xs.length) : (xs.take (i + 1)).map f = (xs.take i).map f ++ [f xs[i]] := by rw [take_succ_get hi, List.map_append]; rfl
abbrev s_renumbered : Stmt := topS 33
theorem sc_renumbered : FnScope (["sea", "order", "here", "there", "draughts", "ship"] : List Str) (["sea", "order"] : List Str) (defScope s_renumbered) := ⟨rfl, rfl, rfl, by decide +kernel, rfl, by decide +kernel, by decide +kernel⟩
theorem b_renumbered (kV doc pm : Value) (an : Option Addr) (cdv ct : Value) (us : List Value) (hl : us.length = (["sea", "order"] : List Str).length) : bindArgs (PySem.W.fnOf "renumbered" "renumbered" (defArgs s_renumbered) (defBody s_renumbered) (defScope s_renumbered) .none kV doc pm an cdv ct) ⟨us, []⟩ = pure ((["sea", "order"] : List Str).zip us) :=
  match us, hl with | [_, _], _ => rfl
abbrev s_renumbered_standing : Stmt := topS 34
theorem sc_renumbered_standing : FnScope (["order", "standing", "place", "ship"] : List Str) (["order", "standing"] : List Str) (defScope s_renumbered_standing) := ⟨rfl, rfl, rfl, by decide +kernel, rfl, by decide +kernel, by decide +kernel⟩
theorem b_renumbered_standing (kV doc pm : Value) (an : Option Addr) (cdv ct : Value) (us : List Value) (hl : us.length = (["order", "standing"] : List Str).length) : bindArgs (PySem.W.fnOf "renumbered_standing" "renumbered_standing" (defArgs s_renumbered_standing) (defBody s_renumbered_standing) (defScope s_renumbered_standing) .none kV doc pm an cdv ct) ⟨us, []⟩ = pure ((["order", "standing"] : List Str).zip us) :=
  match us, hl with | [_, _], _ => rfl
section
variable {P : Program} {w : World} {K : PySem.W.Frag} {mg : Str → Option Value} {base : Heap}
theorem ok_renum {k : Nat} (D : Df K mg "renumbered" s_renumbered) (T : Bt mg) : Ok P w K mg base (k + 1) "renumbered" s_renumbered ["sea", "order"] (spRenum K) := by
  refine D.ok sc_renumbered b_renumbered (fun vs H Q E h => ?_) (fun f cdv A outer s H vs Q E hr h => ?_)
  · obtain ⟨v, l, h, t, ds, os, rfl, _⟩ := h
    rfl
  · obtain ⟨v, l, h, t, ds, os, rfl, ⟨p, q, rfl, hp, hq⟩, ⟨pl, rfl, hl⟩, o1, o2, k⟩ := h
    refine ⟨_, (pss_cons (ps_asg (pv 0) (pg_seq rfl (pgs_cons (pg_name (i := 2) sc_renumbered.nd rfl (.inl rfl)) (pgs_cons (pg_name (i := 3) sc_renumbered.nd rfl (.inl rfl)) (pgs_cons (pg_name (i := 4) sc_renumbered.nd rfl (.inr rfl)) pgs_nil)))))
      (pss_one (ps_ret (pe_tup (pa_cons (pv 2) (pa_cons (pv 3) (pa_cons (pe_callTy call_tuple_of (by rfl) T.tuple_ (by decide +kernel) (pa_cons (pe_lc (own := [("ship", 5)]) (g := (gName 5)) (tt := tYes) (by rfl) sc_renumbered.nd (pi_seq (pv 1)) (blkOk_by (own := [("ship", 5)]) (N := (["sea", "order", "here", "there", "draughts", "ship"] : List Str)) (sc := defScope s_renumbered) (by decide +kernel)) (fun _ _ _ _ _ => (pg_name (i := 5) sc_renumbered.nd rfl (.inl rfl))) (fun _ _ _ _ _ => pts_nil) (fun _ _ _ _ _ => (pe_ix (ix_ltK K) (pv 4) (pv 5) (fun _ _ => rfl)))) pa_nil)) pa_nil))))))), ?_⟩
    refine ⟨_, rfl, p, _, rfl, hp, rfl, _, _, rfl, _, _, rfl, _, _, rfl, rfl, ?_⟩
    refine ⟨_, rfl, _, rfl, _, rfl, pl, _, H, rfl, hl, Kp.refl _ _, fun J hJ C nC => ?_⟩
    obtain ⟨G, g, W⟩ := hJ.walk
    refine lc_it W (fun i H' => Same H H' ∧ H' C = some (.lst ((pickD ds (os.take i)).map V.int))) ⟨same_new nC, upd_same⟩ (fun i H' _ z => g H' (.ofS z.1)) ?_ ?_
    · rintro i x Ha Hb hi ⟨sm, hC⟩ ⟨rfl, gx⟩
      rw [ni_len] at hi
      obtain rfl : .int ((os[i] : Nat) : Int) = x := Option.some.inj ((ni_get hi).symm.trans gx)
      have ho := o2 os[i] (List.getElem_mem hi)
      refine ⟨rfl, tyes (iteT ?_)⟩
      refine ⟨_, rfl, _, rfl, q, _, _, .int ds[os[i]], rfl, rfl, Same.sqA sm hq, at_nat (j := os[i]) rfl (by simp [ho]), _, hC, ?_, same_over sm nC, ?_⟩
      · unfold pickD
        rw [List.length_map, List.length_map, List.length_take]
        exact small1000 (by omega)
      · rw [upd_same]
        unfold pickD
        rw [map_take _ hi, List.map_append, List.getD_eq_getElem?_getD, List.getElem?_eq_getElem ho]
        rfl
    · rintro H1 ⟨sm, hC⟩
      rw [ni_len, List.take_length] at hC
      refine ⟨C, _, rfl, .inl ⟨SqL.of hC, fun a na => ⟨(by show 3 ≤ sizeLine; decide), fun b nb => ?_⟩⟩⟩
      have s1 : Same H1 (upd H1 a (.tup ((pickD ds os).map V.int))) := same_new na
      exact k _ _ (sm.trans (s1.trans (same_new nb))) ⟨b, a, rfl, SqT.of upd_same, SqT.of (same_new nb _ _ upd_same)⟩
theorem ok_renumS {k : Nat} (D : Df K mg "renumbered_standing" s_renumbered_standing) (T : Bt mg) : Ok P w K mg base (k + 1) "renumbered_standing" s_renumbered_standing ["order", "standing"] (spRenumS K) := by
  refine D.ok sc_renumbered_standing b_renumbered_standing (fun vs H Q E h => ?_) (fun f cdv A outer s H vs Q E hr h => ?_)
  · obtain ⟨l, m, os, L, rfl, _⟩ := h
    rfl
  · obtain ⟨l, m, os, L, rfl, ⟨pl, rfl, hl⟩, ⟨pm, rfl, hm⟩, o1, k⟩ := h
    refine ⟨_, (pss_one (ps_ret (pe_callTy call_tuple_of (by rfl) T.tuple_ (by decide +kernel) (pa_cons (pe_lc (own := [("place", 2), ("ship", 3)]) (g := (gSeq K 2 (gCons (gName 2) (gCons (gName 3) gNil)))) (by rfl) sc_renumbered_standing.nd (pi_enumA (by rfl) T.enumerate_ (pa_cons (pv 0) pa_nil)) (blkOk_by (own := [("place", 2), ("ship", 3)]) (N := (["order", "standing", "place", "ship"] : List Str)) (sc := defScope s_renumbered_standing) (by decide +kernel)) (fun _ _ _ _ _ => (pg_seq rfl (pgs_cons (pg_name (i := 2) sc_renumbered_standing.nd rfl (.inl rfl)) (pgs_cons (pg_name (i := 3) sc_renumbered_standing.nd rfl (.inl rfl)) pgs_nil)))) (fun _ _ _ _ _ => (pts_one (pt_cmpR (op_inK K) (pv 3) (pv 1) (by rfl)))) (fun _ _ _ _ _ => (pv 2))) pa_nil)))), ?_⟩
    refine ⟨_, rfl, pl, _, H, rfl, hl, Kp.refl _ _, fun J hJ C nC => ?_⟩
    obtain ⟨G, g, W⟩ := hJ.walk
    refine lc_it W (fun i H' => Same H H' ∧ H' C = some (.lst (ni ((List.range i).filter fun j => decide (os.getD j 0 ∈ L))))) ⟨same_new nC, upd_same⟩ (fun i H' _ z => g H' (.ofS z.1)) ?_ ?_
    · rintro i x Ha Hb hi ⟨sm, hC⟩ ⟨t, x1, x2, rfl, nt, rfl, g1, g2⟩
      rw [ni_len] at hi
      obtain rfl : .int (i : Int) = x1 := Option.some.inj g1
      obtain rfl : .int ((os[i] : Nat) : Int) = x2 := Option.some.inj ((ni_get hi).symm.trans g2)
      have smT : Same H (upd Ha t (.tup [.int (i : Int), .int ((os[i] : Nat) : Int)])) := sm.trans (same_new nt)
      have hCT : upd Ha t (.tup [.int (i : Int), .int ((os[i] : Nat) : Int)]) C = some (.lst (ni ((List.range i).filter fun j => decide (os.getD j 0 ∈ L)))) := by rw [upd_ne (ne_of_none hC nt)]; exact hC
      have etT : upd Ha t (.tup [.int (i : Int), .int ((os[i] : Nat) : Int)]) t = some (.tup [.int (i : Int), .int ((os[i] : Nat) : Int)]) := upd_same
      generalize upd Ha t (.tup [.int (i : Int), .int ((os[i] : Nat) : Int)]) = Ht at smT hCT etT
      refine ⟨t, _, rfl, SqA.t etT, rfl, _, _, rfl, _, _, rfl, rfl, rfl, ?_⟩
      refine ⟨_, rfl, _, rfl, pm, _, rfl, Same.sqA smT hm, rfl, ni_flat L, _, rfl, ?_⟩
      rw [in_ni]
      have eo : os.getD i 0 = os[i] := by rw [List.getD_eq_getElem?_getD, List.getElem?_eq_getElem hi]; rfl
      by_cases z : os[i] ∈ L
      · rw [decide_eq_true z]
        refine iteT ⟨_, rfl, _, hCT, ?_, same_over smT nC, ?_⟩
        · rw [ni_len]
          exact Nat.lt_of_le_of_lt (filter_len _ _) (small1000 (by omega))
        · rw [upd_same, filter_succ, if_pos (by rw [eo]; exact decide_eq_true z), ni_app]
          rfl
      · rw [decide_eq_false z]
        refine iteF ⟨smT, ?_⟩
        rw [hCT, filter_succ, if_neg (by rw [eo, decide_eq_false z]; exact Bool.false_ne_true), List.append_nil]
    · rintro H1 ⟨sm, hC⟩
      rw [ni_len] at hC
      refine ⟨C, _, rfl, .inl ⟨SqL.of hC, fun a na => ?_⟩⟩
      exact k _ _ (sm.trans (same_new na)) ⟨a, rfl, SqT.of upd_same⟩
end
end Sh

namespace Sh
open PySem PySem.Spec PyProof.Rows L2
/-! ### ships numbered anew -/
/-- all ships below c, in some order -/
structure OrdN (c : Nat) (os : List Nat) : Prop where
  len : os.length = c
  lt : ∀ o ∈ os, o < c
  all : ∀ j, j < c → j ∈ os
theorem perm_nat {ys : List Int} {c : Nat} (h : ys.Perm ((List.range c).map fun (i : Nat) => (i : Int))) : ∃ os : List Nat, ys = os.map (fun (i : Nat) => (i : Int)) ∧ OrdN c os := by
  have p : (ys.map Int.toNat).Perm (List.range c) := by
    have := h.map Int.toNat
    rw [List.map_map] at this
    have e : (Int.toNat ∘ fun (i : Nat) => (i : Int)) = id := by funext i; simp
    rw [e, List.map_id] at this
    exact this
  refine ⟨ys.map Int.toNat, ?_, ?_, fun o ho => ?_, fun j hj => ?_⟩
  · rw [List.map_map]
    have e : ∀ y ∈ ys, ((fun (i : Nat) => (i : Int)) ∘ Int.toNat) y = id y := fun y hy => by
      obtain ⟨i, _, rfl⟩ := List.mem_map.mp ((h.mem_iff).mp hy)
      simp
    rw [List.map_congr_left e, List.map_id]
  · rw [p.length_eq, List.length_range]
  · exact List.mem_range.mp (p.mem_iff.mp ho)
  · exact p.mem_iff.mpr (List.mem_range.mpr hj)
theorem mem_renS {os L : List Nat} {j : Nat} : j ∈ renS os L ↔ j < os.length ∧ os.getD j 0 ∈ L := by
  unfold renS
  rw [List.mem_filter, List.mem_range, decide_eq_true_eq]
theorem getD_at {α : Type} {l : List α} {d : α} {i : Nat} (h : i < l.length) : l.getD i d = l[i] := by
  rw [List.getD_eq_getElem?_getD, List.getElem?_eq_getElem h]
  rfl
/-- the place of each ship in an order -/
def backN (c : Nat) (os : List Nat) : List Nat := (List.range c).map fun j => os.idxOf j
theorem OrdN.idx {c : Nat} {os : List Nat} (O : OrdN c os) {j : Nat} (h : j < c) : ∃ hx : os.idxOf j < os.length, os[os.idxOf j] = j := by
  have hx : os.idxOf j < os.length := List.idxOf_lt_length_iff.mpr (O.all j h)
  exact ⟨hx, List.getElem_idxOf hx⟩
theorem OrdN.back_lt {c : Nat} {os : List Nat} (O : OrdN c os) : ∀ o ∈ backN c os, o < c := fun o ho => by
  obtain ⟨j, hj, rfl⟩ := List.mem_map.mp ho
  obtain ⟨hx, _⟩ := O.idx (List.mem_range.mp hj)
  rw [O.len] at hx
  exact hx
theorem backN_len (c : Nat) (os : List Nat) : (backN c os).length = c := by unfold backN; rw [List.length_map, List.length_range]
theorem backN_at {c : Nat} {os : List Nat} {j : Nat} (h : j < c) : (backN c os).getD j 0 = os.idxOf j := by
  rw [getD_at (by rw [backN_len]; exact h)]
  unfold backN
  rw [List.getElem_map, List.getElem_range]
theorem pickD_len (ds : List Int) (os : List Nat) : (pickD ds os).length = os.length := by unfold pickD; rw [List.length_map]
theorem pickD_at {ds : List Int} {os : List Nat} {i : Nat} (h : i < os.length) : (pickD ds os).getD i 0 = ds.getD os[i] 0 := by
  rw [getD_at (by rw [pickD_len]; exact h)]
  unfold pickD
  rw [List.getElem_map]
theorem pick_back {ds : List Int} {os : List Nat} (O : OrdN ds.length os) : pickD (pickD ds os) (backN ds.length os) = ds := by
  refine List.ext_getElem (by rw [pickD_len, backN_len]) fun i h1 h2 => ?_
  obtain ⟨hx, e⟩ := O.idx h2
  have h3 : i < (backN ds.length os).length := by rw [backN_len]; exact h2
  rw [← getD_at (d := 0) h1, pickD_at h3, ← getD_at (d := 0) h3, backN_at h2, pickD_at hx, e, getD_at h2]
theorem up_eq : ∀ {L M : List Nat}, L.Pairwise (· < ·) → M.Pairwise (· < ·) → (∀ i, i ∈ L ↔ i ∈ M) → L = M
  | [], [], _, _, _ => rfl
  | [], b :: M, _, _, h => absurd ((h b).mpr List.mem_cons_self) List.not_mem_nil
  | a :: L, [], _, _, h => absurd ((h a).mp List.mem_cons_self) List.not_mem_nil
  | a :: L, b :: M, hL, hM, h => by
    obtain ⟨a1, a2⟩ := List.pairwise_cons.mp hL
    obtain ⟨b1, b2⟩ := List.pairwise_cons.mp hM
    have e : a = b := by
      rcases List.mem_cons.mp ((h a).mp List.mem_cons_self) with z | z
      · exact z
      · rcases List.mem_cons.mp ((h b).mpr List.mem_cons_self) with y | y
        · exact y.symm
        · have := a1 b y
          have := b1 a z
          omega
    subst e
    rw [up_eq a2 b2 fun i => ⟨fun z => ?_, fun z => ?_⟩]
    · have := a1 i z
      rcases List.mem_cons.mp ((h i).mp (List.mem_cons_of_mem _ z)) with y | y
      · omega
      · exact y
    · have := b1 i z
      rcases List.mem_cons.mp ((h i).mpr (List.mem_cons_of_mem _ z)) with y | y
      · omega
      · exact y
theorem renS_up (os L : List Nat) : (renS os L).Pairwise (· < ·) := List.pairwise_lt_range.filter _
theorem renS_back {c : Nat} {os L : List Nat} (O : OrdN c os) (hL : Lot c L) : renS (backN c os) (renS os L) = L := by
  refine up_eq (renS_up _ _) hL.up fun j => ?_
  rw [mem_renS, backN_len]
  constructor
  · rintro ⟨h, m⟩
    obtain ⟨hx, e⟩ := O.idx h
    rw [backN_at h, mem_renS, getD_at hx, e] at m
    exact m.2
  · intro m
    have h := hL.lt j m
    obtain ⟨hx, e⟩ := O.idx h
    refine ⟨h, ?_⟩
    rw [backN_at h, mem_renS, getD_at hx, e]
    exact ⟨hx, m⟩
def pickN (os qs : List Nat) : List Nat := qs.map fun a => os.getD a 0
theorem pickN_len (os qs : List Nat) : (pickN os qs).length = qs.length := by unfold pickN; rw [List.length_map]
theorem pickN_lt {c : Nat} {os qs : List Nat} (O : OrdN c os) (h : ∀ a ∈ qs, a < c) : ∀ o ∈ pickN os qs, o < c := fun o ho => by
  obtain ⟨a, ha, rfl⟩ := List.mem_map.mp ho
  have := h a ha
  rw [getD_at (by rw [O.len]; exact this)]
  exact O.lt _ (List.getElem_mem _)
theorem pick_pick {ds : List Int} {os qs : List Nat} (h : ∀ a ∈ qs, a < os.length) : pickD (pickD ds os) qs = pickD ds (pickN os qs) := by
  show qs.map _ = (qs.map _).map _
  rw [List.map_map]
  refine List.map_congr_left fun a ha => ?_
  show (pickD ds os).getD a 0 = ds.getD (os.getD a 0) 0
  rw [pickD_at (h a ha), getD_at (h a ha)]
theorem renS_pick {os qs L : List Nat} (h : ∀ a ∈ qs, a < os.length) : renS qs (renS os L) = renS (pickN os qs) L := by
  unfold renS
  rw [pickN_len]
  refine List.filter_congr fun j hj => ?_
  have hj := List.mem_range.mp hj
  have e : (pickN os qs).getD j 0 = os.getD (qs.getD j 0) 0 := by
    rw [getD_at (by rw [pickN_len]; exact hj), getD_at hj]
    unfold pickN
    rw [List.getElem_map]
  have q := h _ (List.getElem_mem hj)
  rw [decide_eq_decide, ← show renS os L = (List.range os.length).filter (fun j => decide (os.getD j 0 ∈ L)) from rfl, mem_renS, e, getD_at hj]
  exact ⟨fun z => z.2, fun z => ⟨q, z⟩⟩
end Sh

namespace Sh
open PySem PySem.Spec PyProof.Rows L2
def spGone (K : PySem.W.Frag) : Sp := fun vs H Q _ => ∃ (l : V) (L : List Nat) (c i : Nat), vs = [l, .int (i : Int)] ∧ LotA K H l L ∧ Lot c L ∧ c ≤ 1000 ∧ i < c ∧ ∀ (H' : Hp) (p : Addr), Same H H' → H p = none → H' p = some (.tup (ni (gone L i))) → Q (.ref p) H'
abbrev s__law_gone : Stmt := topS 63
theorem sc__law_gone : FnScope (["_law_lot_here", "_law_whom", "_law_mate"] : List Str) (["_law_lot_here", "_law_whom"] : List Str) (defScope s__law_gone) := ⟨rfl, rfl, rfl, by decide +kernel, rfl, by decide +kernel, by decide +kernel⟩
theorem b__law_gone (kV doc pm : Value) (an : Option Addr) (cdv ct : Value) (us : List Value) (hl : us.length = (["_law_lot_here", "_law_whom"] : List Str).length) : bindArgs (PySem.W.fnOf "_law_gone" "_law_gone" (defArgs s__law_gone) (defBody s__law_gone) (defScope s__law_gone) .none kV doc pm an cdv ct) ⟨us, []⟩ = pure ((["_law_lot_here", "_law_whom"] : List Str).zip us) :=
  match us, hl with | [_, _], _ => rfl
section
variable {P : Program} {w : World} {K : PySem.W.Frag} {mg : Str → Option Value} {base : Heap}
theorem ok_gone {k : Nat} (D : Df K mg "_law_gone" s__law_gone) (T : Bt mg) : Ok P w K mg base (k + 1) "_law_gone" s__law_gone ["_law_lot_here", "_law_whom"] (spGone K) := by
  refine D.ok sc__law_gone b__law_gone (fun vs H Q E h => ?_) (fun f cdv A outer s H vs Q E hr h => ?_)
  · obtain ⟨l, L, c, i, rfl, _⟩ := h
    rfl
  · obtain ⟨l, L, c, i, rfl, ⟨pl, rfl, hl⟩, hL, c1, hi, q⟩ := h
    have ll := hL.len
    refine ⟨_, (pss_cons (ps_if (pt_cmpR op_in_seq (pv 1) (pv 0) (by rfl))
        (pss_one (ps_ret (pe_callTy call_tuple_of (by rfl) T.tuple_ (by decide +kernel) (pa_cons (pe_lc (own := [("_law_mate", 2)]) (g := (gName 2)) (by rfl) sc__law_gone.nd (pi_seq (pv 0)) (blkOk_by (own := [("_law_mate", 2)]) (N := (["_law_lot_here", "_law_whom", "_law_mate"] : List Str)) (sc := defScope s__law_gone) (by decide +kernel)) (fun _ _ _ _ _ => (pg_name (i := 2) sc__law_gone.nd rfl (.inl rfl))) (fun _ _ _ _ _ => (pts_one (pt_cmpR op_ne (pv 2) (pv 1) (nomark _)))) (fun _ _ _ _ _ => (pv 2))) pa_nil))))
        pss_nil)
      (pss_one (ps_ret (pe_callTy call_tuple_of (by rfl) T.tuple_ (by decide +kernel) (pa_cons (pe_callB cr_sortedI (by rfl) T.sorted_ (by decide +kernel) (pa_cons (pe_op op_cat (pe_callTy call_list_of (by rfl) T.list_ (by decide +kernel) (pa_cons (pv 0) pa_nil)) (pe_lst (pa_cons (pv 1) pa_nil))) pa_nil)) pa_nil))))), ?_⟩
    refine ⟨_, rfl, _, rfl, pl, _, rfl, hl, rfl, ni_flat L, _, rfl, ?_⟩
    rw [if_neg Bool.false_ne_true, in_ni]
    by_cases z : i ∈ L
    · rw [decide_eq_true z]
      refine iteT ?_
      refine ⟨_, rfl, pl, _, H, rfl, hl, Kp.refl _ _, fun J hJ C nC => ?_⟩
      obtain ⟨G, g, W⟩ := hJ.walk
      refine lc_it W (fun j H' => Same H H' ∧ H' C = some (.lst (ni ((L.take j).filter fun m => !decide (m = i))))) ⟨same_new nC, upd_same⟩ (fun j H' _ z => g H' (.ofS z.1)) ?_ ?_
      · rintro j x H3 H4 hj ⟨s3, hC⟩ ⟨rfl, gx⟩
        rw [ni_len] at hj
        obtain rfl : .int ((L[j] : Nat) : Int) = x := Option.some.inj ((ni_get hj).symm.trans gx)
        refine ⟨rfl, ?_⟩
        refine ⟨_, rfl, _, rfl, rfl, _, rfl, ite2 (fun c => ?_) (fun c => ?_)⟩
        · have c0 : ¬ L[j] = i := fun e => by
            rw [e] at c
            simp at c
          refine ⟨_, rfl, _, hC, ?_, same_over s3 nC, ?_⟩
          · rw [ni_len]
            have h1 := List.length_filter_le (fun m => !decide (m = i)) (L.take j)
            rw [List.length_take] at h1
            exact small1000 (by omega)
          · rw [upd_same, take_succ_get hj, List.filter_append, ni_app, List.filter_cons_of_pos (by simpa using c0)]
            rfl
        · have c0 : L[j] = i := by
            by_cases e : L[j] = i
            · exact e
            · exfalso
              refine c ?_
              have z2 : ¬ V.int ((L[j] : Nat) : Int) = V.int (i : Int) := fun w => e (by have := V.int.inj w; omega)
              rw [decide_eq_false z2]
              rfl
          refine ⟨s3, ?_⟩
          rw [hC, take_succ_get hj, List.filter_append, List.filter_cons_of_neg (by simpa using c0)]
          simp
      rintro H3 ⟨s3, hC⟩
      rw [ni_len, List.take_length] at hC
      refine ⟨C, _, rfl, .inl ⟨SqL.of hC, fun p np => ?_⟩⟩
      refine q _ p (s3.trans (same_new np)) (s3.free np) ?_
      rw [upd_same, gone, if_pos z]
    · rw [decide_eq_false z]
      refine iteF ?_
      refine ⟨_, rfl, pl, _, rfl, hl, fun a na => ?_⟩
      have s1 : Same H (upd H a (.lst (ni L))) := same_new na
      have e1 : upd H a (.lst (ni L)) a = _ := upd_same
      generalize upd H a (.lst (ni L)) = H1 at s1 e1
      refine ⟨_, rfl, (by show 1 ≤ sizeLine; decide), fun o no => ?_⟩
      have s2 : Same H1 (upd H1 o (.lst [.int (i : Int)])) := same_new no
      have e2 : upd H1 o (.lst [.int (i : Int)]) o = _ := upd_same
      generalize upd H1 o (.lst [.int (i : Int)]) = H2 at s2 e2
      refine ⟨a, o, _, _, rfl, rfl, s2 _ _ e1, e2, ?_, fun ct nct => ?_⟩
      · rw [ni_len]
        show L.length + 1 ≤ sizeLine
        exact Nat.le_trans (show L.length + 1 ≤ 1001 by omega) (by decide)
      have s3 : Same H2 (upd H2 ct (.lst (ni L ++ [.int (i : Int)]))) := same_new nct
      have e3 : upd H2 ct (.lst (ni L ++ [.int (i : Int)])) ct = some (.lst (((L ++ [i]).map fun (i : Nat) => (i : Int)).map V.int)) := by
        rw [upd_same, ← ni_ints, ni_app]
        rfl
      generalize upd H2 ct (.lst (ni L ++ [.int (i : Int)])) = H3 at s3 e3
      refine ⟨ct, _, rfl, SqL.of e3, fun ns2 p2 pm2 up2 np2 => ?_⟩
      obtain ⟨L2, rfl, pL2, hL2⟩ := lot_sorted (c := c) pm2 up2 (List.nodup_append.mpr ⟨hL.up.imp Nat.ne_of_lt, by simp, fun a ha y hy => by rw [List.mem_singleton.mp hy]; exact fun e => z (e ▸ ha)⟩) fun j hj => by
        rcases List.mem_append.mp hj with y | y
        · exact hL.lt j y
        · rw [List.mem_singleton.mp y]
          exact hi
      have eg : L2 = gone L i := by
        refine lot_ext hL2 (gone_lot hL hi) fun j _ => ?_
        rw [gone_mem]
        unfold mem
        by_cases e : j = i
        · subst e
          rw [Th.flip_self]
          simp [z, pL2.mem_iff]
        · rw [Th.flip_ne _ e]
          simp [e, pL2.mem_iff]
      have s4 : Same H3 (upd H3 p2 (.lst ((L2.map fun (i : Nat) => (i : Int)).map V.int))) := same_new np2
      have e4 : upd H3 p2 (.lst ((L2.map fun (i : Nat) => (i : Int)).map V.int)) p2 = some (.lst (ni L2)) := by rw [upd_same, ni_ints]
      generalize upd H3 p2 (.lst ((L2.map fun (i : Nat) => (i : Int)).map V.int)) = H4 at s4 e4
      refine ⟨p2, _, rfl, .inl ⟨SqL.of e4, fun p np => ?_⟩⟩
      have s14 := s1.trans (s2.trans (s3.trans s4))
      refine q _ p (s14.trans (same_new np)) (s14.free np) ?_
      rw [upd_same, eg]
end
end Sh

namespace Sh
open PySem PySem.Spec PyProof.Rows L2
/-! ### one that is sunk -/
/-- the number of a ship once g is gone, and back -/
def dn (g w : Nat) : Nat := if w > g then w - 1 else w
def upN (g j : Nat) : Nat := if j < g then j else j + 1
theorem up_dn {g w : Nat} (h : w ≠ g) : upN g (dn g w) = w := by unfold upN dn; split <;> split <;> omega
theorem dn_up (g j : Nat) : dn g (upN g j) = j := by unfold upN dn; split <;> split <;> omega
theorem up_ne (g j : Nat) : upN g j ≠ g := by unfold upN; split <;> omega
theorem up_lt {g j c : Nat} (hg : g < c) : upN g j < c ↔ j < c - 1 := by unfold upN; split <;> omega
/-- those but g, numbered anew -/
def less (L : List Nat) (g : Nat) : List Nat := (L.filter fun w => !decide (w = g)).map (dn g)
theorem mem_less {L : List Nat} {g j : Nat} : j ∈ less L g ↔ upN g j ∈ L := by
  unfold less
  rw [List.mem_map]
  constructor
  · rintro ⟨w, hw, rfl⟩
    rw [List.mem_filter] at hw
    have ne : w ≠ g := by simpa using hw.2
    rw [up_dn ne]
    exact hw.1
  · intro h
    refine ⟨upN g j, List.mem_filter.mpr ⟨h, ?_⟩, dn_up g j⟩
    simpa using up_ne g j
theorem less_up {L : List Nat} (g : Nat) (h : L.Pairwise (· < ·)) : (less L g).Pairwise (· < ·) := by
  unfold less
  rw [List.pairwise_map]
  refine (h.filter _).imp_of_mem fun {a b} ha hb hl => ?_
  have na : a ≠ g := by simpa using (List.mem_filter.mp ha).2
  have nb : b ≠ g := by simpa using (List.mem_filter.mp hb).2
  unfold dn
  split <;> split <;> omega
theorem less_lot {c : Nat} {L : List Nat} {g : Nat} (hg : g < c) (h : Lot c L) : Lot (c - 1) (less L g) := ⟨less_up g h.up, fun j hj => (up_lt hg).mp (h.lt _ (mem_less.mp hj))⟩
/-- all but g -/
def butN (c g : Nat) : List Nat := (List.range c).filter fun w => !decide (w = g)
theorem butN_eq {c g : Nat} (hg : g < c) : butN c g = (List.range (c - 1)).map (upN g) := by
  refine up_eq (List.pairwise_lt_range.filter _) ?_ fun i => ?_
  · rw [List.pairwise_map]
    refine List.pairwise_lt_range.imp fun {a b} h => ?_
    unfold upN
    split <;> split <;> omega
  · unfold butN
    rw [List.mem_filter, List.mem_range, List.mem_map]
    constructor
    · rintro ⟨h, ne⟩
      have ne : i ≠ g := by simpa using ne
      refine ⟨dn g i, List.mem_range.mpr ((up_lt hg).mp ?_), up_dn ne⟩
      rw [up_dn ne]
      exact h
    · rintro ⟨j, hj, rfl⟩
      refine ⟨(up_lt hg).mpr (List.mem_range.mp hj), ?_⟩
      simpa using up_ne g j
theorem butN_len {c g : Nat} (hg : g < c) : (butN c g).length = c - 1 := by rw [butN_eq hg, List.length_map, List.length_range]
theorem butN_at {c g j : Nat} (hg : g < c) (hj : j < c - 1) : (butN c g).getD j 0 = upN g j := by
  rw [getD_at (by rw [butN_len hg]; exact hj)]
  have : ∀ (l : List Nat) (h : j < l.length), l = (List.range (c - 1)).map (upN g) → l[j] = upN g j := fun l h e => by
    subst e
    rw [List.getElem_map, List.getElem_range]
  exact this _ _ (butN_eq hg)
theorem butN_lt {c g : Nat} : ∀ o ∈ butN c g, o < c := fun o ho => List.mem_range.mp (List.mem_filter.mp ho).1
theorem renS_but {c g : Nat} {L : List Nat} (hg : g < c) (h : Lot c L) : renS (butN c g) L = less L g := by
  refine up_eq (renS_up _ _) (less_up g h.up) fun j => ?_
  rw [mem_renS, mem_less, butN_len hg]
  constructor
  · rintro ⟨a, b⟩
    rw [butN_at hg a] at b
    exact b
  · intro a
    have hj := (up_lt hg).mp (h.lt _ a)
    rw [butN_at hg hj]
    exact ⟨hj, a⟩
theorem pick_but {ds : List Int} {g : Nat} (hg : g < ds.length) : pickD ds (butN ds.length g) = ds.take g ++ ds.drop (g + 1) := by
  have e : (ds.take g).length = g := by rw [List.length_take]; omega
  refine List.ext_getElem ?_ fun i h1 h2 => ?_
  · rw [pickD_len, butN_len hg, List.length_append, List.length_take, List.length_drop]
    omega
  · have hi : i < ds.length - 1 := by rw [pickD_len, butN_len hg] at h1; exact h1
    have hb : i < (butN ds.length g).length := by rw [butN_len hg]; exact hi
    rw [← getD_at (d := 0) h1, pickD_at hb, ← getD_at (d := 0) hb, butN_at hg hi, getD_at ((up_lt hg).mpr hi)]
    by_cases c : i < g
    · rw [List.getElem_append_left (by omega), List.getElem_take]
      congr 1
      unfold upN
      rw [if_pos c]
    · rw [List.getElem_append_right (by omega), List.getElem_drop]
      congr 1
      unfold upN
      rw [if_neg c, e]
      omega
theorem one_in {g : Nat} : ∀ {L : List Nat}, L.Pairwise (· < ·) → (L.filter fun j => decide (j = g)).length = if g ∈ L then 1 else 0
  | [], _ => rfl
  | a :: L, h => by
    obtain ⟨h1, h2⟩ := List.pairwise_cons.mp h
    have ih := one_in (g := g) h2
    by_cases e : a = g
    · subst e
      have nm : a ∉ L := fun m => Nat.lt_irrefl _ (h1 a m)
      rw [if_neg nm] at ih
      rw [List.filter_cons_of_pos (by simp), List.length_cons, ih, if_pos List.mem_cons_self]
    · rw [List.filter_cons_of_neg (by simpa using e), ih]
      by_cases m : g ∈ L
      · rw [if_pos m, if_pos (List.mem_cons_of_mem _ m)]
      · rw [if_neg m, if_neg fun z => ?_]
        rcases List.mem_cons.mp z with y | y
        · exact e y.symm
        · exact m y
theorem near_less {L : List Nat} {g j : Nat} (h : L.Pairwise (· < ·)) : near L (upN g j) = near (less L g) j + if g ∈ L then 1 else 0 := by
  unfold near
  rw [filter_filter_len (fun x => !decide (x = upN g j)) (fun x => !decide (x = g)) L, ← one_in h]
  congr 1
  · unfold less
    rw [List.filter_map, List.length_map, List.filter_filter]
    congr 1
    refine List.filter_congr fun x _ => ?_
    by_cases c : x = g
    · simp [c]
    · have e : (dn g x = j) ↔ (x = upN g j) := ⟨fun z => by rw [← z, up_dn c], fun z => by rw [z, dn_up]⟩
      simp [c, e]
  · congr 1
    refine List.filter_congr fun x _ => ?_
    by_cases c : x = g
    · have := up_ne g j
      subst c
      simp [Ne.symm this]
    · simp [c]
/-- who may go, once one is sunk -/
theorem lets_less {h t : Int} {ds : List Int} {L : List Nat} {g : Nat} (hg : g < ds.length) (hL : Lot ds.length L) :
    lets (h + if g ∈ L then 1 else 0) (t + if g ∈ L then 0 else 1) (ds.take g ++ ds.drop (g + 1)) (less L g) (ds.take g ++ ds.drop (g + 1)).length = less (lets h t ds L ds.length) g := by
  have len : (ds.take g ++ ds.drop (g + 1)).length = ds.length - 1 := by
    rw [List.length_append, List.length_take, List.length_drop]
    omega
  refine up_eq (List.pairwise_lt_range.filter _) (less_up g (List.pairwise_lt_range.filter _)) fun j => ?_
  rw [mem_less]
  unfold lets
  rw [List.mem_filter, List.mem_range, List.mem_filter, List.mem_range, len, up_lt hg]
  refine and_congr_right fun hj => ?_
  have nl := near_less (g := g) (j := j) hL.up
  have dj : (ds.take g ++ ds.drop (g + 1)).getD j 0 = ds.getD (upN g j) 0 := by
    rw [← pick_but hg, pickD_at (by rw [butN_len hg]; exact hj), ← getD_at (d := 0), butN_at hg hj]
  unfold mayB
  rw [dj, len, nl]
  by_cases c : g ∈ L
  · rw [if_pos c, if_pos c, if_pos c]
    rw [show h + 1 + (near (less L g) j : Int) = h + ((near (less L g) j + 1 : Nat) : Int) by omega, show t + 0 + ((ds.length - 1 : Nat) : Int) - 1 - (near (less L g) j : Int) = t + (ds.length : Int) - 1 - ((near (less L g) j + 1 : Nat) : Int) by omega]
  · rw [if_neg c, if_neg c, if_neg c]
    rw [show h + 0 + (near (less L g) j : Int) = h + ((near (less L g) j + 0 : Nat) : Int) by omega, show t + 1 + ((ds.length - 1 : Nat) : Int) - 1 - (near (less L g) j : Int) = t + (ds.length : Int) - 1 - ((near (less L g) j + 0 : Nat) : Int) by omega]
end Sh

namespace Sh
open PySem PySem.Spec PyProof.Rows L2
/-! ### texts of data: no longer than so much -/
structure Fit (n m : Nat) (d : PyData) : Prop where
  len : d.shown.length ≤ n
  sh : d.showable = true
  lay : d.canLay0 = true
  dp : d.depth ≤ m
structure FitAll (n m : Nat) (ds : List PyData) : Prop where
  len : ((PyData.shownAll ds).map (·.length)).sum + 2 * ds.length ≤ n
  sh : PyData.showableAll ds = true
  lay : PyData.canLayAll0 ds = true
  dp : PyData.depthAll ds ≤ m
theorem shownAll_len : ∀ ds : List PyData, (PyData.shownAll ds).length = ds.length
  | [] => rfl
  | d :: ds => by
    show (PyData.shown d :: PyData.shownAll ds).length = _
    rw [List.length_cons, List.length_cons, shownAll_len ds]
theorem Fit.mono {n m n' m' : Nat} {d : PyData} (f : Fit n m d) (h : n ≤ n') (h' : m ≤ m') : Fit n' m' d := ⟨Nat.le_trans f.len h, f.sh, f.lay, Nat.le_trans f.dp h'⟩
theorem FitAll.mono {n m n' m' : Nat} {ds : List PyData} (f : FitAll n m ds) (h : n ≤ n') (h' : m ≤ m') : FitAll n' m' ds := ⟨Nat.le_trans f.len h, f.sh, f.lay, Nat.le_trans f.dp h'⟩
theorem fit_int {i : Int} (h : i.natAbs < 10 ^ 14) : Fit 15 0 (.int i) := by
  refine ⟨?_, ?_, rfl, Nat.le_refl 0⟩
  · show (Str.ofString (toString i)).length ≤ 15
    rw [PySem.ofString_length]
    exact int_text_length_le10 (k := 14) (by decide) h
  · show decide (i.natAbs.log2 < 1920) = true
    refine decide_eq_true ?_
    by_cases z : i.natAbs = 0
    · rw [z]
      decide
    · exact (Nat.log2_lt z).mpr (Nat.lt_trans h (by decide +kernel))
theorem FitAll.nil (m : Nat) : FitAll 0 m [] := ⟨Nat.le_refl 0, rfl, rfl, Nat.zero_le m⟩
theorem FitAll.cons {a b m : Nat} {d : PyData} {ds : List PyData} (f : Fit a m d) (g : FitAll b m ds) : FitAll (a + 2 + b) m (d :: ds) := by
  refine ⟨?_, ?_, ?_, ?_⟩
  · show ((PyData.shown d :: PyData.shownAll ds).map (·.length)).sum + 2 * (d :: ds).length ≤ _
    rw [List.map_cons, List.sum_cons, List.length_cons]
    have := f.len
    have := g.len
    omega
  · show (PyData.showable d && PyData.showableAll ds) = true
    rw [f.sh, g.sh]
    rfl
  · show (PyData.canLay0 d && PyData.canLayAll0 ds) = true
    rw [f.lay, g.lay]
    rfl
  · show max (PyData.depth d) (PyData.depthAll ds) ≤ m
    exact Nat.max_le.mpr ⟨f.dp, g.dp⟩
theorem FitAll.ints : ∀ {ns : List Int}, (∀ i ∈ ns, i.natAbs < 10 ^ 14) → FitAll (17 * ns.length) 0 (ns.map .int)
  | [], _ => FitAll.nil 0
  | i :: ns, h => by
    have g := FitAll.ints (ns := ns) fun j hj => h j (List.mem_cons_of_mem _ hj)
    have f := fit_int (h i List.mem_cons_self)
    refine (FitAll.cons f g).mono ?_ (Nat.le_refl 0)
    rw [List.length_cons]
    omega
theorem Fit.list {n m : Nat} {ds : List PyData} (f : FitAll n m ds) : Fit (n + 3) (m + 1) (.list ds) := by
  refine ⟨?_, f.sh, f.lay, ?_⟩
  · show (listText (PyData.shownAll ds)).length ≤ _
    have a := listText_len_le (PyData.shownAll ds)
    rw [shownAll_len] at a
    have := f.len
    omega
  · show PyData.depthAll ds + 1 ≤ m + 1
    exact Nat.succ_le_succ f.dp
theorem Fit.tup {n m : Nat} {ds : List PyData} (f : FitAll n m ds) : Fit (n + 3) (m + 1) (.tuple ds) := by
  refine ⟨?_, f.sh, f.lay, ?_⟩
  · show (tupleText (PyData.shownAll ds)).length ≤ _
    have a := tupleText_len_le (PyData.shownAll ds)
    rw [shownAll_len] at a
    have := f.len
    omega
  · show PyData.depthAll ds + 1 ≤ m + 1
    exact Nat.succ_le_succ f.dp
theorem Fit.shaped {n m : Nat} {d : PyData} (f : Fit n m d) (h : m ≤ 64) : SeqAt.shaped d = true := by
  unfold SeqAt.shaped
  rw [f.lay, decide_eq_true (Nat.le_trans f.dp h)]
  rfl
theorem Fit.sz {n m : Nat} {d : PyData} (f : Fit n m d) (h : n ≤ 1000000) : d.shown.length ≤ sizeLine := by
  rw [sizeLine_eq]
  have := f.len
  omega
/-- a sea, a standing -/
theorem fit_lot {L : List Nat} (c : L.length ≤ 100) (h : ∀ i ∈ L, i < 100000) : FitAll 1700 0 ((L.map fun (i : Nat) => (i : Int)).map .int) := by
  refine (FitAll.ints fun i hi => ?_).mono (by rw [List.length_map]; omega) (Nat.le_refl 0)
  obtain ⟨j, hj, rfl⟩ := List.mem_map.mp hi
  have := h j hj
  show ((j : Int)).natAbs < 100000000000000
  omega
theorem fit_sea {h t : Int} {ds : List Int} {m : Nat} (so : SeaOk m h t ds) (c : m ≤ 100) : Fit 2000 2 (.tuple [.int h, .int t, .tuple (ds.map .int)]) := by
  have f : FitAll 1700 0 (ds.map .int) := by
    refine (FitAll.ints fun i hi => ?_).mono (by have := so.l1; omega) (Nat.le_refl 0)
    have := so.d0 i hi
    show i.natAbs < 100000000000000
    omega
  have fh : h.natAbs < 10 ^ 14 := by
    have := so.h0
    have := so.h1
    show h.natAbs < 100000000000000
    omega
  have ft : t.natAbs < 10 ^ 14 := by
    have := so.t0
    have := so.t1
    show t.natAbs < 100000000000000
    omega
  exact (Fit.tup (.cons ((fit_int fh).mono (Nat.le_refl _) (Nat.zero_le 1)) (.cons ((fit_int ft).mono (Nat.le_refl _) (Nat.zero_le 1)) (.cons (Fit.tup f) (.nil 1))))).mono (by omega) (Nat.le_refl 2)
end Sh

namespace Sh
open PySem PySem.Spec PyProof.Rows L2
/-! ### the program: water -/
def spMarkOf : Sp := fun vs H Q _ => ∃ (h t s : Int) (n : Nat), vs = [.int h, .int t, .int (n : Int), .int s] ∧ Q (.int (mk h t n s)) H
def spTopOf : Sp := fun vs H Q _ => ∃ (h t : Int) (n : Nat), vs = [.int h, .int t, .int (n : Int)] ∧ Q (.int (topI h t n)) H
abbrev s_mark_of : Stmt := topS 5
theorem sc_mark_of : FnScope (["here", "there", "many", "step"] : List Str) (["here", "there", "many", "step"] : List Str) (defScope s_mark_of) := ⟨rfl, rfl, rfl, by decide +kernel, rfl, by decide +kernel, by decide +kernel⟩
theorem b_mark_of (kV doc pm : Value) (an : Option Addr) (cdv ct : Value) (us : List Value) (hl : us.length = (["here", "there", "many", "step"] : List Str).length) : bindArgs (PySem.W.fnOf "mark_of" "mark_of" (defArgs s_mark_of) (defBody s_mark_of) (defScope s_mark_of) .none kV doc pm an cdv ct) ⟨us, []⟩ = pure ((["here", "there", "many", "step"] : List Str).zip us) :=
  match us, hl with | [_, _, _, _], _ => rfl
abbrev s_top_of : Stmt := topS 6
theorem sc_top_of : FnScope (["here", "there", "many", "last", "meeting"] : List Str) (["here", "there", "many"] : List Str) (defScope s_top_of) := ⟨rfl, rfl, rfl, by decide +kernel, rfl, by decide +kernel, by decide +kernel⟩
theorem b_top_of (kV doc pm : Value) (an : Option Addr) (cdv ct : Value) (us : List Value) (hl : us.length = (["here", "there", "many"] : List Str).length) : bindArgs (PySem.W.fnOf "top_of" "top_of" (defArgs s_top_of) (defBody s_top_of) (defScope s_top_of) .none kV doc pm an cdv ct) ⟨us, []⟩ = pure ((["here", "there", "many"] : List Str).zip us) :=
  match us, hl with | [_, _, _], _ => rfl
section
variable {P : Program} {w : World} {K : PySem.W.Frag} {mg : Str → Option Value} {base : Heap}
theorem ok_mark_of {k : Nat} (D : Df K mg "mark_of" s_mark_of) (T : Bt mg) : Ok P w K mg base (k + 1) "mark_of" s_mark_of ["here", "there", "many", "step"] spMarkOf := by
  refine D.ok sc_mark_of b_mark_of (fun vs H Q E h => ?_) (fun f cdv A outer s H vs Q E hr h => ?_)
  · obtain ⟨h, t, s, n, rfl, _⟩ := h
    rfl
  · obtain ⟨h, t, s, n, rfl, k⟩ := h
    refine ⟨_, (pss_one (ps_ret (pe_callB (call_min2 rfl) (by rfl) T.min_ (by decide +kernel) (pa_cons (pe_op op_add (pv 0) (pv 3)) (pa_cons (pe_op op_sub (pe_op op_sub (pe_op op_add (pv 1) (pv 2)) pe_int) (pv 3)) pa_nil))))), ?_⟩
    refine ⟨_, rfl, _, rfl, h, s, rfl, rfl, _, rfl, _, rfl, t, _, rfl, rfl, _, 1, rfl, rfl, _, rfl, _, s, rfl, rfl, _, _, rfl, ?_⟩
    rw [← mk_alt] at k
    exact k
theorem ok_top_of {k : Nat} (D : Df K mg "top_of" s_top_of) (T : Bt mg) : Ok P w K mg base (k + 1) "top_of" s_top_of ["here", "there", "many"] spTopOf := by
  refine D.ok sc_top_of b_top_of (fun vs H Q E h => ?_) (fun f cdv A outer s H vs Q E hr h => ?_)
  · obtain ⟨h, t, n, rfl, _⟩ := h
    rfl
  · obtain ⟨h, t, n, rfl, k⟩ := h
    refine ⟨_, (pss_cons (ps_set (i := 3) sc_top_of.nd rfl (.inl rfl) (pe_op op_sub (pv 2) pe_int))
      (pss_cons (ps_set (i := 4) sc_top_of.nd rfl (.inl rfl) (pe_op op_fdiv (pe_op op_sub (pe_op op_add (pv 1) (pv 3)) (pv 0)) pe_int))
      (pss_one (ps_ret (pe_callB (call_max2 rfl) (by rfl) T.max_ (by decide +kernel) (pa_cons pe_int (pa_cons (pe_callB (call_min2 rfl) (by rfl) T.min_ (by decide +kernel) (pa_cons (pv 3) (pa_cons (pv 4) pa_nil))) pa_nil))))))), ?_⟩
    refine ⟨_, rfl, _, 1, rfl, rfl, ?_⟩
    refine ⟨_, rfl, _, rfl, t, _, rfl, rfl, _, rfl, _, h, rfl, rfl, _, 2, rfl, rfl, ⟨by decide, by decide⟩, ?_⟩
    refine ⟨_, rfl, _, rfl, _, _, rfl, 0, _, rfl, ?_⟩
    exact k
end
end Sh

namespace Sh
open PySem PySem.Spec PyProof.Rows L2
/-! ### the program: steps -/
abbrev s_mark_at : Stmt := topS 25
theorem sc_mark_at : FnScope (["sea", "step", "here", "there", "draughts"] : List Str) (["sea", "step"] : List Str) (defScope s_mark_at) := ⟨rfl, rfl, rfl, by decide +kernel, rfl, by decide +kernel, by decide +kernel⟩
theorem b_mark_at (kV doc pm : Value) (an : Option Addr) (cdv ct : Value) (us : List Value) (hl : us.length = (["sea", "step"] : List Str).length) : bindArgs (PySem.W.fnOf "mark_at" "mark_at" (defArgs s_mark_at) (defBody s_mark_at) (defScope s_mark_at) .none kV doc pm an cdv ct) ⟨us, []⟩ = pure ((["sea", "step"] : List Str).zip us) :=
  match us, hl with | [_, _], _ => rfl
section
variable {P : Program} {w : World} {K : PySem.W.Frag} {mg : Str → Option Value} {base : Heap}
theorem ok_mark {k : Nat} (D : Df K mg "mark_at" s_mark_at) (T : Bt mg) (O_mark_of : Ok P w K mg base k "mark_of" s_mark_of ["here", "there", "many", "step"] spMarkOf) : Ok P w K mg base (k + 1) "mark_at" s_mark_at ["sea", "step"] (spMark K) := by
  refine D.ok sc_mark_at b_mark_at (fun vs H Q E h => ?_) (fun f cdv A outer s H vs Q E hr h => ?_)
  · obtain ⟨v, h, t, s, ds, rfl, _⟩ := h
    rfl
  · obtain ⟨v, h, t, s, ds, rfl, ⟨p, q, rfl, hp, hq⟩, k⟩ := h
    refine ⟨_, (pss_cons (ps_asg (pv 0) (pg_seq rfl (pgs_cons (pg_name (i := 2) sc_mark_at.nd rfl (.inl rfl)) (pgs_cons (pg_name (i := 3) sc_mark_at.nd rfl (.inl rfl)) (pgs_cons (pg_name (i := 4) sc_mark_at.nd rfl (.inl rfl)) pgs_nil)))))
      (pss_one (ps_ret (pe_fn O_mark_of (hr.mono (by omega)) (pa_cons (pv 2) (pa_cons (pv 3) (pa_cons (pe_callB call_len_seq (by rfl) T.len_ PySem.boot_len (pa_cons (pv 4) pa_nil)) (pa_cons (pv 1) pa_nil)))))))), ?_⟩
    refine ⟨_, rfl, p, _, rfl, hp, rfl, _, _, rfl, _, _, rfl, _, _, rfl, rfl, ?_⟩
    refine ⟨_, rfl, _, rfl, _, rfl, q, _, rfl, hq, _, rfl, h, t, s, ds.length, ?_, k⟩
    rw [List.length_map]
    rfl
end
end Sh

namespace Sh
open PySem PySem.Spec PyProof.Rows L2
/-! ### the program: seas -/
abbrev s_other_side : Stmt := topS 52
theorem sc_other_side : FnScope (["sea", "standing", "draughts", "ship"] : List Str) (["sea", "standing"] : List Str) (defScope s_other_side) := ⟨rfl, rfl, rfl, by decide +kernel, rfl, by decide +kernel, by decide +kernel⟩
theorem b_other_side (kV doc pm : Value) (an : Option Addr) (cdv ct : Value) (us : List Value) (hl : us.length = (["sea", "standing"] : List Str).length) : bindArgs (PySem.W.fnOf "other_side" "other_side" (defArgs s_other_side) (defBody s_other_side) (defScope s_other_side) .none kV doc pm an cdv ct) ⟨us, []⟩ = pure ((["sea", "standing"] : List Str).zip us) :=
  match us, hl with | [_, _], _ => rfl
abbrev s_turned_sea : Stmt := topS 53
theorem sc_turned_sea : FnScope (["sea", "here", "there", "draughts"] : List Str) (["sea"] : List Str) (defScope s_turned_sea) := ⟨rfl, rfl, rfl, by decide +kernel, rfl, by decide +kernel, by decide +kernel⟩
theorem b_turned_sea (kV doc pm : Value) (an : Option Addr) (cdv ct : Value) (us : List Value) (hl : us.length = (["sea"] : List Str).length) : bindArgs (PySem.W.fnOf "turned_sea" "turned_sea" (defArgs s_turned_sea) (defBody s_turned_sea) (defScope s_turned_sea) .none kV doc pm an cdv ct) ⟨us, []⟩ = pure ((["sea"] : List Str).zip us) :=
  match us, hl with | [_], _ => rfl
section
variable {P : Program} {w : World} {K : PySem.W.Frag} {mg : Str → Option Value} {base : Heap}
theorem ok_other {k : Nat} (D : Df K mg "other_side" s_other_side) (T : Bt mg) : Ok P w K mg base (k + 1) "other_side" s_other_side ["sea", "standing"] (spOther K) := by
  refine D.ok sc_other_side b_other_side (fun vs H Q E h => ?_) (fun f cdv A outer s H vs Q E hr h => ?_)
  · obtain ⟨v, l, h, t, ds, L, rfl, _⟩ := h
    rfl
  · obtain ⟨v, l, h, t, ds, L, rfl, ⟨p, q, rfl, hp, hq⟩, ⟨pl, rfl, hl⟩, d1, hL, k⟩ := h
    refine ⟨_, (pss_cons (ps_set (i := 2) sc_other_side.nd rfl (.inl rfl) (pe_ix ix_lt (pv 0) pe_int (fun _ _ => rfl)))
      (pss_one (ps_ret (pe_callTy call_tuple_of (by rfl) T.tuple_ (by decide +kernel) (pa_cons (pe_lc (own := [("ship", 3)]) (g := (gName 3)) (by rfl) sc_other_side.nd (pi_range1 (by rfl) T.range_ (pa_cons (pe_callB call_len_seq (by rfl) T.len_ PySem.boot_len (pa_cons (pv 2) pa_nil)) pa_nil)) (blkOk_by (own := [("ship", 3)]) (N := (["sea", "standing", "draughts", "ship"] : List Str)) (sc := defScope s_other_side) (by decide +kernel)) (fun _ _ _ _ _ => (pg_name (i := 3) sc_other_side.nd rfl (.inl rfl))) (fun _ _ _ _ _ => (pts_one (pt_cmpR (op_notInK K) (pv 3) (pv 1) (by rfl)))) (fun _ _ _ _ _ => (pv 3))) pa_nil))))), ?_⟩
    refine ⟨_, rfl, p, _, 2, .ref q, rfl, rfl, hp, rfl, ?_⟩
    refine ⟨_, rfl, q, _, rfl, hq, _, rfl, by omega, ?_, fun C nC => ?_⟩
    · rw [List.length_map]
      omega
    rw [List.length_map, show ((ds.length : Int)).toNat = ds.length by omega]
    refine lc_range (fun j H' => Same H H' ∧ H' C = some (.lst (ni (away j L)))) ⟨same_new nC, upd_same⟩ ?_ ?_
    · rintro j H1 hj ⟨sm, hC⟩
      refine ⟨rfl, ?_⟩
      rw [Int.zero_add (j : Int)]
      refine ⟨_, rfl, _, rfl, pl, _, rfl, Same.sqA sm hl, rfl, ni_flat L, _, rfl, ?_⟩
      rw [if_pos rfl, in_ni]
      by_cases z : j ∈ L
      · rw [decide_eq_true z]
        refine iteF ⟨sm, ?_⟩
        rw [hC]
        unfold away
        rw [filter_succ, if_neg (by simp [z]), List.append_nil]
      · rw [decide_eq_false z]
        refine iteT ⟨_, rfl, _, hC, ?_, same_over sm nC, ?_⟩
        · rw [ni_len]
          exact Nat.lt_of_le_of_lt (filter_len _ _) (small1000 (by omega))
        · rw [upd_same]
          unfold away
          rw [filter_succ, if_pos (by simp [z]), ni_app]
          rfl
    · rintro H1 ⟨sm, hC⟩
      refine ⟨C, _, rfl, .inl ⟨SqL.of hC, fun a na => ?_⟩⟩
      exact k _ _ (sm.trans (same_new na)) ⟨a, rfl, SqT.of upd_same⟩
theorem ok_turned {k : Nat} (D : Df K mg "turned_sea" s_turned_sea) (T : Bt mg) : Ok P w K mg base (k + 1) "turned_sea" s_turned_sea ["sea"] (spTurned K) := by
  refine D.ok sc_turned_sea b_turned_sea (fun vs H Q E h => ?_) (fun f cdv A outer s H vs Q E hr h => ?_)
  · obtain ⟨v, h, t, ds, rfl, _⟩ := h
    rfl
  · obtain ⟨v, h, t, ds, rfl, ⟨p, q, rfl, hp, hq⟩, d1, k⟩ := h
    refine ⟨_, (pss_cons (ps_asg (pv 0) (pg_seq rfl (pgs_cons (pg_name (i := 1) sc_turned_sea.nd rfl (.inl rfl)) (pgs_cons (pg_name (i := 2) sc_turned_sea.nd rfl (.inl rfl)) (pgs_cons (pg_name (i := 3) sc_turned_sea.nd rfl (.inl rfl)) pgs_nil)))))
      (pss_one (ps_ret (pe_tup (pa_cons (pv 2) (pa_cons (pv 1) (pa_cons (pe_callTy call_tuple_of (by rfl) T.tuple_ (by decide +kernel) (pa_cons (pv 3) pa_nil)) pa_nil))))))), ?_⟩
    refine ⟨_, rfl, p, _, rfl, hp, rfl, _, _, rfl, _, _, rfl, _, _, rfl, rfl, ?_⟩
    refine ⟨_, rfl, _, rfl, _, rfl, q, ds.map V.int, rfl, ?_⟩
    rcases hq with hq | hq
    · refine .inl ⟨hq, fun a na => ⟨(by show 3 ≤ sizeLine; decide), fun b nb => ?_⟩⟩
      have s1 : Same H (upd H a (.tup (ds.map V.int))) := same_new na
      exact k _ _ (s1.trans (same_new nb)) ⟨b, a, rfl, SqT.of upd_same, SqT.of (same_new nb _ _ upd_same)⟩
    · refine .inr ⟨hq, (by show 3 ≤ sizeLine; decide), fun b nb => ?_⟩
      exact k _ _ (same_new nb) ⟨b, q, rfl, SqT.of upd_same, Same.tup (same_new nb) hq⟩
end
end Sh

namespace Sh
open PySem PySem.Spec PyProof.Rows L2
/-! ### the program: lots, of fleets as they are handed in -/
def SrtV (x : Srt) : List V := [.int x.1, .int (x.2.1 : Int), .int (x.2.2 : Int)]
def SrtsA (K : PySem.W.Frag) (H : Hp) (rs : List Addr) (ss : List Srt) : Prop := rs.length = ss.length ∧ ∀ (i : Nat) (r : Addr) (x : Srt), rs[i]? = some r → ss[i]? = some x → SqA K H r (SrtV x)
theorem SrtsA.same {K : PySem.W.Frag} {H H' : Hp} {rs : List Addr} {ss : List Srt} (w : SrtsA K H rs ss) (e : Same H H') : SrtsA K H' rs ss := ⟨w.1, fun i r x a b => Same.sqA e (w.2 i r x a b)⟩
theorem srt_at {K : PySem.W.Frag} {H : Hp} {rs : List Addr} {ss : List Srt} {i : Nat} {v : V} (w : SrtsA K H rs ss) (g : (rs.map V.ref)[i]? = some v) : ∃ (r : Addr) (hi : i < ss.length), v = .ref r ∧ SqA K H r (SrtV ss[i]) := by
  rw [List.getElem?_map] at g
  cases e : rs[i]? with
  | none => rw [e] at g; cases g
  | some r =>
    rw [e] at g
    have hi : i < rs.length := (List.getElem?_eq_some_iff.mp e).1
    have hi2 : i < ss.length := w.1 ▸ hi
    exact ⟨r, hi2, (Option.some.inj g).symm, w.2 i r _ e (List.getElem?_eq_getElem hi2)⟩
/-- a fleet (lists or tuples) is handed in -/
def FltA (K : PySem.W.Frag) (H : Hp) (v : V) (h t : Int) (ss : List Srt) : Prop := ∃ (p q : Addr) (rs : List Addr), v = .ref p ∧ SqA K H p [.int h, .int t, .ref q] ∧ SqA K H q (rs.map V.ref) ∧ SrtsA K H rs ss
theorem FltA.same {K : PySem.W.Frag} {H H' : Hp} {v : V} {h t : Int} {ss : List Srt} (s : FltA K H v h t ss) (e : Same H H') : FltA K H' v h t ss := let ⟨p, q, rs, a, b, c, d⟩ := s; ⟨p, q, rs, a, Same.sqA e b, Same.sqA e c, d.same e⟩
/-- new sorts, as tuples -/
def SrtsN (H : Hp) (rs : List Addr) (ss : List Srt) : Prop := rs.length = ss.length ∧ ∀ (i : Nat) (r : Addr) (x : Srt), rs[i]? = some r → ss[i]? = some x → H r = some (.tup (SrtV x))
theorem SrtsN.a {K : PySem.W.Frag} {H : Hp} {rs : List Addr} {ss : List Srt} (w : SrtsN H rs ss) : SrtsA K H rs ss := ⟨w.1, fun i r x a b => SqA.t (w.2 i r x a b)⟩
theorem SrtsN.same {H H' : Hp} {rs : List Addr} {ss : List Srt} (w : SrtsN H rs ss) (e : Same H H') : SrtsN H' rs ss := ⟨w.1, fun i r x a b => e _ _ (w.2 i r x a b)⟩
theorem SrtsN.put {H : Hp} {rs : List Addr} {ss : List Srt} {C : Addr} {xs ys : List V} (w : SrtsN H rs ss) (h : H C = some (.lst xs)) : SrtsN (upd H C (.lst ys)) rs ss := ⟨w.1, fun i r x a b => by
  have q := w.2 i r x a b
  rw [upd_ne (ne_of q h (by intro z; cases z))]
  exact q⟩
theorem SrtsN.push {H : Hp} {rs : List Addr} {ss : List Srt} {u : Addr} {x : Srt} (w : SrtsN H rs ss) (n : H u = none) : SrtsN (upd H u (.tup (SrtV x))) (rs ++ [u]) (ss ++ [x]) := by
  refine ⟨by rw [List.length_append, List.length_append, w.1]; rfl, fun i r y a b => ?_⟩
  by_cases z : i < rs.length
  · rw [List.getElem?_append_left z] at a
    rw [List.getElem?_append_left (by rw [← w.1]; exact z)] at b
    exact same_new n _ _ (w.2 i r y a b)
  · have e : i = rs.length := by
      have := (List.getElem?_eq_some_iff.mp a).1
      rw [List.length_append] at this
      simp at this
      omega
    subst e
    rw [List.getElem?_append_right (Nat.le_refl _), Nat.sub_self] at a
    rw [List.getElem?_append_right (by rw [w.1]; exact Nat.le_refl _), w.1, Nat.sub_self] at b
    obtain rfl : u = r := Option.some.inj a
    obtain rfl : x = y := Option.some.inj b
    exact upd_same
theorem SrtsN.push' {H : Hp} {rs : List Addr} {ss : List Srt} {u : Addr} {x : Srt} {o : HO} (w : SrtsN H rs ss) (n : H u = none) (e : o = .tup (SrtV x)) : SrtsN (upd H u o) (rs ++ [u]) (ss ++ [x]) := by
  subst e
  exact w.push n
theorem isum (f : Srt → Nat) : ∀ l : List Srt, (l.map fun x => (f x : Int)).sum = ((l.map f).sum : Int)
  | [] => rfl
  | a :: l => by
    rw [List.map_cons, List.sum_cons, isum f l, List.map_cons, List.sum_cons]
    rfl
theorem tm {β : Type} (f : Srt → β) {ss : List Srt} {i : Nat} (hi : i < ss.length) : (ss.take (i + 1)).map f = (ss.take i).map f ++ [f ss[i]] := by rw [take_succ_get hi, List.map_append]; rfl
theorem tfm {β : Type} (p : Srt → Bool) (f : Srt → β) {ss : List Srt} {i : Nat} (hi : i < ss.length) : ((ss.take (i + 1)).filter p).map f = ((ss.take i).filter p).map f ++ (if p ss[i] = true then [f ss[i]] else []) := by
  rw [take_succ_get hi, List.filter_append, List.map_append]
  congr 1
  by_cases c : p ss[i] = true
  · rw [if_pos c, List.filter_cons_of_pos c]; rfl
  · rw [if_neg c, List.filter_cons_of_neg c]; rfl
theorem take_le {ss : List Srt} {i : Nat} (hi : i < ss.length) : (ss.take i).length < ss.length := by rw [List.length_take]; omega
theorem tf_le {p : Srt → Bool} {ss : List Srt} {i : Nat} (hi : i < ss.length) : ((ss.take i).filter p).length < ss.length := Nat.lt_of_le_of_lt (List.length_filter_le _ _) (take_le hi)
def spShips (K : PySem.W.Frag) : Sp := fun vs H Q _ => ∃ (v : V) (h t : Int) (ss : List Srt), vs = [v] ∧ FltA K H v h t ss ∧ ss.length ≤ 1000 ∧ ∀ H', Same H H' → Q (.int (mny ss : Int)) H'
def spMarkIn (K : PySem.W.Frag) : Sp := fun vs H Q _ => ∃ (v : V) (h t s : Int) (ss : List Srt), vs = [v, .int s] ∧ FltA K H v h t ss ∧ ss.length ≤ 1000 ∧ ∀ H', Same H H' → Q (.int (mk h t (mny ss) s)) H'
def spGoersMany (K : PySem.W.Frag) : Sp := fun vs H Q _ => ∃ (v : V) (h t s : Int) (ss : List Srt), vs = [v, .int s] ∧ FltA K H v h t ss ∧ ss.length ≤ 1000 ∧ ∀ H', Same H H' → Q (.int (gmF ss (mk h t (mny ss) s) : Int)) H'
def spTopIn (K : PySem.W.Frag) : Sp := fun vs H Q _ => ∃ (v : V) (h t : Int) (ss : List Srt), vs = [v] ∧ FltA K H v h t ss ∧ ss.length ≤ 1000 ∧ ∀ H', Same H H' → Q (.int (topI h t (mny ss))) H'
def spFilled (K : PySem.W.Frag) : Sp := fun vs H Q _ => ∃ (v : V) (h t s : Int) (ss : List Srt), vs = [v, .int s] ∧ FltA K H v h t ss ∧ ss.length ≤ 1000 ∧ ∀ H', Same H H' → Q (.int (filF ss (mk h t (mny ss) s) : Int)) H'
/-- marks rise up to top -/
def Rise (h t : Int) (n : Nat) (top : Int) : Prop := ∀ s s' : Int, 0 ≤ s → s ≤ s' → s' ≤ top → mk h t n s ≤ mk h t n s'
def spLowStop (K : PySem.W.Frag) : Sp := fun vs H Q _ => ∃ (v : V) (h t top : Int) (ss : List Srt), vs = [v, .int top] ∧ FltA K H v h t ss ∧ ss.length ≤ 1000 ∧ Rise h t (mny ss) top ∧
  (∀ (H' : Hp) (N : Nat), Same H H' → (N : Int) ≤ top → StuckF h t ss N → Q (.int (N : Int)) H') ∧ (∀ H', Same H H' → (∀ N : Nat, (N : Int) ≤ top → ¬ StuckF h t ss N) → Q .non H')
def spTurnedF (K : PySem.W.Frag) : Sp := fun vs H Q _ => ∃ (v : V) (h t : Int) (ss : List Srt), vs = [v] ∧ FltA K H v h t ss ∧ ss.length ≤ 1000 ∧ ∀ (H' : Hp) (z : V), Same H H' → FltA K H' z t h (turnF ss) → Q z H'
theorem fil_mono {ss : List Srt} {m m' : Int} (e : m ≤ m') : filF ss m ≤ filF ss m' := by
  unfold filF
  induction ss with
  | nil => exact Nat.le_refl _
  | cons a l ih =>
    simp only [List.map_cons, List.sum_cons]
    have : (if a.1 ≤ m then a.2.2 else 0) ≤ (if a.1 ≤ m' then a.2.2 else 0) := by
      by_cases z : a.1 ≤ m
      · rw [if_pos z, if_pos (by omega)]
        exact Nat.le_refl _
      · rw [if_neg z]
        exact Nat.zero_le _
    omega
theorem fil_ge {ss : List Srt} {m : Int} : ourn ss ≤ filF ss m := by
  unfold filF ourn
  induction ss with
  | nil => exact Nat.le_refl _
  | cons a l ih =>
    simp only [List.map_cons, List.sum_cons]
    omega
theorem fil_le {ss : List Srt} {m : Int} : filF ss m ≤ mny ss := by
  unfold filF mny
  induction ss with
  | nil => exact Nat.le_refl _
  | cons a l ih =>
    simp only [List.map_cons, List.sum_cons]
    have : (if a.1 ≤ m then a.2.2 else 0) ≤ a.2.2 := by split <;> omega
    omega
abbrev s_ships_many : Stmt := topS 14
theorem sc_ships_many : FnScope (["fleet", "draught", "ours", "theirs"] : List Str) (["fleet"] : List Str) (defScope s_ships_many) := ⟨rfl, rfl, rfl, by decide +kernel, rfl, by decide +kernel, by decide +kernel⟩
theorem b_ships_many (kV doc pm : Value) (an : Option Addr) (cdv ct : Value) (us : List Value) (hl : us.length = (["fleet"] : List Str).length) : bindArgs (PySem.W.fnOf "ships_many" "ships_many" (defArgs s_ships_many) (defBody s_ships_many) (defScope s_ships_many) .none kV doc pm an cdv ct) ⟨us, []⟩ = pure ((["fleet"] : List Str).zip us) :=
  match us, hl with | [_], _ => rfl
abbrev s_mark_in : Stmt := topS 15
theorem sc_mark_in : FnScope (["fleet", "step", "here", "there", "sorts"] : List Str) (["fleet", "step"] : List Str) (defScope s_mark_in) := ⟨rfl, rfl, rfl, by decide +kernel, rfl, by decide +kernel, by decide +kernel⟩
theorem b_mark_in (kV doc pm : Value) (an : Option Addr) (cdv ct : Value) (us : List Value) (hl : us.length = (["fleet", "step"] : List Str).length) : bindArgs (PySem.W.fnOf "mark_in" "mark_in" (defArgs s_mark_in) (defBody s_mark_in) (defScope s_mark_in) .none kV doc pm an cdv ct) ⟨us, []⟩ = pure ((["fleet", "step"] : List Str).zip us) :=
  match us, hl with | [_, _], _ => rfl
abbrev s_goers_many : Stmt := topS 16
theorem sc_goers_many : FnScope (["fleet", "step", "mark", "draught", "ours", "theirs"] : List Str) (["fleet", "step"] : List Str) (defScope s_goers_many) := ⟨rfl, rfl, rfl, by decide +kernel, rfl, by decide +kernel, by decide +kernel⟩
theorem b_goers_many (kV doc pm : Value) (an : Option Addr) (cdv ct : Value) (us : List Value) (hl : us.length = (["fleet", "step"] : List Str).length) : bindArgs (PySem.W.fnOf "goers_many" "goers_many" (defArgs s_goers_many) (defBody s_goers_many) (defScope s_goers_many) .none kV doc pm an cdv ct) ⟨us, []⟩ = pure ((["fleet", "step"] : List Str).zip us) :=
  match us, hl with | [_, _], _ => rfl
abbrev s_top_in : Stmt := topS 17
theorem sc_top_in : FnScope (["fleet", "here", "there", "sorts"] : List Str) (["fleet"] : List Str) (defScope s_top_in) := ⟨rfl, rfl, rfl, by decide +kernel, rfl, by decide +kernel, by decide +kernel⟩
theorem b_top_in (kV doc pm : Value) (an : Option Addr) (cdv ct : Value) (us : List Value) (hl : us.length = (["fleet"] : List Str).length) : bindArgs (PySem.W.fnOf "top_in" "top_in" (defArgs s_top_in) (defBody s_top_in) (defScope s_top_in) .none kV doc pm an cdv ct) ⟨us, []⟩ = pure ((["fleet"] : List Str).zip us) :=
  match us, hl with | [_], _ => rfl
abbrev s_filled_at : Stmt := topS 18
theorem sc_filled_at : FnScope (["fleet", "step", "mark", "draught", "ours", "theirs"] : List Str) (["fleet", "step"] : List Str) (defScope s_filled_at) := ⟨rfl, rfl, rfl, by decide +kernel, rfl, by decide +kernel, by decide +kernel⟩
theorem b_filled_at (kV doc pm : Value) (an : Option Addr) (cdv ct : Value) (us : List Value) (hl : us.length = (["fleet", "step"] : List Str).length) : bindArgs (PySem.W.fnOf "filled_at" "filled_at" (defArgs s_filled_at) (defBody s_filled_at) (defScope s_filled_at) .none kV doc pm an cdv ct) ⟨us, []⟩ = pure ((["fleet", "step"] : List Str).zip us) :=
  match us, hl with | [_, _], _ => rfl
abbrev s_low_stop : Stmt := topS 19
theorem sc_low_stop : FnScope (["fleet", "top", "step", "filled", "draught", "ours", "theirs"] : List Str) (["fleet", "top"] : List Str) (defScope s_low_stop) := ⟨rfl, rfl, rfl, by decide +kernel, rfl, by decide +kernel, by decide +kernel⟩
theorem b_low_stop (kV doc pm : Value) (an : Option Addr) (cdv ct : Value) (us : List Value) (hl : us.length = (["fleet", "top"] : List Str).length) : bindArgs (PySem.W.fnOf "low_stop" "low_stop" (defArgs s_low_stop) (defBody s_low_stop) (defScope s_low_stop) .none kV doc pm an cdv ct) ⟨us, []⟩ = pure ((["fleet", "top"] : List Str).zip us) :=
  match us, hl with | [_, _], _ => rfl
abbrev s_turned_fleet : Stmt := topS 13
theorem sc_turned_fleet : FnScope (["fleet", "here", "there", "sorts", "draught", "ours", "theirs"] : List Str) (["fleet"] : List Str) (defScope s_turned_fleet) := ⟨rfl, rfl, rfl, by decide +kernel, rfl, by decide +kernel, by decide +kernel⟩
theorem b_turned_fleet (kV doc pm : Value) (an : Option Addr) (cdv ct : Value) (us : List Value) (hl : us.length = (["fleet"] : List Str).length) : bindArgs (PySem.W.fnOf "turned_fleet" "turned_fleet" (defArgs s_turned_fleet) (defBody s_turned_fleet) (defScope s_turned_fleet) .none kV doc pm an cdv ct) ⟨us, []⟩ = pure ((["fleet"] : List Str).zip us) :=
  match us, hl with | [_], _ => rfl
section
variable {P : Program} {w : World} {K : PySem.W.Frag} {mg : Str → Option Value} {base : Heap}
theorem ok_ships {k : Nat} (D : Df K mg "ships_many" s_ships_many) (T : Bt mg) : Ok P w K mg base (k + 1) "ships_many" s_ships_many ["fleet"] (spShips K) := by
  refine D.ok sc_ships_many b_ships_many (fun vs H Q E h => ?_) (fun f cdv A outer s H vs Q E hr h => ?_)
  · obtain ⟨v, h, t, ss, rfl, _⟩ := h
    rfl
  · obtain ⟨v, h, t, ss, rfl, ⟨p, q, rs, rfl, hp, hq, hs⟩, l1, k⟩ := h
    refine ⟨_, (pss_one (ps_ret (pe_callB (cr_sum rfl) (by rfl) T.sum_ (by decide +kernel) (pa_cons (pe_lc (own := [("draught", 1), ("ours", 2), ("theirs", 3)]) (g := (gSeq K 3 (gCons (gName 1) (gCons (gName 2) (gCons (gName 3) gNil))))) (tt := tYes) (by rfl) sc_ships_many.nd (pi_seq (pe_ix ix_lt (pv 0) pe_int (fun _ _ => rfl))) (blkOk_by (own := [("draught", 1), ("ours", 2), ("theirs", 3)]) (N := (["fleet", "draught", "ours", "theirs"] : List Str)) (sc := defScope s_ships_many) (by decide +kernel)) (fun _ _ _ _ _ => (pg_seq rfl (pgs_cons (pg_name (i := 1) sc_ships_many.nd rfl (.inl rfl)) (pgs_cons (pg_name (i := 2) sc_ships_many.nd rfl (.inl rfl)) (pgs_cons (pg_name (i := 3) sc_ships_many.nd rfl (.inl rfl)) pgs_nil))))) (fun _ _ _ _ _ => pts_nil) (fun _ _ _ _ _ => (pe_op op_add (pv 2) (pv 3)))) pa_nil)))), ?_⟩
    refine ⟨_, rfl, p, _, 2, .ref q, rfl, rfl, hp, rfl, q, _, H, rfl, hq, Kp.refl _ _, fun J hJ C nC => ?_⟩
    obtain ⟨G, g, W⟩ := hJ.walk
    refine lc_it W (fun i H' => Same H H' ∧ H' C = some (.lst (((ss.take i).map fun x => ((x.2.1 + x.2.2 : Nat) : Int)).map V.int))) ⟨same_new nC, upd_same⟩ (fun i H' _ z => g H' (.ofS z.1)) ?_ ?_
    · rintro i x H1 H2 _ ⟨sm, hC⟩ ⟨rfl, gx⟩
      obtain ⟨r, hi, rfl, hr1⟩ := srt_at (hs.same sm) gx
      refine ⟨r, _, rfl, hr1, rfl, _, _, rfl, _, _, rfl, _, _, rfl, rfl, rfl, tyes (iteT ⟨_, rfl, _, rfl, _, _, rfl, rfl, _, hC, ?_, same_over sm nC, ?_⟩)⟩
      · rw [List.length_map, List.length_map]
        exact Nat.lt_of_lt_of_le (take_le hi) (Nat.le_trans l1 (by decide))
      · rw [upd_same, tm _ hi, List.map_append]
        rfl
    · rintro H1 ⟨sm, hC⟩
      rw [List.length_map, hs.1, List.take_length] at hC
      refine ⟨C, _, rfl, SqL.of hC, ?_⟩
      rw [isum]
      exact k H1 sm
theorem ok_mark_in {k : Nat} (D : Df K mg "mark_in" s_mark_in) (T : Bt mg) (O_mark_of : Ok P w K mg base k "mark_of" s_mark_of ["here", "there", "many", "step"] spMarkOf) (O_ships_many : Ok P w K mg base k "ships_many" s_ships_many ["fleet"] (spShips K)) :
    Ok P w K mg base (k + 1) "mark_in" s_mark_in ["fleet", "step"] (spMarkIn K) := by
  refine D.ok sc_mark_in b_mark_in (fun vs H Q E h => ?_) (fun f cdv A outer s H vs Q E hr h => ?_)
  · obtain ⟨v, h, t, s, ss, rfl, _⟩ := h
    rfl
  · obtain ⟨v, h, t, s, ss, rfl, hv, l1, k⟩ := h
    obtain ⟨p, q, rs, rfl, hp, hq, hs⟩ := id hv
    refine ⟨_, (pss_cons (ps_asg (pv 0) (pg_seq rfl (pgs_cons (pg_name (i := 2) sc_mark_in.nd rfl (.inl rfl)) (pgs_cons (pg_name (i := 3) sc_mark_in.nd rfl (.inl rfl)) (pgs_cons (pg_name (i := 4) sc_mark_in.nd rfl (.inl rfl)) pgs_nil)))))
      (pss_one (ps_ret (pe_fn O_mark_of (hr.mono (by omega)) (pa_cons (pv 2) (pa_cons (pv 3) (pa_cons (pe_fn O_ships_many (hr.mono (by omega)) (pa_cons (pv 0) pa_nil)) (pa_cons (pv 1) pa_nil)))))))), ?_⟩
    refine ⟨_, rfl, p, _, rfl, hp, rfl, _, _, rfl, _, _, rfl, _, _, rfl, rfl, ?_⟩
    exact ⟨_, rfl, _, rfl, _, rfl, .ref p, h, t, ss, rfl, hv, l1, fun H' s1 => ⟨_, rfl, h, t, s, mny ss, rfl, k H' s1⟩⟩
theorem ok_top_in {k : Nat} (D : Df K mg "top_in" s_top_in) (T : Bt mg) (O_top_of : Ok P w K mg base k "top_of" s_top_of ["here", "there", "many"] spTopOf) (O_ships_many : Ok P w K mg base k "ships_many" s_ships_many ["fleet"] (spShips K)) :
    Ok P w K mg base (k + 1) "top_in" s_top_in ["fleet"] (spTopIn K) := by
  refine D.ok sc_top_in b_top_in (fun vs H Q E h => ?_) (fun f cdv A outer s H vs Q E hr h => ?_)
  · obtain ⟨v, h, t, ss, rfl, _⟩ := h
    rfl
  · obtain ⟨v, h, t, ss, rfl, hv, l1, k⟩ := h
    obtain ⟨p, q, rs, rfl, hp, hq, hs⟩ := id hv
    refine ⟨_, (pss_cons (ps_asg (pv 0) (pg_seq rfl (pgs_cons (pg_name (i := 1) sc_top_in.nd rfl (.inl rfl)) (pgs_cons (pg_name (i := 2) sc_top_in.nd rfl (.inl rfl)) (pgs_cons (pg_name (i := 3) sc_top_in.nd rfl (.inl rfl)) pgs_nil)))))
      (pss_one (ps_ret (pe_fn O_top_of (hr.mono (by omega)) (pa_cons (pv 1) (pa_cons (pv 2) (pa_cons (pe_fn O_ships_many (hr.mono (by omega)) (pa_cons (pv 0) pa_nil)) pa_nil))))))), ?_⟩
    refine ⟨_, rfl, p, _, rfl, hp, rfl, _, _, rfl, _, _, rfl, _, _, rfl, rfl, ?_⟩
    exact ⟨_, rfl, _, rfl, _, rfl, .ref p, h, t, ss, rfl, hv, l1, fun H' s1 => ⟨h, t, mny ss, rfl, k H' s1⟩⟩
theorem ok_goers_many {k : Nat} (D : Df K mg "goers_many" s_goers_many) (T : Bt mg) (O_mark_in : Ok P w K mg base k "mark_in" s_mark_in ["fleet", "step"] (spMarkIn K)) :
    Ok P w K mg base (k + 1) "goers_many" s_goers_many ["fleet", "step"] (spGoersMany K) := by
  refine D.ok sc_goers_many b_goers_many (fun vs H Q E h => ?_) (fun f cdv A outer s H vs Q E hr h => ?_)
  · obtain ⟨v, h, t, s, ss, rfl, _⟩ := h
    rfl
  · obtain ⟨v, h, t, s, ss, rfl, hv, l1, k⟩ := h
    refine ⟨_, (pss_cons (ps_set (i := 2) sc_goers_many.nd rfl (.inr rfl) (pe_fn O_mark_in (hr.mono (by omega)) (pa_cons (pv 0) (pa_cons (pv 1) pa_nil))))
      (pss_one (ps_ret (pe_callB (cr_sum rfl) (by rfl) T.sum_ (by decide +kernel) (pa_cons (pe_lc (own := [("draught", 3), ("ours", 4), ("theirs", 5)]) (g := (gSeq K 3 (gCons (gName 3) (gCons (gName 4) (gCons (gName 5) gNil))))) (by rfl) sc_goers_many.nd (pi_seq (pe_ix ix_lt (pv 0) pe_int (fun _ _ => rfl))) (blkOk_by (own := [("draught", 3), ("ours", 4), ("theirs", 5)]) (N := (["fleet", "step", "mark", "draught", "ours", "theirs"] : List Str)) (sc := defScope s_goers_many) (by decide +kernel)) (fun _ _ _ _ _ => (pg_seq rfl (pgs_cons (pg_name (i := 3) sc_goers_many.nd rfl (.inl rfl)) (pgs_cons (pg_name (i := 4) sc_goers_many.nd rfl (.inl rfl)) (pgs_cons (pg_name (i := 5) sc_goers_many.nd rfl (.inl rfl)) pgs_nil))))) (fun _ _ _ _ _ => (pts_one (pt_cmpR op_le (pv 3) (pv 2) (nomark _)))) (fun _ _ _ _ _ => (pe_op op_add (pv 4) (pv 5)))) pa_nil))))), ?_⟩
    refine ⟨_, rfl, _, rfl, v, h, t, s, ss, rfl, hv, l1, fun H0 s0 => ?_⟩
    obtain ⟨p, q, rs, rfl, hp, hq, hs⟩ := hv.same s0
    generalize mk h t (mny ss) s = m at k
    refine ⟨_, rfl, p, _, 2, .ref q, rfl, rfl, hp, rfl, q, _, H0, rfl, hq, Kp.refl _ _, fun J hJ C nC => ?_⟩
    obtain ⟨G, g, W⟩ := hJ.walk
    refine lc_it W (fun i H' => Same H0 H' ∧ H' C = some (.lst ((((ss.take i).filter fun x => decide (x.1 ≤ m)).map fun x => ((x.2.1 + x.2.2 : Nat) : Int)).map V.int))) ⟨same_new nC, upd_same⟩ (fun i H' _ z => g H' (.ofS z.1)) ?_ ?_
    · rintro i x H1 H2 _ ⟨sm, hC⟩ ⟨rfl, gx⟩
      obtain ⟨r, hi, rfl, hr1⟩ := srt_at (hs.same sm) gx
      refine ⟨r, _, rfl, hr1, rfl, _, _, rfl, _, _, rfl, _, _, rfl, rfl, rfl, _, rfl, _, rfl, _, _, rfl, rfl, _, rfl, ite2 (fun c => ⟨_, rfl, _, rfl, _, _, rfl, rfl, _, hC, ?_, same_over sm nC, ?_⟩) (fun c => ⟨sm, ?_⟩)⟩
      · rw [List.length_map, List.length_map]
        exact Nat.lt_of_lt_of_le (tf_le hi) (Nat.le_trans l1 (by decide))
      · rw [upd_same, tfm _ _ hi, if_pos c, List.map_append]
        rfl
      · rw [hC, tfm _ _ hi, if_neg c, List.append_nil]
    · rintro H1 ⟨sm, hC⟩
      rw [List.length_map, hs.1, List.take_length] at hC
      refine ⟨C, _, rfl, SqL.of hC, ?_⟩
      rw [isum]
      exact k H1 (s0.trans sm)
theorem ok_filled {k : Nat} (D : Df K mg "filled_at" s_filled_at) (T : Bt mg) (O_mark_in : Ok P w K mg base k "mark_in" s_mark_in ["fleet", "step"] (spMarkIn K)) :
    Ok P w K mg base (k + 1) "filled_at" s_filled_at ["fleet", "step"] (spFilled K) := by
  refine D.ok sc_filled_at b_filled_at (fun vs H Q E h => ?_) (fun f cdv A outer s H vs Q E hr h => ?_)
  · obtain ⟨v, h, t, s, ss, rfl, _⟩ := h
    rfl
  · obtain ⟨v, h, t, s, ss, rfl, hv, l1, k⟩ := h
    refine ⟨_, (pss_cons (ps_set (i := 2) sc_filled_at.nd rfl (.inr rfl) (pe_fn O_mark_in (hr.mono (by omega)) (pa_cons (pv 0) (pa_cons (pv 1) pa_nil))))
      (pss_one (ps_ret (pe_callB (cr_sum rfl) (by rfl) T.sum_ (by decide +kernel) (pa_cons (pe_lc (own := [("draught", 3), ("ours", 4), ("theirs", 5)]) (g := (gSeq K 3 (gCons (gName 3) (gCons (gName 4) (gCons (gName 5) gNil))))) (tt := tYes) (by rfl) sc_filled_at.nd (pi_seq (pe_ix ix_lt (pv 0) pe_int (fun _ _ => rfl))) (blkOk_by (own := [("draught", 3), ("ours", 4), ("theirs", 5)]) (N := (["fleet", "step", "mark", "draught", "ours", "theirs"] : List Str)) (sc := defScope s_filled_at) (by decide +kernel)) (fun _ _ _ _ _ => (pg_seq rfl (pgs_cons (pg_name (i := 3) sc_filled_at.nd rfl (.inl rfl)) (pgs_cons (pg_name (i := 4) sc_filled_at.nd rfl (.inl rfl)) (pgs_cons (pg_name (i := 5) sc_filled_at.nd rfl (.inl rfl)) pgs_nil))))) (fun _ _ _ _ _ => pts_nil) (fun _ _ _ _ _ => (pe_op op_add (pv 4) (pe_ifExp (pt_cmpR op_le (pv 3) (pv 2) (nomark _)) (pv 5) pe_int)))) pa_nil))))), ?_⟩
    refine ⟨_, rfl, _, rfl, v, h, t, s, ss, rfl, hv, l1, fun H0 s0 => ?_⟩
    obtain ⟨p, q, rs, rfl, hp, hq, hs⟩ := hv.same s0
    generalize mk h t (mny ss) s = m at k
    refine ⟨_, rfl, p, _, 2, .ref q, rfl, rfl, hp, rfl, q, _, H0, rfl, hq, Kp.refl _ _, fun J hJ C nC => ?_⟩
    obtain ⟨G, g, W⟩ := hJ.walk
    refine lc_it W (fun i H' => Same H0 H' ∧ H' C = some (.lst (((ss.take i).map fun x => ((x.2.1 + if x.1 ≤ m then x.2.2 else 0 : Nat) : Int)).map V.int))) ⟨same_new nC, upd_same⟩ (fun i H' _ z => g H' (.ofS z.1)) ?_ ?_
    · rintro i x H1 H2 _ ⟨sm, hC⟩ ⟨rfl, gx⟩
      obtain ⟨r, hi, rfl, hr1⟩ := srt_at (hs.same sm) gx
      have len : (((ss.take i).map fun x => ((x.2.1 + if x.1 ≤ m then x.2.2 else 0 : Nat) : Int)).map V.int).length < sizeLine := by
        rw [List.length_map, List.length_map]
        exact Nat.lt_of_lt_of_le (take_le hi) (Nat.le_trans l1 (by decide))
      refine ⟨r, _, rfl, hr1, rfl, _, _, rfl, _, _, rfl, _, _, rfl, rfl, rfl, tyes (iteT ⟨_, rfl, _, rfl, _, rfl, _, _, rfl, rfl, _, rfl, ite2 (fun c => ⟨_, rfl, _, _, rfl, rfl, _, hC, len, same_over sm nC, ?_⟩) (fun c => ⟨_, _, rfl, rfl, _, hC, len, same_over sm nC, ?_⟩)⟩)⟩
      · have c0 : ss[i].1 ≤ m := of_decide_eq_true c
        rw [upd_same, tm _ hi, List.map_append, if_pos c0]
        rfl
      · have c0 : ¬ ss[i].1 ≤ m := fun z => c (decide_eq_true z)
        rw [upd_same, tm _ hi, List.map_append, if_neg c0]
        rfl
    · rintro H1 ⟨sm, hC⟩
      rw [List.length_map, hs.1, List.take_length] at hC
      refine ⟨C, _, rfl, SqL.of hC, ?_⟩
      rw [isum]
      exact k H1 (s0.trans sm)
theorem ok_low_stop {k : Nat} (D : Df K mg "low_stop" s_low_stop) (T : Bt mg) (O_filled_at : Ok P w K mg base k "filled_at" s_filled_at ["fleet", "step"] (spFilled K)) :
    Ok P w K mg base (k + 1) "low_stop" s_low_stop ["fleet", "top"] (spLowStop K) := by
  refine D.ok sc_low_stop b_low_stop (fun vs H Q E h => ?_) (fun f cdv A outer s H vs Q E hr h => ?_)
  · obtain ⟨v, h, t, top, ss, rfl, _⟩ := h
    rfl
  · obtain ⟨v, h, t, top, ss, rfl, hv, l1, ris, k1, k2⟩ := h
    refine ⟨_, (pss_cons (ps_set (i := 2) sc_low_stop.nd rfl (.inl rfl) (pe_callB (cr_sum rfl) (by rfl) T.sum_ (by decide +kernel) (pa_cons (pe_lc (own := [("draught", 4), ("ours", 5), ("theirs", 6)]) (g := (gSeq K 3 (gCons (gName 4) (gCons (gName 5) (gCons (gName 6) gNil))))) (tt := tYes) (by rfl) sc_low_stop.nd (pi_seq (pe_ix ix_lt (pv 0) pe_int (fun _ _ => rfl))) (blkOk_by (own := [("draught", 4), ("ours", 5), ("theirs", 6)]) (N := (["fleet", "top", "step", "filled", "draught", "ours", "theirs"] : List Str)) (sc := defScope s_low_stop) (by decide +kernel)) (fun _ _ _ _ _ => (pg_seq rfl (pgs_cons (pg_name (i := 4) sc_low_stop.nd rfl (.inl rfl)) (pgs_cons (pg_name (i := 5) sc_low_stop.nd rfl (.inl rfl)) (pgs_cons (pg_name (i := 6) sc_low_stop.nd rfl (.inl rfl)) pgs_nil))))) (fun _ _ _ _ _ => pts_nil) (fun _ _ _ _ _ => (pv 5))) pa_nil)))
      (pss_cons (ps_while PassesOwn.never (pt_cmpR op_le (pv 2) (pv 1) (nomark _))
        (pss_cons (ps_set (i := 3) sc_low_stop.nd rfl (.inl rfl) (pe_fn O_filled_at (hr.mono (by omega)) (pa_cons (pv 0) (pa_cons (pv 2) pa_nil))))
          (pss_cons (ps_if (pt_cmpR op_eq (pv 3) (pv 2) (nomark _))
            (pss_one (ps_ret (pv 2)))
            pss_nil)
          (pss_one (ps_set (i := 2) sc_low_stop.nd rfl (.inl rfl) (pv 3))))))
      (pss_one (ps_ret pe_non)))), ?_⟩
    obtain ⟨p, q, rs, rfl, hp, hq, hs⟩ := id hv
    refine ⟨_, rfl, p, _, 2, .ref q, rfl, rfl, hp, rfl, q, _, H, rfl, hq, Kp.refl _ _, fun J hJ C nC => ?_⟩
    obtain ⟨G, g, W⟩ := hJ.walk
    refine lc_it W (fun i H' => Same H H' ∧ H' C = some (.lst (((ss.take i).map fun x => ((x.2.1 : Nat) : Int)).map V.int))) ⟨same_new nC, upd_same⟩ (fun i H' _ z => g H' (.ofS z.1)) ?_ ?_
    · rintro i x H1 H2 _ ⟨sm, hC⟩ ⟨rfl, gx⟩
      obtain ⟨r, hi, rfl, hr1⟩ := srt_at (hs.same sm) gx
      refine ⟨r, _, rfl, hr1, rfl, _, _, rfl, _, _, rfl, _, _, rfl, rfl, rfl, tyes (iteT ⟨_, rfl, _, hC, ?_, same_over sm nC, ?_⟩)⟩
      · rw [List.length_map, List.length_map]
        exact Nat.lt_of_lt_of_le (take_le hi) (Nat.le_trans l1 (by decide))
      · rw [upd_same, tm _ hi, List.map_append]
        rfl
    rintro H1 ⟨sm, hC⟩
    rw [List.length_map, hs.1, List.take_length] at hC
    refine ⟨C, _, rfl, SqL.of hC, ?_⟩
    rw [isum]
    -- the loop: step is no less than those here; at no step between is it stuck
    refine ⟨fun m σ H' => ∃ (y : Option V) (n : Nat), σ = [some (.ref p), some (.int top), some (.int (n : Int)), y, none, none, none] ∧ Same H H' ∧ ourn ss ≤ n ∧ n ≤ mny ss ∧ mny ss - n = m ∧ (∀ j : Nat, ourn ss ≤ j → j < n → (j : Int) ≤ top → j < filF ss (mk h t (mny ss) (j : Int))) ∧ ((n : Int) ≤ top → n ≤ filF ss (mk h t (mny ss) (n : Int))),
      ⟨_, none, ourn ss, rfl, sm, Nat.le_refl _, ?_, rfl, fun j a b => by omega, fun _ => fil_ge⟩, ?_⟩
    · exact Nat.le_trans (fil_ge (m := 0)) fil_le
    rintro m σ H2 ⟨y, n, rfl, s2, n0, n1, rfl, hj, hn⟩
    refine ⟨_, rfl, _, rfl, _, _, rfl, rfl, _, rfl, ite2 (fun c => ?_) (fun c => ?_)⟩
    · have c0 : (n : Int) ≤ top := of_decide_eq_true c
      refine ⟨fun σ' H' => ∃ (y : Option V) (n' : Nat), σ' = [some (.ref p), some (.int top), some (.int (n' : Int)), y, none, none, none] ∧ Same H H' ∧ ourn ss ≤ n' ∧ n' ≤ mny ss ∧ n < n' ∧ (∀ j : Nat, ourn ss ≤ j → j < n' → (j : Int) ≤ top → j < filF ss (mk h t (mny ss) (j : Int))) ∧ ((n' : Int) ≤ top → n' ≤ filF ss (mk h t (mny ss) (n' : Int))),
        fun σ' H' ⟨y', n', z1, z2, z3, z4, z5, z6, z7⟩ => ⟨_, by omega, y', n', z1, z2, z3, z4, rfl, z6, z7⟩, ?_⟩
      refine ⟨_, rfl, _, rfl, .ref p, h, t, (n : Int), ss, rfl, hv.same s2, l1, fun H3 s3 => ?_⟩
      have s23 := s2.trans s3
      refine ⟨_, rfl, _, rfl, rfl, _, rfl, ite2 (fun c2 => ?_) (fun c2 => ?_)⟩
      · have e : (filF ss (mk h t (mny ss) (n : Int)) : Int) = (n : Int) := V.int.inj (of_decide_eq_true c2)
        exact ⟨_, rfl, k1 H3 n s23 c0 ⟨n0, fun j a b => hj j a b (by omega), by omega⟩⟩
      · have e : ¬ (filF ss (mk h t (mny ss) (n : Int)) : Int) = (n : Int) := fun z => c2 (decide_eq_true (by rw [z]))
        have hn' := hn c0
        refine ⟨_, rfl, _, filF ss (mk h t (mny ss) (n : Int)), rfl, s23, fil_ge, fil_le, by omega, fun j a b d => ?_, fun d => ?_⟩
        · by_cases z : j < n
          · exact hj j a z d
          · have := fil_mono (ss := ss) (ris (n : Int) (j : Int) (by omega) (by omega) d)
            omega
        · exact fil_mono (ris _ _ (by omega) (by omega) d)
    · have c0 : ¬ (n : Int) ≤ top := fun z => c (decide_eq_true z)
      refine k2 H2 s2 fun N a ⟨b1, b2, b3⟩ => ?_
      have := hj N b1 (by omega) a
      omega
theorem ok_turned_fleet {k : Nat} (D : Df K mg "turned_fleet" s_turned_fleet) (T : Bt mg) : Ok P w K mg base (k + 1) "turned_fleet" s_turned_fleet ["fleet"] (spTurnedF K) := by
  refine D.ok sc_turned_fleet b_turned_fleet (fun vs H Q E h => ?_) (fun f cdv A outer s H vs Q E hr h => ?_)
  · obtain ⟨v, h, t, ss, rfl, _⟩ := h
    rfl
  · obtain ⟨v, h, t, ss, rfl, hv, l1, k⟩ := h
    obtain ⟨p, q, rs, rfl, hp, hq, hs⟩ := id hv
    refine ⟨_, (pss_cons (ps_asg (pv 0) (pg_seq rfl (pgs_cons (pg_name (i := 1) sc_turned_fleet.nd rfl (.inl rfl)) (pgs_cons (pg_name (i := 2) sc_turned_fleet.nd rfl (.inl rfl)) (pgs_cons (pg_name (i := 3) sc_turned_fleet.nd rfl (.inl rfl)) pgs_nil)))))
      (pss_one (ps_ret (pe_tup (pa_cons (pv 2) (pa_cons (pv 1) (pa_cons (pe_callTy call_tuple_of (by rfl) T.tuple_ (by decide +kernel) (pa_cons (pe_lc (own := [("draught", 4), ("ours", 5), ("theirs", 6)]) (g := (gSeq K 3 (gCons (gName 4) (gCons (gName 5) (gCons (gName 6) gNil))))) (tt := tYes) (by rfl) sc_turned_fleet.nd (pi_seq (pv 3)) (blkOk_by (own := [("draught", 4), ("ours", 5), ("theirs", 6)]) (N := (["fleet", "here", "there", "sorts", "draught", "ours", "theirs"] : List Str)) (sc := defScope s_turned_fleet) (by decide +kernel)) (fun _ _ _ _ _ => (pg_seq rfl (pgs_cons (pg_name (i := 4) sc_turned_fleet.nd rfl (.inl rfl)) (pgs_cons (pg_name (i := 5) sc_turned_fleet.nd rfl (.inl rfl)) (pgs_cons (pg_name (i := 6) sc_turned_fleet.nd rfl (.inl rfl)) pgs_nil))))) (fun _ _ _ _ _ => pts_nil) (fun _ _ _ _ _ => (pe_tup (pa_cons (pv 4) (pa_cons (pv 6) (pa_cons (pv 5) pa_nil)))))) pa_nil)) pa_nil))))))), ?_⟩
    refine ⟨_, rfl, p, _, rfl, hp, rfl, _, _, rfl, _, _, rfl, _, _, rfl, rfl, ?_⟩
    refine ⟨_, rfl, _, rfl, _, rfl, q, _, H, rfl, hq, Kp.refl _ _, fun J hJ C nC => ?_⟩
    obtain ⟨G, g, W⟩ := hJ.walk
    refine lc_it W (fun i H' => Same H H' ∧ ∃ us : List Addr, H' C = some (.lst (us.map V.ref)) ∧ SrtsN H' us (turnF (ss.take i))) ⟨same_new nC, [], upd_same, ?_⟩ (fun i H' _ z => g H' (.ofS z.1)) ?_ ?_
    · exact ⟨rfl, fun i r x a _ => by simp at a⟩
    · rintro i x H1 H2 _ ⟨sm, us, hC, hu⟩ ⟨rfl, gx⟩
      obtain ⟨r, hi, rfl, hr1⟩ := srt_at (hs.same sm) gx
      have lu : us.length = i := by
        rw [hu.1]
        unfold turnF
        rw [List.length_map, List.length_take]
        omega
      refine ⟨r, _, rfl, hr1, rfl, _, _, rfl, _, _, rfl, _, _, rfl, rfl, rfl, tyes (iteT ⟨_, rfl, _, rfl, _, rfl, (by show 3 ≤ sizeLine; decide), fun u nu => ⟨_, same_new nu _ _ hC, ?_, ?_, us ++ [u], ?_, ?_⟩⟩)⟩
      · rw [List.length_map, lu]
        exact Nat.lt_of_lt_of_le hi (Nat.le_trans l1 (by decide))
      · exact same_over (sm.trans (same_new nu)) nC
      · rw [upd_same, List.map_append]
        rfl
      · have e : turnF (ss.take (i + 1)) = turnF (ss.take i) ++ [(ss[i].1, ss[i].2.2, ss[i].2.1)] := tm _ hi
        rw [e]
        exact (hu.push (x := (ss[i].1, ss[i].2.2, ss[i].2.1)) nu).put (same_new nu _ _ hC)
    · rintro H1 ⟨sm, us, hC, hu⟩
      rw [List.length_map, hs.1, List.take_length] at hu
      refine ⟨C, _, rfl, .inl ⟨SqL.of hC, fun a na => ⟨(by show 3 ≤ sizeLine; decide), fun b nb => ?_⟩⟩⟩
      have s1 : Same H1 (upd H1 a (.tup (us.map V.ref))) := same_new na
      have s2 := s1.trans (same_new nb (o := .tup [.int t, .int h, .ref a]))
      exact k _ _ (sm.trans s2) ⟨b, a, us, rfl, SqA.t upd_same, SqA.t (same_new nb _ _ upd_same), (hu.same s2).a⟩
end
end Sh

namespace Sh
open PySem PySem.Spec PyProof.Rows L2
/-! ### which lot: its kind and its step -/
/-- constants of the top -/
structure Cn (mg : Str → Option Value) : Prop where
  low : ∃ t, mg "LOW" = some (.str "low" t)
  high : ∃ t, mg "HIGH" = some (.str "high" t)
  top : ∃ t, mg "TOP" = some (.str "top" t)
structure Ck (mg : Str → Option Value) (K : PySem.W.Frag) (w : World) : Prop where
  kinds : ∃ a, mg "TURNED_KINDS" = some (.ref a) ∧ KDct K w a "low" (.str "high") ∧ KDct K w a "high" (.str "low") ∧ KDct K w a "top" (.str "top")
section
variable {K : PySem.W.Frag} {mg : Str → Option Value} {w : World}
theorem with_cn {R : Prop} {h : Heap} {t1 t2 t3 : Tok} (X : K.In h) (G : h.Ns mainGlobals mg) (a : PySem.W.nsIn K mainGlobals "LOW" = some (some (.str "low" t1))) (b : PySem.W.nsIn K mainGlobals "HIGH" = some (some (.str "high" t2)))
    (c : PySem.W.nsIn K mainGlobals "TOP" = some (some (.str "top" t3))) (r : Cn mg → R) : R := r ⟨⟨_, PySem.W.mg_of X G a⟩, ⟨_, PySem.W.mg_of X G b⟩, ⟨_, PySem.W.mg_of X G c⟩⟩
theorem with_ck {R : Prop} {h : Heap} {p : Addr} {es : Array DictEntry} {n : Nat} {t1 t2 t3 : Tok} (X : K.In h) (G : h.Ns mainGlobals mg) (a : PySem.W.nsIn K mainGlobals "TURNED_KINDS" = some (some (.ref p))) (l : K.lookup p = some ⟨.type "dict", none, .dict es n, #[]⟩)
    (k : PySem.W.KeysLit w.params es.toList) (d1 : PySem.W.nsIn K p "low" = some (some (.str "high" t1))) (d2 : PySem.W.nsIn K p "high" = some (some (.str "low" t2))) (d3 : PySem.W.nsIn K p "top" = some (some (.str "top" t3))) (r : Ck mg K w → R) : R :=
  r ⟨⟨p, PySem.W.mg_of X G a, ⟨es, n, _, l, k, d1, _, rfl⟩, ⟨es, n, _, l, k, d2, _, rfl⟩, ⟨es, n, _, l, k, d3, _, rfl⟩⟩⟩
end
inductive Kd where
  | low | high | top
def Kd.str : Kd → Str
  | .low => "low"
  | .high => "high"
  | .top => "top"
def Kd.turn : Kd → Kd
  | .low => .high
  | .high => .low
  | .top => .top
theorem Kd.str_inj {a b : Kd} (h : a.str = b.str) : a = b := by
  cases a <;> cases b <;> first | rfl | (exfalso; revert h; decide)
/-- the lot of a fleet -/
def LotF (h t : Int) (ss : List Srt) : Kd → Int → Prop
  | .low, s => ∃ N : Nat, s = (N : Int) ∧ (N : Int) ≤ topI h t (mny ss) ∧ StuckF h t ss N
  | .high, s => ∃ N : Nat, s = (mny ss : Int) - 1 - (N : Int) ∧ (N : Int) ≤ (mny ss : Int) - 1 - topI h t (mny ss) ∧ StuckF t h (turnF ss) N
  | .top, s => s = topI h t (mny ss) ∧ (∀ N : Nat, (N : Int) ≤ topI h t (mny ss) → ¬ StuckF h t ss N) ∧ ∀ N : Nat, (N : Int) ≤ (mny ss : Int) - 1 - topI h t (mny ss) → ¬ StuckF t h (turnF ss) N
/-- a lot told or handed in -/
def LtA (K : PySem.W.Frag) (H : Hp) (v : V) (kd : Kd) (s : Int) : Prop := ∃ p, v = .ref p ∧ SqA K H p [.str kd.str, .int s]
theorem LtA.same {K : PySem.W.Frag} {H H' : Hp} {v : V} {kd : Kd} {s : Int} (l : LtA K H v kd s) (e : Same H H') : LtA K H' v kd s := let ⟨p, a, b⟩ := l; ⟨p, a, Same.sqA e b⟩
theorem rise_top (h t : Int) (n : Nat) : Rise h t n (topI h t n) := fun _ _ a b c => mk_le a b c
theorem rise_turn (h t : Int) (n : Nat) : Rise t h n ((n : Int) - 1 - topI h t n) := fun s s' a b c => by
  rw [mk_turn' (h := h) (t := t), mk_turn' (h := h) (t := t)]
  exact mk_dn (by omega) (by omega) (by omega)
theorem isumN : ∀ l : List Nat, (l.map fun (n : Nat) => (n : Int)).sum = (l.sum : Int)
  | [] => rfl
  | a :: l => by
    rw [List.map_cons, List.sum_cons, isumN l, List.sum_cons]
    rfl
def spLotOf (K : PySem.W.Frag) : Sp := fun vs H Q _ => ∃ (v : V) (h t : Int) (ss : List Srt), vs = [v] ∧ FltA K H v h t ss ∧ ss.length ≤ 1000 ∧
  ∀ (H' : Hp) (p : Addr) (kd : Kd) (s : Int), Same H H' → H p = none → H' p = some (.tup [.str kd.str, .int s]) → LotF h t ss kd s → Q (.ref p) H'
def spTurnedLot (K : PySem.W.Frag) : Sp := fun vs H Q _ => ∃ (v l : V) (h t s : Int) (ss : List Srt) (kd : Kd), vs = [v, l] ∧ FltA K H v h t ss ∧ ss.length ≤ 1000 ∧ LtA K H l kd s ∧
  ∀ (H' : Hp) (z : V), Same H H' → LtA K H' z kd.turn ((mny ss : Int) - 1 - s) → Q z H'
def spFixed (K : PySem.W.Frag) : Sp := fun vs H Q _ => ∃ (v l : V) (h t s : Int) (ss : List Srt) (kd : Kd), vs = [v, l] ∧ FltA K H v h t ss ∧ ss.length ≤ 1000 ∧ LtA K H l kd s ∧
  ∀ (H' : Hp) (p : Addr), Same H H' → H p = none → H' p = some (.lst (((fxF ss (mk h t (mny ss) s)).map fun (n : Nat) => (n : Int)).map V.int)) → Q (.ref p) H'
def spLeastIn (K : PySem.W.Frag) : Sp := fun vs H Q _ => ∃ (v l : V) (h t s : Int) (ss : List Srt) (kd : Kd), vs = [v, l] ∧ FltA K H v h t ss ∧ ss.length ≤ 1000 ∧ LtA K H l kd s ∧
  (kd = .high → ∀ H', Same H H' → Q (.int (s + 1)) H') ∧ (kd ≠ .high → ∀ (H' : Hp) (m : Int), Same H H' → LeastI h t ss s m → Q (.int m) H')
def spMostIn (K : PySem.W.Frag) : Sp := fun vs H Q _ => ∃ (v l : V) (h t s : Int) (ss : List Srt) (kd : Kd), vs = [v, l] ∧ FltA K H v h t ss ∧ ss.length ≤ 1000 ∧ LtA K H l kd s ∧
  (kd = .low → ∀ H', Same H H' → Q (.int s) H') ∧ (kd ≠ .low → ∀ (H' : Hp) (m : Int), Same H H' → LeastI t h (turnF ss) ((mny ss : Int) - 1 - s) m → Q (.int ((mny ss : Int) - m)) H')
/-- the step next to which one goes -/
def nextS : Kd → Int → Int
  | .low, s => s - 1
  | .high, s => s + 1
  | .top, s => s
def spMoving (K : PySem.W.Frag) : Sp := fun vs H Q _ => ∃ (v l : V) (h t s : Int) (ss : List Srt) (kd : Kd), vs = [v, l] ∧ FltA K H v h t ss ∧ ss.length ≤ 1000 ∧ LtA K H l kd s ∧
  ((nextS kd s < 0 ∨ (mny ss : Int) ≤ nextS kd s) → ∀ H', Same H H' → Q .non H') ∧ (0 ≤ nextS kd s → nextS kd s < (mny ss : Int) → ∀ H', Same H H' → Q (.int (mk h t (mny ss) (nextS kd s))) H')
abbrev s_lot_of : Stmt := topS 20
theorem sc_lot_of : FnScope (["fleet", "last", "top", "stop"] : List Str) (["fleet"] : List Str) (defScope s_lot_of) := ⟨rfl, rfl, rfl, by decide +kernel, rfl, by decide +kernel, by decide +kernel⟩
theorem b_lot_of (kV doc pm : Value) (an : Option Addr) (cdv ct : Value) (us : List Value) (hl : us.length = (["fleet"] : List Str).length) : bindArgs (PySem.W.fnOf "lot_of" "lot_of" (defArgs s_lot_of) (defBody s_lot_of) (defScope s_lot_of) .none kV doc pm an cdv ct) ⟨us, []⟩ = pure ((["fleet"] : List Str).zip us) :=
  match us, hl with | [_], _ => rfl
abbrev s_turned_lot : Stmt := topS 21
theorem sc_turned_lot : FnScope (["fleet", "lot", "kind", "step"] : List Str) (["fleet", "lot"] : List Str) (defScope s_turned_lot) := ⟨rfl, rfl, rfl, by decide +kernel, rfl, by decide +kernel, by decide +kernel⟩
theorem b_turned_lot (kV doc pm : Value) (an : Option Addr) (cdv ct : Value) (us : List Value) (hl : us.length = (["fleet", "lot"] : List Str).length) : bindArgs (PySem.W.fnOf "turned_lot" "turned_lot" (defArgs s_turned_lot) (defBody s_turned_lot) (defScope s_turned_lot) .none kV doc pm an cdv ct) ⟨us, []⟩ = pure ((["fleet", "lot"] : List Str).zip us) :=
  match us, hl with | [_, _], _ => rfl
abbrev s_fixed_ones : Stmt := topS 22
theorem sc_fixed_ones : FnScope (["fleet", "lot", "mark", "draught", "ours", "theirs"] : List Str) (["fleet", "lot"] : List Str) (defScope s_fixed_ones) := ⟨rfl, rfl, rfl, by decide +kernel, rfl, by decide +kernel, by decide +kernel⟩
theorem b_fixed_ones (kV doc pm : Value) (an : Option Addr) (cdv ct : Value) (us : List Value) (hl : us.length = (["fleet", "lot"] : List Str).length) : bindArgs (PySem.W.fnOf "fixed_ones" "fixed_ones" (defArgs s_fixed_ones) (defBody s_fixed_ones) (defScope s_fixed_ones) .none kV doc pm an cdv ct) ⟨us, []⟩ = pure ((["fleet", "lot"] : List Str).zip us) :=
  match us, hl with | [_, _], _ => rfl
abbrev s_moving_mark : Stmt := topS 23
theorem sc_moving_mark : FnScope (["fleet", "lot", "kind", "step"] : List Str) (["fleet", "lot"] : List Str) (defScope s_moving_mark) := ⟨rfl, rfl, rfl, by decide +kernel, rfl, by decide +kernel, by decide +kernel⟩
theorem b_moving_mark (kV doc pm : Value) (an : Option Addr) (cdv ct : Value) (us : List Value) (hl : us.length = (["fleet", "lot"] : List Str).length) : bindArgs (PySem.W.fnOf "moving_mark" "moving_mark" (defArgs s_moving_mark) (defBody s_moving_mark) (defScope s_moving_mark) .none kV doc pm an cdv ct) ⟨us, []⟩ = pure ((["fleet", "lot"] : List Str).zip us) :=
  match us, hl with | [_, _], _ => rfl
section
variable {P : Program} {w : World} {K : PySem.W.Frag} {mg : Str → Option Value} {base : Heap}
theorem ok_lot_of {k : Nat} (D : Df K mg "lot_of" s_lot_of) (T : Bt mg) (C : Cn mg) (O_ships_many : Ok P w K mg base k "ships_many" s_ships_many ["fleet"] (spShips K)) (O_top_in : Ok P w K mg base k "top_in" s_top_in ["fleet"] (spTopIn K))
    (O_low_stop : Ok P w K mg base k "low_stop" s_low_stop ["fleet", "top"] (spLowStop K)) (O_turned_fleet : Ok P w K mg base k "turned_fleet" s_turned_fleet ["fleet"] (spTurnedF K)) : Ok P w K mg base (k + 1) "lot_of" s_lot_of ["fleet"] (spLotOf K) := by
  obtain ⟨_, g_LOW⟩ := C.low
  obtain ⟨_, g_HIGH⟩ := C.high
  obtain ⟨_, g_TOP⟩ := C.top
  refine D.ok sc_lot_of b_lot_of (fun vs H Q E h => ?_) (fun f cdv A outer s H vs Q E hr h => ?_)
  · obtain ⟨v, h, t, ss, rfl, _⟩ := h
    rfl
  · obtain ⟨v, h, t, ss, rfl, hv, l1, k⟩ := h
    refine ⟨_, (pss_cons (ps_set (i := 1) sc_lot_of.nd rfl (.inl rfl) (pe_op op_sub (pe_fn O_ships_many (hr.mono (by omega)) (pa_cons (pv 0) pa_nil)) pe_int))
      (pss_cons (ps_set (i := 2) sc_lot_of.nd rfl (.inl rfl) (pe_fn O_top_in (hr.mono (by omega)) (pa_cons (pv 0) pa_nil)))
      (pss_cons (ps_set (i := 3) sc_lot_of.nd rfl (.inl rfl) (pe_fn O_low_stop (hr.mono (by omega)) (pa_cons (pv 0) (pa_cons (pv 2) pa_nil))))
      (pss_cons (ps_if (pt_cmpR op_notN (pv 3) pe_non (nomark _))
        (pss_one (ps_ret (pe_tup (pa_cons (pe_glob (v := .str "low") (by rfl) g_LOW ⟨_, rfl⟩) (pa_cons (pv 3) pa_nil)))))
        pss_nil)
      (pss_cons (ps_set (i := 3) sc_lot_of.nd rfl (.inl rfl) (pe_fn O_low_stop (hr.mono (by omega)) (pa_cons (pe_fn O_turned_fleet (hr.mono (by omega)) (pa_cons (pv 0) pa_nil)) (pa_cons (pe_op op_sub (pv 1) (pv 2)) pa_nil))))
      (pss_cons (ps_if (pt_cmpR op_notN (pv 3) pe_non (nomark _))
        (pss_one (ps_ret (pe_tup (pa_cons (pe_glob (v := .str "high") (by rfl) g_HIGH ⟨_, rfl⟩) (pa_cons (pe_op op_sub (pv 1) (pv 3)) pa_nil)))))
        pss_nil)
      (pss_one (ps_ret (pe_tup (pa_cons (pe_glob (v := .str "top") (by rfl) g_TOP ⟨_, rfl⟩) (pa_cons (pv 2) pa_nil))))))))))), ?_⟩
    refine ⟨_, rfl, v, h, t, ss, rfl, hv, l1, fun H1 s1 => ⟨_, 1, rfl, rfl, ?_⟩⟩
    refine ⟨_, rfl, v, h, t, ss, rfl, hv.same s1, l1, fun H2 s2 => ?_⟩
    have s02 := s1.trans s2
    refine ⟨_, rfl, _, rfl, v, h, t, topI h t (mny ss), ss, rfl, hv.same s02, l1, rise_top _ _ _, fun H3 N s3 a b => ?_, fun H3 s3 no => ?_⟩
    · refine ⟨_, rfl, rfl, _, rfl, iteT ⟨_, rfl, (by show 2 ≤ sizeLine; decide), fun p np => ?_⟩⟩
      have s03 := s02.trans s3
      exact k _ p .low (N : Int) (s03.trans (same_new np)) (s03.free np) upd_same ⟨N, rfl, a, b⟩
    · have s03 := s02.trans s3
      refine ⟨_, rfl, rfl, _, rfl, iteF ?_⟩
      refine ⟨_, rfl, v, h, t, ss, rfl, hv.same s03, l1, fun H4 z s4 hz => ?_⟩
      have s04 := s03.trans s4
      refine ⟨_, rfl, _, rfl, _, _, rfl, rfl, z, t, h, (mny ss : Int) - 1 - topI h t (mny ss), turnF ss, rfl, hz, ?_, ?_, fun H5 N s5 a b => ?_, fun H5 s5 no2 => ?_⟩
      · unfold turnF
        rw [List.length_map]
        exact l1
      · rw [mny_turn]
        exact rise_turn h t _
      · refine ⟨_, rfl, rfl, _, rfl, iteT ⟨_, rfl, _, rfl, _, _, rfl, rfl, (by show 2 ≤ sizeLine; decide), fun p np => ?_⟩⟩
        have s05 := s04.trans s5
        exact k _ p .high _ (s05.trans (same_new np)) (s05.free np) upd_same ⟨N, rfl, a, b⟩
      · refine ⟨_, rfl, rfl, _, rfl, iteF ⟨_, rfl, (by show 2 ≤ sizeLine; decide), fun p np => ?_⟩⟩
        have s05 := s04.trans s5
        exact k _ p .top _ (s05.trans (same_new np)) (s05.free np) upd_same ⟨rfl, no, no2⟩
theorem ok_turned_lot {k : Nat} (D : Df K mg "turned_lot" s_turned_lot) (T : Bt mg) (C : Ck mg K w) (O_ships_many : Ok P w K mg base k "ships_many" s_ships_many ["fleet"] (spShips K)) : Ok P w K mg base (k + 1) "turned_lot" s_turned_lot ["fleet", "lot"] (spTurnedLot K) := by
  obtain ⟨a_TURNED_KINDS, g_TURNED_KINDS, d1, d2, d3⟩ := C.kinds
  refine D.ok sc_turned_lot b_turned_lot (fun vs H Q E h => ?_) (fun f cdv A outer s H vs Q E hr h => ?_)
  · obtain ⟨v, l, h, t, s, ss, kd, rfl, _⟩ := h
    rfl
  · obtain ⟨v, l, h, t, s, ss, kd, rfl, hv, l1, ⟨p, rfl, hp⟩, k⟩ := h
    have dd : KDct K w a_TURNED_KINDS kd.str (.str kd.turn.str) := by
      cases kd
      · exact d1
      · exact d2
      · exact d3
    refine ⟨_, (pss_cons (ps_asg (pv 1) (pg_seq rfl (pgs_cons (pg_name (i := 2) sc_turned_lot.nd rfl (.inl rfl)) (pgs_cons (pg_name (i := 3) sc_turned_lot.nd rfl (.inl rfl)) pgs_nil))))
      (pss_one (ps_ret (pe_tup (pa_cons (pe_ix ix_kdict (pe_glob (v := .ref a_TURNED_KINDS) (by rfl) g_TURNED_KINDS rfl) (pv 2) (fun _ _ => rfl)) (pa_cons (pe_op op_sub (pe_op op_sub (pe_fn O_ships_many (hr.mono (by omega)) (pa_cons (pv 0) pa_nil)) pe_int) (pv 3)) pa_nil)))))), ?_⟩
    refine ⟨_, rfl, p, _, rfl, hp, rfl, _, _, rfl, _, _, rfl, rfl, ?_⟩
    refine ⟨_, rfl, a_TURNED_KINDS, _, _, rfl, rfl, dd, ?_⟩
    refine ⟨_, rfl, v, h, t, ss, rfl, hv, l1, fun H1 s1 => ⟨_, 1, rfl, rfl, _, rfl, _, _, rfl, rfl, (by show 2 ≤ sizeLine; decide), fun u nu => ?_⟩⟩
    exact k _ _ (s1.trans (same_new nu)) ⟨u, rfl, SqA.t upd_same⟩
theorem ok_fixed {k : Nat} (D : Df K mg "fixed_ones" s_fixed_ones) (T : Bt mg) (O_mark_in : Ok P w K mg base k "mark_in" s_mark_in ["fleet", "step"] (spMarkIn K)) : Ok P w K mg base (k + 1) "fixed_ones" s_fixed_ones ["fleet", "lot"] (spFixed K) := by
  refine D.ok sc_fixed_ones b_fixed_ones (fun vs H Q E h => ?_) (fun f cdv A outer s H vs Q E hr h => ?_)
  · obtain ⟨v, l, h, t, s, ss, kd, rfl, _⟩ := h
    rfl
  · obtain ⟨v, l, h, t, s, ss, kd, rfl, hv, l1, ⟨pl, rfl, hpl⟩, k⟩ := h
    refine ⟨_, (pss_cons (ps_set (i := 2) sc_fixed_ones.nd rfl (.inr rfl) (pe_fn O_mark_in (hr.mono (by omega)) (pa_cons (pv 0) (pa_cons (pe_ix ix_lt (pv 1) pe_int (fun _ _ => rfl)) pa_nil))))
      (pss_one (ps_ret (pe_lc (own := [("draught", 3), ("ours", 4), ("theirs", 5)]) (g := (gSeq K 3 (gCons (gName 3) (gCons (gName 4) (gCons (gName 5) gNil))))) (by rfl) sc_fixed_ones.nd (pi_seq (pe_ix ix_lt (pv 0) pe_int (fun _ _ => rfl))) (blkOk_by (own := [("draught", 3), ("ours", 4), ("theirs", 5)]) (N := (["fleet", "lot", "mark", "draught", "ours", "theirs"] : List Str)) (sc := defScope s_fixed_ones) (by decide +kernel)) (fun _ _ _ _ _ => (pg_seq rfl (pgs_cons (pg_name (i := 3) sc_fixed_ones.nd rfl (.inl rfl)) (pgs_cons (pg_name (i := 4) sc_fixed_ones.nd rfl (.inl rfl)) (pgs_cons (pg_name (i := 5) sc_fixed_ones.nd rfl (.inl rfl)) pgs_nil))))) (fun _ _ _ _ _ => (pts_one (pt_cmpR op_gt (pv 3) (pv 2) (nomark _)))) (fun _ _ _ _ _ => (pv 4)))))), ?_⟩
    refine ⟨_, rfl, _, rfl, pl, _, 1, _, rfl, rfl, hpl, rfl, v, h, t, s, ss, rfl, hv, l1, fun H0 s0 => ?_⟩
    obtain ⟨p, q, rs, rfl, hp, hq, hs⟩ := hv.same s0
    unfold fxF at k
    generalize mk h t (mny ss) s = m at k
    refine ⟨_, rfl, p, _, 2, .ref q, rfl, rfl, hp, rfl, q, _, H0, rfl, hq, Kp.refl _ _, fun J hJ C nC => ?_⟩
    obtain ⟨G, g, W⟩ := hJ.walk
    refine lc_it W (fun i H' => Same H0 H' ∧ H' C = some (.lst (((((ss.take i).filter fun x => decide (x.1 > m)).map fun x => x.2.1).map fun (n : Nat) => (n : Int)).map V.int))) ⟨same_new nC, upd_same⟩ (fun i H' _ z => g H' (.ofS z.1)) ?_ ?_
    · rintro i x H1 H2 _ ⟨sm, hC⟩ ⟨rfl, gx⟩
      obtain ⟨r, hi, rfl, hr1⟩ := srt_at (hs.same sm) gx
      refine ⟨r, _, rfl, hr1, rfl, _, _, rfl, _, _, rfl, _, _, rfl, rfl, rfl, _, rfl, _, rfl, _, _, rfl, rfl, _, rfl, ite2 (fun c => ⟨_, rfl, _, hC, ?_, same_over sm nC, ?_⟩) (fun c => ⟨sm, ?_⟩)⟩
      · rw [List.length_map, List.length_map, List.length_map]
        exact Nat.lt_of_lt_of_le (tf_le hi) (Nat.le_trans l1 (by decide))
      · rw [upd_same, tfm _ _ hi, if_pos c, List.map_append, List.map_append]
        rfl
      · rw [hC, tfm _ _ hi, if_neg c, List.append_nil]
    · rintro H1 ⟨sm, hC⟩
      rw [List.length_map, hs.1, List.take_length] at hC
      exact k H1 C (s0.trans sm) (s0.free nC) hC
theorem ok_moving {k : Nat} (D : Df K mg "moving_mark" s_moving_mark) (T : Bt mg) (C : Cn mg) (O_ships_many : Ok P w K mg base k "ships_many" s_ships_many ["fleet"] (spShips K)) (O_mark_in : Ok P w K mg base k "mark_in" s_mark_in ["fleet", "step"] (spMarkIn K)) :
    Ok P w K mg base (k + 1) "moving_mark" s_moving_mark ["fleet", "lot"] (spMoving K) := by
  obtain ⟨_, g_LOW⟩ := C.low
  obtain ⟨_, g_HIGH⟩ := C.high
  refine D.ok sc_moving_mark b_moving_mark (fun vs H Q E h => ?_) (fun f cdv A outer s H vs Q E hr h => ?_)
  · obtain ⟨v, l, h, t, s, ss, kd, rfl, _⟩ := h
    rfl
  · obtain ⟨v, l, h, t, s, ss, kd, rfl, hv, l1, ⟨pl, rfl, hpl⟩, k1, k2⟩ := h
    refine ⟨_, (pss_cons (ps_asg (pv 1) (pg_seq rfl (pgs_cons (pg_name (i := 2) sc_moving_mark.nd rfl (.inl rfl)) (pgs_cons (pg_name (i := 3) sc_moving_mark.nd rfl (.inl rfl)) pgs_nil))))
      (pss_cons (ps_if (pt_cmpR op_eq (pv 2) (pe_glob (v := .str "low") (by rfl) g_LOW ⟨_, rfl⟩) (nomark _))
        (pss_one (ps_aug (i := 3) sc_moving_mark.nd rfl (.inl rfl) pe_int ip_sub))
        pss_nil)
      (pss_cons (ps_if (pt_cmpR op_eq (pv 2) (pe_glob (v := .str "high") (by rfl) g_HIGH ⟨_, rfl⟩) (nomark _))
        (pss_one (ps_aug (i := 3) sc_moving_mark.nd rfl (.inl rfl) pe_int ip_add))
        pss_nil)
      (pss_cons (ps_if (PW.pt (pw_or (pt_cmpR op_lt (pv 3) pe_int (nomark _)) (pw_or1 (pt_cmpR op_ge (pv 3) (pe_fn O_ships_many (hr.mono (by omega)) (pa_cons (pv 0) pa_nil)) (nomark _)))))
        (pss_one (ps_ret pe_non))
        pss_nil)
      (pss_one (ps_ret (pe_fn O_mark_in (hr.mono (by omega)) (pa_cons (pv 0) (pa_cons (pv 3) pa_nil))))))))), ?_⟩
    refine ⟨_, rfl, pl, _, rfl, hpl, rfl, _, _, rfl, _, _, rfl, rfl, ?_⟩
    cases kd with
    | low =>
      refine ⟨_, rfl, rfl, _, rfl, iteT ⟨_, rfl, _, 1, rfl, rfl, ?_⟩⟩
      refine ⟨_, rfl, rfl, _, rfl, iteF ?_⟩
      refine ⟨_, rfl, _, 0, rfl, rfl, _, rfl, ite2 (fun c => ?_) (fun c => ?_)⟩
      · exact k1 (.inl (of_decide_eq_true c)) H (Same.refl _)
      · have c0 : 0 ≤ nextS .low s := by have : ¬ s - 1 < 0 := fun z => c (decide_eq_true z); show 0 ≤ s - 1; omega
        refine ⟨_, rfl, _, rfl, v, h, t, ss, rfl, hv, l1, fun H1 s1 => ⟨_, _, rfl, rfl, _, rfl, ite2 (fun c2 => ?_) (fun c2 => ?_)⟩⟩
        · exact k1 (.inr (of_decide_eq_true c2)) H1 s1
        · have c3 : nextS .low s < (mny ss : Int) := by have : ¬ (s - 1 ≥ (mny ss : Int)) := fun z => c2 (decide_eq_true z); show s - 1 < _; omega
          exact ⟨_, rfl, _, rfl, v, h, t, _, ss, rfl, hv.same s1, l1, fun H2 s2 => k2 c0 c3 H2 (s1.trans s2)⟩
    | high =>
      refine ⟨_, rfl, rfl, _, rfl, iteF ?_⟩
      refine ⟨_, rfl, rfl, _, rfl, iteT ⟨_, rfl, _, 1, rfl, rfl, ?_⟩⟩
      refine ⟨_, rfl, _, 0, rfl, rfl, _, rfl, ite2 (fun c => ?_) (fun c => ?_)⟩
      · exact k1 (.inl (of_decide_eq_true c)) H (Same.refl _)
      · have c0 : 0 ≤ nextS .high s := by have : ¬ s + 1 < 0 := fun z => c (decide_eq_true z); show 0 ≤ s + 1; omega
        refine ⟨_, rfl, _, rfl, v, h, t, ss, rfl, hv, l1, fun H1 s1 => ⟨_, _, rfl, rfl, _, rfl, ite2 (fun c2 => ?_) (fun c2 => ?_)⟩⟩
        · exact k1 (.inr (of_decide_eq_true c2)) H1 s1
        · have c3 : nextS .high s < (mny ss : Int) := by have : ¬ (s + 1 ≥ (mny ss : Int)) := fun z => c2 (decide_eq_true z); show s + 1 < _; omega
          exact ⟨_, rfl, _, rfl, v, h, t, _, ss, rfl, hv.same s1, l1, fun H2 s2 => k2 c0 c3 H2 (s1.trans s2)⟩
    | top =>
      refine ⟨_, rfl, rfl, _, rfl, iteF ?_⟩
      refine ⟨_, rfl, rfl, _, rfl, iteF ?_⟩
      refine ⟨_, rfl, _, 0, rfl, rfl, _, rfl, ite2 (fun c => ?_) (fun c => ?_)⟩
      · exact k1 (.inl (of_decide_eq_true c)) H (Same.refl _)
      · have c0 : 0 ≤ nextS .top s := by have : ¬ s < 0 := fun z => c (decide_eq_true z); show 0 ≤ s; omega
        refine ⟨_, rfl, _, rfl, v, h, t, ss, rfl, hv, l1, fun H1 s1 => ⟨_, _, rfl, rfl, _, rfl, ite2 (fun c2 => ?_) (fun c2 => ?_)⟩⟩
        · exact k1 (.inr (of_decide_eq_true c2)) H1 s1
        · have c3 : nextS .top s < (mny ss : Int) := by have : ¬ (s ≥ (mny ss : Int)) := fun z => c2 (decide_eq_true z); show s < _; omega
          exact ⟨_, rfl, _, rfl, v, h, t, _, ss, rfl, hv.same s1, l1, fun H2 s2 => k2 c0 c3 H2 (s1.trans s2)⟩
end
end Sh

namespace Sh
open PySem PySem.Spec PyProof.Rows L2
/-! ### a sea's fleet -/
theorem len_os {k : Nat} {L : List Nat} (hL : Lot k L) (D : Nat → Int) (d : Int) : ((L.map D).filter fun o => decide (o = d)).length = Th.cnt k (fun i => mem L i && decide (D i = d)) := by
  rw [List.filter_map, List.length_map]
  conv => lhs; rw [hL.mem_eq]
  rw [List.filter_filter]
  unfold Th.cnt
  rw [List.countP_eq_length_filter]
  congr 1
  refine List.filter_congr fun a _ => ?_
  show (decide (D a = d) && decide (a ∈ L)) = (mem L a && decide (D a = d))
  rw [Bool.and_comm]
  rfl
theorem ds_map (ds : List Int) : ds = (List.range ds.length).map fun i => ds.getD i 0 := by
  refine List.ext_getElem (by simp) fun i h1 h2 => ?_
  simp [h1]
theorem len_ds (ds : List Int) (d : Int) : (ds.filter fun o => decide (o = d)).length = Th.cnt ds.length (fun i => decide (ds.getD i 0 = d)) := by
  conv => lhs; rw [ds_map ds]
  rw [List.filter_map, List.length_map]
  unfold Th.cnt
  rw [List.countP_eq_length_filter]
  rfl
theorem sum_if (P : Int → Bool) (x : Int) (b : Bool) : ∀ {ns : List Int}, ns.Nodup → x ∈ ns → ((ns.filter P).map fun d => if (b && decide (x = d)) = true then 1 else 0).sum = if (P x && b) = true then 1 else 0 := by
  have none : ∀ {ns : List Int}, ¬ x ∈ ns → ((ns.filter P).map fun d => if (b && decide (x = d)) = true then 1 else 0).sum = 0 := by
    intro ns
    induction ns with
    | nil => intro _; rfl
    | cons a l ih =>
      intro h
      have h1 : ¬ x = a := fun e => h (e ▸ List.mem_cons_self)
      have h2 := ih fun q => h (List.mem_cons_of_mem _ q)
      by_cases c : P a = true
      · rw [List.filter_cons_of_pos c, List.map_cons, List.sum_cons, h2, decide_eq_false h1, Bool.and_false]
        rfl
      · rw [List.filter_cons_of_neg c]
        exact h2
  intro ns
  induction ns with
  | nil => intro _ h; cases h
  | cons a l ih =>
    intro nd h
    obtain ⟨n1, n2⟩ := List.nodup_cons.mp nd
    by_cases e : x = a
    · subst e
      have h0 := none n1
      by_cases c : P x = true
      · rw [List.filter_cons_of_pos c, List.map_cons, List.sum_cons, h0, decide_eq_true rfl, Bool.and_true, c, Bool.true_and, Nat.add_zero]
      · rw [List.filter_cons_of_neg c, h0]
        have c' : P x = false := by simpa using c
        rw [c', Bool.false_and]
        rfl
    · have hx : x ∈ l := by
        rcases List.mem_cons.mp h with q | q
        · exact absurd q e
        · exact q
      have h2 := ih n2 hx
      by_cases c : P a = true
      · rw [List.filter_cons_of_pos c, List.map_cons, List.sum_cons, h2, decide_eq_false e, Bool.and_false]
        show 0 + _ = _
        rw [Nat.zero_add]
      · rw [List.filter_cons_of_neg c]
        exact h2
theorem sum_two' {α : Type} (f g : α → Nat) : ∀ l : List α, (l.map fun x => f x + g x).sum = (l.map f).sum + (l.map g).sum
  | [] => rfl
  | a :: l => by
    simp only [List.map_cons, List.sum_cons, sum_two' f g l]
    omega
theorem sum_zero {α : Type} : ∀ l : List α, (l.map fun _ => 0).sum = 0
  | [] => rfl
  | a :: l => by rw [List.map_cons, List.sum_cons, sum_zero l]
theorem sum_cnt (P : Int → Bool) (D : Nat → Int) (R : Nat → Bool) {ns : List Int} (nd : ns.Nodup) : ∀ k : Nat, (∀ i, i < k → D i ∈ ns) → ((ns.filter P).map fun d => Th.cnt k (fun i => R i && decide (D i = d))).sum = Th.cnt k (fun i => P (D i) && R i)
  | 0, _ => sum_zero _
  | k + 1, h => by
    have ih := sum_cnt P D R nd k fun i hi => h i (by omega)
    have e : ((ns.filter P).map fun d => Th.cnt (k + 1) (fun i => R i && decide (D i = d))).sum = ((ns.filter P).map fun d => Th.cnt k (fun i => R i && decide (D i = d)) + if (R k && decide (D k = d)) = true then 1 else 0).sum := by
      congr 1
      exact List.map_congr_left fun d _ => Th.cnt_succ _ _
    rw [e, sum_two', ih, sum_if P (D k) (R k) nd (h k (by omega)), Th.cnt_succ]
/-- the sorts of a sea's ships -/
def sortsOf (ds : List Int) (L : List Nat) (ns : List Int) : List Srt := ns.map fun d => (d, ((L.map fun i => ds.getD i 0).filter fun o => decide (o = d)).length, (ds.filter fun o => decide (o = d)).length - ((L.map fun i => ds.getD i 0).filter fun o => decide (o = d)).length)
theorem sorts_rp {ds : List Int} {L : List Nat} {ns : List Int} (hL : Lot ds.length L) (nd : ns.Nodup) (hm : ∀ d : Int, d ∈ ds → d ∈ ns) : Rp (sortsOf ds L ns) ds.length (fun i => ds.getD i 0) (mem L) := by
  have hD : ∀ i, i < ds.length → ds.getD i 0 ∈ ns := fun i hi => hm _ (by
    have : ds.getD i 0 = ds[i] := by simp [hi]
    rw [this]
    exact List.getElem_mem hi)
  refine ⟨fun P => ?_, fun P => ?_⟩
  · unfold sortsOf
    rw [List.filter_map, List.map_map, ← sum_cnt P (fun i => ds.getD i 0) (mem L) nd ds.length hD]
    congr 1
    exact List.map_congr_left fun d _ => len_os hL _ d
  · unfold sortsOf
    rw [List.filter_map, List.map_map, ← sum_cnt P (fun i => ds.getD i 0) (fun i => !mem L i) nd ds.length hD]
    congr 1
    refine List.map_congr_left fun d _ => ?_
    show (ds.filter fun o => decide (o = d)).length - ((L.map fun i => ds.getD i 0).filter fun o => decide (o = d)).length = _
    rw [len_os hL, len_ds]
    have e := Th.cnt_split (k := ds.length) (fun i => decide (ds.getD i 0 = d)) (mem L)
    have e1 : Th.cnt ds.length (fun i => decide (ds.getD i 0 = d) && mem L i) = Th.cnt ds.length (fun i => mem L i && decide (ds.getD i 0 = d)) := Th.cnt_congr fun i _ => Bool.and_comm _ _
    have e2 : Th.cnt ds.length (fun i => decide (ds.getD i 0 = d) && !mem L i) = Th.cnt ds.length (fun i => !mem L i && decide (ds.getD i 0 = d)) := Th.cnt_congr fun i _ => Bool.and_comm _ _
    omega
theorem lying_le {ds : List Int} {L : List Nat} (hL : Lot ds.length L) (d : Int) : ((L.map fun i => ds.getD i 0).filter fun o => decide (o = d)).length ≤ (ds.filter fun o => decide (o = d)).length := by
  rw [len_os hL, len_ds]
  exact Th.cnt_mono fun i _ h => by
    revert h
    cases mem L i <;> simp
/-! ### what a lot tells of its standings -/
section
variable {ss : List Srt} {k : Nat} {D : Nat → Int} {S : Nat → Bool} {h t : Int}
theorem low_low (r : Rp ss k D S) {N : Nat} (st : StuckF h t ss N) : Th.StuckLow k (Gd h t k D) N S := (r.stuck h t N).mp st
theorem high_high (r : Rp ss k D S) (hk : 0 < k) {N : Nat} (hN : (N : Int) ≤ (k : Int) - 1 - topI h t k) (st : StuckF t h (turnF ss) N) : Th.StuckLow k (Th.dual k (Gd h t k D)) N (Th.co S) := by
  have t0 := top_lo' h t k
  exact Th.StuckLow.congr (by omega) (fun s i hs => Gd_turn hs) ((r.turn.stuck t h N).mp st)
theorem high_back (r : Rp ss k D S) (hk : 0 < k) {N : Nat} (hN : (N : Int) ≤ (k : Int) - 1 - topI h t k) (st : Th.StuckLow k (Th.dual k (Gd h t k D)) N (Th.co S)) : StuckF t h (turnF ss) N := by
  have t0 := top_lo' h t k
  exact (r.turn.stuck t h N).mpr (Th.StuckLow.congr (by omega) (fun s i hs => (Gd_turn hs).symm) st)
/-- a lot by its kind, in terms of ships -/
def LotS (h t : Int) (k : Nat) (D : Nat → Int) (S : Nat → Bool) : Kd → Int → Prop
  | .low, s => ∃ N : Nat, s = (N : Int) ∧ N ≤ (topI h t k).toNat ∧ Th.StuckLow k (Gd h t k D) N S
  | .high, s => ∃ N : Nat, s = (k : Int) - 1 - (N : Int) ∧ N ≤ k - 1 - (topI h t k).toNat ∧ Th.StuckLow k (Th.dual k (Gd h t k D)) N (Th.co S)
  | .top, s => s = topI h t k ∧ Th.Open k (Gd h t k D) (topI h t k).toNat S
theorem LotF.ships (r : Rp ss k D S) (hk : 0 < k) {kd : Kd} {s : Int} (l : LotF h t ss kd s) : LotS h t k D S kd s := by
  have t0 := top_lo' h t k
  have t1 := top_hi' h t hk
  have tp := top_D h t D hk
  unfold LotF at l
  cases kd with
  | low =>
    obtain ⟨N, e, a, b⟩ := l
    rw [r.mny] at a
    exact ⟨N, e, by omega, low_low r b⟩
  | high =>
    obtain ⟨N, e, a, b⟩ := l
    rw [r.mny] at a e
    exact ⟨N, e, by omega, high_high r hk a b⟩
  | top =>
    obtain ⟨e, a, b⟩ := l
    rw [r.mny] at a e b
    refine ⟨e, ?_⟩
    rcases Th.sorts (S := S) tp with ⟨N, hN, sl⟩ | ⟨N, hN, sl⟩ | q
    · exact absurd ((r.stuck h t N).mpr sl) (a N (by omega))
    · exact absurd (high_back r hk (by omega) sl) (b N (by omega))
    · exact q
end
end Sh
namespace Th
section
variable {k : Nat} {G : Nat → Nat → Bool} {S U : Nat → Bool} {T : Nat}
/-- where one stops tells from the other -/
theorem low_uniq {N N' : Nat} (a : StuckLow k G N S) (b : StuckLow k G N' S) : N = N' := by
  obtain ⟨a1, a2, a3⟩ := a
  obtain ⟨b1, b2, b3⟩ := b
  by_cases z : N < N'
  · have := b2 N a1 z
    omega
  · by_cases z2 : N' < N
    · have := a2 N' b1 z2
      omega
    · omega
theorem low_high {N N' : Nat} (t : Top k G T) (hN : N ≤ T) (a : StuckLow k G N S) (hN' : N' ≤ k - 1 - T) (b : StuckLow k (Th.dual k G) N' (co S)) : False := by
  have := a.1
  have := b.1
  have := cnt_co k S
  have := t.lt
  omega
theorem low_open {N : Nat} (t : Top k G T) (hN : N ≤ T) (a : StuckLow k G N S) (b : Open k G T S) : False := by
  obtain ⟨rs, c⟩ := b
  rcases rs with q | q
  · by_cases z : N = T
    · subst z
      have := a.2.2
      omega
    · have := q.2 N a.1 (by omega)
      have := a.2.2
      omega
  · have := a.1
    have := q.1
    omega
theorem high_open {N : Nat} (t : Top k G T) (hN : N ≤ k - 1 - T) (a : StuckLow k (Th.dual k G) N (co S)) (b : Open k G T S) : False := low_open t.dual hN a (b.dual t)
theorem Reach.out (r : Reach k G S U) : ∀ i, ¬ i < k → U i = S i := reach_out r
/-- the lot of an open one is kept -/
theorem Open.same (t : Top k G T) (a : Open k G T S) (r : Reach k G S U) : Open k G T U := by
  rcases sorts (S := U) t with ⟨N, hN, sl⟩ | ⟨N, hN, sl⟩ | q
  · exact absurd a fun a => low_open t hN (sl.same t hN r.symm) a
  · exact absurd a fun a => high_open t hN (sl.same t.dual hN r.symm.dual) a
  · exact q
theorem high_iff {N : Nat} (t : Top k G T) (hN : N ≤ k - 1 - T) (h : StuckLow k (Th.dual k G) N (co S)) (ho : ∀ i, ¬ i < k → U i = S i) : Reach k G S U ↔ StuckLow k (Th.dual k G) N (co U) ∧ ∀ i, i < k → (co U i || Th.dual k G N i) = (co S i || Th.dual k G N i) := by
  rw [← h.iff (U := co U) t.dual hN fun i hi => by unfold co; rw [ho i hi]]
  exact ⟨fun r => r.dual, fun r => r.codual⟩
end
end Th
namespace Sh
open PySem PySem.Spec PyProof.Rows L2
section
variable {ss : List Srt} {k : Nat} {D : Nat → Int} {S U : Nat → Bool} {h t : Int}
/-- a lot's kind and step are kept by crossings -/
theorem LotS.same (hk : 0 < k) {kd : Kd} {s : Int} (l : LotS h t k D S kd s) (r : Th.Reach k (Gd h t k D) S U) : LotS h t k D U kd s := by
  have tp := top_D h t D hk
  cases kd with
  | low =>
    obtain ⟨N, e, a, b⟩ := l
    exact ⟨N, e, a, b.same tp a r⟩
  | high =>
    obtain ⟨N, e, a, b⟩ := l
    exact ⟨N, e, a, b.same tp.dual a r.dual⟩
  | top =>
    obtain ⟨e, a⟩ := l
    exact ⟨e, a.same tp r⟩
theorem LotS.uniq (hk : 0 < k) {kd kd' : Kd} {s s' : Int} (l : LotS h t k D S kd s) (l' : LotS h t k D S kd' s') : kd = kd' ∧ s = s' := by
  have tp := top_D h t D hk
  cases kd with
  | low =>
    obtain ⟨N, e, a, b⟩ := l
    cases kd' with
    | low =>
      obtain ⟨N', e', a', b'⟩ := l'
      have := Th.low_uniq b b'
      exact ⟨rfl, by omega⟩
    | high =>
      obtain ⟨N', e', a', b'⟩ := l'
      exact (Th.low_high tp a b a' b').elim
    | top => exact (Th.low_open tp a b l'.2).elim
  | high =>
    obtain ⟨N, e, a, b⟩ := l
    cases kd' with
    | low =>
      obtain ⟨N', e', a', b'⟩ := l'
      exact (Th.low_high tp a' b' a b).elim
    | high =>
      obtain ⟨N', e', a', b'⟩ := l'
      have := Th.low_uniq b b'
      exact ⟨rfl, by omega⟩
    | top => exact (Th.high_open tp a b l'.2).elim
  | top =>
    obtain ⟨e, a⟩ := l
    cases kd' with
    | low =>
      obtain ⟨N', e', a', b'⟩ := l'
      exact (Th.low_open tp a' b' a).elim
    | high =>
      obtain ⟨N', e', a', b'⟩ := l'
      exact (Th.high_open tp a' b' a).elim
    | top => exact ⟨rfl, by rw [e, l'.1]⟩
/-- one comes to the other just where the lots' words are the same and those that don't go lie alike -/
theorem LotS.reach (hk : 0 < k) {kd : Kd} {s : Int} (l : LotS h t k D S kd s) (l' : LotS h t k D U kd s) (ho : ∀ i, ¬ i < k → U i = S i) : Th.Reach k (Gd h t k D) S U ↔ ∀ i, i < k → ¬ D i ≤ mk h t k s → U i = S i := by
  have tp := top_D h t D hk
  have t0 := top_lo' h t k
  have t1 := top_hi' h t hk
  cases kd with
  | low =>
    obtain ⟨N, e, a, b⟩ := l
    obtain ⟨N', e', a', b'⟩ := l'
    obtain rfl : N = N' := by omega
    rw [b.iff tp a ho]
    have key : ∀ i, ((U i || Gd h t k D N i) = (S i || Gd h t k D N i)) ↔ (¬ D i ≤ mk h t k s → U i = S i) := fun i => by
      unfold Gd
      rw [← e]
      by_cases z : D i ≤ mk h t k s
      · rw [decide_eq_true z, Bool.or_true, Bool.or_true]
        exact ⟨fun _ w => absurd z w, fun _ => rfl⟩
      · rw [decide_eq_false z, Bool.or_false, Bool.or_false]
        exact ⟨fun q _ => q, fun q => q z⟩
    exact ⟨fun q i hi => (key i).mp (q.2 i hi), fun q => ⟨b', fun i hi => (key i).mpr (q i hi)⟩⟩
  | high =>
    obtain ⟨N, e, a, b⟩ := l
    obtain ⟨N', e', a', b'⟩ := l'
    obtain rfl : N = N' := by omega
    rw [Th.high_iff tp a b ho]
    have key : ∀ i, ((Th.co U i || Th.dual k (Gd h t k D) N i) = (Th.co S i || Th.dual k (Gd h t k D) N i)) ↔ (¬ D i ≤ mk h t k s → U i = S i) := fun i => by
      show ((!U i || decide (D i ≤ mk h t k ((k - 1 - N : Nat) : Int))) = (!S i || decide (D i ≤ mk h t k ((k - 1 - N : Nat) : Int)))) ↔ _
      rw [show ((k - 1 - N : Nat) : Int) = s by omega]
      by_cases z : D i ≤ mk h t k s
      · rw [decide_eq_true z, Bool.or_true, Bool.or_true]
        exact ⟨fun _ w => absurd z w, fun _ => rfl⟩
      · rw [decide_eq_false z, Bool.or_false, Bool.or_false]
        refine ⟨fun q _ => ?_, fun q => by rw [q z]⟩
        revert q
        cases U i <;> cases S i <;> simp
    exact ⟨fun q i hi => (key i).mp (q.2 i hi), fun q => ⟨b', fun i hi => (key i).mpr (q i hi)⟩⟩
  | top =>
    obtain ⟨e, a⟩ := l
    obtain ⟨_, a'⟩ := l'
    have key : ∀ i, (Gd h t k D (topI h t k).toNat i = false) ↔ ¬ D i ≤ mk h t k s := fun i => by
      unfold Gd
      rw [show (((topI h t k).toNat : Nat) : Int) = s by omega, decide_eq_false_iff_not]
    exact ⟨fun r i hi z => Th.fast_inv tp r i hi ((key i).mpr z), fun q => Th.open_reach tp a.1 a'.1 (fun i hi g => q i hi ((key i).mp g)) ho⟩
theorem LotS.comes (hk : 0 < k) {kd kd' : Kd} {s s' : Int} (l : LotS h t k D S kd s) (l' : LotS h t k D U kd' s') (ho : ∀ i, ¬ i < k → U i = S i) : Th.Reach k (Gd h t k D) S U ↔ (kd = kd' ∧ s = s') ∧ ∀ i, i < k → ¬ D i ≤ mk h t k s → U i = S i := by
  constructor
  · intro r
    obtain ⟨e1, e2⟩ := (l.same hk r).uniq hk l'
    subst e1
    subst e2
    exact ⟨⟨rfl, rfl⟩, (l.reach hk l' ho).mp r⟩
  · rintro ⟨⟨e1, e2⟩, q⟩
    subst e1
    subst e2
    exact (l.reach hk l' ho).mpr q
/-- who ever goes -/
theorem LotS.moves (hk : 0 < k) {kd : Kd} {s : Int} (l : LotS h t k D S kd s) {i : Nat} (hi : i < k) : Th.Moves k (Gd h t k D) S i ↔ 0 ≤ nextS kd s ∧ nextS kd s < (k : Int) ∧ D i ≤ mk h t k (nextS kd s) := by
  have tp := top_D h t D hk
  have t0 := top_lo' h t k
  have t1 := top_hi' h t hk
  cases kd with
  | low =>
    obtain ⟨N, e, a, b⟩ := l
    rw [Th.moves_low b tp a hi]
    show (0 < N ∧ decide (D i ≤ mk h t k ((N - 1 : Nat) : Int)) = true) ↔ 0 ≤ s - 1 ∧ s - 1 < (k : Int) ∧ D i ≤ mk h t k (s - 1)
    rw [decide_eq_true_eq]
    constructor
    · rintro ⟨n0, g⟩
      rw [show ((N - 1 : Nat) : Int) = s - 1 by omega] at g
      exact ⟨by omega, by omega, g⟩
    · rintro ⟨n0, n1, g⟩
      refine ⟨by omega, ?_⟩
      rw [show ((N - 1 : Nat) : Int) = s - 1 by omega]
      exact g
  | high =>
    obtain ⟨N, e, a, b⟩ := l
    rw [Th.moves_high b tp a hi]
    show (0 < N ∧ decide (D i ≤ mk h t k ((k - N : Nat) : Int)) = true) ↔ 0 ≤ s + 1 ∧ s + 1 < (k : Int) ∧ D i ≤ mk h t k (s + 1)
    rw [decide_eq_true_eq]
    constructor
    · rintro ⟨n0, g⟩
      rw [show ((k - N : Nat) : Int) = s + 1 by omega] at g
      exact ⟨by omega, by omega, g⟩
    · rintro ⟨n0, n1, g⟩
      refine ⟨by omega, ?_⟩
      rw [show ((k - N : Nat) : Int) = s + 1 by omega]
      exact g
  | top =>
    obtain ⟨e, a⟩ := l
    rw [Th.moves_open tp a.1 a.2 hi]
    show decide (D i ≤ mk h t k (((topI h t k).toNat : Nat) : Int)) = true ↔ 0 ≤ s ∧ s < (k : Int) ∧ D i ≤ mk h t k s
    rw [decide_eq_true_eq, show (((topI h t k).toNat : Nat) : Int) = s by omega]
    exact ⟨fun g => ⟨by omega, by omega, g⟩, fun g => g.2.2⟩
/-- how few -/
theorem LotS.min (r : Rp ss k D S) (hk : 0 < k) {kd : Kd} {s m : Int} (l : LotS h t k D S kd s) (hm : (kd = .high ∧ m = s + 1) ∨ (kd ≠ .high ∧ LeastI h t ss s m)) : ∃ n : Nat, m = (n : Int) ∧ Th.IsMin k (Gd h t k D) S n := by
  have tp := top_D h t D hk
  have t0 := top_lo' h t k
  have t1 := top_hi' h t hk
  cases kd with
  | low =>
    obtain ⟨N, e, a, b⟩ := l
    rcases hm with ⟨z, _⟩ | ⟨_, L⟩
    · cases z
    · rw [e] at L
      exact least_low r tp a b (fun m' hm' => mk_low (by omega) (by omega)) L
  | high =>
    obtain ⟨N, e, a, b⟩ := l
    rcases hm with ⟨_, z⟩ | ⟨z, _⟩
    · have mx := Th.stuck_min_high tp.dual a b
      refine ⟨k - N, by omega, ?_⟩
      obtain ⟨⟨U, rU, cU⟩, hU⟩ := mx
      refine ⟨⟨Th.co U, ?_, ?_⟩, fun W rW => ?_⟩
      · refine Th.Reach.codual ?_
        rw [Th.co_co]
        exact rU
      · have := Th.cnt_co k U
        omega
      · have := hU _ rW.dual
        have := Th.cnt_co k W
        omega
    · exact absurd rfl z
  | top =>
    obtain ⟨e, a⟩ := l
    rcases hm with ⟨z, _⟩ | ⟨_, L⟩
    · cases z
    · rw [show s = (((topI h t k).toNat : Nat) : Int) by omega] at L
      exact least_open r tp a (fun m' hm' => mk_low (by omega) (by omega)) L
/-- how many, by the turned one -/
theorem LotS.max (r : Rp ss k D S) (hk : 0 < k) {kd : Kd} {s m : Int} (l : LotS h t k D S kd s) (hm : (kd = .low ∧ m = s) ∨ (kd ≠ .low ∧ ∃ m', LeastI t h (turnF ss) ((k : Int) - 1 - s) m' ∧ m = (k : Int) - m')) : ∃ n : Nat, m = (n : Int) ∧ Th.IsMax k (Gd h t k D) S n := by
  have tp := top_D h t D hk
  have t0 := top_lo' h t k
  have t1 := top_hi' h t hk
  have gt : ∀ s i, s < k → Gd t h k D s i = Th.dual k (Gd h t k D) s i := fun s i hs => Gd_turn hs
  have gt' : ∀ s i, s < k → Th.dual k (Gd h t k D) s i = Gd t h k D s i := fun s i hs => (Gd_turn hs).symm
  have tpd : Th.Top k (Gd t h k D) (k - 1 - (topI h t k).toNat) := by
    have q := tp.dual
    refine ⟨q.lt, fun s s' i a b g => ?_, fun s s' i a b c g => ?_⟩
    · rw [gt _ _ (by omega)]
      exact q.up s s' i a b (by rw [← gt _ _ (by omega)]; exact g)
    · rw [gt _ _ (by omega)]
      exact q.dn s s' i a b c (by rw [← gt _ _ (by omega)]; exact g)
  cases kd with
  | low =>
    obtain ⟨N, e, a, b⟩ := l
    rcases hm with ⟨_, z⟩ | ⟨z, _⟩
    · exact ⟨N, by omega, Th.stuck_min_high tp a b⟩
    · exact absurd rfl z
  | high =>
    obtain ⟨N, e, a, b⟩ := l
    rcases hm with ⟨z, _⟩ | ⟨_, m', L, em⟩
    · cases z
    · rw [show (k : Int) - 1 - s = (N : Int) by omega] at L
      obtain ⟨n, en, q⟩ := least_low r.turn tpd a (b.congr (by omega) gt') (fun m' hm' => mk_high (h := h) (t := t) (k := k) (by omega) (by omega)) L
      obtain ⟨q1, q2⟩ := (q.congr gt).co
      exact ⟨k - n, by omega, q2⟩
  | top =>
    obtain ⟨e, a⟩ := l
    rcases hm with ⟨z, _⟩ | ⟨_, m', L, em⟩
    · cases z
    · rw [show (k : Int) - 1 - s = ((k - 1 - (topI h t k).toNat : Nat) : Int) by omega] at L
      have od : Th.Open k (Gd t h k D) (k - 1 - (topI h t k).toNat) (Th.co S) := (a.dual tp).congr tp.dual.lt gt'
      obtain ⟨n, en, q⟩ := least_open r.turn tpd od (fun m' hm' => mk_high (h := h) (t := t) (k := k) (by omega) (by omega)) L
      obtain ⟨q1, q2⟩ := (q.congr gt).co
      exact ⟨k - n, by omega, q2⟩
end
end Sh

namespace Sh
open PySem PySem.Spec PyProof.Rows L2
/-! ### the program: fleets of seas, reach -/
theorem eqv_ints : ∀ ns ms : List Int, PyData.eqv (.list (ns.map .int)) (.list (ms.map .int)) = decide (ns = ms)
  | [], [] => rfl
  | [], _ :: _ => rfl
  | _ :: _, [] => rfl
  | a :: l, b :: m => by
    have e := eqv_ints l m
    show (PyData.eqv (.int a) (.int b) && PyData.eqv (.list (l.map .int)) (.list (m.map .int))) = _
    rw [e]
    show ((a == b) && decide (l = m)) = _
    rw [Bool.eq_iff_iff, Bool.and_eq_true, beq_iff_eq, decide_eq_true_eq, decide_eq_true_eq, List.cons.injEq]
theorem eqv_lot (a b : Str) (i j : Int) : PyData.eqv (.tuple [.str a, .int i]) (.tuple [.str b, .int j]) = (decide (a = b) && decide (i = j)) := by
  show ((a == b) && ((i == j) && true)) = _
  rw [Bool.and_true, Bool.eq_iff_iff, Bool.and_eq_true, Bool.and_eq_true, beq_iff_eq, beq_iff_eq, decide_eq_true_eq, decide_eq_true_eq]
theorem shaped_lot (kd : Kd) (s : Int) : SeqAt.shaped (.tuple [.str kd.str, .int s]) = true := by
  have a : PyData.canLay0 (.str kd.str) = true := by cases kd <;> decide +kernel
  have b : PyData.canLay0 (.tuple [.str kd.str, .int s]) = true := by
    show (PyData.canLay0 (.str kd.str) && (PyData.canLay0 (.int s) && true)) = true
    rw [a]
    rfl
  unfold SeqAt.shaped
  rw [b]
  rfl
def spFleetOf (K : PySem.W.Frag) : Sp := fun vs H Q _ => ∃ (v l : V) (h t : Int) (ds : List Int) (L : List Nat), vs = [v, l] ∧ SeaD K H v h t ds ∧ LotA K H l L ∧ ds.length ≤ 60 ∧ Lot ds.length L ∧
  ∀ (H' : Hp) (z : V) (ss : List Srt), Same H H' → FltA K H' z h t ss → ss.length ≤ 1000 → Rp ss ds.length (fun i => ds.getD i 0) (mem L) → Q z H'
def MaxF (h t : Int) (ss : List Srt) (m : Int) : Prop := ∃ kd s, LotF h t ss kd s ∧ ((kd = .low ∧ m = s) ∨ (kd ≠ .low ∧ ∃ m', LeastI t h (turnF ss) ((mny ss : Int) - 1 - s) m' ∧ m = (mny ss : Int) - m'))
def MinF (h t : Int) (ss : List Srt) (m : Int) : Prop := ∃ kd s, LotF h t ss kd s ∧ ((kd = .high ∧ m = s + 1) ∨ (kd ≠ .high ∧ LeastI h t ss s m))
def spFleetMost (K : PySem.W.Frag) : Sp := fun vs H Q _ => ∃ (v : V) (h t : Int) (ss : List Srt), vs = [v] ∧ FltA K H v h t ss ∧ ss.length ≤ 1000 ∧ ∀ (H' : Hp) (m : Int), Same H H' → MaxF h t ss m → Q (.int m) H'
def spFleetLeast (K : PySem.W.Frag) : Sp := fun vs H Q _ => ∃ (v : V) (h t : Int) (ss : List Srt), vs = [v] ∧ FltA K H v h t ss ∧ ss.length ≤ 1000 ∧ ∀ (H' : Hp) (m : Int), Same H H' → MinF h t ss m → Q (.int m) H'
abbrev s_fleet_of : Stmt := topS 12
theorem sc_fleet_of : FnScope (["sea", "standing", "here", "there", "draughts", "ours", "sorts", "draught", "many", "lying", "ship", "other"] : List Str) (["sea", "standing"] : List Str) (defScope s_fleet_of) := ⟨rfl, rfl, rfl, by decide +kernel, rfl, by decide +kernel, by decide +kernel⟩
theorem b_fleet_of (kV doc pm : Value) (an : Option Addr) (cdv ct : Value) (us : List Value) (hl : us.length = (["sea", "standing"] : List Str).length) : bindArgs (PySem.W.fnOf "fleet_of" "fleet_of" (defArgs s_fleet_of) (defBody s_fleet_of) (defScope s_fleet_of) .none kV doc pm an cdv ct) ⟨us, []⟩ = pure ((["sea", "standing"] : List Str).zip us) :=
  match us, hl with | [_, _], _ => rfl
abbrev s_movers_of : Stmt := topS 27
theorem sc_movers_of : FnScope (["sea", "standing", "fleet", "mark", "ship", "draught"] : List Str) (["sea", "standing"] : List Str) (defScope s_movers_of) := ⟨rfl, rfl, rfl, by decide +kernel, rfl, by decide +kernel, by decide +kernel⟩
theorem b_movers_of (kV doc pm : Value) (an : Option Addr) (cdv ct : Value) (us : List Value) (hl : us.length = (["sea", "standing"] : List Str).length) : bindArgs (PySem.W.fnOf "movers_of" "movers_of" (defArgs s_movers_of) (defBody s_movers_of) (defScope s_movers_of) .none kV doc pm an cdv ct) ⟨us, []⟩ = pure ((["sea", "standing"] : List Str).zip us) :=
  match us, hl with | [_, _], _ => rfl
section
variable {P : Program} {w : World} {K : PySem.W.Frag} {mg : Str → Option Value} {base : Heap}
set_option maxHeartbeats 8000000 in
theorem ok_fleet_of {k : Nat} (D : Df K mg "fleet_of" s_fleet_of) (T : Bt mg) : Ok P w K mg base (k + 1) "fleet_of" s_fleet_of ["sea", "standing"] (spFleetOf K) := by
  refine D.ok sc_fleet_of b_fleet_of (fun vs H Q E h => ?_) (fun f cdv A outer s H vs Q E hr h => ?_)
  · obtain ⟨v, l, h, t, ds, L, rfl, _⟩ := h
    rfl
  · obtain ⟨v, l, h, t, ds, L, rfl, ⟨p, q, rfl, hp, hq⟩, ⟨pl, rfl, hl⟩, d1, hL, k⟩ := h
    have ll := hL.len
    refine ⟨_, (pss_cons (ps_asg (pv 0) (pg_seq rfl (pgs_cons (pg_name (i := 2) sc_fleet_of.nd rfl (.inl rfl)) (pgs_cons (pg_name (i := 3) sc_fleet_of.nd rfl (.inl rfl)) (pgs_cons (pg_name (i := 4) sc_fleet_of.nd rfl (.inr rfl)) pgs_nil)))))
      (pss_cons (ps_setLc (i := 5) (own := [("ship", 10)]) (g := (gName 10)) (tt := tYes) (by rfl) sc_fleet_of.nd rfl rfl (sw_true rfl rfl rfl (by decide +kernel)) (pi_seq (pv 1)) (blkOk_by (own := [("ship", 10)]) (N := (["sea", "standing", "here", "there", "draughts", "ours", "sorts", "draught", "many", "lying", "ship", "other"] : List Str)) (sc := defScope s_fleet_of) (by decide +kernel)) (fun _ _ _ _ _ => (pg_name (i := 10) sc_fleet_of.nd rfl (.inl rfl))) (fun _ _ _ _ _ => pts_nil) (fun _ _ _ _ _ => (pe_ix (ix_ltK K) (pv 4) (pv 10) (fun _ _ => rfl))))
      (pss_cons (ps_set (i := 6) sc_fleet_of.nd rfl (.inl rfl) (pe_lst pa_nil))
      (pss_cons (ps_for PassesOwn.never rfl (pi_seq (pe_callB (cr_sortedSetw w rfl) (by rfl) T.sorted_ (by decide +kernel) (pa_cons (pe_callTy (cr_setTw w rfl) (by rfl) T.set_ (by decide +kernel) (pa_cons (pv 4) pa_nil)) pa_nil))) (pg_name (i := 7) sc_fleet_of.nd rfl (.inr rfl))
        (pss_cons (ps_set (i := 8) sc_fleet_of.nd rfl (.inl rfl) (pe_callB call_len_seq (by rfl) T.len_ PySem.boot_len (pa_cons (pe_lc (own := [("other", 11)]) (g := (gName 11)) (by rfl) sc_fleet_of.nd (pi_seq (pv 4)) (blkOk_by (own := [("other", 11)]) (N := (["sea", "standing", "here", "there", "draughts", "ours", "sorts", "draught", "many", "lying", "ship", "other"] : List Str)) (sc := defScope s_fleet_of) (by decide +kernel)) (fun _ _ _ _ _ => (pg_name (i := 11) sc_fleet_of.nd rfl (.inl rfl))) (fun _ _ _ _ _ => (pts_one (pt_cmpR op_eq (pv 11) (pv 7) (nomark _)))) (fun _ _ _ _ _ => (pv 11))) pa_nil)))
          (pss_cons (ps_set (i := 9) sc_fleet_of.nd rfl (.inl rfl) (pe_callB call_len_seq (by rfl) T.len_ PySem.boot_len (pa_cons (pe_lc (own := [("other", 11)]) (g := (gName 11)) (by rfl) sc_fleet_of.nd (pi_seq (pv 5)) (blkOk_by (own := [("other", 11)]) (N := (["sea", "standing", "here", "there", "draughts", "ours", "sorts", "draught", "many", "lying", "ship", "other"] : List Str)) (sc := defScope s_fleet_of) (by decide +kernel)) (fun _ _ _ _ _ => (pg_name (i := 11) sc_fleet_of.nd rfl (.inl rfl))) (fun _ _ _ _ _ => (pts_one (pt_cmpR op_eq (pv 11) (pv 7) (nomark _)))) (fun _ _ _ _ _ => (pv 11))) pa_nil)))
          (pss_one (ps_expr (pe_bm PySem.F.plainAttrs_list PySem.F.slot_list_append PySem.F.type_list_append mt_append (pv 6) (pa_cons (pe_tup (pa_cons (pv 7) (pa_cons (pv 9) (pa_cons (pe_op op_sub (pv 8) (pv 9)) pa_nil)))) pa_nil)))))))
      (pss_one (ps_ret (pe_tup (pa_cons (pv 2) (pa_cons (pv 3) (pa_cons (pe_callTy call_tuple_of (by rfl) T.tuple_ (by decide +kernel) (pa_cons (pv 6) pa_nil)) pa_nil)))))))))), ?_⟩
    refine ⟨_, rfl, p, _, rfl, hp, rfl, _, _, rfl, _, _, rfl, _, _, rfl, rfl, ?_⟩
    -- ours
    refine ⟨_, rfl, pl, _, H, rfl, hl, Kp.refl _ _, fun J hJ C nC => ?_⟩
    obtain ⟨G, g, W⟩ := hJ.walk
    refine lc_it W (fun i H' => Same H H' ∧ H' C = some (.lst (((L.take i).map fun j => ds.getD j 0).map V.int))) ⟨same_new nC, upd_same⟩ (fun i H' _ z => g H' (.ofS z.1)) ?_ ?_
    · rintro i x H1 H2 hi ⟨sm, hC⟩ ⟨rfl, gx⟩
      rw [ni_len] at hi
      obtain rfl : .int ((L[i] : Nat) : Int) = x := Option.some.inj ((ni_get hi).symm.trans gx)
      have hlt := hL.lt L[i] (List.getElem_mem hi)
      refine ⟨rfl, tyes (iteT ⟨_, rfl, _, rfl, q, _, _, .int (ds.getD L[i] 0), rfl, rfl, .inr (Same.tup sm hq), at_nat rfl (by simp [hlt]), _, hC, ?_, same_over sm nC, ?_⟩)⟩
      · rw [List.length_map, List.length_map, List.length_take]
        exact small1000 (by omega)
      · rw [upd_same, take_succ_get hi, List.map_append, List.map_append]
        rfl
    rintro H1 ⟨s1, hC⟩
    rw [ni_len, List.take_length] at hC
    -- sorts
    refine ⟨Nat.zero_le _, fun F nF => ?_⟩
    have s2 : Same H1 (upd H1 F (.lst [])) := same_new nF
    have e2 : upd H1 F (.lst []) F = some (.lst []) := upd_same
    have nF0 : H F = none := s1.free nF
    have CF : C ≠ F := ne_of_none hC nF
    generalize upd H1 F (.lst []) = H2 at s2 e2
    have s02 := s1.trans s2
    refine ⟨_, rfl, q, ds, rfl, Same.tup s02 hq, by omega, fun a c na hc => ?_⟩
    refine ⟨a, _, c, rfl, upd_same, by omega, fun ns b up hm hlen nb => ?_⟩
    have sA : Same H2 (upd H2 a (SetO w a (fun j => decide (j ∈ ds)) c)) := same_new na
    have sB := sA.trans (same_new nb (o := .lst (ns.map V.int)))
    have eb : upd (upd H2 a (SetO w a (fun j => decide (j ∈ ds)) c)) b (.lst (ns.map V.int)) b = some (.lst (ns.map V.int)) := upd_same
    generalize upd (upd H2 a (SetO w a (fun j => decide (j ∈ ds)) c)) b (.lst (ns.map V.int)) = H3 at sB eb
    have s03 := s02.trans sB
    have hC3 := sB _ _ (s2 _ _ hC)
    have hF3 := sB _ _ e2
    have bF : b ≠ F := fun e => by
      subst e
      rw [sA _ _ e2] at nb
      cases nb
    have nn : ns.Nodup := up.imp fun z => by omega
    refine ⟨b, _, H3, rfl, SqA.l eb, Kp.refl _ _, fun J2 hJ2 => ?_⟩
    obtain ⟨G2, g2, W2⟩ := hJ2.walk
    refine for_it W2 (fun i σ H' => ∃ (y7 y8 y9 : Option V) (us : List Addr), σ = [some (.ref p), some (.ref pl), some (.int h), some (.int t), some (.ref q), some (.ref C), some (.ref F), y7, y8, y9, none, none] ∧ Same H H' ∧ H' C = some (.lst ((L.map fun j => ds.getD j 0).map V.int)) ∧ H' b = some (.lst (ns.map V.int)) ∧ H' F = some (.lst (us.map V.ref)) ∧ SrtsN H' us (sortsOf ds L (ns.take i)))
      ⟨none, none, none, [], rfl, s03, hC3, eb, hF3, rfl, fun i r x a _ => by simp at a⟩ (fun i σ H' _ ⟨_, _, _, _, _, _, _, z, _⟩ => g2 H' fun o e => by rw [eb] at e; cases e; exact z) ?_ ?_
    · rintro i x σ H5' H4 hi ⟨y7, y8, y9, us, rfl, s4, hC4, hb4, hF4, hu4⟩ ⟨rfl, gx⟩
      rw [List.length_map] at hi
      obtain rfl : .int ns[i] = x := by
        have g3 : (ns.map V.int)[i]? = some (.int ns[i]) := by simp [hi]
        exact Option.some.inj (g3.symm.trans gx)
      have f : ∀ (xs : List Int) (j : Nat) (hj : j < xs.length), ((xs.take (j + 1)).filter fun o => decide (o = ns[i])) = ((xs.take j).filter fun o => decide (o = ns[i])) ++ (if xs[j] = ns[i] then [xs[j]] else []) := fun xs j hj => by
        rw [take_succ_get hj, List.filter_append]
        congr 1
        by_cases c : xs[j] = ns[i]
        · rw [if_pos c, List.filter_cons_of_pos (by simpa using c)]; rfl
        · rw [if_neg c, List.filter_cons_of_neg (by simpa using c)]; rfl
      have fl : ∀ (xs : List Int) (j : Nat), xs.length ≤ 60 → (((xs.take j).filter fun o => decide (o = ns[i])).map V.int).length < sizeLine := fun xs j hx => by
        have h1 := List.length_filter_le (fun o => decide (o = ns[i])) (xs.take j)
        rw [List.length_take] at h1
        rw [List.length_map]
        exact small1000 (by omega)
      -- many
      refine ⟨_, rfl, q, _, H4, rfl, .inr (Same.tup s4 hq), Kp.refl _ _, fun J3 hJ3 M nM => ?_⟩
      obtain ⟨G3, g3, W3⟩ := hJ3.walk
      refine lc_it W3 (fun j H' => Same H4 H' ∧ H' M = some (.lst (((ds.take j).filter fun o => decide (o = ns[i])).map V.int))) ⟨same_new nM, upd_same⟩ (fun j H' _ z => g3 H' (.ofS z.1)) ?_ ?_
      · rintro j x H5 H6 hj ⟨sm, hM⟩ ⟨rfl, gx2⟩
        rw [List.length_map] at hj
        obtain rfl : .int ds[j] = x := by
          have g4 : (ds.map V.int)[j]? = some (.int ds[j]) := by simp [hj]
          exact Option.some.inj (g4.symm.trans gx2)
        refine ⟨rfl, _, rfl, _, rfl, rfl, _, rfl, ite2 (fun c => ?_) (fun c => ?_)⟩
        · have c0 : ds[j] = ns[i] := V.int.inj (of_decide_eq_true c)
          refine ⟨_, rfl, _, hM, fl ds j d1, same_over sm nM, ?_⟩
          rw [upd_same, f ds j hj, if_pos c0, List.map_append]
          rfl
        · have c0 : ¬ ds[j] = ns[i] := fun z => c (decide_eq_true (by rw [z]))
          refine ⟨sm, ?_⟩
          rw [hM, f ds j hj, if_neg c0, List.append_nil]
      rintro H5 ⟨s5, hM⟩
      rw [List.length_map, List.take_length] at hM
      refine ⟨M, _, rfl, .inl (SqL.of hM), ?_⟩
      -- lying
      refine ⟨_, rfl, C, _, H5, rfl, SqA.l (s5 _ _ hC4), Kp.refl _ _, fun J4 hJ4 N nN => ?_⟩
      obtain ⟨G4, g4, W4⟩ := hJ4.walk
      have lo : (L.map fun j => ds.getD j 0).length ≤ 60 := by rw [List.length_map]; omega
      refine lc_it W4 (fun j H' => Same H5 H' ∧ H' N = some (.lst ((((L.map fun j => ds.getD j 0).take j).filter fun o => decide (o = ns[i])).map V.int))) ⟨same_new nN, upd_same⟩ (fun j H' _ z => g4 H' (.ofS z.1)) ?_ ?_
      · rintro j x H6 H7 hj ⟨sm, hN⟩ ⟨rfl, gx2⟩
        rw [List.length_map] at hj
        obtain rfl : .int (L.map fun j => ds.getD j 0)[j] = x := by
          have g5 : ((L.map fun j => ds.getD j 0).map V.int)[j]? = some (.int (L.map fun j => ds.getD j 0)[j]) := by rw [List.getElem?_map, List.getElem?_eq_getElem hj]; rfl
          exact Option.some.inj (g5.symm.trans gx2)
        refine ⟨rfl, _, rfl, _, rfl, rfl, _, rfl, ite2 (fun c => ?_) (fun c => ?_)⟩
        · have c0 : (L.map fun j => ds.getD j 0)[j] = ns[i] := V.int.inj (of_decide_eq_true c)
          refine ⟨_, rfl, _, hN, fl _ j lo, same_over sm nN, ?_⟩
          rw [upd_same, f _ j hj, if_pos c0, List.map_append]
          rfl
        · have c0 : ¬ (L.map fun j => ds.getD j 0)[j] = ns[i] := fun z => c (decide_eq_true (by rw [z]))
          refine ⟨sm, ?_⟩
          rw [hN, f _ j hj, if_neg c0, List.append_nil]
      rintro H6 ⟨s6, hN⟩
      rw [List.length_map, List.take_length] at hN
      refine ⟨N, _, rfl, .inl (SqL.of hN), ?_⟩
      have s46 := s5.trans s6
      have hF6 := s46 _ _ hF4
      -- sorts.append
      refine ⟨_, rfl, .inl ⟨rfl, _, SqL.of hF6⟩, _, rfl, _, rfl, _, rfl, _, rfl, _, _, rfl, rfl, (by show 3 ≤ sizeLine; decide), fun u nu => ?_⟩
      have lu : us.length = i := by
        rw [hu4.1]
        unfold sortsOf
        rw [List.length_map, List.length_take]
        omega
      refine ⟨F, _, _, rfl, rfl, same_new nu _ _ hF6, ?_, _, _, _, us ++ [u], rfl, same_over ((s4.trans s46).trans (same_new nu)) nF0, ?_, ?_, ?_, ?_⟩
      · rw [List.length_map, lu]
        exact small1000 (by omega)
      · rw [upd_ne CF]
        exact same_new nu _ _ (s46 _ _ hC4)
      · rw [upd_ne bF]
        exact same_new nu _ _ (s46 _ _ hb4)
      · rw [upd_same, List.map_append]
        rfl
      · have e : sortsOf ds L (ns.take (i + 1)) = sortsOf ds L (ns.take i) ++ [(ns[i], ((L.map fun i => ds.getD i 0).filter fun o => decide (o = ns[i])).length, (ds.filter fun o => decide (o = ns[i])).length - ((L.map fun i => ds.getD i 0).filter fun o => decide (o = ns[i])).length)] := by
          unfold sortsOf
          rw [take_succ_get hi, List.map_append]
          rfl
        rw [e]
        refine ((hu4.same s46).push' (x := (ns[i], ((L.map fun i => ds.getD i 0).filter fun o => decide (o = ns[i])).length, (ds.filter fun o => decide (o = ns[i])).length - ((L.map fun i => ds.getD i 0).filter fun o => decide (o = ns[i])).length)) nu ?_).put (same_new nu _ _ hF6)
        have le := lying_le hL ns[i]
        unfold SrtV
        rw [List.length_map, List.length_map]
        dsimp only
        rw [show (((ds.filter fun o => decide (o = ns[i])).length - ((L.map fun i => ds.getD i 0).filter fun o => decide (o = ns[i])).length : Nat) : Int) = ((ds.filter fun o => decide (o = ns[i])).length : Int) - (((L.map fun i => ds.getD i 0).filter fun o => decide (o = ns[i])).length : Int) by omega]
    · rintro σ H4 ⟨y7, y8, y9, us, rfl, s4, hC4, hb4, hF4, hu4⟩
      rw [List.length_map, List.take_length] at hu4
      refine ⟨_, rfl, _, rfl, _, rfl, F, _, rfl, .inl ⟨SqL.of hF4, fun a2 na2 => ⟨(by show 3 ≤ sizeLine; decide), fun b2 nb2 => ?_⟩⟩⟩
      have sa2 : Same H4 (upd H4 a2 (.tup (us.map V.ref))) := same_new na2
      have sb2 := sa2.trans (same_new nb2 (o := .tup [.int h, .int t, .ref a2]))
      refine k _ _ (sortsOf ds L ns) (s4.trans sb2) ⟨b2, a2, us, rfl, SqA.t upd_same, SqA.t (same_new nb2 _ _ upd_same), (hu4.same sb2).a⟩ ?_ (sorts_rp hL nn fun d hd => (hm d).mpr (decide_eq_true hd))
      unfold sortsOf
      rw [List.length_map, hlen]
      omega
theorem ok_movers {k : Nat} (D : Df K mg "movers_of" s_movers_of) (T : Bt mg) (O_moving_mark : Ok P w K mg base k "moving_mark" s_moving_mark ["fleet", "lot"] (spMoving K)) (O_lot_of : Ok P w K mg base k "lot_of" s_lot_of ["fleet"] (spLotOf K)) (O_fleet_of : Ok P w K mg base k "fleet_of" s_fleet_of ["sea", "standing"] (spFleetOf K)) : Ok P w K mg base (k + 1) "movers_of" s_movers_of ["sea", "standing"] (spMovers K) := by
  refine D.ok sc_movers_of b_movers_of (fun vs H Q E h => ?_) (fun f cdv A outer s H vs Q E hr h => ?_)
  · obtain ⟨v, l, h, t, ds, L, rfl, _⟩ := h
    rfl
  · obtain ⟨v, l, h, t, ds, L, rfl, hv, hl, d1, d0, hL, k⟩ := h
    refine ⟨_, (pss_cons (ps_set (i := 2) sc_movers_of.nd rfl (.inl rfl) (pe_fn O_fleet_of (hr.mono (by omega)) (pa_cons (pv 0) (pa_cons (pv 1) pa_nil))))
      (pss_cons (ps_set (i := 3) sc_movers_of.nd rfl (.inr rfl) (pe_fn O_moving_mark (hr.mono (by omega)) (pa_cons (pv 2) (pa_cons (pe_fn O_lot_of (hr.mono (by omega)) (pa_cons (pv 2) pa_nil)) pa_nil))))
      (pss_cons (ps_if (pt_cmpR op_isN (pv 3) pe_non (nomark _))
        (pss_one (ps_ret (pe_lst pa_nil)))
        pss_nil)
      (pss_one (ps_ret (pe_lc (own := [("ship", 4), ("draught", 5)]) (g := (gSeq K 2 (gCons (gName 4) (gCons (gName 5) gNil)))) (by rfl) sc_movers_of.nd (pi_enumA (by rfl) T.enumerate_ (pa_cons (pe_ix ix_lt (pv 0) pe_int (fun _ _ => rfl)) pa_nil)) (blkOk_by (own := [("ship", 4), ("draught", 5)]) (N := (["sea", "standing", "fleet", "mark", "ship", "draught"] : List Str)) (sc := defScope s_movers_of) (by decide +kernel)) (fun _ _ _ _ _ => (pg_seq rfl (pgs_cons (pg_name (i := 4) sc_movers_of.nd rfl (.inl rfl)) (pgs_cons (pg_name (i := 5) sc_movers_of.nd rfl (.inl rfl)) pgs_nil)))) (fun _ _ _ _ _ => (pts_one (pt_cmpR op_le (pv 5) (pv 3) (nomark _)))) (fun _ _ _ _ _ => (pv 4)))))))), ?_⟩
    refine ⟨_, rfl, _, rfl, v, l, h, t, ds, L, rfl, hv, hl, d1, hL, fun H1 z ss s1 hz l1 r => ?_⟩
    refine ⟨_, rfl, _, rfl, z, h, t, ss, rfl, hz, l1, fun H2 pp kd s s2 np hp lf => ?_⟩
    have ls := lf.ships r d0
    have mv : ∀ i, i < ds.length → (Th.Moves ds.length (Gof h t ds) (mem L) i ↔ _) := fun i hi => ls.moves d0 hi
    have km := r.mny
    refine ⟨z, .ref pp, h, t, s, ss, kd, rfl, hz.same s2, l1, ⟨pp, rfl, SqA.t hp⟩, fun no H3 s3 => ?_, fun n0 n1 H3 s3 => ?_⟩
    · refine ⟨_, rfl, rfl, _, rfl, iteT ⟨Nat.zero_le _, fun a na => ?_⟩⟩
      have s03 := (s1.trans s2).trans s3
      refine k _ a [] (s03.trans (same_new na)) (s03.free na) upd_same ⟨Lot.nil _, fun i hi => ?_⟩
      rw [ex_moves hL hi, mv i hi]
      rw [km] at no
      exact ⟨fun z => (by cases z), fun z => (by omega)⟩
    · have s03 := (s1.trans s2).trans s3
      refine ⟨_, rfl, rfl, _, rfl, iteF ?_⟩
      rw [km] at n1
      rw [km]
      obtain ⟨p, q, rfl, hpp, hq⟩ := hv.same s03
      generalize em : mk h t ds.length (nextS kd s) = m
      rw [em] at mv
      refine ⟨_, rfl, p, _, 2, .ref q, rfl, rfl, hpp, rfl, q, _, H3, rfl, .inr hq, Kp.refl _ _, fun J hJ C nC => ?_⟩
      obtain ⟨G, g, W⟩ := hJ.walk
      refine lc_it W (fun i H' => Same H3 H' ∧ H' C = some (.lst (ni (gs m ds i)))) ⟨same_new nC, upd_same⟩ (fun i H' _ z => g H' (.ofS z.1)) ?_ ?_
      · rintro i x H4 H5 hi ⟨sm, hC⟩ ⟨u, x1, x2, rfl, nu, rfl, g1, g2⟩
        rw [List.length_map] at hi
        obtain rfl : .int (i : Nat) = x1 := Option.some.inj g1
        obtain rfl : .int ds[i] = x2 := by
          have g3 : (ds.map V.int)[i]? = some (.int ds[i]) := by simp [hi]
          exact Option.some.inj (g3.symm.trans g2)
        have ed : ds.getD i 0 = ds[i] := by simp [hi]
        have s4 : Same H4 (upd H4 u (.tup [.int (i : Nat), .int ds[i]])) := same_new nu
        refine ⟨u, _, rfl, SqA.t upd_same, rfl, _, _, rfl, _, _, rfl, rfl, rfl, ?_⟩
        have sm2 := sm.trans s4
        have hC2 := s4 _ _ hC
        generalize upd H4 u (.tup [.int (i : Nat), .int ds[i]]) = H5 at sm2 hC2
        refine ⟨_, rfl, _, rfl, ds[i], m, rfl, rfl, _, rfl, ite2 (fun c => ?_) (fun c => ?_)⟩
        · have c0 : ds[i] ≤ m := of_decide_eq_true c
          refine ⟨_, rfl, _, hC2, ?_, same_over sm2 nC, ?_⟩
          · rw [ni_len]
            exact Nat.lt_of_le_of_lt gs_len (small1000 (by omega))
          · rw [upd_same, gs_succ, ed, if_pos c0, ni_app]
            rfl
        · have c0 : ¬ ds[i] ≤ m := fun z => c (decide_eq_true z)
          refine ⟨sm2, ?_⟩
          rw [hC2, gs_succ, ed, if_neg c0, List.append_nil]
      · rintro H4 ⟨sm, hC⟩
        rw [List.length_map] at hC
        refine k H4 C _ (s03.trans sm) (s03.free nC) hC ⟨(Lot.all _).filter _, fun i hi => ?_⟩
        rw [ex_moves hL hi, mv i hi]
        unfold gs
        rw [List.mem_filter, List.mem_range, decide_eq_true_eq]
        exact ⟨fun z => ⟨n0, n1, z.2⟩, fun z => ⟨hi, z.2.2⟩⟩
end
end Sh

namespace Sh
open PySem PySem.Spec PyProof.Rows L2
/-! ### the program: fleets -/
def MoversF (h t : Int) (ss : List Srt) (ms : List Int) : Prop := ∃ kd s, LotF h t ss kd s ∧
  (((nextS kd s < 0 ∨ (mny ss : Int) ≤ nextS kd s) ∧ ms = []) ∨ (0 ≤ nextS kd s ∧ nextS kd s < (mny ss : Int) ∧ ms = (ss.filter fun x => decide (x.1 ≤ mk h t (mny ss) (nextS kd s)) && decide (0 < x.2.1 + x.2.2)).map fun x => x.1))
def ComesF (h t : Int) (ss ss' : List Srt) (b : Bool) : Prop := ∃ kd s kd' s', LotF h t ss kd s ∧ LotF h t ss' kd' s' ∧ (b = true ↔ (kd = kd' ∧ s = s') ∧ fxF ss (mk h t (mny ss) s) = fxF ss' (mk h t (mny ss') s))
def spFleetMovers (K : PySem.W.Frag) : Sp := fun vs H Q _ => ∃ (v : V) (h t : Int) (ss : List Srt), vs = [v] ∧ FltA K H v h t ss ∧ ss.length ≤ 1000 ∧ ∀ (H' : Hp) (p : Addr) (ms : List Int), Same H H' → H p = none → H' p = some (.lst (ms.map V.int)) → MoversF h t ss ms → Q (.ref p) H'
def spFleetComes (K : PySem.W.Frag) : Sp := fun vs H Q _ => ∃ (v v' : V) (h t : Int) (ss ss' : List Srt), vs = [v, v'] ∧ FltA K H v h t ss ∧ FltA K H v' h t ss' ∧ ss.length ≤ 1000 ∧ ss'.length ≤ 1000 ∧ ∀ (H' : Hp) (b : Bool), Same H H' → ComesF h t ss ss' b → Q (.bl b) H'
section
variable {P : Program} {w : World} {K : PySem.W.Frag} {mg : Str → Option Value} {base : Heap}
end
/-! ### every fleet has its ships one by one -/
end Sh
namespace Th
theorem cnt_add (a b : Nat) (f : Nat → Bool) : cnt (a + b) f = cnt a f + cnt b (fun i => f (a + i)) := by
  induction b with
  | zero => rfl
  | succ b ih =>
    rw [← Nat.add_assoc, cnt_succ, ih, cnt_succ]
    omega
theorem cnt_const (n : Nat) (b : Bool) : cnt n (fun _ => b) = if b = true then n else 0 := by
  induction n with
  | zero => cases b <;> rfl
  | succ n ih =>
    rw [cnt_succ, ih]
    cases b <;> simp
end Th
namespace Sh
theorem le_sum : ∀ {l : List Nat} {a : Nat}, a ∈ l → a ≤ l.sum
  | b :: l, a, h => by
    rw [List.sum_cons]
    rcases List.mem_cons.mp h with e | e
    · omega
    · have := le_sum e
      omega
theorem filter_one : ∀ {l : List Srt} {x : Srt}, (l.map fun x => x.1).Nodup → x ∈ l → l.filter (fun y => decide (y.1 = x.1)) = [x]
  | a :: l, x, nd, h => by
    rw [List.map_cons] at nd
    obtain ⟨n1, n2⟩ := List.nodup_cons.mp nd
    rcases List.mem_cons.mp h with e | e
    · subst e
      rw [List.filter_cons_of_pos (by simp)]
      have : l.filter (fun y => decide (y.1 = x.1)) = [] := by
        rw [List.filter_eq_nil_iff]
        intro y hy q
        exact n1 (List.mem_map.mpr ⟨y, hy, of_decide_eq_true q⟩)
      rw [this]
    · have ne : ¬ a.1 = x.1 := fun q => n1 (List.mem_map.mpr ⟨x, e, q.symm⟩)
      rw [List.filter_cons_of_neg (by simpa using ne)]
      exact filter_one n2 e
theorem rp_ex : ∀ ss : List Srt, ∃ (D : Nat → Int) (S : Nat → Bool), Rp ss (mny ss) D S
  | [] => ⟨fun _ => 0, fun _ => false, ⟨fun _ => rfl, fun _ => rfl⟩⟩
  | x :: ss => by
    obtain ⟨D, S, r⟩ := rp_ex ss
    have em : mny (x :: ss) = mny ss + (x.2.1 + x.2.2) := by
      unfold mny
      rw [List.map_cons, List.sum_cons]
      omega
    refine ⟨fun i => if i < mny ss then D i else x.1, fun i => if i < mny ss then S i else decide (i < mny ss + x.2.1), ?_⟩
    have key : ∀ (P : Int → Bool) (b : Bool), Th.cnt (mny (x :: ss)) (fun i => P (if i < mny ss then D i else x.1) && ((if i < mny ss then S i else decide (i < mny ss + x.2.1)) == b)) = Th.cnt (mny ss) (fun i => P (D i) && (S i == b)) + if P x.1 = true then (if b = true then x.2.1 else x.2.2) else 0 := fun P b => by
      rw [em, Th.cnt_add]
      congr 1
      · refine Th.cnt_congr fun i hi => ?_
        rw [if_pos hi, if_pos hi]
      · rw [Th.cnt_add]
        have e1 : Th.cnt x.2.1 (fun i => P (if mny ss + i < mny ss then D (mny ss + i) else x.1) && ((if mny ss + i < mny ss then S (mny ss + i) else decide (mny ss + i < mny ss + x.2.1)) == b)) = Th.cnt x.2.1 (fun _ => P x.1 && b) := Th.cnt_congr fun i hi => by
          rw [if_neg (by omega), if_neg (by omega), decide_eq_true (by omega)]
          cases b <;> rfl
        have e2 : Th.cnt x.2.2 (fun i => P (if mny ss + (x.2.1 + i) < mny ss then D (mny ss + (x.2.1 + i)) else x.1) && ((if mny ss + (x.2.1 + i) < mny ss then S (mny ss + (x.2.1 + i)) else decide (mny ss + (x.2.1 + i) < mny ss + x.2.1)) == b)) = Th.cnt x.2.2 (fun _ => P x.1 && !b) := Th.cnt_congr fun i hi => by
          rw [if_neg (by omega), if_neg (by omega), decide_eq_false (by omega)]
          cases b <;> rfl
        rw [e1, e2, Th.cnt_const, Th.cnt_const]
        cases P x.1 <;> cases b <;> simp
    refine ⟨fun P => ?_, fun P => ?_⟩
    · have k := key P true
      have e : ∀ (f g : Nat → Bool), (fun i => f i && (g i == true)) = (fun i => f i && g i) := fun f g => by
        funext i
        cases g i <;> rfl
      rw [e (fun i => P (if i < mny ss then D i else x.1)), e (fun i => P (D i)) S, ← r.here P] at k
      rw [k]
      by_cases c : P x.1 = true
      · rw [List.filter_cons_of_pos (p := fun x : Srt => P x.1) c, List.map_cons, List.sum_cons, if_pos c]
        show x.2.1 + _ = _ + x.2.1
        omega
      · rw [List.filter_cons_of_neg (p := fun x : Srt => P x.1) c, if_neg c]
        rfl
    · have k := key P false
      have e : ∀ (f g : Nat → Bool), (fun i => f i && (g i == false)) = (fun i => f i && !g i) := fun f g => by
        funext i
        cases g i <;> rfl
      rw [e (fun i => P (if i < mny ss then D i else x.1)), e (fun i => P (D i)) S, ← r.there P] at k
      rw [k]
      by_cases c : P x.1 = true
      · rw [List.filter_cons_of_pos (p := fun x : Srt => P x.1) c, List.map_cons, List.sum_cons, if_pos c]
        show x.2.2 + _ = _ + x.2.2
        omega
      · rw [List.filter_cons_of_neg (p := fun x : Srt => P x.1) c, if_neg c]
        rfl
section
variable {ss : List Srt} {h t : Int} {D : Nat → Int} {S : Nat → Bool}
theorem MaxF.ships {m : Int} (r : Rp ss (mny ss) D S) (k0 : 0 < mny ss) (q : MaxF h t ss m) : ∃ n : Nat, m = (n : Int) ∧ Th.IsMax (mny ss) (Gd h t (mny ss) D) S n := by
  obtain ⟨kd, s, lf, hm⟩ := q
  exact (lf.ships r k0).max r k0 hm
theorem MinF.ships {m : Int} (r : Rp ss (mny ss) D S) (k0 : 0 < mny ss) (q : MinF h t ss m) : ∃ n : Nat, m = (n : Int) ∧ Th.IsMin (mny ss) (Gd h t (mny ss) D) S n := by
  obtain ⟨kd, s, lf, hm⟩ := q
  exact (lf.ships r k0).min r k0 hm
theorem max_uniq {m m' : Int} (k0 : 0 < mny ss) (a : MaxF h t ss m) (b : MaxF h t ss m') : m = m' := by
  obtain ⟨D, S, r⟩ := rp_ex ss
  obtain ⟨n, rfl, ⟨U, rU, cU⟩, hU⟩ := a.ships r k0
  obtain ⟨n', rfl, ⟨U', rU', cU'⟩, hU'⟩ := b.ships r k0
  have := hU U' rU'
  have := hU' U rU
  omega
theorem min_uniq {m m' : Int} (k0 : 0 < mny ss) (a : MinF h t ss m) (b : MinF h t ss m') : m = m' := by
  obtain ⟨D, S, r⟩ := rp_ex ss
  obtain ⟨n, rfl, ⟨U, rU, cU⟩, hU⟩ := a.ships r k0
  obtain ⟨n', rfl, ⟨U', rU', cU'⟩, hU'⟩ := b.ships r k0
  have := hU U' rU'
  have := hU' U rU
  omega
/-- turned about: all less the least, all less the most -/
theorem max_turn {m m' : Int} (k0 : 0 < mny ss) (a : MaxF t h (turnF ss) m) (b : MinF h t ss m') : m = (mny ss : Int) - m' := by
  obtain ⟨D, S, r⟩ := rp_ex ss
  have r' := r.turn
  have km := mny_turn ss
  rw [← km] at r'
  obtain ⟨n, rfl, ⟨U, rU, cU⟩, hU⟩ := a.ships r' (by omega)
  obtain ⟨n', rfl, ⟨U', rU', cU'⟩, hU'⟩ := b.ships r k0
  rw [km] at rU cU hU
  have gt : ∀ s i, s < mny ss → Gd t h (mny ss) D s i = Th.dual (mny ss) (Gd h t (mny ss) D) s i := fun s i hs => Gd_turn hs
  have r1 : Th.Reach (mny ss) (Gd h t (mny ss) D) S (Th.co U) := by
    refine Th.Reach.codual ?_
    rw [Th.co_co]
    exact rU.congr gt
  have r2 := rU'.dual.congr (G' := Gd t h (mny ss) D) fun s i hs => (gt s i hs).symm
  have := hU _ r2
  have := hU' _ r1
  have := Th.cnt_co (mny ss) U
  have := Th.cnt_co (mny ss) U'
  omega
theorem min_turn {m m' : Int} (k0 : 0 < mny ss) (a : MinF t h (turnF ss) m) (b : MaxF h t ss m') : m = (mny ss : Int) - m' := by
  have km := mny_turn ss
  have b' : MaxF h t (turnF (turnF ss)) m' := by rw [turn_turn]; exact b
  have := max_turn (ss := turnF ss) (h := t) (t := h) (by omega) b' a
  omega
/-- who moves, by ships -/
theorem movers_ships {ms : List Int} (r : Rp ss (mny ss) D S) (k0 : 0 < mny ss) (up : (ss.map fun x => x.1).Nodup) (q : MoversF h t ss ms) : ms.Sublist (ss.map fun x => x.1) ∧ ∀ x ∈ ss, x.1 ∈ ms ↔ ∃ i, i < mny ss ∧ D i = x.1 ∧ Th.Moves (mny ss) (Gd h t (mny ss) D) S i := by
  obtain ⟨kd, s, lf, q⟩ := q
  have ls := lf.ships r k0
  rcases q with ⟨no, rfl⟩ | ⟨n0, n1, rfl⟩
  · refine ⟨List.nil_sublist _, fun x hx => ⟨fun z => (by cases z), fun ⟨i, hi, _, m⟩ => ?_⟩⟩
    have := (ls.moves k0 hi).mp m
    omega
  · refine ⟨(List.filter_sublist).map _, fun x hx => ?_⟩
    rw [List.mem_map]
    constructor
    · rintro ⟨y, hy, e⟩
      obtain ⟨hy1, hy2⟩ := List.mem_filter.mp hy
      rw [Bool.and_eq_true, decide_eq_true_eq, decide_eq_true_eq] at hy2
      have c1 := r.here fun d => decide (d = y.1)
      have c2 := r.there fun d => decide (d = y.1)
      have m1 : y.2.1 ≤ ((ss.filter fun x => decide (x.1 = y.1)).map fun x => x.2.1).sum := le_sum (List.mem_map.mpr ⟨y, List.mem_filter.mpr ⟨hy1, decide_eq_true rfl⟩, rfl⟩)
      have m2 : y.2.2 ≤ ((ss.filter fun x => decide (x.1 = y.1)).map fun x => x.2.2).sum := le_sum (List.mem_map.mpr ⟨y, List.mem_filter.mpr ⟨hy1, decide_eq_true rfl⟩, rfl⟩)
      have c3 := Th.cnt_split (k := mny ss) (fun i => decide (D i = y.1)) S
      obtain ⟨i, hi, hd⟩ := Th.cnt_pos_ex (k := mny ss) (S := fun i => decide (D i = y.1)) (by omega)
      have hd' : D i = y.1 := of_decide_eq_true hd
      exact ⟨i, hi, by rw [hd', e], (ls.moves k0 hi).mpr ⟨n0, n1, by rw [hd']; exact hy2.1⟩⟩
    · rintro ⟨i, hi, e, m⟩
      have q := (ls.moves k0 hi).mp m
      refine ⟨x, List.mem_filter.mpr ⟨hx, ?_⟩, rfl⟩
      rw [Bool.and_eq_true, decide_eq_true_eq, decide_eq_true_eq]
      refine ⟨by rw [← e]; exact q.2.2, ?_⟩
      -- the one sort of that draught has a ship
      have one : ss.filter (fun y => decide (y.1 = x.1)) = [x] := filter_one up hx
      have c1 := r.here fun d => decide (d = x.1)
      have c2 := r.there fun d => decide (d = x.1)
      rw [one] at c1 c2
      have c3 := Th.cnt_split (k := mny ss) (fun i => decide (D i = x.1)) S
      have c4 := Th.cnt_pos (k := mny ss) (S := fun i => decide (D i = x.1)) hi (decide_eq_true e)
      have c1' : x.2.1 + 0 = Th.cnt (mny ss) (fun i => decide (D i = x.1) && S i) := c1
      have c2' : x.2.2 + 0 = Th.cnt (mny ss) (fun i => decide (D i = x.1) && !S i) := c2
      omega
end
end Sh

namespace Sh
open PySem PySem.Spec PyProof.Rows L2
/-! ### comprehensions in short -/
/-- [x for x in xs if test], xs ships: those of whom the test says p -/
theorem lc_filter {σ : L2.St} {H : Hp} {C : Addr} {vs : List Nat} {i : Nat} {tt : TT} {Qd : Hp → Prop} {X : List Nat} {J : It} {G : Hp → Prop} (p : Nat → Bool) (W : Walk J (ni X).length G (YAt (ni X))) (g : ∀ H', Same H H' → G H') (nC : H C = none) (lX : X.length ≤ 1000)
    (hw : ∀ v, wipe ((wipe σ vs).set i (some v)) vs = wipe σ vs) (hv : ∀ v : V, ((wipe σ vs).set i (some v))[i]? = some (some v))
    (ht : ∀ x ∈ X, ∀ H', Same H H' → ∀ Q : Bool → Hp → Prop, Q (p x) H' → tt ((wipe σ vs).set i (some (.int (x : Int)))) H' Q) (hd : ∀ H', Same H H' → H' C = some (.lst (ni (X.filter p))) → Qd H') :
    ∃ W : Nat → Nat → Hp → Prop, (∃ m, W 0 m (upd H C (.lst []))) ∧ ∀ j m H, W j m H →
      (J.stop j H ∧ Qd H) ∨ (J.go j H ∧ ∃ Nx : Hp → Prop, (∀ H', Nx H' → ∃ m', m' < m ∧ W (j + 1) m' H') ∧ ∀ x H', J.yld j H x H' → gName i x (wipe σ vs) H' fun σ2 H2 => wipe σ2 vs = wipe σ vs ∧ tt σ2 H2 fun b H3 =>
        if b = true then tVar i σ2 H3 fun y H4 => ∃ acc, H4 C = some (.lst acc) ∧ acc.length < sizeLine ∧ Nx (upd H4 C (.lst (acc ++ [y]))) else Nx H3) := by
  refine lc_it W (fun j H' => Same H H' ∧ H' C = some (.lst (ni ((X.take j).filter p)))) ⟨same_new nC, upd_same⟩ (fun j H' _ z => g H' z.1) ?_ ?_
  · rintro j x H3 H4 hj ⟨s3, hC⟩ ⟨rfl, gx⟩
    rw [ni_len] at hj
    obtain rfl : .int ((X[j] : Nat) : Int) = x := Option.some.inj ((ni_get hj).symm.trans gx)
    refine ⟨hw _, ht X[j] (List.getElem_mem hj) _ s3 _ ?_⟩
    cases e : p X[j] with
    | true =>
      rw [if_pos rfl]
      refine ⟨_, hv _, _, hC, ?_, same_over s3 nC, ?_⟩
      · rw [ni_len]
        have h1 := List.length_filter_le p (X.take j)
        rw [List.length_take] at h1
        exact small1000 (by omega)
      · rw [upd_same, take_succ_get hj, List.filter_append, ni_app, List.filter_cons_of_pos e]
        rfl
    | false =>
      rw [if_neg Bool.false_ne_true]
      refine ⟨s3, ?_⟩
      rw [hC, take_succ_get hj, List.filter_append, List.filter_cons_of_neg (by rw [e]; exact Bool.false_ne_true)]
      simp
  · rintro H3 ⟨s3, hC⟩
    rw [ni_len, List.take_length] at hC
    exact hd H3 s3 hC
/-- all ships below n, as range walks them -/
theorem walk_rg (n : Nat) : Walk (Itr 0 n) (ni (List.range n)).length (fun _ => True) (YAt (ni (List.range n))) := by
  have e : (ni (List.range n)).length = n := by rw [ni_len, List.length_range]
  rw [e]
  refine ⟨fun _ _ hi _ => hi, fun _ _ => Nat.le_refl _, fun i H x H' hi _ y => ⟨y.1, ?_⟩⟩
  rw [ni_get (by rw [List.length_range]; exact hi), y.2, List.getElem_range, Int.zero_add]
/-- truths, one a ship: all([..]) -/
theorem lc_truths {σ : L2.St} {H : Hp} {C : Addr} {vs : List Nat} {i : Nat} {te : TE} {Qd : Hp → Prop} {X : List Nat} {J : It} {G : Hp → Prop} (W : Walk J (ni X).length G (YAt (ni X))) (g : ∀ H', Same H H' → G H') (nC : H C = none) (lX : X.length ≤ 1000)
    (hw : ∀ v, wipe ((wipe σ vs).set i (some v)) vs = wipe σ vs)
    (ht : ∀ x ∈ X, ∀ H', Same H H' → ∀ Q : V → Hp → Prop, (∀ H2, Same H' H2 → Q (.bl true) H2) → te ((wipe σ vs).set i (some (.int (x : Int)))) H' Q) (hd : ∀ H', Same H H' → H' C = some (.lst ((List.replicate X.length true).map V.bl)) → Qd H') :
    ∃ W : Nat → Nat → Hp → Prop, (∃ m, W 0 m (upd H C (.lst []))) ∧ ∀ j m H, W j m H →
      (J.stop j H ∧ Qd H) ∨ (J.go j H ∧ ∃ Nx : Hp → Prop, (∀ H', Nx H' → ∃ m', m' < m ∧ W (j + 1) m' H') ∧ ∀ x H', J.yld j H x H' → gName i x (wipe σ vs) H' fun σ2 H2 => wipe σ2 vs = wipe σ vs ∧ tYes σ2 H2 fun b H3 =>
        if b = true then te σ2 H3 fun y H4 => ∃ acc, H4 C = some (.lst acc) ∧ acc.length < sizeLine ∧ Nx (upd H4 C (.lst (acc ++ [y]))) else Nx H3) := by
  refine lc_it W (fun j H' => Same H H' ∧ H' C = some (.lst ((List.replicate j true).map V.bl))) ⟨same_new nC, upd_same⟩ (fun j H' _ z => g H' z.1) ?_ ?_
  · rintro j x H3 H4 hj ⟨s3, hC⟩ ⟨rfl, gx⟩
    rw [ni_len] at hj
    obtain rfl : .int ((X[j] : Nat) : Int) = x := Option.some.inj ((ni_get hj).symm.trans gx)
    refine ⟨hw _, tyes (iteT (ht X[j] (List.getElem_mem hj) _ s3 _ fun H5 s5 => ?_))⟩
    refine ⟨_, s5 _ _ hC, ?_, same_over (s3.trans s5) nC, ?_⟩
    · rw [List.length_map, List.length_replicate]
      exact small1000 (by omega)
    · rw [upd_same, List.replicate_succ', List.map_append]
      rfl
  · rintro H3 ⟨s3, hC⟩
    rw [ni_len] at hC
    exact hd H3 s3 hC
theorem all_true (n : Nat) : (List.replicate n true).all id = true := by simp
end Sh

namespace Sh
open PySem PySem.Spec PyProof.Rows L2
/-! ### the program: crossing -/
theorem near_lt {c : Nat} {L : List Nat} (h : Lot c L) {i : Nat} (hi : i < c) : near L i < c := by
  have hm := mates_here h (i := i)
  by_cases z : i ∈ L
  · have := hm z
    rw [near_cnt h hi, if_pos z]
    have := h.len
    have : 0 < L.length := List.length_pos_iff.mpr (List.ne_nil_of_mem z)
    omega
  · have := mates_there h hi z
    omega
def spMayGo (K : PySem.W.Frag) : Sp := fun vs H Q _ => ∃ (v l : V) (h t : Int) (ds : List Int) (L : List Nat) (i : Nat), vs = [v, l, .int (i : Int)] ∧ SeaA K H v h t ds ∧ LotA K H l L ∧ Lot ds.length L ∧ i < ds.length ∧ Q (.bl (mayB h t ds L i)) H
abbrev s_may_go : Stmt := topS 45
theorem sc_may_go : FnScope (["sea", "standing", "ship", "draughts", "step"] : List Str) (["sea", "standing", "ship"] : List Str) (defScope s_may_go) := ⟨rfl, rfl, rfl, by decide +kernel, rfl, by decide +kernel, by decide +kernel⟩
theorem b_may_go (kV doc pm : Value) (an : Option Addr) (cdv ct : Value) (us : List Value) (hl : us.length = (["sea", "standing", "ship"] : List Str).length) : bindArgs (PySem.W.fnOf "may_go" "may_go" (defArgs s_may_go) (defBody s_may_go) (defScope s_may_go) .none kV doc pm an cdv ct) ⟨us, []⟩ = pure ((["sea", "standing", "ship"] : List Str).zip us) :=
  match us, hl with | [_, _, _], _ => rfl
abbrev s_may_cross : Stmt := topS 46
theorem sc_may_cross : FnScope (["sea", "standing", "draughts", "ship"] : List Str) (["sea", "standing"] : List Str) (defScope s_may_cross) := ⟨rfl, rfl, rfl, by decide +kernel, rfl, by decide +kernel, by decide +kernel⟩
theorem b_may_cross (kV doc pm : Value) (an : Option Addr) (cdv ct : Value) (us : List Value) (hl : us.length = (["sea", "standing"] : List Str).length) : bindArgs (PySem.W.fnOf "may_cross" "may_cross" (defArgs s_may_cross) (defBody s_may_cross) (defScope s_may_cross) .none kV doc pm an cdv ct) ⟨us, []⟩ = pure ((["sea", "standing"] : List Str).zip us) :=
  match us, hl with | [_, _], _ => rfl
section
variable {P : Program} {w : World} {K : PySem.W.Frag} {mg : Str → Option Value} {base : Heap}
theorem ok_may_go {k : Nat} (D : Df K mg "may_go" s_may_go) (T : Bt mg) (O_mark_at : Ok P w K mg base k "mark_at" s_mark_at ["sea", "step"] (spMark K)) : Ok P w K mg base (k + 1) "may_go" s_may_go ["sea", "standing", "ship"] (spMayGo K) := by
  refine D.ok sc_may_go b_may_go (fun vs H Q E h => ?_) (fun f cdv A outer s H vs Q E hr h => ?_)
  · obtain ⟨v, l, h, t, ds, L, i, rfl, _⟩ := h
    rfl
  · obtain ⟨v, l, h, t, ds, L, i, rfl, hv, ⟨pl, rfl, hl⟩, hL, hi, k⟩ := h
    obtain ⟨p, q, rfl, hp, hq⟩ := id hv
    have ed : ds.getD i 0 = ds[i] := by simp [hi]
    have hn := near_cnt hL hi
    rw [may_mk, ed] at k
    refine ⟨_, (pss_cons (ps_set (i := 3) sc_may_go.nd rfl (.inl rfl) (pe_ix ix_lt (pv 0) pe_int (fun _ _ => rfl)))
      (pss_cons (ps_set (i := 4) sc_may_go.nd rfl (.inl rfl) (pe_ifExp (pt_cmpR op_in_seq (pv 2) (pv 1) (by rfl)) (pe_op op_sub (pe_callB call_len_seq (by rfl) T.len_ PySem.boot_len (pa_cons (pv 1) pa_nil)) pe_int) (pe_callB call_len_seq (by rfl) T.len_ PySem.boot_len (pa_cons (pv 1) pa_nil))))
      (pss_one (ps_ret (pe_cmpR op_le (pe_ix ix_lt (pv 3) (pv 2) (fun _ _ => rfl)) (pe_fn O_mark_at (hr.mono (by omega)) (pa_cons (pv 0) (pa_cons (pv 4) pa_nil))) (nomark _)))))), ?_⟩
    refine ⟨_, rfl, p, _, 2, .ref q, rfl, rfl, hp, rfl, ?_⟩
    refine ⟨_, rfl, _, rfl, pl, _, rfl, hl, rfl, ni_flat L, _, rfl, ?_⟩
    rw [if_neg Bool.false_ne_true, in_ni]
    by_cases z : i ∈ L
    · rw [decide_eq_true z]
      refine iteT ?_
      have l1 : 0 < L.length := List.length_pos_iff.mpr (List.ne_nil_of_mem z)
      refine ⟨_, rfl, pl, _, rfl, hl, _, 1, rfl, rfl, ?_⟩
      rw [show (near L i : Int) = ((ni L).length : Int) - 1 by rw [hn, if_pos z, ni_len]; omega] at k
      refine ⟨_, rfl, _, rfl, q, _, _, .int ds[i], rfl, rfl, hq, at_nat rfl (by simp [hi]), ?_⟩
      exact ⟨_, rfl, _, rfl, .ref p, h, t, _, ds, rfl, hv, _, _, rfl, rfl, k⟩
    · rw [decide_eq_false z]
      refine iteF ?_
      refine ⟨_, rfl, pl, _, rfl, hl, ?_⟩
      rw [show (near L i : Int) = ((ni L).length : Int) by rw [hn, if_neg z, ni_len]] at k
      refine ⟨_, rfl, _, rfl, q, _, _, .int ds[i], rfl, rfl, hq, at_nat rfl (by simp [hi]), ?_⟩
      exact ⟨_, rfl, _, rfl, .ref p, h, t, _, ds, rfl, hv, _, _, rfl, rfl, k⟩
theorem ok_may_cross {k : Nat} (D : Df K mg "may_cross" s_may_cross) (T : Bt mg) (O_may_go : Ok P w K mg base k "may_go" s_may_go ["sea", "standing", "ship"] (spMayGo K)) : Ok P w K mg base (k + 1) "may_cross" s_may_cross ["sea", "standing"] (spMay K) := by
  refine D.ok sc_may_cross b_may_cross (fun vs H Q E h => ?_) (fun f cdv A outer s H vs Q E hr h => ?_)
  · obtain ⟨v, l, h, t, ds, L, rfl, _⟩ := h
    rfl
  · obtain ⟨v, l, h, t, ds, L, rfl, hv, hl, d1, hL, k⟩ := h
    obtain ⟨p, q, rfl, hp, hq⟩ := id hv
    refine ⟨_, (pss_cons (ps_set (i := 2) sc_may_cross.nd rfl (.inl rfl) (pe_ix ix_lt (pv 0) pe_int (fun _ _ => rfl)))
      (pss_one (ps_ret (pe_lc (own := [("ship", 3)]) (g := (gName 3)) (by rfl) sc_may_cross.nd (pi_range1 (by rfl) T.range_ (pa_cons (pe_callB call_len_seq (by rfl) T.len_ PySem.boot_len (pa_cons (pv 2) pa_nil)) pa_nil)) (blkOk_by (own := [("ship", 3)]) (N := (["sea", "standing", "draughts", "ship"] : List Str)) (sc := defScope s_may_cross) (by decide +kernel)) (fun _ _ _ _ _ => (pg_name (i := 3) sc_may_cross.nd rfl (.inl rfl))) (fun _ _ _ _ _ => (pts_one (pt_val (pe_fn O_may_go (hr.mono (by omega)) (pa_cons (pv 0) (pa_cons (pv 1) (pa_cons (pv 3) pa_nil))))))) (fun _ _ _ _ _ => (pv 3)))))), ?_⟩
    refine ⟨_, rfl, p, _, 2, .ref q, rfl, rfl, hp, rfl, ?_⟩
    refine ⟨_, rfl, q, _, rfl, hq, _, rfl, by omega, ?_, fun C nC => ?_⟩
    · rw [List.length_map]
      omega
    rw [List.length_map, show ((ds.length : Int)).toNat = ds.length by omega]
    refine lc_range (fun j H' => Same H H' ∧ H' C = some (.lst (ni (lets h t ds L j)))) ⟨same_new nC, upd_same⟩ ?_ ?_
    · rintro j H1 hj ⟨sm, hC⟩
      refine ⟨rfl, ?_⟩
      rw [Int.zero_add (j : Int)]
      refine ⟨_, rfl, _, rfl, _, rfl, .ref p, l, h, t, ds, L, j, rfl, hv.same sm, hl.same sm, hL, hj, _, rfl, ?_⟩
      cases c : mayB h t ds L j with
      | true =>
        refine iteT ⟨_, rfl, _, hC, ?_, same_over sm nC, ?_⟩
        · rw [ni_len]
          exact Nat.lt_of_le_of_lt (filter_len _ _) (small1000 (by omega))
        · rw [upd_same]
          unfold lets
          rw [filter_succ, if_pos c, ni_app]
          rfl
      | false =>
        refine iteF ⟨sm, ?_⟩
        rw [hC]
        unfold lets
        rw [filter_succ, if_neg (by rw [c]; exact Bool.false_ne_true), List.append_nil]
    · rintro H1 ⟨sm, hC⟩
      exact k H1 C sm nC hC
end
end Sh

namespace Sh
open PySem PySem.Spec PyProof.Rows L2
/-! ### the program: crossed, where one may go -/
def spCrossed (K : PySem.W.Frag) : Sp := fun vs H Q _ => ∃ (v l : V) (h t : Int) (ds : List Int) (L : List Nat) (i : Nat), vs = [v, l, .int (i : Int)] ∧ SeaA K H v h t ds ∧ LotA K H l L ∧ ds.length ≤ 100 ∧ Lot ds.length L ∧ i < ds.length ∧ mayB h t ds L i = true ∧ ∀ (H' : Hp) (z : V), Same H H' → LotT K H' z (gone L i) → Q z H'
abbrev s_crossed : Stmt := topS 47
theorem sc_crossed : FnScope (["sea", "standing", "ship", "mate"] : List Str) (["sea", "standing", "ship"] : List Str) (defScope s_crossed) := ⟨rfl, rfl, rfl, by decide +kernel, rfl, by decide +kernel, by decide +kernel⟩
theorem b_crossed (kV doc pm : Value) (an : Option Addr) (cdv ct : Value) (us : List Value) (hl : us.length = (["sea", "standing", "ship"] : List Str).length) : bindArgs (PySem.W.fnOf "crossed" "crossed" (defArgs s_crossed) (defBody s_crossed) (defScope s_crossed) .none kV doc pm an cdv ct) ⟨us, []⟩ = pure ((["sea", "standing", "ship"] : List Str).zip us) :=
  match us, hl with | [_, _, _], _ => rfl
section
variable {P : Program} {w : World} {K : PySem.W.Frag} {mg : Str → Option Value} {base : Heap}
theorem ok_crossed {k : Nat} (D : Df K mg "crossed" s_crossed) (T : Bt mg) (O_may_go : Ok P w K mg base k "may_go" s_may_go ["sea", "standing", "ship"] (spMayGo K)) : Ok P w K mg base (k + 1) "crossed" s_crossed ["sea", "standing", "ship"] (spCrossed K) := by
  refine D.ok sc_crossed b_crossed (fun vs H Q E h => ?_) (fun f cdv A outer s H vs Q E hr h => ?_)
  · obtain ⟨v, l, h, t, ds, L, i, rfl, _⟩ := h
    rfl
  · obtain ⟨v, l, h, t, ds, L, i, rfl, hv, hl0, d1, hL, hi, hm, q⟩ := h
    have ll := hL.len
    refine ⟨_, (pss_cons (ps_if (pt_not (pt_val (pe_fn O_may_go (hr.mono (by omega)) (pa_cons (pv 0) (pa_cons (pv 1) (pa_cons (pv 2) pa_nil))))))
        (pss_one ps_never)
        pss_nil)
      (pss_cons (ps_if (pt_cmpR op_in_seq (pv 2) (pv 1) (by rfl))
        (pss_one (ps_ret (pe_callTy call_tuple_of (by rfl) T.tuple_ (by decide +kernel) (pa_cons (pe_lc (own := [("mate", 3)]) (g := (gName 3)) (by rfl) sc_crossed.nd (pi_seq (pv 1)) (blkOk_by (own := [("mate", 3)]) (N := (["sea", "standing", "ship", "mate"] : List Str)) (sc := defScope s_crossed) (by decide +kernel)) (fun _ _ _ _ _ => (pg_name (i := 3) sc_crossed.nd rfl (.inl rfl))) (fun _ _ _ _ _ => (pts_one (pt_cmpR op_ne (pv 3) (pv 2) (nomark _)))) (fun _ _ _ _ _ => (pv 3))) pa_nil))))
        pss_nil)
      (pss_one (ps_ret (pe_callTy call_tuple_of (by rfl) T.tuple_ (by decide +kernel) (pa_cons (pe_callB cr_sortedI (by rfl) T.sorted_ (by decide +kernel) (pa_cons (pe_lst (StX.pa_star (pv 1) (pa_cons (pv 2) pa_nil))) pa_nil)) pa_nil)))))), ?_⟩
    refine ⟨_, rfl, _, rfl, _, rfl, v, l, h, t, ds, L, i, rfl, hv, hl0, hL, hi, _, rfl, ?_⟩
    rw [hm]
    refine iteF ?_
    obtain ⟨pl, rfl, hl⟩ := hl0
    refine ⟨_, rfl, _, rfl, pl, _, rfl, hl, rfl, ni_flat L, _, rfl, ?_⟩
    rw [if_neg Bool.false_ne_true, in_ni]
    by_cases z : i ∈ L
    · rw [decide_eq_true z]
      refine iteT ?_
      refine ⟨_, rfl, pl, _, H, rfl, hl, Kp.refl _ _, fun J hJ C nC => ?_⟩
      obtain ⟨G, g, W⟩ := hJ.walk
      refine lc_it W (fun j H' => Same H H' ∧ H' C = some (.lst (ni ((L.take j).filter fun m => !decide (m = i))))) ⟨same_new nC, upd_same⟩ (fun j H' _ z => g H' (.ofS z.1)) ?_ ?_
      · rintro j x H3 H4 hj ⟨s3, hC⟩ ⟨rfl, gx⟩
        rw [ni_len] at hj
        obtain rfl : .int ((L[j] : Nat) : Int) = x := Option.some.inj ((ni_get hj).symm.trans gx)
        refine ⟨rfl, ?_⟩
        refine ⟨_, rfl, _, rfl, rfl, _, rfl, ite2 (fun c => ?_) (fun c => ?_)⟩
        · have c0 : ¬ L[j] = i := fun e => by
            rw [e] at c
            simp at c
          refine ⟨_, rfl, _, hC, ?_, same_over s3 nC, ?_⟩
          · rw [ni_len]
            have h1 := List.length_filter_le (fun m => !decide (m = i)) (L.take j)
            rw [List.length_take] at h1
            exact small1000 (by omega)
          · rw [upd_same, take_succ_get hj, List.filter_append, ni_app, List.filter_cons_of_pos (by simpa using c0)]
            rfl
        · have c0 : L[j] = i := by
            by_cases e : L[j] = i
            · exact e
            · exfalso
              refine c ?_
              have z2 : ¬ V.int ((L[j] : Nat) : Int) = V.int (i : Int) := fun w => e (by have := V.int.inj w; omega)
              rw [decide_eq_false z2]
              rfl
          refine ⟨s3, ?_⟩
          rw [hC, take_succ_get hj, List.filter_append, List.filter_cons_of_neg (by simpa using c0)]
          simp
      rintro H3 ⟨s3, hC⟩
      rw [ni_len, List.take_length] at hC
      refine ⟨C, _, rfl, .inl ⟨SqL.of hC, fun p np => ?_⟩⟩
      refine q _ _ (s3.trans (same_new np)) ⟨p, rfl, SqT.of ?_⟩
      rw [upd_same, gone, if_pos z]
    · rw [decide_eq_false z]
      refine iteF ?_
      refine ⟨_, rfl, pl, _, rfl, hl.symm, _, rfl, ?_, fun ct nct => ?_⟩
      · rw [List.length_append, ni_len]
        show L.length + 1 ≤ sizeLine
        exact Nat.le_trans (show L.length + 1 ≤ 1001 by omega) (by decide)
      have s3 : Same H (upd H ct (.lst (ni L ++ [.int (i : Int)]))) := same_new nct
      have e3 : upd H ct (.lst (ni L ++ [.int (i : Int)])) ct = some (.lst (((L ++ [i]).map fun (i : Nat) => (i : Int)).map V.int)) := by
        rw [upd_same, ← ni_ints, ni_app]
        rfl
      generalize upd H ct (.lst (ni L ++ [.int (i : Int)])) = H3 at s3 e3
      refine ⟨ct, _, rfl, SqL.of e3, fun ns2 p2 pm2 up2 np2 => ?_⟩
      obtain ⟨L2, rfl, pL2, hL2⟩ := lot_sorted (c := ds.length) pm2 up2 (List.nodup_append.mpr ⟨hL.up.imp Nat.ne_of_lt, by simp, fun a ha y hy => by rw [List.mem_singleton.mp hy]; exact fun e => z (e ▸ ha)⟩) fun j hj => by
        rcases List.mem_append.mp hj with y | y
        · exact hL.lt j y
        · rw [List.mem_singleton.mp y]
          exact hi
      have eg : L2 = gone L i := by
        refine lot_ext hL2 (gone_lot hL hi) fun j _ => ?_
        rw [gone_mem]
        unfold mem
        by_cases e : j = i
        · subst e
          rw [Th.flip_self]
          simp [z, pL2.mem_iff]
        · rw [Th.flip_ne _ e]
          simp [e, pL2.mem_iff]
      have s4 : Same H3 (upd H3 p2 (.lst ((L2.map fun (i : Nat) => (i : Int)).map V.int))) := same_new np2
      have e4 : upd H3 p2 (.lst ((L2.map fun (i : Nat) => (i : Int)).map V.int)) p2 = some (.lst (ni L2)) := by rw [upd_same, ni_ints]
      generalize upd H3 p2 (.lst ((L2.map fun (i : Nat) => (i : Int)).map V.int)) = H4 at s4 e4
      refine ⟨p2, _, rfl, .inl ⟨SqL.of e4, fun p np => ?_⟩⟩
      have s14 := s3.trans s4
      refine q _ _ (s14.trans (same_new np)) ⟨p, rfl, SqT.of ?_⟩
      rw [upd_same, eg]
end
end Sh

namespace Sh
open PySem PySem.Spec PyProof.Rows L2
/-! ### the program: a basin deeper, a ship sunk -/
structure Chs (mg : Str → Option Value) : Prop where
  here : ∃ t, mg "HERE" = some (.str "here" t)
  there : ∃ t, mg "THERE" = some (.str "there" t)
theorem with_ch {K : PySem.W.Frag} {mg : Str → Option Value} {R : Prop} {h : Heap} {t1 t2 : Tok} (X : K.In h) (G : h.Ns mainGlobals mg) (a : PySem.W.nsIn K mainGlobals "HERE" = some (some (.str "here" t1))) (b : PySem.W.nsIn K mainGlobals "THERE" = some (some (.str "there" t2))) (r : Chs mg → R) : R :=
  r ⟨⟨_, PySem.W.mg_of X G a⟩, ⟨_, PySem.W.mg_of X G b⟩⟩
def sideS (s : Bool) : Str := if s then "here" else "there"
theorem side_ne : decide (V.str "there" = V.str "here") = false := by decide +kernel
def spDeep (K : PySem.W.Frag) : Sp := fun vs H Q _ => ∃ (v : V) (h t m : Int) (ds : List Int) (s : Bool), vs = [v, .str (sideS s), .int m] ∧ SeaA K H v h t ds ∧ ds.length ≤ 100 ∧ ∀ (H' : Hp) (r : V), Same H H' → SeaT K H' r (if s then h + m else h) (if s then t else t + m) ds → Q r H'
abbrev s_deepened : Stmt := topS 31
theorem sc_deepened : FnScope (["sea", "side", "more", "here", "there", "draughts"] : List Str) (["sea", "side", "more"] : List Str) (defScope s_deepened) := ⟨rfl, rfl, rfl, by decide +kernel, rfl, by decide +kernel, by decide +kernel⟩
theorem b_deepened (kV doc pm : Value) (an : Option Addr) (cdv ct : Value) (us : List Value) (hl : us.length = (["sea", "side", "more"] : List Str).length) : bindArgs (PySem.W.fnOf "deepened" "deepened" (defArgs s_deepened) (defBody s_deepened) (defScope s_deepened) .none kV doc pm an cdv ct) ⟨us, []⟩ = pure ((["sea", "side", "more"] : List Str).zip us) :=
  match us, hl with | [_, _, _], _ => rfl
def spWithout (K : PySem.W.Frag) : Sp := fun vs H Q _ => ∃ (v l : V) (h t : Int) (ds : List Int) (L : List Nat) (g : Nat), vs = [v, l, .int (g : Int)] ∧ SeaA K H v h t ds ∧ LotA K H l L ∧ ds.length ≤ 100 ∧ Lot ds.length L ∧ g < ds.length ∧
  ∀ (H' : Hp) (p : Addr) (r1 r2 : V), Same H H' → H' p = some (.tup [r1, r2]) → SeaT K H' r1 h t (ds.take g ++ ds.drop (g + 1)) → LotT K H' r2 (less L g) → Q (.ref p) H'
def spSunk (K : PySem.W.Frag) : Sp := fun vs H Q _ => ∃ (v l : V) (h t : Int) (ds : List Int) (L : List Nat) (g : Nat), vs = [v, l, .int (g : Int)] ∧ SeaA K H v h t ds ∧ LotA K H l L ∧ ds.length ≤ 100 ∧ Lot ds.length L ∧ g < ds.length ∧
  ∀ (H' : Hp) (p : Addr) (r1 r2 : V), Same H H' → H' p = some (.tup [r1, r2]) → SeaT K H' r1 (h + if g ∈ L then 1 else 0) (t + if g ∈ L then 0 else 1) (ds.take g ++ ds.drop (g + 1)) → LotT K H' r2 (less L g) → Q (.ref p) H'
abbrev s_without_ship : Stmt := topS 35
theorem sc_without_ship : FnScope (["sea", "standing", "ship", "draughts", "order", "mate"] : List Str) (["sea", "standing", "ship"] : List Str) (defScope s_without_ship) := ⟨rfl, rfl, rfl, by decide +kernel, rfl, by decide +kernel, by decide +kernel⟩
theorem b_without_ship (kV doc pm : Value) (an : Option Addr) (cdv ct : Value) (us : List Value) (hl : us.length = (["sea", "standing", "ship"] : List Str).length) : bindArgs (PySem.W.fnOf "without_ship" "without_ship" (defArgs s_without_ship) (defBody s_without_ship) (defScope s_without_ship) .none kV doc pm an cdv ct) ⟨us, []⟩ = pure ((["sea", "standing", "ship"] : List Str).zip us) :=
  match us, hl with | [_, _, _], _ => rfl
abbrev s_sunk : Stmt := topS 36
theorem sc_sunk : FnScope (["sea", "standing", "ship", "left", "lying"] : List Str) (["sea", "standing", "ship"] : List Str) (defScope s_sunk) := ⟨rfl, rfl, rfl, by decide +kernel, rfl, by decide +kernel, by decide +kernel⟩
theorem b_sunk (kV doc pm : Value) (an : Option Addr) (cdv ct : Value) (us : List Value) (hl : us.length = (["sea", "standing", "ship"] : List Str).length) : bindArgs (PySem.W.fnOf "sunk" "sunk" (defArgs s_sunk) (defBody s_sunk) (defScope s_sunk) .none kV doc pm an cdv ct) ⟨us, []⟩ = pure ((["sea", "standing", "ship"] : List Str).zip us) :=
  match us, hl with | [_, _, _], _ => rfl
theorem dec_ne (w g : Nat) : (!decide (V.int (w : Int) = V.int (g : Int))) = !decide (w = g) := by
  by_cases z : w = g
  · subst z
    simp
  · have z2 : ¬ V.int (w : Int) = V.int (g : Int) := fun e => z (by have := V.int.inj e; omega)
    rw [decide_eq_false z, decide_eq_false z2]
section
variable {P : Program} {w : World} {K : PySem.W.Frag} {mg : Str → Option Value} {base : Heap}
theorem ok_deep {k : Nat} (D : Df K mg "deepened" s_deepened) (T : Bt mg) (Ch : Chs mg) : Ok P w K mg base (k + 1) "deepened" s_deepened ["sea", "side", "more"] (spDeep K) := by
  obtain ⟨t1, g_HERE⟩ := Ch.here
  refine D.ok sc_deepened b_deepened (fun vs H Q E h => ?_) (fun f cdv A outer s H vs Q E hr h => ?_)
  · obtain ⟨v, h, t, m, ds, s, rfl, _⟩ := h
    rfl
  · obtain ⟨v, h, t, m, ds, sd, rfl, ⟨p, q, rfl, hp, hq⟩, d1, k⟩ := h
    refine ⟨_, (pss_cons (ps_asg (pv 0) (pg_seq rfl (pgs_cons (pg_name (i := 3) sc_deepened.nd rfl (.inl rfl)) (pgs_cons (pg_name (i := 4) sc_deepened.nd rfl (.inl rfl)) (pgs_cons (pg_name (i := 5) sc_deepened.nd rfl (.inl rfl)) pgs_nil)))))
      (pss_cons (ps_if (pt_cmpR op_eq (pv 1) (pe_glob (v := .str "here") (by rfl) g_HERE ⟨_, rfl⟩) (nomark _))
        (pss_one (ps_ret (pe_tup (pa_cons (pe_op op_add (pv 3) (pv 2)) (pa_cons (pv 4) (pa_cons (pe_callTy call_tuple_of (by rfl) T.tuple_ (by decide +kernel) (pa_cons (pv 5) pa_nil)) pa_nil))))))
        pss_nil)
      (pss_one (ps_ret (pe_tup (pa_cons (pv 3) (pa_cons (pe_op op_add (pv 4) (pv 2)) (pa_cons (pe_callTy call_tuple_of (by rfl) T.tuple_ (by decide +kernel) (pa_cons (pv 5) pa_nil)) pa_nil)))))))), ?_⟩
    refine ⟨_, rfl, p, _, rfl, hp, rfl, _, _, rfl, _, _, rfl, _, _, rfl, rfl, ?_⟩
    cases sd with
    | true =>
      refine ⟨_, rfl, rfl, _, rfl, ?_⟩
      rw [show sideS true = "here" from rfl, decide_eq_true rfl]
      refine iteT ?_
      refine ⟨_, rfl, _, rfl, h, m, rfl, rfl, _, rfl, _, rfl, q, ds.map V.int, rfl, ?_⟩
      rcases hq with hq | hq
      · refine .inl ⟨hq, fun a na => ⟨(by show 3 ≤ sizeLine; decide), fun b nb => ?_⟩⟩
        have s1 : Same H (upd H a (.tup (ds.map V.int))) := same_new na
        exact k _ _ (s1.trans (same_new nb)) ⟨b, a, rfl, SqT.of upd_same, SqT.of (same_new nb _ _ upd_same)⟩
      · refine .inr ⟨hq, (by show 3 ≤ sizeLine; decide), fun b nb => ?_⟩
        exact k _ _ (same_new nb) ⟨b, q, rfl, SqT.of upd_same, Same.tup (same_new nb) hq⟩
    | false =>
      refine ⟨_, rfl, rfl, _, rfl, ?_⟩
      rw [show sideS false = "there" from rfl, side_ne]
      refine iteF ?_
      refine ⟨_, rfl, _, rfl, _, rfl, t, m, rfl, rfl, _, rfl, q, ds.map V.int, rfl, ?_⟩
      rcases hq with hq | hq
      · refine .inl ⟨hq, fun a na => ⟨(by show 3 ≤ sizeLine; decide), fun b nb => ?_⟩⟩
        have s1 : Same H (upd H a (.tup (ds.map V.int))) := same_new na
        exact k _ _ (s1.trans (same_new nb)) ⟨b, a, rfl, SqT.of upd_same, SqT.of (same_new nb _ _ upd_same)⟩
      · refine .inr ⟨hq, (by show 3 ≤ sizeLine; decide), fun b nb => ?_⟩
        exact k _ _ (same_new nb) ⟨b, q, rfl, SqT.of upd_same, Same.tup (same_new nb) hq⟩
theorem ok_without {k : Nat} (D : Df K mg "without_ship" s_without_ship) (T : Bt mg) (O_renumbered : Ok P w K mg base k "renumbered" s_renumbered ["sea", "order"] (spRenum K)) (O_renumbered_standing : Ok P w K mg base k "renumbered_standing" s_renumbered_standing ["order", "standing"] (spRenumS K)) :
    Ok P w K mg base (k + 1) "without_ship" s_without_ship ["sea", "standing", "ship"] (spWithout K) := by
  refine D.ok sc_without_ship b_without_ship (fun vs H Q E h => ?_) (fun f cdv A outer s H vs Q E hr h => ?_)
  · obtain ⟨v, l, h, t, ds, L, g, rfl, _⟩ := h
    rfl
  · obtain ⟨v, l, h, t, ds, L, g, rfl, sea, lot, d1, hL, hg, k⟩ := h
    obtain ⟨p, q, rfl, hp, hq⟩ := id sea
    obtain ⟨pl, rfl, hl⟩ := id lot
    refine ⟨_, (pss_cons (ps_set (i := 3) sc_without_ship.nd rfl (.inl rfl) (pe_ix ix_lt (pv 0) pe_int (fun _ _ => rfl)))
      (pss_cons (ps_setLc (i := 4) (own := [("mate", 5)]) (g := (gName 5)) (by rfl) sc_without_ship.nd rfl rfl (sw_true rfl rfl rfl (by decide +kernel)) (pi_range1 (by rfl) T.range_ (pa_cons (pe_callB call_len_seq (by rfl) T.len_ PySem.boot_len (pa_cons (pv 3) pa_nil)) pa_nil)) (blkOk_by (own := [("mate", 5)]) (N := (["sea", "standing", "ship", "draughts", "order", "mate"] : List Str)) (sc := defScope s_without_ship) (by decide +kernel)) (fun _ _ _ _ _ => (pg_name (i := 5) sc_without_ship.nd rfl (.inl rfl))) (fun _ _ _ _ _ => (pts_one (pt_cmpR op_ne (pv 5) (pv 2) (nomark _)))) (fun _ _ _ _ _ => (pv 5)))
      (pss_one (ps_ret (pe_tup (pa_cons (pe_fn O_renumbered (hr.mono (by omega)) (pa_cons (pv 0) (pa_cons (pv 4) pa_nil))) (pa_cons (pe_fn O_renumbered_standing (hr.mono (by omega)) (pa_cons (pv 4) (pa_cons (pv 1) pa_nil))) pa_nil))))))), ?_⟩
    refine ⟨_, rfl, p, _, 2, .ref q, rfl, rfl, hp, rfl, ?_⟩
    refine ⟨_, rfl, q, _, rfl, hq, _, rfl, by omega, by rw [List.length_map]; omega, fun C nC => ?_⟩
    rw [List.length_map, show ((ds.length : Int)).toNat = ds.length by omega]
    refine lc_filter (fun w => !decide (w = g)) (walk_rg ds.length) (fun _ _ => trivial) nC (by rw [List.length_range]; omega) (fun _ => rfl) (fun _ => rfl) (fun y hy H' s' Q' q' => ?_) (fun H1 s1 hC => ?_)
    · refine ⟨_, rfl, _, rfl, rfl, _, rfl, ?_⟩
      rw [dec_ne]
      exact q'
    change H1 C = some (.lst (ni (butN ds.length g))) at hC
    have bl := butN_len hg
    refine ⟨_, rfl, _, rfl, .ref p, .ref C, h, t, ds, butN ds.length g, rfl, sea.same s1, ⟨C, rfl, SqA.l hC⟩, by omega, butN_lt, fun H2 r1 s2 h1 => ?_⟩
    rw [pick_but hg] at h1
    refine ⟨_, rfl, _, rfl, .ref C, .ref pl, butN ds.length g, L, rfl, ⟨C, rfl, SqA.l (s2 _ _ hC)⟩, lot.same (s1.trans s2), by omega, fun H3 r2 s3 h2 => ?_⟩
    rw [renS_but hg hL] at h2
    refine ⟨(by show 2 ≤ sizeLine; decide), fun pr npr => ?_⟩
    have s4 : Same H3 (upd H3 pr (.tup [r1, r2])) := same_new npr
    exact k _ pr r1 r2 (s1.trans (s2.trans (s3.trans s4))) upd_same (h1.same (s3.trans s4)) (h2.same s4)
theorem ok_sunk {k : Nat} (D : Df K mg "sunk" s_sunk) (T : Bt mg) (Ch : Chs mg) (O_without_ship : Ok P w K mg base k "without_ship" s_without_ship ["sea", "standing", "ship"] (spWithout K)) (O_deepened : Ok P w K mg base k "deepened" s_deepened ["sea", "side", "more"] (spDeep K)) :
    Ok P w K mg base (k + 1) "sunk" s_sunk ["sea", "standing", "ship"] (spSunk K) := by
  obtain ⟨t1, g_HERE⟩ := Ch.here
  obtain ⟨t2, g_THERE⟩ := Ch.there
  refine D.ok sc_sunk b_sunk (fun vs H Q E h => ?_) (fun f cdv A outer s H vs Q E hr h => ?_)
  · obtain ⟨v, l, h, t, ds, L, g, rfl, _⟩ := h
    rfl
  · obtain ⟨v, l, h, t, ds, L, g, rfl, sea, lot, d1, hL, hg, k⟩ := h
    obtain ⟨pl, rfl, hl⟩ := id lot
    refine ⟨_, (pss_cons (ps_asg (pe_fn O_without_ship (hr.mono (by omega)) (pa_cons (pv 0) (pa_cons (pv 1) (pa_cons (pv 2) pa_nil)))) (pg_seq rfl (pgs_cons (pg_name (i := 3) sc_sunk.nd rfl (.inl rfl)) (pgs_cons (pg_name (i := 4) sc_sunk.nd rfl (.inl rfl)) pgs_nil))))
      (pss_one (ps_ret (pe_tup (pa_cons (pe_fn O_deepened (hr.mono (by omega)) (pa_cons (pv 3) (pa_cons (pe_ifExp (pt_cmpR op_in_seq (pv 2) (pv 1) (by rfl)) (pe_glob (v := .str "here") (by rfl) g_HERE ⟨_, rfl⟩) (pe_glob (v := .str "there") (by rfl) g_THERE ⟨_, rfl⟩)) (pa_cons pe_int pa_nil)))) (pa_cons (pv 4) pa_nil)))))), ?_⟩
    refine ⟨_, rfl, _, rfl, _, rfl, v, .ref pl, h, t, ds, L, g, rfl, sea, lot, d1, hL, hg, fun H1 pr r1 r2 s1 hpr h1 h2 => ?_⟩
    refine ⟨pr, _, rfl, SqA.t hpr, rfl, _, _, rfl, _, _, rfl, rfl, ?_⟩
    have dl : (ds.take g ++ ds.drop (g + 1)).length ≤ 100 := by
      rw [List.length_append, List.length_take, List.length_drop]
      omega
    refine ⟨_, rfl, _, rfl, _, rfl, pl, _, rfl, Same.sqA s1 hl, rfl, ni_flat L, _, rfl, ?_⟩
    rw [if_neg Bool.false_ne_true, in_ni]
    by_cases z : g ∈ L
    · rw [decide_eq_true z]
      refine iteT ?_
      refine ⟨r1, h, t, 1, _, true, rfl, h1.a, dl, fun H2 r s2 hr2 => ?_⟩
      refine ⟨_, rfl, (by show 2 ≤ sizeLine; decide), fun p2 np2 => ?_⟩
      have s3 : Same H2 (upd H2 p2 (.tup [r, r2])) := same_new np2
      refine k _ p2 r r2 (s1.trans (s2.trans s3)) upd_same ?_ (h2.same (s2.trans s3))
      rw [if_pos z, if_pos z, Int.add_zero]
      exact hr2.same s3
    · rw [decide_eq_false z]
      refine iteF ?_
      refine ⟨r1, h, t, 1, _, false, rfl, h1.a, dl, fun H2 r s2 hr2 => ?_⟩
      refine ⟨_, rfl, (by show 2 ≤ sizeLine; decide), fun p2 np2 => ?_⟩
      have s3 : Same H2 (upd H2 p2 (.tup [r, r2])) := same_new np2
      refine k _ p2 r r2 (s1.trans (s2.trans s3)) upd_same ?_ (h2.same (s2.trans s3))
      rw [if_neg z, if_neg z, Int.add_zero]
      exact hr2.same s3
end
end Sh

namespace Sh
open PySem PySem.Spec PyProof.Rows L2
/-! ### all that a standing comes to, layer by layer: the mathematics -/
def kL (L : List Nat) : List Key := L.map fun (i : Nat) => Sum.inl (i : Int)
theorem kL_ni (L : List Nat) : (kL L).map kV = ni L := by
  unfold kL ni
  rw [List.map_map]
  rfl
theorem kL_inj {L M : List Nat} (h : kL L = kL M) : L = M := by
  have e := congrArg (List.map fun k : Key => match k with | .inl i => i.toNat | .inr _ => 0) h
  unfold kL at e
  rw [List.map_map, List.map_map] at e
  have id' : ((fun k : Key => match k with | .inl i => i.toNat | .inr _ => 0) ∘ fun (i : Nat) => (Sum.inl (i : Int) : Key)) = id := by
    funext i
    exact Int.toNat_natCast i
  rw [id', List.map_id, List.map_id] at e
  exact e
/-- an entry: a standing, how far -/
def ent (p : List Nat × Nat) : List Key × V := (kL p.1, .int (p.2 : Int))
theorem val_none {F : List (List Nat × Nat)} {M : List Nat} : valV (F.map ent) (kL M) = none ↔ ¬ M ∈ F.map (·.1) := by
  induction F with
  | nil => exact ⟨fun _ h => (by cases h), fun _ => rfl⟩
  | cons p F ih =>
    rw [List.map_cons, List.map_cons]
    by_cases e : kL p.1 = kL M
    · rw [valV_pos e]
      exact ⟨fun h => (by cases h), fun h => absurd (by rw [kL_inj e]; exact List.mem_cons_self) h⟩
    · rw [valV_neg e, ih]
      have ne : M ≠ p.1 := fun z => e (by rw [z])
      rw [List.mem_cons]
      exact ⟨fun h z => z.elim ne h, fun h z => h (.inr z)⟩
theorem val_some {F : List (List Nat × Nat)} {M : List Nat} (h : M ∈ F.map (·.1)) : ∃ n : Nat, valV (F.map ent) (kL M) = some (.int (n : Int)) := by
  induction F with
  | nil => cases h
  | cons p F ih =>
    rw [List.map_cons]
    by_cases e : kL p.1 = kL M
    · exact ⟨p.2, by rw [valV_pos e]; rfl⟩
    · rw [valV_neg e]
      rcases List.mem_cons.mp h with z | z
      · exact absurd (by rw [z]) e
      · exact ih z
/-- all lots of so many ships -/
def allLots : Nat → List (List Nat)
  | 0 => [[]]
  | c + 1 => allLots c ++ (allLots c).map fun L => L ++ [c]
theorem allLots_len : ∀ c, (allLots c).length = 2 ^ c
  | 0 => rfl
  | c + 1 => by
    show (allLots c ++ (allLots c).map fun L => L ++ [c]).length = 2 ^ (c + 1)
    rw [List.length_append, List.length_map, allLots_len c, Nat.pow_succ]
    omega
theorem lot_all : ∀ {c : Nat} {L : List Nat}, Lot c L → L ∈ allLots c
  | 0, L, h => by
    cases L with
    | nil => exact List.mem_cons_self
    | cons a r => exact absurd (h.lt a List.mem_cons_self) (by omega)
  | c + 1, L, h => by
    show L ∈ allLots c ++ (allLots c).map fun L => L ++ [c]
    by_cases z : c ∈ L
    · refine List.mem_append.mpr (.inr (List.mem_map.mpr ⟨L.filter (fun i => decide (i < c)), lot_all ⟨h.up.filter _, fun i hi => of_decide_eq_true (List.mem_filter.mp hi).2⟩, ?_⟩))
      refine lot_ext (c := c + 1) ⟨List.pairwise_append.mpr ⟨h.up.filter _, List.pairwise_singleton _ _, fun a ha b hb => ?_⟩, fun i hi => ?_⟩ h fun i hi => ?_
      · rw [List.mem_singleton.mp hb]
        exact of_decide_eq_true (List.mem_filter.mp ha).2
      · rcases List.mem_append.mp hi with q | q
        · exact h.lt i (List.mem_filter.mp q).1
        · rw [List.mem_singleton.mp q]
          omega
      · unfold mem
        rw [decide_eq_decide, List.mem_append, List.mem_filter, List.mem_singleton, decide_eq_true_eq]
        constructor
        · rintro (q | q)
          · exact q.1
          · rw [q]; exact z
        · intro q
          by_cases e : i = c
          · exact .inr e
          · exact .inl ⟨q, by omega⟩
    · refine List.mem_append.mpr (.inl (lot_all ⟨h.up, fun i hi => ?_⟩))
      have := h.lt i hi
      have : i ≠ c := fun e => z (e ▸ hi)
      omega
theorem nodup_len {α : Type} [DecidableEq α] : ∀ {l m : List α}, l.Nodup → (∀ x ∈ l, x ∈ m) → l.length ≤ m.length
  | [], _, _, _ => Nat.zero_le _
  | a :: l, m, nd, h => by
    obtain ⟨n1, n2⟩ := List.nodup_cons.mp nd
    have ha := h a List.mem_cons_self
    have e := nodup_len (l := l) (m := m.erase a) n2 fun x hx => (List.mem_erase_of_ne (fun e : x = a => n1 (e ▸ hx))).mpr (h x (List.mem_cons_of_mem _ hx))
    rw [List.length_erase_of_mem ha] at e
    have : 0 < m.length := List.length_pos_iff.mpr (List.ne_nil_of_mem ha)
    rw [List.length_cons]
    omega
/-- what has been found so far -/
structure Lay (h t : Int) (ds : List Int) (L : List Nat) (F : List (List Nat × Nat)) : Prop where
  lot : ∀ M ∈ F.map (·.1), Lot ds.length M ∧ Rl h t ds L M
  nd : (F.map (·.1)).Nodup
  beg : L ∈ F.map (·.1)
theorem Lay.len {h t : Int} {ds : List Int} {L : List Nat} {F : List (List Nat × Nat)} (y : Lay h t ds L F) : F.length ≤ 2 ^ ds.length := by
  have := nodup_len y.nd (m := allLots ds.length) fun M hM => lot_all (y.lot M hM).1
  rw [List.length_map, allLots_len] at this
  exact this
theorem Lay.one {h t : Int} {ds : List Int} {L : List Nat} (hL : Lot ds.length L) : Lay h t ds L [(L, 0)] := ⟨fun M hM => by
  obtain rfl : M = L := List.mem_singleton.mp hM
  exact ⟨hL, .refl _⟩, by simp, List.mem_cons_self⟩
theorem Lay.add {h t : Int} {ds : List Int} {L : List Nat} {F : List (List Nat × Nat)} (y : Lay h t ds L F) {M : List Nat} {n : Nat} (a : Lot ds.length M) (b : Rl h t ds L M) (c : ¬ M ∈ F.map (·.1)) : Lay h t ds L (F ++ [(M, n)]) := by
  refine ⟨fun X hX => ?_, ?_, ?_⟩
  · rw [List.map_append] at hX
    rcases List.mem_append.mp hX with z | z
    · exact y.lot X z
    · obtain rfl : X = M := List.mem_singleton.mp z
      exact ⟨a, b⟩
  · rw [List.map_append]
    refine List.nodup_append.mpr ⟨y.nd, by simp, fun x hx z hz => ?_⟩
    have e : z = M := List.mem_singleton.mp hz
    exact fun q => c (by rw [← e, ← q]; exact hx)
  · rw [List.map_append]
    exact List.mem_append.mpr (.inl y.beg)
/-- closed under all crossings -/
def Closed (h t : Int) (ds : List Int) (X : List (List Nat)) : Prop := ∀ M ∈ X, ∀ i, i < ds.length → mayB h t ds M i = true → gone M i ∈ X
theorem Lay.all {h t : Int} {ds : List Int} {L : List Nat} {F : List (List Nat × Nat)} (y : Lay h t ds L F) (hL : Lot ds.length L) (c : Closed h t ds (F.map (·.1))) {M : List Nat} (hM : Lot ds.length M) : M ∈ F.map (·.1) ↔ Rl h t ds L M := by
  constructor
  · exact fun h => (y.lot M h).2
  · intro r
    have key : ∀ {U : Nat → Bool}, Th.Reach ds.length (Gof h t ds) (mem L) U → lotOf ds.length U ∈ F.map (·.1) := fun {U} r => by
      induction r with
      | refl =>
        rw [show lotOf ds.length (mem L) = L from lot_ext (lotOf_lot _ _) hL fun i hi => lotOf_mem hi]
        exact y.beg
      | @step B W rB st ih =>
        have eB := lotOf_eq hL rB
        have lB := lotOf_lot ds.length B
        have cB := cnt_mem lB
        rw [eB] at cB
        have fin : ∀ i, i < ds.length → Gof h t ds (if B i = true then Th.cnt ds.length B - 1 else Th.cnt ds.length B) i = true → lotOf ds.length (Th.flip B i) ∈ F.map (·.1) := fun i hi g => by
          have mb : mayB h t ds (lotOf ds.length B) i = true := by
            rw [may_May lB hi, eB]
            exact g
          have e : lotOf ds.length (Th.flip B i) = gone (lotOf ds.length B) i := lot_ext (lotOf_lot _ _) (gone_lot lB hi) fun j hj => by
            rw [lotOf_mem hj, gone_mem, eB]
          rw [e]
          exact c _ ih i hi mb
        cases st with
        | @up i hi hs hg => exact fin i hi (by rw [hs, if_neg Bool.false_ne_true]; exact hg)
        | @dn i hi hs hg => exact fin i hi (by rw [hs, if_pos rfl]; exact hg)
    have := key r
    rw [show lotOf ds.length (mem M) = M from lot_ext (lotOf_lot _ _) hM fun i hi => lotOf_mem hi] at this
    exact this
theorem shaped_lots (Ls : List (List Nat)) : SeqAt.shaped (.list (Ls.map fun M => .tuple ((M.map fun (i : Nat) => (i : Int)).map .int))) = true := by
  have a : PyData.canLayAll0 (Ls.map fun M => .tuple ((M.map fun (i : Nat) => (i : Int)).map .int)) = true ∧ PyData.depthAll (Ls.map fun M => .tuple ((M.map fun (i : Nat) => (i : Int)).map .int)) ≤ 1 := by
    induction Ls with
    | nil => exact ⟨rfl, Nat.zero_le _⟩
    | cons M Ls ih =>
      obtain ⟨l1, l2⟩ := lay_ints (M.map fun (i : Nat) => (i : Int))
      constructor
      · show (PyData.canLayAll0 ((M.map fun (i : Nat) => (i : Int)).map .int) && _) = true
        rw [l1, ih.1]
        rfl
      · show max (PyData.depthAll ((M.map fun (i : Nat) => (i : Int)).map .int) + 1) _ ≤ 1
        rw [l2]
        exact Nat.max_le.mpr ⟨Nat.le_refl _, ih.2⟩
  unfold SeqAt.shaped
  rw [show PyData.canLay0 (.list (Ls.map fun M => .tuple ((M.map fun (i : Nat) => (i : Int)).map .int))) = _ from a.1, show PyData.depth (.list (Ls.map fun M => .tuple ((M.map fun (i : Nat) => (i : Int)).map .int))) = PyData.depthAll (Ls.map fun M => .tuple ((M.map fun (i : Nat) => (i : Int)).map .int)) + 1 from rfl]
  have : PyData.depthAll (Ls.map fun M => .tuple ((M.map fun (i : Nat) => (i : Int)).map .int)) + 1 ≤ 64 := by omega
  simpa using this
theorem dp_lots {K : PySem.W.Frag} {H : Hp} : ∀ {Ls : List (Addr × List Nat)}, (∀ p ∈ Ls, H p.1 = some (.tup (ni p.2))) → DpAll K H (Ls.map fun p => V.ref p.1) ((Ls.map (·.2)).map fun M => .tuple ((M.map fun (i : Nat) => (i : Int)).map .int))
  | [], _ => .nil
  | p :: Ls, h => by
    refine .cons ?_ (dp_lots fun q hq => h q (List.mem_cons_of_mem _ hq))
    have e := h p List.mem_cons_self
    rw [ni_ints] at e
    exact .tup (SqT.of e) (DpAll.ints _)
theorem eqv_lnil (Ls : List PyData) : PyData.eqv (.list Ls) (.list []) = Ls.isEmpty := by cases Ls <;> rfl
end Sh

namespace Ct
/-! ### how many ways to take so many of so many -/
def bin : Nat → Nat → Nat
  | _, 0 => 1
  | 0, _ + 1 => 0
  | n + 1, p + 1 => bin n p + bin n (p + 1)
theorem bin_zero (n : Nat) : bin n 0 = 1 := by cases n <;> rfl
theorem bin_gt : ∀ {n p : Nat}, n < p → bin n p = 0
  | 0, p + 1, _ => rfl
  | n + 1, p + 1, h => by
    show bin n p + bin n (p + 1) = 0
    rw [bin_gt (n := n) (p := p) (by omega), bin_gt (n := n) (p := p + 1) (by omega)]
theorem bin_self : ∀ n : Nat, bin n n = 1
  | 0 => rfl
  | n + 1 => by
    show bin n n + bin n (n + 1) = 1
    rw [bin_self n, bin_gt (by omega)]
theorem bin_succ_mul : ∀ n p : Nat, (n + 1) * bin n p = bin (n + 1) (p + 1) * (p + 1)
  | 0, 0 => rfl
  | 0, p + 1 => by
    show 1 * 0 = (0 + bin 0 (p + 2)) * (p + 2)
    rw [bin_gt (n := 0) (p := p + 2) (by omega)]
    simp
  | n + 1, 0 => by
    have ih : (n + 1) * 1 = bin (n + 1) 1 * 1 := by
      have := bin_succ_mul n 0
      rw [bin_zero] at this
      exact this
    show (n + 2) * 1 = (1 + bin (n + 1) 1) * 1
    omega
  | n + 1, p + 1 => by
    have a := bin_succ_mul n p
    have b := bin_succ_mul n (p + 1)
    show (n + 2) * bin (n + 1) (p + 1) = (bin (n + 1) (p + 1) + bin (n + 1) (p + 1 + 1)) * (p + 1 + 1)
    have e2 : bin (n + 1) (p + 1) = bin n p + bin n (p + 1) := rfl
    have m : (n + 1) * bin (n + 1) (p + 1) = (n + 1) * bin n p + (n + 1) * bin n (p + 1) := by rw [e2, Nat.mul_add]
    generalize bin (n + 1) (p + 1) = X at *
    generalize bin (n + 1) (p + 1 + 1) = Y at *
    rw [Nat.add_mul X Y, ← b, show X * (p + 1 + 1) = X * (p + 1) + X from Nat.mul_succ _ _, ← a, show (n + 2) * X = (n + 1) * X + X from Nat.succ_mul _ _, m]
    omega
theorem bin_step {n p : Nat} (h : p ≤ n) : bin n p * (n - p) = bin n (p + 1) * (p + 1) := by
  have a := bin_succ_mul n p
  have e : bin (n + 1) (p + 1) * (p + 1) = bin n p * (p + 1) + bin n (p + 1) * (p + 1) := by
    show (bin n p + bin n (p + 1)) * (p + 1) = _
    rw [Nat.add_mul]
  have c : bin n p * (n - p) + bin n p * (p + 1) = (n + 1) * bin n p := by
    rw [← Nat.mul_add, Nat.mul_comm]
    congr 1
    omega
  generalize bin (n + 1) (p + 1) * (p + 1) = X at *
  generalize bin n (p + 1) * (p + 1) = Y at *
  generalize bin n p * (p + 1) = Z at *
  generalize bin n p * (n - p) = V at *
  omega
theorem bin_le : ∀ n p : Nat, bin n p ≤ 2 ^ n
  | n, 0 => by rw [bin_zero]; exact Nat.one_le_two_pow
  | 0, p + 1 => Nat.zero_le _
  | n + 1, p + 1 => by
    have a := bin_le n p
    have b := bin_le n (p + 1)
    show bin n p + bin n (p + 1) ≤ 2 ^ (n + 1)
    rw [Nat.pow_succ]
    omega
open Th (cnt cnt_succ cnt_congr cnt_zero)
/-! ### how many lots of k ships there are of a kind -/
def put (U : Nat → Bool) (k : Nat) : Nat → Bool := fun i => if i = k then true else U i
theorem put_self (U : Nat → Bool) (k : Nat) : put U k k = true := if_pos rfl
theorem put_ne (U : Nat → Bool) {k i : Nat} (h : i ≠ k) : put U k i = U i := if_neg h
def cf : Nat → ((Nat → Bool) → Bool) → Nat
  | 0, P => if P (fun _ => false) = true then 1 else 0
  | k + 1, P => cf k P + cf k (fun U => P (put U k))
theorem cf_congr : ∀ {k : Nat} {P P' : (Nat → Bool) → Bool}, (∀ U, (∀ i, k ≤ i → U i = false) → P U = P' U) → cf k P = cf k P'
  | 0, P, P', h => by
    unfold cf
    rw [h _ fun _ _ => rfl]
  | k + 1, P, P', h => by
    unfold cf
    rw [cf_congr (k := k) (P := P) (P' := P') fun U hU => h U fun i hi => hU i (by omega), cf_congr (k := k) (P := fun U => P (put U k)) (P' := fun U => P' (put U k)) fun U hU => h _ fun i hi => by rw [put_ne _ (by omega)]; exact hU i (by omega)]
theorem cf_false : ∀ k : Nat, cf k (fun _ => false) = 0
  | 0 => rfl
  | k + 1 => by
    show cf k (fun _ => false) + cf k (fun _ => false) = 0
    rw [cf_false k]
theorem cf_add : ∀ {k : Nat} {Q R : (Nat → Bool) → Bool}, (∀ U, (Q U && R U) = false) → cf k (fun U => Q U || R U) = cf k Q + cf k R
  | 0, Q, R, h => by
    have := h fun _ => false
    show (if (Q (fun _ => false) || R (fun _ => false)) = true then 1 else 0) = (if Q (fun _ => false) = true then 1 else 0) + (if R (fun _ => false) = true then 1 else 0)
    cases a : Q (fun _ => false) <;> cases b : R (fun _ => false) <;> rw [a, b] at this <;> first | rfl | cases this
  | k + 1, Q, R, h => by
    show cf k (fun U => Q U || R U) + cf k (fun U => Q (put U k) || R (put U k)) = (cf k Q + cf k fun U => Q (put U k)) + (cf k R + cf k fun U => R (put U k))
    rw [cf_add h, cf_add (Q := fun U => Q (put U k)) (R := fun U => R (put U k)) fun U => h _]
    omega
/-- by what f tells -/
theorem cf_parts {k : Nat} {P : (Nat → Bool) → Bool} {f : (Nat → Bool) → Nat} : ∀ m : Nat, ((List.range (m + 1)).map fun x => cf k (fun U => P U && (f U == x))).sum = cf k (fun U => P U && decide (f U ≤ m))
  | 0 => by
    show cf k (fun U => P U && (f U == 0)) + 0 = _
    rw [Nat.add_zero]
    refine cf_congr fun U _ => ?_
    congr 1
    rw [Bool.eq_iff_iff, beq_iff_eq, decide_eq_true_eq]
    omega
  | m + 1 => by
    rw [List.range_succ, List.map_append, List.sum_append, cf_parts m]
    show _ + (cf k (fun U => P U && (f U == m + 1)) + 0) = _
    rw [Nat.add_zero, ← cf_add]
    · refine cf_congr fun U _ => ?_
      rw [← Bool.and_or_distrib_left]
      congr 1
      rw [Bool.eq_iff_iff, Bool.or_eq_true, beq_iff_eq, decide_eq_true_eq, decide_eq_true_eq]
      omega
    · intro U
      cases P U
      · rfl
      · show (decide (f U ≤ m) && (f U == m + 1)) = false
        by_cases c : f U ≤ m
        · have : (f U == m + 1) = false := by
            rw [beq_eq_false_iff_ne]
            omega
          rw [this, Bool.and_false]
        · rw [decide_eq_false c]
          rfl
/-- only such ships -/
def subB (A : Nat → Bool) : Nat → (Nat → Bool) → Bool
  | 0, _ => true
  | k + 1, U => subB A k U && (!U k || A k)
theorem subB_iff {A : Nat → Bool} {U : Nat → Bool} : ∀ {k : Nat}, subB A k U = true ↔ ∀ i, i < k → U i = true → A i = true
  | 0 => ⟨fun _ i hi => by omega, fun _ => rfl⟩
  | k + 1 => by
    have ih := subB_iff (A := A) (U := U) (k := k)
    show (subB A k U && (!U k || A k)) = true ↔ _
    rw [Bool.and_eq_true, ih]
    constructor
    · rintro ⟨a, b⟩ i hi hu
      by_cases e : i = k
      · subst e
        rw [hu] at b
        exact b
      · exact a i (by omega) hu
    · intro h
      refine ⟨fun i hi => h i (by omega), ?_⟩
      cases e : U k with
      | false => rfl
      | true => rw [h k (by omega) e]; rfl
theorem subB_put {A U : Nat → Bool} {k : Nat} : subB A k (put U k) = subB A k U := by
  rw [Bool.eq_iff_iff, subB_iff, subB_iff]
  constructor
  · intro h i hi hu
    exact h i hi (by rw [put_ne _ (by omega)]; exact hu)
  · intro h i hi hu
    rw [put_ne _ (by omega)] at hu
    exact h i hi hu
theorem cnt_put {U B : Nat → Bool} {k : Nat} : cnt k (fun i => put U k i && B i) = cnt k (fun i => U i && B i) := cnt_congr fun i hi => by rw [put_ne _ (by omega)]
/-- those of A as P says, so many of B: ways of the one times ways of the other -/
theorem split {A B : Nat → Bool} (dj : ∀ i, A i = true → B i = false) : ∀ {k : Nat} {P : (Nat → Bool) → Bool} {x : Nat},
    cf k (fun U => subB (fun i => A i || B i) k U && P (fun i => U i && A i) && (cnt k (fun i => U i && B i) == x)) = cf k (fun U => subB A k U && P U) * bin (cnt k B) x
  | 0, P, x => by
    show (if (true && P (fun _ => false) && (0 == x)) = true then 1 else 0) = (if (true && P (fun _ => false)) = true then 1 else 0) * bin 0 x
    cases x with
    | zero => cases P (fun _ => false) <;> rfl
    | succ x => cases P (fun _ => false) <;> rfl
  | k + 1, P, x => by
    have i1 := split dj (k := k) (P := P) (x := x)
    have t1 : cf k (fun U => subB (fun i => A i || B i) (k + 1) U && P (fun i => U i && A i) && (cnt (k + 1) (fun i => U i && B i) == x)) = cf k (fun U => subB A k U && P U) * bin (cnt k B) x := by
      rw [← i1]
      refine cf_congr fun U hU => ?_
      have u0 := hU k (Nat.le_refl _)
      show (subB _ k U && (!U k || _) && _ && _) = _
      rw [cnt_succ, u0]
      simp
    have r1 : cf k (fun U => subB A (k + 1) U && P U) = cf k (fun U => subB A k U && P U) := cf_congr fun U hU => by
      have u0 := hU k (Nat.le_refl _)
      show (subB A k U && (!U k || A k) && P U) = _
      rw [u0]
      simp
    show cf k (fun U => subB (fun i => A i || B i) (k + 1) U && P (fun i => U i && A i) && (cnt (k + 1) (fun i => U i && B i) == x)) + cf k (fun U => subB (fun i => A i || B i) (k + 1) (put U k) && P (fun i => put U k i && A i) && (cnt (k + 1) (fun i => put U k i && B i) == x)) =
      (cf k (fun U => subB A (k + 1) U && P U) + cf k (fun U => subB A (k + 1) (put U k) && P (put U k))) * bin (cnt (k + 1) B) x
    rw [t1, r1]
    have sp : ∀ (C : Nat → Bool) (U : Nat → Bool), subB C (k + 1) (put U k) = (subB C k U && C k) := fun C U => by
      show (subB C k (put U k) && (!put U k k || C k)) = _
      rw [subB_put, put_self]
      simp
    have cp : ∀ U : Nat → Bool, cnt (k + 1) (fun i => put U k i && B i) = cnt k (fun i => U i && B i) + if B k = true then 1 else 0 := fun U => by
      rw [cnt_succ, cnt_put, put_self, Bool.true_and]
    cases a : A k with
    | true =>
      have b := dj k a
      have t2 : cf k (fun U => subB (fun i => A i || B i) (k + 1) (put U k) && P (fun i => put U k i && A i) && (cnt (k + 1) (fun i => put U k i && B i) == x)) = cf k (fun U => subB A k U && P (put U k)) * bin (cnt k B) x := by
        rw [← split dj (k := k) (P := fun V => P (put V k)) (x := x)]
        refine cf_congr fun U hU => ?_
        have e : (fun i => put U k i && A i) = put (fun i => U i && A i) k := by
          funext i
          by_cases z : i = k
          · subst z
            rw [put_self, put_self, a]
            rfl
          · rw [put_ne _ z, put_ne _ z]
        rw [sp, cp, b, e, a]
        simp
      have r2 : cf k (fun U => subB A (k + 1) (put U k) && P (put U k)) = cf k (fun U => subB A k U && P (put U k)) := cf_congr fun U hU => by rw [sp, a, Bool.and_true]
      rw [t2, r2, cnt_succ, b, Nat.add_mul]
      simp
    | false =>
      have r2 : cf k (fun U => subB A (k + 1) (put U k) && P (put U k)) = 0 := by
        rw [← cf_false k]
        exact cf_congr fun U hU => by rw [sp, a]; simp
      rw [r2, Nat.add_zero, cnt_succ]
      cases b : B k with
      | false =>
        have t2 : cf k (fun U => subB (fun i => A i || B i) (k + 1) (put U k) && P (fun i => put U k i && A i) && (cnt (k + 1) (fun i => put U k i && B i) == x)) = 0 := by
          rw [← cf_false k]
          exact cf_congr fun U hU => by rw [sp, a, b]; simp
        rw [t2]
        simp
      | true =>
        have e : ∀ U : Nat → Bool, (fun i => put U k i && A i) = (fun i => U i && A i) := fun U => by
          funext i
          by_cases z : i = k
          · subst z
            rw [a, Bool.and_false, Bool.and_false]
          · rw [put_ne _ z]
        cases x with
        | zero =>
          have t2 : cf k (fun U => subB (fun i => A i || B i) (k + 1) (put U k) && P (fun i => put U k i && A i) && (cnt (k + 1) (fun i => put U k i && B i) == 0)) = 0 := by
            refine Eq.trans (cf_congr fun U hU => ?_) (cf_false k)
            rw [cp, b]
            simp
          rw [t2, bin_zero, bin_zero]
          simp
        | succ x =>
          have t2 : cf k (fun U => subB (fun i => A i || B i) (k + 1) (put U k) && P (fun i => put U k i && A i) && (cnt (k + 1) (fun i => put U k i && B i) == x + 1)) = cf k (fun U => subB A k U && P U) * bin (cnt k B) x := by
            rw [← split dj (k := k) (P := P) (x := x)]
            refine cf_congr fun U hU => ?_
            rw [sp, cp, e, b, a]
            have q : (cnt k (fun i => U i && B i) + 1 == x + 1) = (cnt k (fun i => U i && B i) == x) := by
              rw [Bool.eq_iff_iff, beq_iff_eq, beq_iff_eq]
              omega
            simp [q]
          rw [t2, if_pos rfl]
          show _ = _ * (bin (cnt k B) x + bin (cnt k B) (x + 1))
          simp only [Nat.add_zero, Nat.mul_add]
          omega
/-- the others as they are -/
theorem fixed {A X : Nat → Bool} : ∀ {k : Nat} {P : (Nat → Bool) → Bool},
    cf k (fun M => (List.range k).all (fun i => A i || (M i == X i)) && P (fun i => M i && A i)) = cf k (fun U => subB A k U && P U)
  | 0, P => rfl
  | k + 1, P => by
    have al : ∀ M : Nat → Bool, (List.range (k + 1)).all (fun i => A i || (M i == X i)) = ((List.range k).all (fun i => A i || (M i == X i)) && (A k || (M k == X k))) := fun M => by
      rw [List.range_succ, List.all_append]
      simp
    have ap : ∀ M : Nat → Bool, (List.range k).all (fun i => A i || (put M k i == X i)) = (List.range k).all (fun i => A i || (M i == X i)) := fun M => by
      rw [Bool.eq_iff_iff, List.all_eq_true, List.all_eq_true]
      constructor
      · intro h i hi
        have := h i hi
        rw [put_ne _ (by have := List.mem_range.mp hi; omega)] at this
        exact this
      · intro h i hi
        rw [put_ne _ (by have := List.mem_range.mp hi; omega)]
        exact h i hi
    have sp : ∀ U : Nat → Bool, subB A (k + 1) (put U k) = (subB A k U && A k) := fun U => by
      show (subB A k (put U k) && (!put U k k || A k)) = _
      rw [subB_put, put_self]
      simp
    have r1 : cf k (fun U => subB A (k + 1) U && P U) = cf k (fun U => subB A k U && P U) := cf_congr fun U hU => by
      have u0 := hU k (Nat.le_refl _)
      show (subB A k U && (!U k || A k) && P U) = _
      rw [u0]
      simp
    show cf k (fun M => (List.range (k + 1)).all (fun i => A i || (M i == X i)) && P (fun i => M i && A i)) + cf k (fun M => (List.range (k + 1)).all (fun i => A i || (put M k i == X i)) && P (fun i => put M k i && A i)) = cf k (fun U => subB A (k + 1) U && P U) + cf k (fun U => subB A (k + 1) (put U k) && P (put U k))
    rw [r1]
    cases a : A k with
    | true =>
      have t1 : cf k (fun M => (List.range (k + 1)).all (fun i => A i || (M i == X i)) && P (fun i => M i && A i)) = cf k (fun U => subB A k U && P U) := by
        rw [← fixed (k := k) (P := P) (X := X)]
        exact cf_congr fun U hU => by rw [al, a]; simp
      have t2 : cf k (fun M => (List.range (k + 1)).all (fun i => A i || (put M k i == X i)) && P (fun i => put M k i && A i)) = cf k (fun U => subB A (k + 1) (put U k) && P (put U k)) := by
        have q : cf k (fun U => subB A (k + 1) (put U k) && P (put U k)) = cf k (fun U => subB A k U && P (put U k)) := cf_congr fun U hU => by rw [sp, a, Bool.and_true]
        rw [q, ← fixed (k := k) (P := fun V => P (put V k)) (X := X)]
        refine cf_congr fun U hU => ?_
        have e : (fun i => put U k i && A i) = put (fun i => U i && A i) k := by
          funext i
          by_cases z : i = k
          · subst z
            rw [put_self, put_self, a]
            rfl
          · rw [put_ne _ z, put_ne _ z]
        rw [al, ap, e, a]
        simp
      rw [t1, t2]
    | false =>
      have r2 : cf k (fun U => subB A (k + 1) (put U k) && P (put U k)) = 0 := by
        rw [← cf_false k]
        exact cf_congr fun U hU => by rw [sp, a]; simp
      have e : ∀ U : Nat → Bool, (fun i => put U k i && A i) = (fun i => U i && A i) := fun U => by
        funext i
        by_cases z : i = k
        · subst z
          rw [a, Bool.and_false, Bool.and_false]
        · rw [put_ne _ z]
      have ih := fixed (A := A) (X := X) (k := k) (P := P)
      rw [r2, Nat.add_zero, ← ih]
      cases x : X k with
      | false =>
        have t1 : cf k (fun M => (List.range (k + 1)).all (fun i => A i || (M i == X i)) && P (fun i => M i && A i)) = cf k (fun M => (List.range k).all (fun i => A i || (M i == X i)) && P (fun i => M i && A i)) := cf_congr fun U hU => by
          rw [al, a, x, hU k (Nat.le_refl _)]
          simp
        have t2 : cf k (fun M => (List.range (k + 1)).all (fun i => A i || (put M k i == X i)) && P (fun i => put M k i && A i)) = 0 := by
          rw [← cf_false k]
          exact cf_congr fun U hU => by rw [al, a, x, put_self]; simp
        rw [t1, t2]
      | true =>
        have t1 : cf k (fun M => (List.range (k + 1)).all (fun i => A i || (M i == X i)) && P (fun i => M i && A i)) = 0 := by
          rw [← cf_false k]
          exact cf_congr fun U hU => by rw [al, a, x, hU k (Nat.le_refl _)]; simp
        have t2 : cf k (fun M => (List.range (k + 1)).all (fun i => A i || (put M k i == X i)) && P (fun i => put M k i && A i)) = cf k (fun M => (List.range k).all (fun i => A i || (M i == X i)) && P (fun i => M i && A i)) := cf_congr fun U hU => by
          rw [al, ap, e, a, x, put_self]
          simp
        rw [t1, t2]
        omega
/-! ### step by step from above: those who go, fewer with each step down -/
section
variable {k N f : Nat} {G : Nat → Nat → Bool}
/-- at each step from e on it is not stuck -/
def free (k N f : Nat) (G : Nat → Nat → Bool) (e : Nat) (U : Nat → Bool) : Bool := (List.range N).all fun n => decide (n < e) || decide (n < cnt k (G n) + f + cnt k (fun i => U i && !G n i))
theorem free_iff {e : Nat} {U : Nat → Bool} : free k N f G e U = true ↔ ∀ n, e ≤ n → n < N → n < cnt k (G n) + f + cnt k (fun i => U i && !G n i) := by
  unfold free
  rw [List.all_eq_true]
  constructor
  · intro h n he hn
    have := h n (List.mem_range.mpr hn)
    rw [Bool.or_eq_true, decide_eq_true_eq, decide_eq_true_eq] at this
    omega
  · intro h n hn
    rw [Bool.or_eq_true, decide_eq_true_eq, decide_eq_true_eq]
    by_cases c : n < e
    · exact .inl c
    · exact .inr (h n (by omega) (List.mem_range.mp hn))
/-- so many ways, of those that go at N and not at e -/
def ways (k N f : Nat) (G : Nat → Nat → Bool) (e t : Nat) : Nat := cf k (fun U => subB (fun i => G N i && !G e i) k U && (free k N f G e U && (cnt k U == t)))
theorem ways_top (t : Nat) : ways k N f G N t = if t = 0 then 1 else 0 := by
  have z : ∀ U, subB (fun i => G N i && !G N i) k U = true → cnt k U = 0 := fun U h => by
    rw [cnt_congr (U := fun _ => false) fun i hi => ?_]
    · exact Th.cnt_const k false
    · cases e : U i with
      | false => rfl
      | true =>
        have := subB_iff.mp h i hi e
        cases q : G N i <;> rw [q] at this <;> cases this
  have one : cf k (fun U => subB (fun i => G N i && !G N i) k U) = 1 := by
    have : ∀ {k : Nat}, cf k (fun U => subB (fun i => G N i && !G N i) k U) = 1 := fun {k} => by
      induction k with
      | zero => rfl
      | succ k ih =>
        have t1 : cf k (fun U => subB (fun i => G N i && !G N i) (k + 1) U) = 1 := by
          refine Eq.trans (cf_congr fun U hU => ?_) ih
          show (subB _ k U && (!U k || _)) = _
          rw [hU k (Nat.le_refl _)]
          simp
        have t2 : cf k (fun U => subB (fun i => G N i && !G N i) (k + 1) (put U k)) = 0 := by
          refine Eq.trans (cf_congr fun U hU => ?_) (cf_false k)
          show (subB _ k (put U k) && (!put U k k || (G N k && !G N k))) = false
          rw [put_self]
          cases G N k <;> simp
        show cf k (fun U => subB (fun i => G N i && !G N i) (k + 1) U) + cf k (fun U => subB (fun i => G N i && !G N i) (k + 1) (put U k)) = 1
        rw [t1, t2]
    exact this
  unfold ways
  by_cases c : t = 0
  · rw [if_pos c, ← one]
    refine cf_congr fun U hU => ?_
    cases q : subB (fun i => G N i && !G N i) k U with
    | false => rfl
    | true =>
      have fr : free k N f G N U = true := free_iff.mpr fun n h1 h2 => by omega
      rw [fr, z U q, c]
      rfl
  · rw [if_neg c]
    refine Eq.trans (cf_congr fun U hU => ?_) (cf_false k)
    cases q : subB (fun i => G N i && !G N i) k U with
    | false => rfl
    | true =>
      rw [z U q]
      have : (0 == t) = false := by rw [beq_eq_false_iff_ne]; omega
      rw [this, Bool.and_false, Bool.and_false]
/-- with so many more -/
theorem join {A B : Nat → Bool} (dj : ∀ i, A i = true → B i = false) {P : (Nat → Bool) → Bool} (t : Nat) :
    cf k (fun U => subB (fun i => A i || B i) k U && P (fun i => U i && A i) && (cnt k U == t)) = ((List.range (t + 1)).map fun x => cf k (fun U => subB A k U && (P U && (cnt k U == x))) * bin (cnt k B) (t - x)).sum := by
  have sp : ∀ {U : Nat → Bool}, subB (fun i => A i || B i) k U = true → cnt k U = cnt k (fun i => U i && A i) + cnt k (fun i => U i && B i) := fun {U} h => by
    rw [Th.cnt_split (k := k) U A]
    congr 1
    refine cnt_congr fun i hi => ?_
    cases e : U i with
    | false => rfl
    | true =>
      have := subB_iff.mp h i hi e
      cases a : A i with
      | true => rw [dj i a]; rfl
      | false =>
        rw [a] at this
        rw [show B i = true from this]
        rfl
  have e1 : ∀ x, x ∈ List.range (t + 1) → cf k (fun U => subB A k U && (P U && (cnt k U == x))) * bin (cnt k B) (t - x) = cf k (fun U => (subB (fun i => A i || B i) k U && P (fun i => U i && A i) && (cnt k U == t)) && (cnt k (fun i => U i && A i) == x)) := fun x hx => by
    rw [← split dj (k := k) (P := fun V => P V && (cnt k V == x)) (x := t - x)]
    refine cf_congr fun U hU => ?_
    have xl := List.mem_range.mp hx
    cases q : subB (fun i => A i || B i) k U with
    | false => rfl
    | true =>
      rw [sp q]
      cases P (fun i => U i && A i)
      · rfl
      · show (true && (true && (cnt k (fun i => U i && A i) == x)) && (cnt k (fun i => U i && B i) == t - x)) = ((true && true && (cnt k (fun i => U i && A i) + cnt k (fun i => U i && B i) == t)) && (cnt k (fun i => U i && A i) == x))
        rw [Bool.eq_iff_iff]
        simp only [Bool.true_and, Bool.and_eq_true, beq_iff_eq]
        omega
  rw [List.map_congr_left e1, cf_parts]
  refine cf_congr fun U hU => ?_
  cases q : subB (fun i => A i || B i) k U with
  | false => rfl
  | true =>
    have := sp q
    cases P (fun i => U i && A i)
    · rfl
    · show (true && true && (cnt k U == t)) = ((true && true && (cnt k U == t)) && decide (cnt k (fun i => U i && A i) ≤ t))
      rw [Bool.eq_iff_iff]
      simp only [Bool.true_and, Bool.and_eq_true, beq_iff_eq, decide_eq_true_eq]
      omega
theorem ways_step {e : Nat} (he : e < N) (mono : ∀ a b i, a ≤ b → b ≤ N → G a i = true → G b i = true) (t : Nat) :
    ways k N f G e t = if e < cnt k (G e) + f + t then ((List.range (t + 1)).map fun x => ways k N f G (e + 1) x * bin (cnt k (G (e + 1)) - cnt k (G e)) (t - x)).sum else 0 := by
  have cB : cnt k (fun i => G (e + 1) i && !G e i) = cnt k (G (e + 1)) - cnt k (G e) := by
    have := Th.cnt_split (k := k) (G (e + 1)) (G e)
    have e2 : cnt k (fun i => G (e + 1) i && G e i) = cnt k (G e) := cnt_congr fun i hi => by
      cases q : G e i with
      | false => rw [Bool.and_false]
      | true => rw [mono e (e + 1) i (by omega) (by omega) q]; rfl
    omega
  have eAB : (fun i => G N i && !G e i) = fun i => (G N i && !G (e + 1) i) || (G (e + 1) i && !G e i) := by
    funext i
    cases a : G e i with
    | true =>
      rw [mono e (e + 1) i (by omega) (by omega) a]
      simp
    | false =>
      cases b : G (e + 1) i with
      | true => rw [mono (e + 1) N i (by omega) (by omega) b]; rfl
      | false => simp
  have dj : ∀ i, (G N i && !G (e + 1) i) = true → (G (e + 1) i && !G e i) = false := fun i h => by
    cases b : G (e + 1) i with
    | true => rw [b] at h; simp at h
    | false => rfl
  have inA : ∀ {U : Nat → Bool} {n : Nat}, e + 1 ≤ n → n ≤ N → subB (fun i => G N i && !G e i) k U = true → cnt k (fun i => (U i && (G N i && !G (e + 1) i)) && !G n i) = cnt k (fun i => U i && !G n i) := fun {U n} h1 h2 h => cnt_congr fun i hi => by
    cases u : U i with
    | false => rfl
    | true =>
      have gN := subB_iff.mp h i hi u
      cases b : G n i with
      | true => simp
      | false =>
        have : G (e + 1) i = false := by
          cases c : G (e + 1) i with
          | false => rfl
          | true => rw [mono (e + 1) n i h1 h2 c] at b; cases b
        rw [this]
        cases q : G N i with
        | true => rfl
        | false => rw [q] at gN; cases gN
  have key : ways k N f G e t = if e < cnt k (G e) + f + t then cf k (fun U => subB (fun i => (G N i && !G (e + 1) i) || (G (e + 1) i && !G e i)) k U && free k N f G (e + 1) (fun i => U i && (G N i && !G (e + 1) i)) && (cnt k U == t)) else 0 := by
    unfold ways
    rw [← eAB]
    have cU : ∀ {U : Nat → Bool}, subB (fun i => G N i && !G e i) k U = true → cnt k (fun i => U i && !G e i) = cnt k U := fun {U} h => cnt_congr fun i hi => by
      cases u : U i with
      | false => rfl
      | true =>
        have := subB_iff.mp h i hi u
        cases b : G e i with
        | true => rw [b] at this; simp at this
        | false => rfl
    have fr : ∀ {U : Nat → Bool}, subB (fun i => G N i && !G e i) k U = true → (free k N f G e U = true ↔ e < cnt k (G e) + f + cnt k U ∧ free k N f G (e + 1) (fun i => U i && (G N i && !G (e + 1) i)) = true) := fun {U} h => by
      rw [free_iff, free_iff]
      constructor
      · intro a
        refine ⟨?_, fun n h1 h2 => ?_⟩
        · have := a e (Nat.le_refl _) he
          rw [cU h] at this
          exact this
        · rw [inA h1 (by omega) h]
          exact a n (by omega) h2
      · rintro ⟨a, b⟩ n h1 h2
        by_cases c : n = e
        · rw [c, cU h]
          exact a
        · have := b n (by omega) h2
          rw [inA (by omega) (by omega) h] at this
          exact this
    by_cases c : e < cnt k (G e) + f + t
    · rw [if_pos c]
      refine cf_congr fun U hU => ?_
      cases q : subB (fun i => G N i && !G e i) k U with
      | false => rfl
      | true =>
        rw [Bool.eq_iff_iff]
        simp only [Bool.true_and, Bool.and_eq_true, beq_iff_eq]
        rw [fr q]
        constructor
        · rintro ⟨⟨_, a⟩, b⟩
          exact ⟨a, b⟩
        · rintro ⟨a, b⟩
          exact ⟨⟨by rw [b]; exact c, a⟩, b⟩
    · rw [if_neg c]
      refine Eq.trans (cf_congr fun U hU => ?_) (cf_false k)
      cases q : subB (fun i => G N i && !G e i) k U with
      | false => rfl
      | true =>
        rw [Bool.eq_false_iff]
        simp only [Bool.true_and, ne_eq, Bool.and_eq_true, beq_iff_eq]
        rintro ⟨a, b⟩
        have := ((fr q).mp a).1
        rw [b] at this
        exact c this
  rw [key]
  by_cases c : e < cnt k (G e) + f + t
  · rw [if_pos c, if_pos c, join dj, cB]
    rfl
  · rw [if_neg c, if_neg c]
/-- all of them, of those that go at N -/
theorem ways_all (mono : ∀ a b i, a ≤ b → b ≤ N → G a i = true → G b i = true) (t : Nat) :
    cf k (fun U => subB (G N) k U && (free k N f G 0 U && (cnt k U == t))) = ((List.range (t + 1)).map fun x => ways k N f G 0 x * bin (cnt k (G 0)) (t - x)).sum := by
  have eAB : G N = fun i => (G N i && !G 0 i) || G 0 i := by
    funext i
    cases a : G 0 i with
    | true => rw [mono 0 N i (by omega) (by omega) a]; rfl
    | false => simp
  have dj : ∀ i, (G N i && !G 0 i) = true → G 0 i = false := fun i h => by
    cases b : G 0 i with
    | true => rw [b] at h; simp at h
    | false => rfl
  have inA : ∀ {U : Nat → Bool} {n : Nat}, n ≤ N → subB (G N) k U = true → cnt k (fun i => (U i && (G N i && !G 0 i)) && !G n i) = cnt k (fun i => U i && !G n i) := fun {U n} h2 h => cnt_congr fun i hi => by
    cases u : U i with
    | false => rfl
    | true =>
      have gN := subB_iff.mp h i hi u
      rw [gN]
      cases b : G n i with
      | true => simp
      | false =>
        have : G 0 i = false := by
          cases c : G 0 i with
          | false => rfl
          | true => rw [mono 0 n i (by omega) h2 c] at b; cases b
        rw [this]
        rfl
  have j := join (k := k) dj (P := free k N f G 0) t
  rw [← eAB] at j
  unfold ways
  rw [← j]
  refine cf_congr fun U hU => ?_
  cases q : subB (G N) k U with
  | false => rfl
  | true =>
    have : free k N f G 0 (fun i => U i && (G N i && !G 0 i)) = free k N f G 0 U := by
      rw [Bool.eq_iff_iff, free_iff, free_iff]
      constructor
      · intro a n h1 h2
        have := a n h1 h2
        rw [inA (by omega) q] at this
        exact this
      · intro a n h1 h2
        rw [inA (by omega) q]
        exact a n h1 h2
    rw [this, Bool.true_and, Bool.true_and]
end
end Ct

namespace Ct
open Th (cnt cnt_succ cnt_congr cnt_zero)
theorem sum_zeros {F : Nat → Nat} {a : Nat} (h : ∀ x, a ≤ x → F x = 0) : ∀ b, a ≤ b → ((List.range b).map F).sum = ((List.range a).map F).sum
  | 0, hb => by
    obtain rfl : a = 0 := by omega
    rfl
  | b + 1, hb => by
    by_cases e : a = b + 1
    · rw [e]
    · rw [List.range_succ, List.map_append, List.sum_append, sum_zeros h b (by omega)]
      show _ + (F b + 0) = _
      rw [h b (by omega)]
      rfl
/-! ### the ways as a list of numbers -/
def cv (ws : List Nat) (m t : Nat) : Nat := ((List.range ws.length).map fun i => if i ≤ t then ws.getD i 0 * bin m (t - i) else 0).sum
theorem getD_ge {ws : List Nat} {x : Nat} (h : ws.length ≤ x) : ws.getD x 0 = 0 := by
  rw [List.getD_eq_getElem?_getD, List.getElem?_eq_none h]
  rfl
theorem cv_eq (ws : List Nat) (m t : Nat) : cv ws m t = ((List.range (t + 1)).map fun x => ws.getD x 0 * bin m (t - x)).sum := by
  have a := sum_zeros (F := fun x => if x ≤ t then ws.getD x 0 * bin m (t - x) else 0) (a := ws.length) (fun x hx => by rw [getD_ge hx]; simp) (ws.length + (t + 1)) (by omega)
  have b := sum_zeros (F := fun x => if x ≤ t then ws.getD x 0 * bin m (t - x) else 0) (a := t + 1) (fun x hx => by rw [if_neg (by omega)]) (ws.length + (t + 1)) (by omega)
  unfold cv
  rw [← a, b]
  congr 1
  refine List.map_congr_left fun x hx => ?_
  rw [if_pos (by have := List.mem_range.mp hx; omega)]
theorem cv_zero {ws : List Nat} {m t : Nat} (h : ws.length + m ≤ t) : cv ws m t = 0 := by
  unfold cv
  have : ∀ l : List Nat, (∀ i ∈ l, i < ws.length) → (l.map fun i => if i ≤ t then ws.getD i 0 * bin m (t - i) else 0).sum = 0 := fun l => by
    induction l with
    | nil => intro _; rfl
    | cons i l ih =>
      intro hl
      rw [List.map_cons, List.sum_cons, ih fun j hj => hl j (.tail _ hj)]
      have := hl i (.head _)
      rw [bin_gt (n := m) (p := t - i) (by omega)]
      simp
  exact this _ fun i hi => List.mem_range.mp hi
def more (ws : List Nat) (m : Nat) : List Nat := (List.range (ws.length + m)).map (cv ws m)
theorem map_range_getD {F : Nat → Nat} {n t : Nat} : ((List.range n).map F).getD t 0 = if t < n then F t else 0 := by
  rw [List.getD_eq_getElem?_getD, List.getElem?_map]
  by_cases c : t < n
  · rw [if_pos c, List.getElem?_range c]
    rfl
  · rw [if_neg c, List.getElem?_eq_none (by rw [List.length_range]; omega)]
    rfl
theorem more_get (ws : List Nat) (m t : Nat) : (more ws m).getD t 0 = cv ws m t := by
  unfold more
  rw [map_range_getD]
  by_cases c : t < ws.length + m
  · rw [if_pos c]
  · rw [if_neg c, cv_zero (by omega)]
def mask (g f e : Nat) (ws : List Nat) : List Nat := (List.range ws.length).map fun t => if e < g + f + t then ws.getD t 0 else 0
theorem mask_get (g f e : Nat) (ws : List Nat) (t : Nat) : (mask g f e ws).getD t 0 = if e < g + f + t then ws.getD t 0 else 0 := by
  unfold mask
  rw [map_range_getD]
  by_cases c : t < ws.length
  · rw [if_pos c]
  · rw [if_neg c, getD_ge (by omega)]
    simp
def dp (g : Nat → Nat) (f N : Nat) : Nat → List Nat
  | 0 => [1]
  | j + 1 => mask (g (N - (j + 1))) f (N - (j + 1)) (more (dp g f N j) (g (N - j) - g (N - (j + 1))))
def tot (g : Nat → Nat) (f N : Nat) : Nat := ((List.range (more (dp g f N N) (g 0)).length).map fun t => if f + t ≤ N then (more (dp g f N N) (g 0)).getD t 0 else 0).sum
section
variable {k N f : Nat} {G : Nat → Nat → Bool}
theorem dp_ways (mono : ∀ a b i, a ≤ b → b ≤ N → G a i = true → G b i = true) : ∀ j, j ≤ N → ∀ t, (dp (fun e => cnt k (G e)) f N j).getD t 0 = ways k N f G (N - j) t
  | 0, _, t => by
    rw [Nat.sub_zero, ways_top]
    show [1].getD t 0 = _
    cases t <;> rfl
  | j + 1, hj, t => by
    have ih := dp_ways mono j (by omega)
    have e : N - j = N - (j + 1) + 1 := by omega
    show (mask _ f (N - (j + 1)) (more (dp (fun e => cnt k (G e)) f N j) _)).getD t 0 = _
    rw [mask_get, more_get, cv_eq, ways_step (by omega) mono]
    congr 1
    congr 1
    refine List.map_congr_left fun x _ => ?_
    rw [ih x]
    show ways k N f G (N - j) x * bin (cnt k (G (N - j)) - cnt k (G (N - (j + 1)))) (t - x) = _
    rw [e]
/-- those who are no more than N here, never stuck on the way up, who lies fast as X has it -/
def below (k N : Nat) (G : Nat → Nat → Bool) (X M : Nat → Bool) : Bool := (List.range k).all (fun i => G N i || (M i == X i)) && (decide (cnt k M ≤ N) && (List.range N).all (fun n => decide (n < cnt k (fun i => M i || G n i))))
theorem cnt_or {S g : Nat → Bool} : cnt k (fun i => S i || g i) = cnt k g + cnt k (fun i => S i && !g i) := by
  have := Th.cnt_and_or (k := k) S g
  omega
theorem below_cnt (mono : ∀ a b i, a ≤ b → b ≤ N → G a i = true → G b i = true) {X M : Nat → Bool} (h : (List.range k).all (fun i => G N i || (M i == X i)) = true) : cnt k M = cnt k (fun i => X i && !G N i) + cnt k (fun i => M i && G N i) ∧ ∀ n, n ≤ N → cnt k (fun i => M i && !G n i) = cnt k (fun i => X i && !G N i) + cnt k (fun i => (M i && G N i) && !G n i) := by
  have e : ∀ i, i < k → G N i = false → M i = X i := fun i hi g => by
    have := List.all_eq_true.mp h i (List.mem_range.mpr hi)
    rw [g] at this
    exact beq_iff_eq.mp this
  have x1 : cnt k (fun i => M i && !G N i) = cnt k (fun i => X i && !G N i) := cnt_congr fun i hi => by
    cases g : G N i with
    | true => simp
    | false => rw [e i hi g]
  refine ⟨?_, fun n hn => ?_⟩
  · have := Th.cnt_split (k := k) M (G N)
    omega
  · have := Th.cnt_split (k := k) (fun i => M i && !G n i) (G N)
    have y1 : cnt k (fun i => (M i && !G n i) && !G N i) = cnt k (fun i => X i && !G N i) := by
      rw [← x1]
      refine cnt_congr fun i hi => ?_
      cases g : G N i with
      | true => simp
      | false =>
        have : G n i = false := by
          cases c : G n i with
          | false => rfl
          | true => rw [mono n N i hn (Nat.le_refl _) c] at g; cases g
        rw [this]
        simp
    have y2 : cnt k (fun i => (M i && !G n i) && G N i) = cnt k (fun i => (M i && G N i) && !G n i) := cnt_congr fun i hi => by cases M i <;> cases G n i <;> cases G N i <;> rfl
    omega
theorem below_tot (mono : ∀ a b i, a ≤ b → b ≤ N → G a i = true → G b i = true) (X : Nat → Bool) : cf k (below k N G X) = tot (fun e => cnt k (G e)) (cnt k (fun i => X i && !G N i)) N := by
  have key : cf k (below k N G X) = cf k (fun M => (List.range k).all (fun i => G N i || (M i == X i)) && (fun U => free k N (cnt k (fun i => X i && !G N i)) G 0 U && decide (cnt k (fun i => X i && !G N i) + cnt k U ≤ N)) (fun i => M i && G N i)) := cf_congr fun M hM => by
    unfold below
    cases q : (List.range k).all (fun i => G N i || (M i == X i)) with
    | false => rfl
    | true =>
      obtain ⟨c1, c2⟩ := below_cnt mono q
      dsimp only
      rw [Bool.true_and, Bool.true_and, c1, Bool.and_comm]
      congr 1
      rw [Bool.eq_iff_iff, free_iff, List.all_eq_true]
      constructor
      · intro a n _ hn
        have := of_decide_eq_true (a n (List.mem_range.mpr hn))
        rw [cnt_or, c2 n (by omega)] at this
        omega
      · intro a n hn
        have hn' := List.mem_range.mp hn
        have := a n (Nat.zero_le _) hn'
        refine decide_eq_true ?_
        rw [cnt_or, c2 n (by omega)]
        omega
  rw [key, fixed (P := fun U => free k N (cnt k (fun i => X i && !G N i)) G 0 U && decide (cnt k (fun i => X i && !G N i) + cnt k U ≤ N))]
  generalize cnt k (fun i => X i && !G N i) = f
  have p := cf_parts (k := k) (P := fun U => subB (G N) k U && (free k N f G 0 U && decide (f + cnt k U ≤ N))) (f := fun U => cnt k U) N
  have e0 : cf k (fun U => subB (G N) k U && (free k N f G 0 U && decide (f + cnt k U ≤ N))) = cf k (fun U => (subB (G N) k U && (free k N f G 0 U && decide (f + cnt k U ≤ N))) && decide (cnt k U ≤ N)) := cf_congr fun U _ => by
    cases subB (G N) k U
    · rfl
    · cases free k N f G 0 U
      · rfl
      · rw [Bool.eq_iff_iff]
        simp only [Bool.true_and, Bool.and_eq_true, decide_eq_true_eq]
        omega
  rw [e0, ← p]
  have e1 : ∀ t, cf k (fun U => (subB (G N) k U && (free k N f G 0 U && decide (f + cnt k U ≤ N))) && (cnt k U == t)) = if f + t ≤ N then (more (dp (fun e => cnt k (G e)) f N N) (cnt k (G 0))).getD t 0 else 0 := fun t => by
    have d := dp_ways (k := k) (f := f) mono N (Nat.le_refl _)
    by_cases c : f + t ≤ N
    · rw [if_pos c, more_get, cv_eq]
      have w := ways_all (k := k) (f := f) mono t
      have e2 : ((List.range (t + 1)).map fun x => (dp (fun e => cnt k (G e)) f N N).getD x 0 * bin (cnt k (G 0)) (t - x)).sum = ((List.range (t + 1)).map fun x => ways k N f G 0 x * bin (cnt k (G 0)) (t - x)).sum := by
        congr 1
        refine List.map_congr_left fun x _ => ?_
        rw [d x, Nat.sub_self]
      rw [e2, ← w]
      refine cf_congr fun U _ => ?_
      rw [Bool.eq_iff_iff]
      simp only [Bool.and_eq_true, decide_eq_true_eq, beq_iff_eq]
      constructor
      · rintro ⟨⟨a, b, _⟩, e⟩
        exact ⟨a, b, e⟩
      · rintro ⟨a, b, e⟩
        exact ⟨⟨a, b, by rw [e]; exact c⟩, e⟩
    · rw [if_neg c]
      refine Eq.trans (cf_congr fun U _ => ?_) (cf_false k)
      rw [Bool.eq_false_iff]
      simp only [ne_eq, Bool.and_eq_true, decide_eq_true_eq, beq_iff_eq]
      rintro ⟨⟨_, _, b⟩, e⟩
      rw [e] at b
      exact c b
  unfold tot
  have lhs : ((List.range (N + 1)).map fun x => cf k (fun U => (subB (G N) k U && (free k N f G 0 U && decide (f + cnt k U ≤ N))) && (cnt k U == x))).sum = ((List.range (N + 1)).map fun t => if f + t ≤ N then (more (dp (fun e => cnt k (G e)) f N N) (cnt k (G 0))).getD t 0 else 0).sum := by
    congr 1
    exact List.map_congr_left fun x _ => e1 x
  rw [lhs]
  generalize more (dp (fun e => cnt k (G e)) f N N) (cnt k (G 0)) = ws
  have a := sum_zeros (F := fun t => if f + t ≤ N then ws.getD t 0 else 0) (a := N + 1) (fun x hx => by rw [if_neg (by omega)]) (ws.length + (N + 1)) (by omega)
  have b := sum_zeros (F := fun t => if f + t ≤ N then ws.getD t 0 else 0) (a := ws.length) (fun x hx => by rw [getD_ge hx]; simp) (ws.length + (N + 1)) (by omega)
  rw [← a, b]
/-- turned about there are as many -/
theorem cf_co : ∀ {k : Nat} {P : (Nat → Bool) → Bool}, (∀ U V, (∀ i, i < k → U i = V i) → P U = P V) → cf k (fun M => P (Th.co M)) = cf k P
  | 0, P, h => by
    show (if P (Th.co fun _ => false) = true then 1 else 0) = (if P (fun _ => false) = true then 1 else 0)
    rw [h (Th.co fun _ => false) (fun _ => false) fun i hi => by omega]
  | k + 1, P, h => by
    have p1 : ∀ U V : Nat → Bool, (∀ i, i < k → U i = V i) → P (put U k) = P (put V k) := fun U V e => h _ _ fun i hi => by
      by_cases z : i = k
      · subst z
        rw [put_self, put_self]
      · rw [put_ne _ z, put_ne _ z]
        exact e i (by omega)
    have p0 : ∀ U V : Nat → Bool, (∀ i, i < k → U i = V i) → P (fun i => if i = k then false else U i) = P (fun i => if i = k then false else V i) := fun U V e => h _ _ fun i hi => by
      by_cases z : i = k
      · rw [if_pos z, if_pos z]
      · rw [if_neg z, if_neg z]
        exact e i (by omega)
    have t1 : cf k (fun M => P (Th.co M)) = cf k (fun U => P (put U k)) := by
      rw [← cf_co (k := k) (P := fun U => P (put U k)) p1]
      refine cf_congr fun M hM => h _ _ fun i hi => ?_
      by_cases z : i = k
      · subst z
        rw [put_self]
        show (!M i) = true
        rw [hM i (Nat.le_refl _)]
        rfl
      · rw [put_ne _ z]
    have t2 : cf k (fun M => P (Th.co (put M k))) = cf k P := by
      have q : cf k P = cf k (fun U => P (fun i => if i = k then false else U i)) := cf_congr fun U hU => h _ _ fun i hi => by
        by_cases z : i = k
        · rw [if_pos z, z]
          exact hU k (Nat.le_refl _)
        · rw [if_neg z]
      rw [q, ← cf_co (k := k) (P := fun U => P (fun i => if i = k then false else U i)) p0]
      refine cf_congr fun M hM => h _ _ fun i hi => ?_
      show (!put M k i) = _
      by_cases z : i = k
      · rw [if_pos z, z, put_self]
        rfl
      · rw [if_neg z, put_ne _ z]
        rfl
    show cf k (fun M => P (Th.co M)) + cf k (fun M => P (Th.co (put M k))) = cf k P + cf k (fun U => P (put U k))
    rw [t1, t2]
    omega
end
end Ct

namespace Ct
open Th (cnt cnt_succ cnt_congr cnt_zero)
section
variable {k N T : Nat} {G : Nat → Nat → Bool} {S M : Nat → Bool}
theorem fast_all {g : Nat → Bool} : (∀ i, i < k → g i = false → M i = S i) ↔ (List.range k).all (fun i => g i || (M i == S i)) = true := by
  rw [List.all_eq_true]
  constructor
  · intro a i hi
    cases q : g i with
    | true => rfl
    | false => rw [a i (List.mem_range.mp hi) q]; simp
  · intro a i hi q
    have := a i (List.mem_range.mpr hi)
    rw [q] at this
    exact beq_iff_eq.mp this
theorem below_iff : below k N G S M = true ↔ (∀ i, i < k → G N i = false → M i = S i) ∧ cnt k M ≤ N ∧ ∀ n, cnt k M ≤ n → n < N → n < cnt k (fun i => M i || G n i) := by
  unfold below
  rw [Bool.and_eq_true, Bool.and_eq_true, ← fast_all, List.all_eq_true, decide_eq_true_eq]
  refine and_congr Iff.rfl (and_congr Iff.rfl ⟨fun a n _ h2 => of_decide_eq_true (a n (List.mem_range.mpr h2)), fun a n hn => decide_eq_true ?_⟩)
  by_cases z : cnt k M ≤ n
  · exact a n z (List.mem_range.mp hn)
  · have : cnt k M ≤ cnt k (fun i => M i || G n i) := Th.cnt_mono fun i _ h => by rw [h]; rfl
    omega
theorem below_low (h : Th.StuckLow k G N S) (t : Th.Top k G T) (hN : N ≤ T) (ho : ∀ i, ¬ i < k → M i = S i) : Th.Reach k G S M ↔ below k N G S M = true := by
  rw [h.iff t hN ho, below_iff]
  have fx : (∀ i, i < k → (M i || G N i) = (S i || G N i)) ↔ ∀ i, i < k → G N i = false → M i = S i := by
    constructor
    · intro a i hi g
      have := a i hi
      rw [g, Bool.or_false, Bool.or_false] at this
      exact this
    · intro a i hi
      cases g : G N i with
      | true => rw [Bool.or_true, Bool.or_true]
      | false => rw [a i hi g]
  rw [fx]
  constructor
  · rintro ⟨⟨a, b, c⟩, d⟩
    exact ⟨d, a, b⟩
  · rintro ⟨d, a, b⟩
    refine ⟨⟨a, b, ?_⟩, d⟩
    rw [cnt_congr (fx.mpr d)]
    exact h.2.2
theorem below_same {X U V : Nat → Bool} (e : ∀ i, i < k → U i = V i) : below k N G X U = below k N G X V := by
  rw [Bool.eq_iff_iff, below_iff, below_iff, cnt_congr e]
  have e2 : ∀ n, cnt k (fun i => U i || G n i) = cnt k (fun i => V i || G n i) := fun n => cnt_congr fun i hi => by rw [e i hi]
  constructor
  · rintro ⟨a, b, c⟩
    exact ⟨fun i hi g => by rw [← e i hi]; exact a i hi g, b, fun n h1 h2 => by rw [← e2]; exact c n h1 h2⟩
  · rintro ⟨a, b, c⟩
    exact ⟨fun i hi g => by rw [e i hi]; exact a i hi g, b, fun n h1 h2 => by rw [e2]; exact c n h1 h2⟩
/-- sinking is rising, turned about, but for the top's own step -/
theorem sinks_iff (hT : T < k) (hf : cnt k (fun i => M i && !G T i) ≤ T) : Th.Sinks k G T M ↔ cnt k (Th.co M) ≤ k - 1 - T ∧ ∀ n, cnt k (Th.co M) ≤ n → n < k - 1 - T → n < cnt k (fun i => Th.co M i || Th.dual k G n i) := by
  have c0 := Th.cnt_co k M
  have key : ∀ s, s < k → cnt k (fun i => Th.co M i || G s i) + cnt k (fun i => M i && !G s i) = k := fun s hs => by
    have e : (fun i => Th.co M i || G s i) = Th.co (fun i => M i && !G s i) := Th.co_or M (G s)
    rw [e]
    have := Th.cnt_co k (fun i => M i && !G s i)
    omega
  constructor
  · rintro ⟨a, b⟩
    refine ⟨by omega, fun n h1 h2 => ?_⟩
    have q := b (k - 1 - n) (by omega) (by omega)
    have := key (k - 1 - n) (by omega)
    show n < cnt k (fun i => Th.co M i || G (k - 1 - n) i)
    omega
  · rintro ⟨a, b⟩
    refine ⟨by omega, fun s h1 h2 => ?_⟩
    by_cases e : s = T
    · rw [e]
      exact hf
    · have sk : s < k := by omega
      have q : k - 1 - s < cnt k (fun i => Th.co M i || G (k - 1 - (k - 1 - s)) i) := b (k - 1 - s) (by omega) (by omega)
      rw [show k - 1 - (k - 1 - s) = s by omega] at q
      have := key s sk
      omega
theorem below_open (h : Th.Open k G T S) (t : Th.Top k G T) (ho : ∀ i, ¬ i < k → M i = S i) : Th.Reach k G S M ↔ (below k T G S M || below k (k - 1 - T) (Th.dual k G) (Th.co S) (Th.co M)) = true := by
  have hT := t.lt
  have f0 : cnt k (fun i => S i && !G T i) ≤ T := by
    rcases h.1 with r | r
    · have : cnt k (fun i => S i && !G T i) ≤ cnt k S := Th.cnt_mono fun i _ q => by
        cases e : S i with
        | true => rfl
        | false => rw [e] at q; cases q
      have := r.1
      omega
    · exact r.2 T (Nat.le_refl _) r.1
  have fM : (∀ i, i < k → G T i = false → M i = S i) → cnt k (fun i => M i && !G T i) ≤ T := fun a => by
    rw [cnt_congr (U := fun i => S i && !G T i) fun i hi => ?_]
    · exact f0
    · cases g : G T i with
      | true => simp
      | false => rw [a i hi g]
  have dl : ∀ i, Th.dual k G (k - 1 - T) i = G T i := fun i => by
    show G (k - 1 - (k - 1 - T)) i = _
    rw [show k - 1 - (k - 1 - T) = T by omega]
  have fc : (∀ i, i < k → Th.dual k G (k - 1 - T) i = false → Th.co M i = Th.co S i) ↔ ∀ i, i < k → G T i = false → M i = S i := by
    constructor
    · intro a i hi g
      have := a i hi (by rw [dl]; exact g)
      revert this
      show (!M i) = (!S i) → _
      cases M i <;> cases S i <;> simp
    · intro a i hi g
      rw [dl] at g
      show (!M i) = (!S i)
      rw [a i hi g]
  rw [Bool.or_eq_true, below_iff, below_iff, fc]
  constructor
  · intro r
    have a := Th.fast_inv t r
    rcases (h.same t r).1 with q | q
    · exact .inl ⟨a, q⟩
    · exact .inr ⟨a, (sinks_iff hT (fM a)).mp q⟩
  · rintro (⟨a, q⟩ | ⟨a, q⟩)
    · exact Th.open_reach t h.1 (.inl q) a ho
    · exact Th.open_reach t h.1 (.inr ((sinks_iff hT (fM a)).mpr q)) a ho
/-- how many it comes to -/
noncomputable def fam (k : Nat) (G : Nat → Nat → Bool) (S : Nat → Bool) : Nat := cf k (fun M => @decide (Th.Reach k G S M) (Classical.propDecidable _))
theorem fam_of {P : (Nat → Bool) → Bool} (S0 : ∀ i, ¬ i < k → S i = false) (h : ∀ M, (∀ i, ¬ i < k → M i = S i) → (Th.Reach k G S M ↔ P M = true)) : fam k G S = cf k P := cf_congr fun M hM => by
  rw [Bool.eq_iff_iff]
  exact Iff.trans (@decide_eq_true_iff _ (Classical.propDecidable _)) (h M fun i hi => by rw [S0 i hi, hM i (by omega)])
theorem fam_low (S0 : ∀ i, ¬ i < k → S i = false) (h : Th.StuckLow k G N S) (t : Th.Top k G T) (hN : N ≤ T) : fam k G S = cf k (below k N G S) := fam_of S0 fun M ho => below_low h t hN ho
theorem fam_high (S0 : ∀ i, ¬ i < k → S i = false) (h : Th.StuckLow k (Th.dual k G) N (Th.co S)) (t : Th.Top k G T) (hN : N ≤ k - 1 - T) : fam k G S = cf k (below k N (Th.dual k G) (Th.co S)) := by
  rw [fam_of S0 fun M ho => Iff.trans ⟨fun r => r.dual, fun r => r.codual⟩ (below_low h t.dual hN fun i hi => by show (!M i) = (!S i); rw [ho i hi])]
  exact cf_co (P := below k N (Th.dual k G) (Th.co S)) fun U V e => below_same e
theorem fam_open (S0 : ∀ i, ¬ i < k → S i = false) (h : Th.Open k G T S) (t : Th.Top k G T) : fam k G S = cf k (below k T G S) + cf k (below k (k - 1 - T) (Th.dual k G) (Th.co S)) := by
  rw [fam_of S0 fun M ho => below_open h t ho, cf_add, cf_co (P := below k (k - 1 - T) (Th.dual k G) (Th.co S)) fun U V e => below_same e]
  intro M
  rw [Bool.eq_false_iff]
  intro q
  rw [Bool.and_eq_true, below_iff, below_iff] at q
  have := q.1.2.1
  have := q.2.2.1
  have := Th.cnt_co k M
  have := t.lt
  omega
end
end Ct

namespace Sh
open PySem PySem.Spec PyProof.Rows L2
def nl (ws : List Nat) : List V := (ws.map fun (n : Nat) => (n : Int)).map V.int
theorem nl_len (ws : List Nat) : (nl ws).length = ws.length := by unfold nl; rw [List.length_map, List.length_map]
theorem nl_get {ws : List Nat} {i : Nat} (h : i < ws.length) : (nl ws)[i]? = some (.int ((ws[i] : Nat) : Int)) := by
  unfold nl
  rw [List.getElem?_map, List.getElem?_map, List.getElem?_eq_getElem h]
  rfl
theorem nl_set {ws : List Nat} {i n : Nat} : (nl ws).set i (.int (n : Int)) = nl (ws.set i n) := by
  unfold nl
  rw [List.map_set, List.map_set]
def spWaysTake : Sp := fun vs H Q _ => ∃ (m : Nat) (t : Int), vs = [.int (m : Int), .int t] ∧ m ≤ 1000 ∧ ∀ H', Same H H' → Q (.int ((if t < 0 then 0 else Ct.bin m t.toNat : Nat) : Int)) H'
def spWithMore (K : PySem.W.Frag) : Sp := fun vs H Q _ => ∃ (p : Addr) (ws : List Nat) (m : Nat), vs = [.ref p, .int (m : Int)] ∧ SqL K H p (nl ws) ∧ ws.length ≤ 500 ∧ m ≤ 60 ∧ ∀ (H' : Hp) (q : Addr), Same H H' → H q = none → H' q = some (.lst (nl (Ct.more ws m))) → Q (.ref q) H'
def spWaysBelow (K : PySem.W.Frag) : Sp := fun vs H Q _ => ∃ (v l : V) (h t : Int) (ss : List Srt) (kd : Kd) (N : Nat), vs = [v, l] ∧ FltA K H v h t ss ∧ ss.length ≤ 1000 ∧ LtA K H l kd (N : Int) ∧ mny ss ≤ 60 ∧ N ≤ 60 ∧ (∀ e, e < N → gmF ss (mk h t (mny ss) (e : Int)) ≤ gmF ss (mk h t (mny ss) ((e + 1 : Nat) : Int))) ∧
  ∀ H', Same H H' → Q (.int ((Ct.tot (fun e => gmF ss (mk h t (mny ss) (e : Int))) (fxF ss (mk h t (mny ss) (N : Int))).sum N : Nat) : Int)) H'
abbrev s_ways_to_take : Stmt := topS 38
theorem sc_ways_to_take : FnScope (["many", "taken", "ways", "place"] : List Str) (["many", "taken"] : List Str) (defScope s_ways_to_take) := ⟨rfl, rfl, rfl, by decide +kernel, rfl, by decide +kernel, by decide +kernel⟩
theorem b_ways_to_take (kV doc pm : Value) (an : Option Addr) (cdv ct : Value) (us : List Value) (hl : us.length = (["many", "taken"] : List Str).length) : bindArgs (PySem.W.fnOf "ways_to_take" "ways_to_take" (defArgs s_ways_to_take) (defBody s_ways_to_take) (defScope s_ways_to_take) .none kV doc pm an cdv ct) ⟨us, []⟩ = pure ((["many", "taken"] : List Str).zip us) :=
  match us, hl with | [_, _], _ => rfl
abbrev s_with_more : Stmt := topS 39
theorem sc_with_more : FnScope (["ways", "many", "longer", "taken", "number", "more"] : List Str) (["ways", "many"] : List Str) (defScope s_with_more) := ⟨rfl, rfl, rfl, by decide +kernel, rfl, by decide +kernel, by decide +kernel⟩
theorem b_with_more (kV doc pm : Value) (an : Option Addr) (cdv ct : Value) (us : List Value) (hl : us.length = (["ways", "many"] : List Str).length) : bindArgs (PySem.W.fnOf "with_more" "with_more" (defArgs s_with_more) (defBody s_with_more) (defScope s_with_more) .none kV doc pm an cdv ct) ⟨us, []⟩ = pure ((["ways", "many"] : List Str).zip us) :=
  match us, hl with | [_, _], _ => rfl
abbrev s_ways_below : Stmt := topS 40
theorem sc_ways_below : FnScope (["fleet", "lot", "step", "fixed", "ways", "goers", "earlier", "fewer", "taken", "number"] : List Str) (["fleet", "lot"] : List Str) (defScope s_ways_below) := ⟨rfl, rfl, rfl, by decide +kernel, rfl, by decide +kernel, by decide +kernel⟩
theorem b_ways_below (kV doc pm : Value) (an : Option Addr) (cdv ct : Value) (us : List Value) (hl : us.length = (["fleet", "lot"] : List Str).length) : bindArgs (PySem.W.fnOf "ways_below" "ways_below" (defArgs s_ways_below) (defBody s_ways_below) (defScope s_ways_below) .none kV doc pm an cdv ct) ⟨us, []⟩ = pure ((["fleet", "lot"] : List Str).zip us) :=
  match us, hl with | [_, _], _ => rfl
section
variable {P : Program} {w : World} {K : PySem.W.Frag} {mg : Str → Option Value} {base : Heap}
theorem ok_ways_take {k : Nat} (D : Df K mg "ways_to_take" s_ways_to_take) (T : Bt mg) : Ok P w K mg base (k + 1) "ways_to_take" s_ways_to_take ["many", "taken"] spWaysTake := by
  refine D.ok sc_ways_to_take b_ways_to_take (fun vs H Q E h => ?_) (fun f cdv A outer s H vs Q E hr h => ?_)
  · obtain ⟨m, t, rfl, _⟩ := h
    rfl
  · obtain ⟨m, t, rfl, m1, q⟩ := h
    refine ⟨_, (pss_cons (ps_if (PW.pt (pw_or (pt_cmpR op_lt (pv 1) pe_int (nomark _)) (pw_or1 (pt_cmpR op_gt (pv 1) (pv 0) (nomark _)))))
        (pss_one (ps_ret pe_int))
        pss_nil)
      (pss_cons (ps_set (i := 2) sc_ways_to_take.nd rfl (.inl rfl) pe_int)
      (pss_cons (ps_for PassesOwn.never rfl (pi_range1 (by rfl) T.range_ (pa_cons (pv 1) pa_nil)) (pg_name (i := 3) sc_ways_to_take.nd rfl (.inl rfl))
        (pss_one (ps_set (i := 2) sc_ways_to_take.nd rfl (.inl rfl) (pe_op op_fdiv (pe_op op_mul (pv 2) (pe_op op_sub (pv 0) (pv 3))) (pe_op op_add (pv 3) pe_int)))))
      (pss_one (ps_ret (pv 2)))))), ?_⟩
    refine ⟨_, rfl, _, _, rfl, rfl, _, rfl, ?_⟩
    by_cases c : t < 0
    · rw [decide_eq_true c]
      rw [if_pos c] at q
      exact iteT (iteT (q H (Same.refl _)))
    rw [decide_eq_false c]
    refine iteF ?_
    rw [if_neg c] at q
    refine ⟨_, rfl, _, rfl, _, _, rfl, rfl, _, rfl, ?_⟩
    by_cases c2 : (m : Int) < t
    · rw [decide_eq_true c2]
      rw [Ct.bin_gt (by omega)] at q
      exact iteT (q H (Same.refl _))
    rw [decide_eq_false c2]
    refine iteF ?_
    obtain ⟨tn, rfl⟩ := Int.eq_ofNat_of_zero_le (show 0 ≤ t by omega)
    rw [Int.toNat_natCast] at q
    refine ⟨_, rfl, (tn : Int), rfl, by omega, by omega, ?_⟩
    rw [Int.toNat_natCast]
    refine for_range (lo := 0) (n := tn) (fun i σ H' => ∃ y3 : Option V, σ = [some (.int (m : Int)), some (.int (tn : Int)), some (.int ((Ct.bin m i : Nat) : Int)), y3] ∧ H' = H) ⟨none, by rw [Ct.bin_zero]; rfl, rfl⟩ ?_ ?_
    · rintro i σ H1 hi ⟨y3, rfl, rfl⟩
      refine ⟨_, rfl, _, rfl, _, rfl, _, _, rfl, rfl, _, _, rfl, rfl, .inr ⟨by omega, by omega⟩, _, rfl, _, 1, rfl, rfl, _, _, rfl, rfl, ⟨by omega, by omega⟩, ?_⟩
      refine ⟨some (.int (0 + (i : Int))), ?_, rfl⟩
      have e : ((Ct.bin m i : Nat) : Int) * ((m : Int) - (0 + (i : Int))) / (0 + (i : Int) + 1) = ((Ct.bin m (i + 1) : Nat) : Int) := by
        have b := Ct.bin_step (n := m) (p := i) (by omega)
        have c : ((Ct.bin m i : Nat) : Int) * ((m : Int) - (0 + (i : Int))) = ((Ct.bin m (i + 1) : Nat) : Int) * (0 + (i : Int) + 1) := by
          have d := congrArg (fun n : Nat => (n : Int)) b
          simp only [Int.natCast_mul] at d
          rw [show ((m - i : Nat) : Int) = (m : Int) - (0 + (i : Int)) by omega, show ((i + 1 : Nat) : Int) = 0 + (i : Int) + 1 by omega] at d
          exact d
        rw [c]
        exact Int.mul_ediv_cancel _ (by omega)
      rw [← e]
      rfl
    · rintro σ H1 ⟨y3, rfl, rfl⟩
      exact ⟨_, rfl, q _ (Same.refl _)⟩
/-- as far as the first i and j of the next have been laid -/
def cvp (ws : List Nat) (m i t : Nat) : Nat := ((List.range i).map fun x => if x ≤ t then ws.getD x 0 * Ct.bin m (t - x) else 0).sum
def cvq (ws : List Nat) (m i j t : Nat) : Nat := cvp ws m i t + if i ≤ t ∧ t - i < j then ws.getD i 0 * Ct.bin m (t - i) else 0
theorem cvq_zero (ws : List Nat) (m i t : Nat) : cvq ws m i 0 t = cvp ws m i t := by
  unfold cvq
  rw [if_neg (by omega), Nat.add_zero]
theorem cvq_last (ws : List Nat) (m i t : Nat) : cvq ws m i (m + 1) t = cvp ws m (i + 1) t := by
  unfold cvq cvp
  rw [List.range_succ, List.map_append, List.sum_append]
  show _ = _ + ((if i ≤ t then ws.getD i 0 * Ct.bin m (t - i) else 0) + 0)
  by_cases c : i ≤ t
  · rw [if_pos c]
    by_cases d : t - i < m + 1
    · rw [if_pos ⟨c, d⟩]
      rfl
    · rw [if_neg (fun z => d z.2), Ct.bin_gt (by omega)]
      simp
  · rw [if_neg (fun z => c z.1), if_neg c]
theorem cvq_step (ws : List Nat) (m i j t : Nat) : cvq ws m i (j + 1) t = if t = i + j then cvq ws m i j t + ws.getD i 0 * Ct.bin m j else cvq ws m i j t := by
  unfold cvq
  by_cases c : t = i + j
  · subst c
    rw [if_pos rfl, if_pos ⟨by omega, by omega⟩, if_neg (by omega), show i + j - i = j by omega, Nat.add_zero]
  · rw [if_neg c]
    by_cases d : i ≤ t ∧ t - i < j
    · rw [if_pos d, if_pos ⟨d.1, by omega⟩]
    · rw [if_neg d, if_neg (fun z => d ⟨z.1, by omega⟩)]
theorem range_set {n a v : Nat} {F : Nat → Nat} : ((List.range n).map F).set a v = (List.range n).map fun t => if t = a then v else F t := by
  apply List.ext_getElem?
  intro i
  rw [List.getElem?_set, List.length_map, List.length_range, List.getElem?_map, List.getElem?_map]
  by_cases h : i < n
  · rw [List.getElem?_range h]
    by_cases c : a = i
    · subst c
      rw [if_pos rfl, if_pos h]
      show some v = some (if a = a then v else F a)
      rw [if_pos rfl]
    · rw [if_neg c]
      show some (F i) = some (if i = a then v else F i)
      rw [if_neg fun z => c z.symm]
  · rw [List.getElem?_eq_none (by rw [List.length_range]; omega)]
    by_cases c : a = i
    · rw [if_pos c, if_neg (by omega)]
      rfl
    · rw [if_neg c]
      rfl
set_option maxHeartbeats 4000000 in
theorem ok_with_more {k : Nat} (D : Df K mg "with_more" s_with_more) (T : Bt mg) (O_ways_to_take : Ok P w K mg base k "ways_to_take" s_ways_to_take ["many", "taken"] spWaysTake) : Ok P w K mg base (k + 1) "with_more" s_with_more ["ways", "many"] (spWithMore K) := by
  refine D.ok sc_with_more b_with_more (fun vs H Q E h => ?_) (fun f cdv A outer s H vs Q E hr h => ?_)
  · obtain ⟨p, ws, m, rfl, _⟩ := h
    rfl
  · obtain ⟨p, ws, m, rfl, hp, w1, m1, q⟩ := h
    refine ⟨_, (pss_cons (ps_set (i := 2) sc_with_more.nd rfl (.inl rfl) (pe_op op_rep (pe_lst (pa_cons pe_int pa_nil)) (pe_op op_add (pe_callB call_len_seq (by rfl) T.len_ PySem.boot_len (pa_cons (pv 0) pa_nil)) (pv 1))))
      (pss_cons (ps_for PassesOwn.never rfl (pi_enumA (by rfl) T.enumerate_ (pa_cons (pv 0) pa_nil)) (pg_seq rfl (pgs_cons (pg_name (i := 3) sc_with_more.nd rfl (.inl rfl)) (pgs_cons (pg_name (i := 4) sc_with_more.nd rfl (.inl rfl)) pgs_nil)))
        (pss_one (ps_for PassesOwn.never rfl (pi_range1 (by rfl) T.range_ (pa_cons (pe_op op_add (pv 1) pe_int) pa_nil)) (pg_name (i := 5) sc_with_more.nd rfl (.inl rfl))
            (pss_one (ps_augS (pv 2) (pe_op op_add (pv 3) (pv 5)) pget_nat (pe_op op_mul (pv 4) (pe_fn O_ways_to_take (hr.mono (by omega)) (pa_cons (pv 1) (pa_cons (pv 5) pa_nil)))) ip_add set_list)))))
      (pss_one (ps_ret (pv 2))))), ?_⟩
    refine ⟨(by show 1 ≤ sizeLine; decide), fun l0 nl0 => ?_⟩
    have s1 : Same H (upd H l0 (.lst [.int 0])) := same_new nl0
    have e1 : upd H l0 (.lst [.int 0]) l0 = _ := upd_same
    generalize upd H l0 (.lst [.int 0]) = H1 at s1 e1
    refine ⟨_, rfl, p, _, rfl, .inl (s1.seq hp), _, rfl, _, _, rfl, rfl, ?_⟩
    rw [nl_len]
    refine ⟨l0, _, _, rfl, rfl, e1, by omega, by omega, ?_, fun L nL => ?_⟩
    · show 1 * _ ≤ sizeLine
      rw [Nat.one_mul]
      exact Nat.le_trans (show _ ≤ 1000 by omega) (by decide)
    have e0 : (List.replicate ((ws.length : Int) + (m : Int)).toNat [V.int 0]).flatten = nl ((List.range (ws.length + m)).map (cvp ws m 0)) := by
      rw [show ((ws.length : Int) + (m : Int)).toNat = ws.length + m by omega]
      unfold nl
      rw [List.map_map, List.map_map]
      have : ∀ n, (List.replicate n [V.int 0]).flatten = (List.range n).map fun _ => V.int 0 := fun n => by
        induction n with
        | zero => rfl
        | succ n ih => rw [List.replicate_succ', List.flatten_append, ih, List.range_succ, List.map_append]; rfl
      rw [this]
      rfl
    rw [e0]
    have s2 : Same H1 (upd H1 L (.lst (nl ((List.range (ws.length + m)).map (cvp ws m 0))))) := same_new nL
    have e2 : upd H1 L (.lst (nl ((List.range (ws.length + m)).map (cvp ws m 0)))) L = _ := upd_same
    generalize upd H1 L (.lst (nl ((List.range (ws.length + m)).map (cvp ws m 0)))) = H2 at s2 e2
    have s02 := s1.trans s2
    have nL0 : H L = none := s1.free nL
    refine ⟨_, rfl, p, _, H, rfl, .inl hp, Kp.ofS s02, fun J hJ => ?_⟩
    obtain ⟨G, g, W⟩ := hJ.walk
    refine for_it W (fun i σ H' => ∃ y3 y4 y5 : Option V, σ = [some (.ref p), some (.int (m : Int)), some (.ref L), y3, y4, y5] ∧ Same H H' ∧ H' L = some (.lst (nl ((List.range (ws.length + m)).map (cvp ws m i))))) ⟨none, none, none, rfl, s02, e2⟩ (fun i σ H' _ ⟨_, _, _, _, z, _⟩ => g H' (.ofS z)) ?_ ?_
    · rintro i x σ Ha Hb hi ⟨y3, y4, y5, rfl, sm, hL⟩ ⟨u, x1, x2, rfl, nu, rfl, g1, g2⟩
      rw [nl_len] at hi
      obtain rfl : .int (i : Nat) = x1 := Option.some.inj g1
      obtain rfl : .int ((ws[i] : Nat) : Int) = x2 := Option.some.inj ((nl_get hi).symm.trans g2)
      have sb : Same Ha (upd Ha u (.tup [.int (i : Nat), .int ((ws[i] : Nat) : Int)])) := same_new nu
      refine ⟨u, _, rfl, SqA.t upd_same, rfl, _, _, rfl, _, _, rfl, rfl, ?_⟩
      have smb := sm.trans sb
      have hLb := sb _ _ hL
      generalize upd Ha u (.tup [.int (i : Nat), .int ((ws[i] : Nat) : Int)]) = Hb at smb hLb
      have eg : ws.getD i 0 = ws[i] := by simp [hi]
      refine ⟨_, rfl, _, 1, rfl, rfl, _, rfl, by omega, by omega, ?_⟩
      rw [show ((m : Int) + 1).toNat = m + 1 by omega]
      refine for_range (lo := 0) (n := m + 1) (fun j σ H' => ∃ y5 : Option V, σ = [some (.ref p), some (.int (m : Int)), some (.ref L), some (.int (i : Nat)), some (.int ((ws[i] : Nat) : Int)), y5] ∧ Same H H' ∧ H' L = some (.lst (nl ((List.range (ws.length + m)).map (cvq ws m i j))))) ⟨_, rfl, smb, by rw [hLb, funext (cvq_zero ws m i)]⟩ ?_ ?_
      · rintro j σ Hc hj ⟨y5, rfl, sc, hLc⟩
        have ij : i + j < ws.length + m := by omega
        refine ⟨_, rfl, _, rfl, _, rfl, _, _, rfl, rfl, L, _, i + j, .int ((cvq ws m i j (i + j) : Nat) : Int), rfl, ?_, SqL.of hLc, ?_, ?_⟩
        · show V.int ((i : Int) + (0 + (j : Int))) = V.int ((i + j : Nat) : Int)
          rw [Int.zero_add, Int.natCast_add]
        · rw [nl_get (by rw [List.length_map, List.length_range]; exact ij)]
          simp
        refine ⟨_, rfl, _, rfl, _, rfl, m, 0 + (j : Int), rfl, by omega, fun Hd sd => ?_⟩
        rw [if_neg (by omega), show (0 + (j : Int)).toNat = j by omega]
        have bl := Ct.bin_le m j
        have b2 : (2 : Nat) ^ m ≤ 2 ^ 60 := Nat.pow_le_pow_right (by decide) m1
        have b3 : (2 : Nat) ^ 60 = 1152921504606846976 := by decide
        refine ⟨_, _, rfl, rfl, .inr ⟨by omega, by omega⟩, _, _, rfl, rfl, L, _, _, i + j, rfl, rfl, sd _ _ hLc, ?_, ?_⟩
        · rw [nl_len, List.length_map, List.length_range]
          unfold ixN
          rw [if_pos (by omega), if_pos (by omega)]
          congr 1
          omega
        refine ⟨_, rfl, same_over (sc.trans sd) nL0, ?_⟩
        rw [upd_same]
        rw [show (V.int (((cvq ws m i j (i + j) : Nat) : Int) + ((ws[i] : Nat) : Int) * ((Ct.bin m j : Nat) : Int))) = .int ((cvq ws m i j (i + j) + ws[i] * Ct.bin m j : Nat) : Int) by rw [Int.natCast_add, Int.natCast_mul]]
        rw [nl_set, range_set]
        congr 3
        refine List.map_congr_left fun t _ => ?_
        rw [cvq_step, eg]
        by_cases c : t = i + j
        · rw [if_pos c, if_pos c, c]
        · rw [if_neg c, if_neg c]
      · rintro σ Hc ⟨y5, rfl, sc, hLc⟩
        exact ⟨_, _, _, rfl, sc, by rw [hLc, funext (cvq_last ws m i)]⟩
    · rintro σ Hz ⟨y3, y4, y5, rfl, sz, hLz⟩
      rw [nl_len] at hLz
      exact ⟨_, rfl, q Hz L sz nL0 hLz⟩
end
end Sh

namespace Sh
open PySem PySem.Spec PyProof.Rows L2
theorem dp_len (g : Nat → Nat) (f N : Nat) (up : ∀ e, e < N → g e ≤ g (e + 1)) : ∀ j, j ≤ N → (Ct.dp g f N j).length + g (N - j) = 1 + g N
  | 0, _ => by
    rw [Nat.sub_zero]
    rfl
  | j + 1, hj => by
    have ih := dp_len g f N up j (by omega)
    have u := up (N - (j + 1)) (by omega)
    rw [show N - (j + 1) + 1 = N - j by omega] at u
    show (Ct.mask _ f _ (Ct.more (Ct.dp g f N j) _)).length + _ = _
    unfold Ct.mask Ct.more
    rw [List.length_map, List.length_range, List.length_map, List.length_range]
    omega
theorem nsumI : ∀ l : List Nat, (l.map fun (i : Nat) => (i : Int)).sum = ((l.sum : Nat) : Int)
  | [] => rfl
  | a :: l => by
    rw [List.map_cons, List.sum_cons, List.sum_cons, nsumI l]
    omega
theorem gm_le (ss : List Srt) (m : Int) : gmF ss m ≤ mny ss := by
  unfold gmF mny
  induction ss with
  | nil => exact Nat.le_refl _
  | cons x ss ih =>
    by_cases c : x.1 ≤ m
    · rw [List.filter_cons_of_pos (by simpa using c), List.map_cons, List.sum_cons, List.map_cons, List.sum_cons]
      omega
    · rw [List.filter_cons_of_neg (by simpa using c), List.map_cons, List.sum_cons]
      omega
theorem take_map_range (F : Nat → Nat) {n i : Nat} (h : i < n) : ((List.range n).map F).take (i + 1) = ((List.range n).map F).take i ++ [F i] := by
  rw [take_succ_get (by rw [List.length_map, List.length_range]; exact h)]
  simp
/-- the sum of those so far -/
def totP (ws : List Nat) (f N i : Nat) : List Nat := ((List.range i).filter fun t => decide (f + t ≤ N)).map fun t => ws.getD t 0
theorem totP_sum (ws : List Nat) (f N : Nat) : ∀ i, (totP ws f N i).sum = ((List.range i).map fun t => if f + t ≤ N then ws.getD t 0 else 0).sum
  | 0 => rfl
  | i + 1 => by
    have ih := totP_sum ws f N i
    unfold totP at ih ⊢
    rw [List.range_succ, List.filter_append, List.map_append, List.sum_append, ih, List.map_append, List.sum_append]
    congr 1
    by_cases c : f + i ≤ N
    · rw [List.filter_cons_of_pos (by simpa using c)]
      show _ = (if f + i ≤ N then ws.getD i 0 else 0) + 0
      rw [if_pos c]
      rfl
    · rw [List.filter_cons_of_neg (by simpa using c)]
      show _ = (if f + i ≤ N then ws.getD i 0 else 0) + 0
      rw [if_neg c]
      rfl
section
variable {P : Program} {w : World} {K : PySem.W.Frag} {mg : Str → Option Value} {base : Heap}
set_option maxHeartbeats 4000000 in
theorem ok_ways_below {k : Nat} (D : Df K mg "ways_below" s_ways_below) (T : Bt mg) (O_fixed_ones : Ok P w K mg base k "fixed_ones" s_fixed_ones ["fleet", "lot"] (spFixed K)) (O_goers_many : Ok P w K mg base k "goers_many" s_goers_many ["fleet", "step"] (spGoersMany K)) (O_with_more : Ok P w K mg base k "with_more" s_with_more ["ways", "many"] (spWithMore K)) :
    Ok P w K mg base (k + 1) "ways_below" s_ways_below ["fleet", "lot"] (spWaysBelow K) := by
  refine D.ok sc_ways_below b_ways_below (fun vs H Q E h => ?_) (fun f cdv A outer s H vs Q E hr h => ?_)
  · obtain ⟨v, l, h, t, ss, kd, N, rfl, _⟩ := h
    rfl
  · obtain ⟨v, l, h, t, ss, kd, N, rfl, hv, l1, hl, m1, N1, up, q⟩ := h
    have gb : ∀ e : Nat, gmF ss (mk h t (mny ss) (e : Int)) ≤ 60 := fun e => Nat.le_trans (gm_le ss _) m1
    generalize eg : (fun e : Nat => gmF ss (mk h t (mny ss) (e : Int))) = g at q
    have ge : ∀ e : Nat, gmF ss (mk h t (mny ss) (e : Int)) = g e := fun e => congrFun eg e
    simp only [ge] at up gb
    refine ⟨_, (pss_cons (ps_set (i := 2) sc_ways_below.nd rfl (.inr rfl) (pe_ix ix_lt (pv 1) pe_int (fun _ _ => rfl)))
      (pss_cons (ps_set (i := 3) sc_ways_below.nd rfl (.inr rfl) (pe_callB (cr_sum rfl) (by rfl) T.sum_ (by decide +kernel) (pa_cons (pe_fn O_fixed_ones (hr.mono (by omega)) (pa_cons (pv 0) (pa_cons (pv 1) pa_nil))) pa_nil)))
      (pss_cons (ps_set (i := 4) sc_ways_below.nd rfl (.inl rfl) (pe_lst (pa_cons pe_int pa_nil)))
      (pss_cons (ps_set (i := 5) sc_ways_below.nd rfl (.inr rfl) (pe_fn O_goers_many (hr.mono (by omega)) (pa_cons (pv 0) (pa_cons (pv 2) pa_nil))))
      (pss_cons (ps_for PassesOwn.never rfl (pi_revR (by rfl) T.reversed_ (prg_1 (by rfl) T.range_ (pv 2))) (pg_name (i := 6) sc_ways_below.nd rfl (.inr rfl))
        (pss_cons (ps_set (i := 7) sc_ways_below.nd rfl (.inl rfl) (pe_fn O_goers_many (hr.mono (by omega)) (pa_cons (pv 0) (pa_cons (pv 6) pa_nil))))
          (pss_cons (ps_set (i := 4) sc_ways_below.nd rfl (.inl rfl) (pe_fn O_with_more (hr.mono (by omega)) (pa_cons (pv 4) (pa_cons (pe_op op_sub (pv 5) (pv 7)) pa_nil))))
          (pss_cons (ps_set (i := 5) sc_ways_below.nd rfl (.inr rfl) (pv 7))
          (pss_one (ps_setLc (i := 4) (own := [("taken", 8), ("number", 9)]) (g := (gSeq K 2 (gCons (gName 8) (gCons (gName 9) gNil)))) (tt := tYes) (by rfl) sc_ways_below.nd rfl rfl (sw_true rfl rfl rfl (by decide +kernel)) (pi_enumA (by rfl) T.enumerate_ (pa_cons (pv 4) pa_nil)) (blkOk_by (own := [("taken", 8), ("number", 9)]) (N := (["fleet", "lot", "step", "fixed", "ways", "goers", "earlier", "fewer", "taken", "number"] : List Str)) (sc := defScope s_ways_below) (by decide +kernel)) (fun _ _ _ _ _ => (pg_seq rfl (pgs_cons (pg_name (i := 8) sc_ways_below.nd rfl (.inl rfl)) (pgs_cons (pg_name (i := 9) sc_ways_below.nd rfl (.inl rfl)) pgs_nil)))) (fun _ _ _ _ _ => pts_nil) (fun _ _ _ _ _ => (pe_ifExp (pt_cmpR op_gt (pe_op op_add (pe_op op_add (pv 5) (pv 3)) (pv 8)) (pv 6) (nomark _)) (pv 9) pe_int))))))))
      (pss_cons (ps_set (i := 4) sc_ways_below.nd rfl (.inl rfl) (pe_fn O_with_more (hr.mono (by omega)) (pa_cons (pv 4) (pa_cons (pv 5) pa_nil))))
      (pss_one (ps_ret (pe_callB (cr_sum rfl) (by rfl) T.sum_ (by decide +kernel) (pa_cons (pe_lc (own := [("taken", 8), ("number", 9)]) (g := (gSeq K 2 (gCons (gName 8) (gCons (gName 9) gNil)))) (by rfl) sc_ways_below.nd (pi_enumA (by rfl) T.enumerate_ (pa_cons (pv 4) pa_nil)) (blkOk_by (own := [("taken", 8), ("number", 9)]) (N := (["fleet", "lot", "step", "fixed", "ways", "goers", "earlier", "fewer", "taken", "number"] : List Str)) (sc := defScope s_ways_below) (by decide +kernel)) (fun _ _ _ _ _ => (pg_seq rfl (pgs_cons (pg_name (i := 8) sc_ways_below.nd rfl (.inl rfl)) (pgs_cons (pg_name (i := 9) sc_ways_below.nd rfl (.inl rfl)) pgs_nil)))) (fun _ _ _ _ _ => (pts_one (pt_cmpR op_le (pe_op op_add (pv 3) (pv 8)) (pv 2) (nomark _)))) (fun _ _ _ _ _ => (pv 9))) pa_nil)))))))))), ?_⟩
    obtain ⟨lp, rfl, hlp⟩ := id hl
    refine ⟨_, rfl, lp, _, 1, .int (N : Int), rfl, rfl, hlp, rfl, ?_⟩
    refine ⟨_, rfl, _, rfl, v, .ref lp, h, t, (N : Int), ss, kd, rfl, hv, l1, hl, fun H1 a s1 na ha => ⟨a, _, rfl, SqL.of ha, ?_⟩⟩
    rw [nsumI]
    generalize ef : (fxF ss (mk h t (mny ss) (N : Int))).sum = f' at q
    refine ⟨(by show 1 ≤ sizeLine; decide), fun w0 nw0 => ?_⟩
    have s2 : Same H1 (upd H1 w0 (.lst [.int 1])) := same_new nw0
    have e2 : upd H1 w0 (.lst [.int 1]) w0 = some (.lst (nl (Ct.dp g f' N 0))) := upd_same
    generalize upd H1 w0 (.lst [.int 1]) = H2 at s2 e2
    have s02 := s1.trans s2
    refine ⟨_, rfl, _, rfl, v, h, t, (N : Int), ss, rfl, hv.same s02, l1, fun H3 s3 => ?_⟩
    rw [ge N]
    have s03 := s02.trans s3
    refine ⟨_, rfl, (N : Int), rfl, by omega, by omega, by omega, by omega, ?_⟩
    rw [show ((N : Int) - 0).toNat = N by omega]
    refine for_rangeC (lo := 0 + (N : Int) - 1) (c := -1) (n := N) (fun j σ H' => ∃ (wp : Addr) (y6 y7 y8 y9 : Option V), σ = [some v, some (.ref lp), some (.int (N : Int)), some (.int (f' : Int)), some (.ref wp), some (.int ((g (N - j) : Nat) : Int)), y6, y7, y8, y9] ∧ Same H H' ∧ H' wp = some (.lst (nl (Ct.dp g f' N j)))) ⟨w0, none, none, none, none, rfl, s03, s3 _ _ e2⟩ ?_ ?_
    · rintro j σ Ha hj ⟨wp, y6, y7, y8, y9, rfl, sa, hw⟩
      have dl := dp_len g f' N up j (by omega)
      have gN := gb N
      have u := up (N - (j + 1)) (by omega)
      rw [show N - (j + 1) + 1 = N - j by omega] at u
      have ee : 0 + (N : Int) - 1 + ((j : Nat) : Int) * -1 = ((N - (j + 1) : Nat) : Int) := by omega
      rw [ee]
      refine ⟨_, rfl, _, rfl, v, h, t, ((N - (j + 1) : Nat) : Int), ss, rfl, hv.same sa, l1, fun Hb sb => ?_⟩
      rw [ge]
      have gj := gb (N - j)
      refine ⟨_, rfl, _, rfl, _, rfl, _, _, rfl, rfl, wp, Ct.dp g f' N j, g (N - j) - g (N - (j + 1)), ?_, SqL.of (sb _ _ hw), by omega, by omega, fun Hc wq sc nwq hwq => ?_⟩
      · rw [show ((g (N - j) - g (N - (j + 1)) : Nat) : Int) = ((g (N - j) : Nat) : Int) - ((g (N - (j + 1)) : Nat) : Int) by omega]
        rfl
      have s0c := sa.trans (sb.trans sc)
      refine ⟨_, rfl, ?_⟩
      have dl2 := dp_len g f' N up (j + 1) (by omega)
      have lm : (Ct.more (Ct.dp g f' N j) (g (N - j) - g (N - (j + 1)))).length ≤ 1 + g N := by
        unfold Ct.more
        rw [List.length_map, List.length_range]
        omega
      have ed : Ct.dp g f' N (j + 1) = Ct.mask (g (N - (j + 1))) f' (N - (j + 1)) (Ct.more (Ct.dp g f' N j) (g (N - j) - g (N - (j + 1)))) := rfl
      rw [ed]
      generalize Ct.more (Ct.dp g f' N j) (g (N - j) - g (N - (j + 1))) = ws at hwq lm
      refine ⟨_, rfl, wq, _, Hc, rfl, SqA.l hwq, Kp.refl _ _, fun J hJ C nC => ?_⟩
      obtain ⟨G, gg, W⟩ := hJ.walk
      refine lc_it W (fun i H' => Same Hc H' ∧ H' C = some (.lst (nl ((Ct.mask (g (N - (j + 1))) f' (N - (j + 1)) ws).take i)))) ⟨same_new nC, upd_same⟩ (fun i H' _ z => gg H' (.ofS z.1)) ?_ ?_
      · rintro i x Hd He hi ⟨sm, hC⟩ ⟨u', x1, x2, rfl, nu, rfl, g1, g2⟩
        rw [nl_len] at hi
        obtain rfl : .int (i : Nat) = x1 := Option.some.inj g1
        obtain rfl : .int ((ws[i] : Nat) : Int) = x2 := Option.some.inj ((nl_get hi).symm.trans g2)
        have sf : Same Hd (upd Hd u' (.tup [.int (i : Nat), .int ((ws[i] : Nat) : Int)])) := same_new nu
        refine ⟨u', _, rfl, SqA.t upd_same, rfl, _, _, rfl, _, _, rfl, rfl, rfl, tyes (iteT ?_)⟩
        have sm2 := sm.trans sf
        have hC2 := sf _ _ hC
        generalize upd Hd u' (.tup [.int (i : Nat), .int ((ws[i] : Nat) : Int)]) = He at sm2 hC2
        have lt : (nl ((Ct.mask (g (N - (j + 1))) f' (N - (j + 1)) ws).take i)).length < sizeLine := by
          rw [nl_len, List.length_take]
          exact Nat.lt_of_le_of_lt (show _ ≤ 61 by omega) (by decide)
        have eg2 : ws.getD i 0 = ws[i] := by simp [hi]
        have tk1 : (Ct.mask (g (N - (j + 1))) f' (N - (j + 1)) ws).take (i + 1) = (Ct.mask (g (N - (j + 1))) f' (N - (j + 1)) ws).take i ++ [if N - (j + 1) < g (N - (j + 1)) + f' + i then ws[i] else 0] := by
          unfold Ct.mask
          rw [take_map_range _ hi, eg2]
        refine ⟨_, rfl, _, rfl, _, _, rfl, rfl, _, rfl, _, _, rfl, rfl, _, rfl, _, _, rfl, rfl, _, rfl, ite2 (fun c => ?_) (fun c => ?_)⟩
        · have c0 := of_decide_eq_true c
          refine ⟨_, rfl, _, hC2, lt, same_over sm2 nC, ?_⟩
          rw [upd_same, tk1, if_pos (by omega)]
          unfold nl
          rw [List.map_append, List.map_append]
          rfl
        · have c0 : ¬ _ := fun z => c (decide_eq_true z)
          refine ⟨_, hC2, lt, same_over sm2 nC, ?_⟩
          rw [upd_same, tk1, if_neg (by omega)]
          unfold nl
          rw [List.map_append, List.map_append]
          rfl
      · rintro Hd ⟨sm, hC⟩
        rw [nl_len, List.take_of_length_le (by unfold Ct.mask; rw [List.length_map, List.length_range]; exact Nat.le_refl _)] at hC
        exact ⟨C, _, _, _, _, rfl, s0c.trans sm, hC⟩
    · rintro σ Hz ⟨wp, y6, y7, y8, y9, rfl, sz, hw⟩
      have dl := dp_len g f' N up N (Nat.le_refl _)
      have gN := gb N
      rw [Nat.sub_self] at dl ⊢
      have g0 := gb 0
      refine ⟨_, rfl, _, rfl, wp, Ct.dp g f' N N, g 0, rfl, SqL.of hw, by omega, g0, fun Hc wq sc nwq hwq => ?_⟩
      have s0c := sz.trans sc
      have lm : (Ct.more (Ct.dp g f' N N) (g 0)).length ≤ 61 := by
        unfold Ct.more
        rw [List.length_map, List.length_range]
        omega
      unfold Ct.tot at q
      generalize Ct.more (Ct.dp g f' N N) (g 0) = ws at hwq lm q
      refine ⟨_, rfl, wq, _, Hc, rfl, SqA.l hwq, Kp.refl _ _, fun J hJ C nC => ?_⟩
      obtain ⟨G, gg, W⟩ := hJ.walk
      refine lc_it W (fun i H' => Same Hc H' ∧ H' C = some (.lst (nl (totP ws f' N i)))) ⟨same_new nC, upd_same⟩ (fun i H' _ z => gg H' (.ofS z.1)) ?_ ?_
      · rintro i x Hd He hi ⟨sm, hC⟩ ⟨u', x1, x2, rfl, nu, rfl, g1, g2⟩
        rw [nl_len] at hi
        obtain rfl : .int (i : Nat) = x1 := Option.some.inj g1
        obtain rfl : .int ((ws[i] : Nat) : Int) = x2 := Option.some.inj ((nl_get hi).symm.trans g2)
        have sf : Same Hd (upd Hd u' (.tup [.int (i : Nat), .int ((ws[i] : Nat) : Int)])) := same_new nu
        refine ⟨u', _, rfl, SqA.t upd_same, rfl, _, _, rfl, _, _, rfl, rfl, rfl, ?_⟩
        have sm2 := sm.trans sf
        have hC2 := sf _ _ hC
        generalize upd Hd u' (.tup [.int (i : Nat), .int ((ws[i] : Nat) : Int)]) = He at sm2 hC2
        have eg2 : ws.getD i 0 = ws[i] := by simp [hi]
        have ts : totP ws f' N (i + 1) = totP ws f' N i ++ if f' + i ≤ N then [ws[i]] else [] := by
          unfold totP
          rw [List.range_succ, List.filter_append, List.map_append]
          congr 1
          by_cases c : f' + i ≤ N
          · rw [List.filter_cons_of_pos (by simpa using c), if_pos c, ← eg2]
            rfl
          · rw [List.filter_cons_of_neg (by simpa using c), if_neg c]
            rfl
        refine ⟨_, rfl, _, rfl, _, _, rfl, rfl, _, rfl, _, _, rfl, rfl, _, rfl, ite2 (fun c => ?_) (fun c => ?_)⟩
        · have c0 := of_decide_eq_true c
          refine ⟨_, rfl, _, hC2, ?_, same_over sm2 nC, ?_⟩
          · rw [nl_len]
            unfold totP
            rw [List.length_map]
            exact Nat.lt_of_le_of_lt (List.length_filter_le _ _) (by rw [List.length_range]; exact Nat.lt_of_lt_of_le hi (Nat.le_trans lm (by decide)))
          · rw [upd_same, ts, if_pos (by omega)]
            unfold nl
            rw [List.map_append, List.map_append]
            rfl
        · have c0 : ¬ _ := fun z => c (decide_eq_true z)
          refine ⟨sm2, ?_⟩
          rw [hC2, ts, if_neg (by omega), List.append_nil]
      · rintro Hd ⟨sm, hC⟩
        rw [nl_len] at hC
        refine ⟨C, _, rfl, SqL.of hC, ?_⟩
        rw [nsumI, totP_sum]
        exact q _ (s0c.trans sm)
end
end Sh

namespace Sh
open PySem PySem.Spec PyProof.Rows L2
/-! ### fleet_of, the draughts a list or a tuple -/
def spFleetOfA (K : PySem.W.Frag) : Sp := fun vs H Q _ => ∃ (v l : V) (h t : Int) (ds : List Int) (L : List Nat), vs = [v, l] ∧ SeaA K H v h t ds ∧ LotA K H l L ∧ ds.length ≤ 60 ∧ Lot ds.length L ∧
  ∀ (H' : Hp) (z : V) (ss : List Srt), Same H H' → FltA K H' z h t ss → ss.length ≤ 1000 → Rp ss ds.length (fun i => ds.getD i 0) (mem L) → Q z H'
section
variable {P : Program} {w : World} {K : PySem.W.Frag} {mg : Str → Option Value} {base : Heap}
set_option maxHeartbeats 8000000 in
theorem ok_fleet_ofA {k : Nat} (D : Df K mg "fleet_of" s_fleet_of) (T : Bt mg) : Ok P w K mg base (k + 1) "fleet_of" s_fleet_of ["sea", "standing"] (spFleetOfA K) := by
  refine D.ok sc_fleet_of b_fleet_of (fun vs H Q E h => ?_) (fun f cdv A outer s H vs Q E hr h => ?_)
  · obtain ⟨v, l, h, t, ds, L, rfl, _⟩ := h
    rfl
  · obtain ⟨v, l, h, t, ds, L, rfl, ⟨p, q, rfl, hp, hq⟩, ⟨pl, rfl, hl⟩, d1, hL, k⟩ := h
    have ll := hL.len
    refine ⟨_, (pss_cons (ps_asg (pv 0) (pg_seq rfl (pgs_cons (pg_name (i := 2) sc_fleet_of.nd rfl (.inl rfl)) (pgs_cons (pg_name (i := 3) sc_fleet_of.nd rfl (.inl rfl)) (pgs_cons (pg_name (i := 4) sc_fleet_of.nd rfl (.inr rfl)) pgs_nil)))))
      (pss_cons (ps_setLc (i := 5) (own := [("ship", 10)]) (g := (gName 10)) (tt := tYes) (by rfl) sc_fleet_of.nd rfl rfl (sw_true rfl rfl rfl (by decide +kernel)) (pi_seq (pv 1)) (blkOk_by (own := [("ship", 10)]) (N := (["sea", "standing", "here", "there", "draughts", "ours", "sorts", "draught", "many", "lying", "ship", "other"] : List Str)) (sc := defScope s_fleet_of) (by decide +kernel)) (fun _ _ _ _ _ => (pg_name (i := 10) sc_fleet_of.nd rfl (.inl rfl))) (fun _ _ _ _ _ => pts_nil) (fun _ _ _ _ _ => (pe_ix (ix_ltK K) (pv 4) (pv 10) (fun _ _ => rfl))))
      (pss_cons (ps_set (i := 6) sc_fleet_of.nd rfl (.inl rfl) (pe_lst pa_nil))
      (pss_cons (ps_for PassesOwn.never rfl (pi_seq (pe_callB (cr_sortedSetw w rfl) (by rfl) T.sorted_ (by decide +kernel) (pa_cons (pe_callTy (cr_setAw w rfl) (by rfl) T.set_ (by decide +kernel) (pa_cons (pv 4) pa_nil)) pa_nil))) (pg_name (i := 7) sc_fleet_of.nd rfl (.inr rfl))
        (pss_cons (ps_set (i := 8) sc_fleet_of.nd rfl (.inl rfl) (pe_callB call_len_seq (by rfl) T.len_ PySem.boot_len (pa_cons (pe_lc (own := [("other", 11)]) (g := (gName 11)) (by rfl) sc_fleet_of.nd (pi_seq (pv 4)) (blkOk_by (own := [("other", 11)]) (N := (["sea", "standing", "here", "there", "draughts", "ours", "sorts", "draught", "many", "lying", "ship", "other"] : List Str)) (sc := defScope s_fleet_of) (by decide +kernel)) (fun _ _ _ _ _ => (pg_name (i := 11) sc_fleet_of.nd rfl (.inl rfl))) (fun _ _ _ _ _ => (pts_one (pt_cmpR op_eq (pv 11) (pv 7) (nomark _)))) (fun _ _ _ _ _ => (pv 11))) pa_nil)))
          (pss_cons (ps_set (i := 9) sc_fleet_of.nd rfl (.inl rfl) (pe_callB call_len_seq (by rfl) T.len_ PySem.boot_len (pa_cons (pe_lc (own := [("other", 11)]) (g := (gName 11)) (by rfl) sc_fleet_of.nd (pi_seq (pv 5)) (blkOk_by (own := [("other", 11)]) (N := (["sea", "standing", "here", "there", "draughts", "ours", "sorts", "draught", "many", "lying", "ship", "other"] : List Str)) (sc := defScope s_fleet_of) (by decide +kernel)) (fun _ _ _ _ _ => (pg_name (i := 11) sc_fleet_of.nd rfl (.inl rfl))) (fun _ _ _ _ _ => (pts_one (pt_cmpR op_eq (pv 11) (pv 7) (nomark _)))) (fun _ _ _ _ _ => (pv 11))) pa_nil)))
          (pss_one (ps_expr (pe_bm PySem.F.plainAttrs_list PySem.F.slot_list_append PySem.F.type_list_append mt_append (pv 6) (pa_cons (pe_tup (pa_cons (pv 7) (pa_cons (pv 9) (pa_cons (pe_op op_sub (pv 8) (pv 9)) pa_nil)))) pa_nil)))))))
      (pss_one (ps_ret (pe_tup (pa_cons (pv 2) (pa_cons (pv 3) (pa_cons (pe_callTy call_tuple_of (by rfl) T.tuple_ (by decide +kernel) (pa_cons (pv 6) pa_nil)) pa_nil)))))))))), ?_⟩
    refine ⟨_, rfl, p, _, rfl, hp, rfl, _, _, rfl, _, _, rfl, _, _, rfl, rfl, ?_⟩
    -- ours
    refine ⟨_, rfl, pl, _, H, rfl, hl, Kp.refl _ _, fun J hJ C nC => ?_⟩
    obtain ⟨G, g, W⟩ := hJ.walk
    refine lc_it W (fun i H' => Same H H' ∧ H' C = some (.lst (((L.take i).map fun j => ds.getD j 0).map V.int))) ⟨same_new nC, upd_same⟩ (fun i H' _ z => g H' (.ofS z.1)) ?_ ?_
    · rintro i x H1 H2 hi ⟨sm, hC⟩ ⟨rfl, gx⟩
      rw [ni_len] at hi
      obtain rfl : .int ((L[i] : Nat) : Int) = x := Option.some.inj ((ni_get hi).symm.trans gx)
      have hlt := hL.lt L[i] (List.getElem_mem hi)
      refine ⟨rfl, tyes (iteT ⟨_, rfl, _, rfl, q, _, _, .int (ds.getD L[i] 0), rfl, rfl, Same.sqA sm hq, at_nat rfl (by simp [hlt]), _, hC, ?_, same_over sm nC, ?_⟩)⟩
      · rw [List.length_map, List.length_map, List.length_take]
        exact small1000 (by omega)
      · rw [upd_same, take_succ_get hi, List.map_append, List.map_append]
        rfl
    rintro H1 ⟨s1, hC⟩
    rw [ni_len, List.take_length] at hC
    -- sorts
    refine ⟨Nat.zero_le _, fun F nF => ?_⟩
    have s2 : Same H1 (upd H1 F (.lst [])) := same_new nF
    have e2 : upd H1 F (.lst []) F = some (.lst []) := upd_same
    have nF0 : H F = none := s1.free nF
    have CF : C ≠ F := ne_of_none hC nF
    generalize upd H1 F (.lst []) = H2 at s2 e2
    have s02 := s1.trans s2
    refine ⟨_, rfl, q, ds, rfl, Same.sqA s02 hq, by omega, fun a ks na kn km => ?_⟩
    have hc : ks.length ≤ ds.length := nodup_len kn fun x hx => (km x).mp hx
    generalize ks.length = c at hc
    refine ⟨a, _, c, rfl, upd_same, by omega, fun ns b up hm hlen nb => ?_⟩
    have sA : Same H2 (upd H2 a (SetO w a (fun j => decide (j ∈ ds)) c)) := same_new na
    have sB := sA.trans (same_new nb (o := .lst (ns.map V.int)))
    have eb : upd (upd H2 a (SetO w a (fun j => decide (j ∈ ds)) c)) b (.lst (ns.map V.int)) b = some (.lst (ns.map V.int)) := upd_same
    generalize upd (upd H2 a (SetO w a (fun j => decide (j ∈ ds)) c)) b (.lst (ns.map V.int)) = H3 at sB eb
    have s03 := s02.trans sB
    have hC3 := sB _ _ (s2 _ _ hC)
    have hF3 := sB _ _ e2
    have bF : b ≠ F := fun e => by
      subst e
      rw [sA _ _ e2] at nb
      cases nb
    have nn : ns.Nodup := up.imp fun z => by omega
    refine ⟨b, _, H3, rfl, SqA.l eb, Kp.refl _ _, fun J2 hJ2 => ?_⟩
    obtain ⟨G2, g2, W2⟩ := hJ2.walk
    refine for_it W2 (fun i σ H' => ∃ (y7 y8 y9 : Option V) (us : List Addr), σ = [some (.ref p), some (.ref pl), some (.int h), some (.int t), some (.ref q), some (.ref C), some (.ref F), y7, y8, y9, none, none] ∧ Same H H' ∧ H' C = some (.lst ((L.map fun j => ds.getD j 0).map V.int)) ∧ H' b = some (.lst (ns.map V.int)) ∧ H' F = some (.lst (us.map V.ref)) ∧ SrtsN H' us (sortsOf ds L (ns.take i)))
      ⟨none, none, none, [], rfl, s03, hC3, eb, hF3, rfl, fun i r x a _ => by simp at a⟩ (fun i σ H' _ ⟨_, _, _, _, _, _, _, z, _⟩ => g2 H' fun o e => by rw [eb] at e; cases e; exact z) ?_ ?_
    · rintro i x σ H5' H4 hi ⟨y7, y8, y9, us, rfl, s4, hC4, hb4, hF4, hu4⟩ ⟨rfl, gx⟩
      rw [List.length_map] at hi
      obtain rfl : .int ns[i] = x := by
        have g3 : (ns.map V.int)[i]? = some (.int ns[i]) := by simp [hi]
        exact Option.some.inj (g3.symm.trans gx)
      have f : ∀ (xs : List Int) (j : Nat) (hj : j < xs.length), ((xs.take (j + 1)).filter fun o => decide (o = ns[i])) = ((xs.take j).filter fun o => decide (o = ns[i])) ++ (if xs[j] = ns[i] then [xs[j]] else []) := fun xs j hj => by
        rw [take_succ_get hj, List.filter_append]
        congr 1
        by_cases c : xs[j] = ns[i]
        · rw [if_pos c, List.filter_cons_of_pos (by simpa using c)]; rfl
        · rw [if_neg c, List.filter_cons_of_neg (by simpa using c)]; rfl
      have fl : ∀ (xs : List Int) (j : Nat), xs.length ≤ 60 → (((xs.take j).filter fun o => decide (o = ns[i])).map V.int).length < sizeLine := fun xs j hx => by
        have h1 := List.length_filter_le (fun o => decide (o = ns[i])) (xs.take j)
        rw [List.length_take] at h1
        rw [List.length_map]
        exact small1000 (by omega)
      -- many
      refine ⟨_, rfl, q, _, H4, rfl, Same.sqA s4 hq, Kp.refl _ _, fun J3 hJ3 M nM => ?_⟩
      obtain ⟨G3, g3, W3⟩ := hJ3.walk
      refine lc_it W3 (fun j H' => Same H4 H' ∧ H' M = some (.lst (((ds.take j).filter fun o => decide (o = ns[i])).map V.int))) ⟨same_new nM, upd_same⟩ (fun j H' _ z => g3 H' (.ofS z.1)) ?_ ?_
      · rintro j x H5 H6 hj ⟨sm, hM⟩ ⟨rfl, gx2⟩
        rw [List.length_map] at hj
        obtain rfl : .int ds[j] = x := by
          have g4 : (ds.map V.int)[j]? = some (.int ds[j]) := by simp [hj]
          exact Option.some.inj (g4.symm.trans gx2)
        refine ⟨rfl, _, rfl, _, rfl, rfl, _, rfl, ite2 (fun c => ?_) (fun c => ?_)⟩
        · have c0 : ds[j] = ns[i] := V.int.inj (of_decide_eq_true c)
          refine ⟨_, rfl, _, hM, fl ds j d1, same_over sm nM, ?_⟩
          rw [upd_same, f ds j hj, if_pos c0, List.map_append]
          rfl
        · have c0 : ¬ ds[j] = ns[i] := fun z => c (decide_eq_true (by rw [z]))
          refine ⟨sm, ?_⟩
          rw [hM, f ds j hj, if_neg c0, List.append_nil]
      rintro H5 ⟨s5, hM⟩
      rw [List.length_map, List.take_length] at hM
      refine ⟨M, _, rfl, .inl (SqL.of hM), ?_⟩
      -- lying
      refine ⟨_, rfl, C, _, H5, rfl, SqA.l (s5 _ _ hC4), Kp.refl _ _, fun J4 hJ4 N nN => ?_⟩
      obtain ⟨G4, g4, W4⟩ := hJ4.walk
      have lo : (L.map fun j => ds.getD j 0).length ≤ 60 := by rw [List.length_map]; omega
      refine lc_it W4 (fun j H' => Same H5 H' ∧ H' N = some (.lst ((((L.map fun j => ds.getD j 0).take j).filter fun o => decide (o = ns[i])).map V.int))) ⟨same_new nN, upd_same⟩ (fun j H' _ z => g4 H' (.ofS z.1)) ?_ ?_
      · rintro j x H6 H7 hj ⟨sm, hN⟩ ⟨rfl, gx2⟩
        rw [List.length_map] at hj
        obtain rfl : .int (L.map fun j => ds.getD j 0)[j] = x := by
          have g5 : ((L.map fun j => ds.getD j 0).map V.int)[j]? = some (.int (L.map fun j => ds.getD j 0)[j]) := by rw [List.getElem?_map, List.getElem?_eq_getElem hj]; rfl
          exact Option.some.inj (g5.symm.trans gx2)
        refine ⟨rfl, _, rfl, _, rfl, rfl, _, rfl, ite2 (fun c => ?_) (fun c => ?_)⟩
        · have c0 : (L.map fun j => ds.getD j 0)[j] = ns[i] := V.int.inj (of_decide_eq_true c)
          refine ⟨_, rfl, _, hN, fl _ j lo, same_over sm nN, ?_⟩
          rw [upd_same, f _ j hj, if_pos c0, List.map_append]
          rfl
        · have c0 : ¬ (L.map fun j => ds.getD j 0)[j] = ns[i] := fun z => c (decide_eq_true (by rw [z]))
          refine ⟨sm, ?_⟩
          rw [hN, f _ j hj, if_neg c0, List.append_nil]
      rintro H6 ⟨s6, hN⟩
      rw [List.length_map, List.take_length] at hN
      refine ⟨N, _, rfl, .inl (SqL.of hN), ?_⟩
      have s46 := s5.trans s6
      have hF6 := s46 _ _ hF4
      -- sorts.append
      refine ⟨_, rfl, .inl ⟨rfl, _, SqL.of hF6⟩, _, rfl, _, rfl, _, rfl, _, rfl, _, _, rfl, rfl, (by show 3 ≤ sizeLine; decide), fun u nu => ?_⟩
      have lu : us.length = i := by
        rw [hu4.1]
        unfold sortsOf
        rw [List.length_map, List.length_take]
        omega
      refine ⟨F, _, _, rfl, rfl, same_new nu _ _ hF6, ?_, _, _, _, us ++ [u], rfl, same_over ((s4.trans s46).trans (same_new nu)) nF0, ?_, ?_, ?_, ?_⟩
      · rw [List.length_map, lu]
        exact small1000 (by omega)
      · rw [upd_ne CF]
        exact same_new nu _ _ (s46 _ _ hC4)
      · rw [upd_ne bF]
        exact same_new nu _ _ (s46 _ _ hb4)
      · rw [upd_same, List.map_append]
        rfl
      · have e : sortsOf ds L (ns.take (i + 1)) = sortsOf ds L (ns.take i) ++ [(ns[i], ((L.map fun i => ds.getD i 0).filter fun o => decide (o = ns[i])).length, (ds.filter fun o => decide (o = ns[i])).length - ((L.map fun i => ds.getD i 0).filter fun o => decide (o = ns[i])).length)] := by
          unfold sortsOf
          rw [take_succ_get hi, List.map_append]
          rfl
        rw [e]
        refine ((hu4.same s46).push' (x := (ns[i], ((L.map fun i => ds.getD i 0).filter fun o => decide (o = ns[i])).length, (ds.filter fun o => decide (o = ns[i])).length - ((L.map fun i => ds.getD i 0).filter fun o => decide (o = ns[i])).length)) nu ?_).put (same_new nu _ _ hF6)
        have le := lying_le hL ns[i]
        unfold SrtV
        rw [List.length_map, List.length_map]
        dsimp only
        rw [show (((ds.filter fun o => decide (o = ns[i])).length - ((L.map fun i => ds.getD i 0).filter fun o => decide (o = ns[i])).length : Nat) : Int) = ((ds.filter fun o => decide (o = ns[i])).length : Int) - (((L.map fun i => ds.getD i 0).filter fun o => decide (o = ns[i])).length : Int) by omega]
    · rintro σ H4 ⟨y7, y8, y9, us, rfl, s4, hC4, hb4, hF4, hu4⟩
      rw [List.length_map, List.take_length] at hu4
      refine ⟨_, rfl, _, rfl, _, rfl, F, _, rfl, .inl ⟨SqL.of hF4, fun a2 na2 => ⟨(by show 3 ≤ sizeLine; decide), fun b2 nb2 => ?_⟩⟩⟩
      have sa2 : Same H4 (upd H4 a2 (.tup (us.map V.ref))) := same_new na2
      have sb2 := sa2.trans (same_new nb2 (o := .tup [.int h, .int t, .ref a2]))
      refine k _ _ (sortsOf ds L ns) (s4.trans sb2) ⟨b2, a2, us, rfl, SqA.t upd_same, SqA.t (same_new nb2 _ _ upd_same), (hu4.same sb2).a⟩ ?_ (sorts_rp hL nn fun d hd => (hm d).mpr (decide_eq_true hd))
      unfold sortsOf
      rw [List.length_map, hlen]
      omega
end
end Sh

namespace Ct
theorem dp_congr {g g' : Nat → Nat} {f N : Nat} (h : ∀ e, e ≤ N → g e = g' e) : ∀ j, dp g f N j = dp g' f N j
  | 0 => rfl
  | j + 1 => by
    show mask (g (N - (j + 1))) f (N - (j + 1)) (more (dp g f N j) (g (N - j) - g (N - (j + 1)))) = mask (g' (N - (j + 1))) f (N - (j + 1)) (more (dp g' f N j) (g' (N - j) - g' (N - (j + 1))))
    rw [dp_congr h j, h (N - (j + 1)) (by omega), h (N - j) (by omega)]
theorem tot_congr {g g' : Nat → Nat} {f N : Nat} (h : ∀ e, e ≤ N → g e = g' e) : tot g f N = tot g' f N := by
  unfold tot
  rw [dp_congr h, h 0 (Nat.zero_le _)]
end Ct
namespace Sh
open PySem PySem.Spec PyProof.Rows L2
theorem tot_below {ss : List Srt} {h t : Int} {k N : Nat} {D : Nat → Int} {S : Nat → Bool} (r : Rp ss k D S) {G : Nat → Nat → Bool} (eG : ∀ e i, e ≤ N → G e i = Gd h t k D e i) (mono : ∀ a b i, a ≤ b → b ≤ N → G a i = true → G b i = true) :
    Ct.tot (fun e => gmF ss (mk h t (mny ss) (e : Int))) (fxF ss (mk h t (mny ss) (N : Int))).sum N = Ct.cf k (Ct.below k N G S) ∧ ∀ e, e < N → gmF ss (mk h t (mny ss) (e : Int)) ≤ gmF ss (mk h t (mny ss) ((e + 1 : Nat) : Int)) := by
  have km := r.mny
  have ce : ∀ e, e ≤ N → gmF ss (mk h t (mny ss) (e : Int)) = Th.cnt k (G e) := fun e he => by
    rw [r.gm, km]
    exact Th.cnt_congr fun i hi => (eG e i he).symm
  constructor
  · rw [Ct.below_tot mono S, Ct.tot_congr ce, r.fx, km]
    congr 1
    exact Th.cnt_congr fun i hi => by rw [eG N i (Nat.le_refl _)]; rfl
  · intro e he
    rw [ce e (by omega), ce (e + 1) (by omega)]
    exact Th.cnt_mono fun i _ z => mono e (e + 1) i (by omega) (by omega) z
def spFamily (K : PySem.W.Frag) : Sp := fun vs H Q _ => ∃ (v l : V) (h t : Int) (ds : List Int) (L : List Nat), vs = [v, l] ∧ SeaA K H v h t ds ∧ LotA K H l L ∧ ds.length ≤ 60 ∧ 0 < ds.length ∧ Lot ds.length L ∧ ∀ H', Same H H' → Q (.int ((Ct.fam ds.length (Gof h t ds) (mem L) : Nat) : Int)) H'
abbrev s_family_size : Stmt := topS 41
theorem sc_family_size : FnScope (["sea", "standing", "fleet", "lot", "size"] : List Str) (["sea", "standing"] : List Str) (defScope s_family_size) := ⟨rfl, rfl, rfl, by decide +kernel, rfl, by decide +kernel, by decide +kernel⟩
theorem b_family_size (kV doc pm : Value) (an : Option Addr) (cdv ct : Value) (us : List Value) (hl : us.length = (["sea", "standing"] : List Str).length) : bindArgs (PySem.W.fnOf "family_size" "family_size" (defArgs s_family_size) (defBody s_family_size) (defScope s_family_size) .none kV doc pm an cdv ct) ⟨us, []⟩ = pure ((["sea", "standing"] : List Str).zip us) :=
  match us, hl with | [_, _], _ => rfl
section
variable {P : Program} {w : World} {K : PySem.W.Frag} {mg : Str → Option Value} {base : Heap}
set_option maxHeartbeats 4000000 in
theorem ok_family {k : Nat} (D : Df K mg "family_size" s_family_size) (T : Bt mg) (C : Cn mg) (O_fleet_of : Ok P w K mg base k "fleet_of" s_fleet_of ["sea", "standing"] (spFleetOfA K)) (O_lot_of : Ok P w K mg base k "lot_of" s_lot_of ["fleet"] (spLotOf K)) (O_ways_below : Ok P w K mg base k "ways_below" s_ways_below ["fleet", "lot"] (spWaysBelow K))
    (O_turned_fleet : Ok P w K mg base k "turned_fleet" s_turned_fleet ["fleet"] (spTurnedF K)) (O_turned_lot : Ok P w K mg base k "turned_lot" s_turned_lot ["fleet", "lot"] (spTurnedLot K)) :
    Ok P w K mg base (k + 1) "family_size" s_family_size ["sea", "standing"] (spFamily K) := by
  obtain ⟨_, g_LOW⟩ := C.low
  obtain ⟨_, g_HIGH⟩ := C.high
  refine D.ok sc_family_size b_family_size (fun vs H Q E h => ?_) (fun f cdv A outer s H vs Q E hr h => ?_)
  · obtain ⟨v, l, h, t, ds, L, rfl, _⟩ := h
    rfl
  · obtain ⟨v, l, h, t, ds, L, rfl, hv, hl, d1, d0, hL, q⟩ := h
    refine ⟨_, (pss_cons (ps_set (i := 2) sc_family_size.nd rfl (.inl rfl) (pe_fn O_fleet_of (hr.mono (by omega)) (pa_cons (pv 0) (pa_cons (pv 1) pa_nil))))
      (pss_cons (ps_set (i := 3) sc_family_size.nd rfl (.inl rfl) (pe_fn O_lot_of (hr.mono (by omega)) (pa_cons (pv 2) pa_nil)))
      (pss_cons (ps_set (i := 4) sc_family_size.nd rfl (.inl rfl) pe_int)
      (pss_cons (ps_if (pt_cmpR op_ne (pe_ix ix_lt (pv 3) pe_int (fun _ _ => rfl)) (pe_glob (v := .str "high") (by rfl) g_HIGH ⟨_, rfl⟩) (nomark _))
        (pss_one (ps_aug (i := 4) sc_family_size.nd rfl (.inl rfl) (pe_fn O_ways_below (hr.mono (by omega)) (pa_cons (pv 2) (pa_cons (pv 3) pa_nil))) ip_add))
        pss_nil)
      (pss_cons (ps_if (pt_cmpR op_ne (pe_ix ix_lt (pv 3) pe_int (fun _ _ => rfl)) (pe_glob (v := .str "low") (by rfl) g_LOW ⟨_, rfl⟩) (nomark _))
        (pss_one (ps_aug (i := 4) sc_family_size.nd rfl (.inl rfl) (pe_fn O_ways_below (hr.mono (by omega)) (pa_cons (pe_fn O_turned_fleet (hr.mono (by omega)) (pa_cons (pv 2) pa_nil)) (pa_cons (pe_fn O_turned_lot (hr.mono (by omega)) (pa_cons (pv 2) (pa_cons (pv 3) pa_nil))) pa_nil))) ip_add))
        pss_nil)
      (pss_one (ps_ret (pv 4)))))))), ?_⟩
    refine ⟨_, rfl, _, rfl, v, l, h, t, ds, L, rfl, hv, hl, d1, hL, fun H1 z ss s1 hz l1 r => ?_⟩
    refine ⟨_, rfl, z, h, t, ss, rfl, hz, l1, fun H2 pp kd s' s2 np hp lf => ?_⟩
    have s02 := s1.trans s2
    have hz2 := hz.same s2
    have ls := lf.ships r d0
    have km := r.mny
    have tp := top_D h t (fun i => ds.getD i 0) d0
    have S0 : ∀ i, ¬ i < ds.length → mem L i = false := fun i hi => by
      unfold mem
      exact decide_eq_false fun z => hi (hL.lt i z)
    have eGo : Gof h t ds = Gd h t ds.length (fun i => ds.getD i 0) := rfl
    rw [eGo] at q
    have monoU : ∀ N, N ≤ (topI h t ds.length).toNat → ∀ a b i, a ≤ b → b ≤ N → Gd h t ds.length (fun i => ds.getD i 0) a i = true → Gd h t ds.length (fun i => ds.getD i 0) b i = true := fun N hN a b i h1 h2 g => tp.up a b i h1 (by omega) g
    have monoD : ∀ N, N ≤ ds.length - 1 - (topI h t ds.length).toNat → ∀ a b i, a ≤ b → b ≤ N → Th.dual ds.length (Gd h t ds.length (fun i => ds.getD i 0)) a i = true → Th.dual ds.length (Gd h t ds.length (fun i => ds.getD i 0)) b i = true := fun N hN a b i h1 h2 g => tp.dual.up a b i h1 (by omega) g
    have lt := tp.lt
    have lowW : ∀ N, N ≤ (topI h t ds.length).toNat → _ := fun N hN => tot_below (h := h) (t := t) (N := N) r (G := Gd h t ds.length (fun i => ds.getD i 0)) (fun e i _ => rfl) (monoU N hN)
    have highW : ∀ N, N ≤ ds.length - 1 - (topI h t ds.length).toNat → _ := fun N hN => tot_below (h := t) (t := h) (N := N) r.turn (G := Th.dual ds.length (Gd h t ds.length (fun i => ds.getD i 0))) (fun e i he => (Gd_turn (by omega)).symm) (monoD N hN)
    have kt : mny (turnF ss) = ds.length := by rw [mny_turn, km]
    have lt2 : (turnF ss).length ≤ 1000 := by unfold turnF; rw [List.length_map]; exact l1
    cases kd with
    | low =>
      obtain ⟨N, e, a, b⟩ := ls
      subst e
      obtain ⟨w1, w2⟩ := lowW N a
      refine ⟨_, rfl, pp, _, 0, .str _, rfl, rfl, SqA.t hp, rfl, rfl, _, rfl, iteT ?_⟩
      refine ⟨_, rfl, _, rfl, _, rfl, z, .ref pp, h, t, ss, .low, N, rfl, hz2, l1, ⟨pp, rfl, SqA.t hp⟩, by omega, by omega, w2, fun H3 s3 => ⟨_, _, rfl, rfl, ?_⟩⟩
      refine ⟨_, rfl, pp, _, 0, .str _, rfl, rfl, SqA.t (s3 _ _ hp), rfl, rfl, _, rfl, iteF ?_⟩
      refine ⟨_, rfl, ?_⟩
      dsimp only
      rw [w1, Int.zero_add, ← Ct.fam_low S0 b tp a]
      exact (q _ (s02.trans s3))
    | high =>
      obtain ⟨N, e, a, b⟩ := ls
      subst e
      obtain ⟨w1, w2⟩ := highW N a
      refine ⟨_, rfl, pp, _, 0, .str _, rfl, rfl, SqA.t hp, rfl, rfl, _, rfl, iteF ?_⟩
      refine ⟨_, rfl, pp, _, 0, .str _, rfl, rfl, SqA.t hp, rfl, rfl, _, rfl, iteT ?_⟩
      refine ⟨_, rfl, _, rfl, z, h, t, ss, rfl, hz2, l1, fun H3 z3 s3 hz3 => ?_⟩
      refine ⟨_, rfl, _, rfl, z, .ref pp, h, t, _, ss, .high, rfl, hz2.same s3, l1, ⟨pp, rfl, SqA.t (s3 _ _ hp)⟩, fun H4 z4 s4 hz4 => ?_⟩
      rw [km, show (ds.length : Int) - 1 - ((ds.length : Int) - 1 - (N : Int)) = (N : Int) by omega] at hz4
      refine ⟨z3, z4, t, h, turnF ss, _, N, rfl, hz3.same s4, lt2, hz4, by omega, by omega, w2, fun H5 s5 => ⟨_, _, rfl, rfl, ?_⟩⟩
      refine ⟨_, rfl, ?_⟩
      dsimp only
      rw [w1, Int.zero_add, ← Ct.fam_high S0 b tp a]
      exact (q _ (s02.trans (s3.trans (s4.trans s5))))
    | top =>
      obtain ⟨e, a⟩ := ls
      have t0 := top_lo' h t ds.length
      obtain ⟨T', eT⟩ : ∃ T' : Nat, topI h t ds.length = (T' : Int) := ⟨_, (Int.toNat_of_nonneg t0).symm⟩
      have e2 : (topI h t ds.length).toNat = T' := by omega
      rw [e2] at a tp lowW highW lt
      obtain rfl : s' = (T' : Int) := by omega
      obtain ⟨w1, w2⟩ := lowW T' (Nat.le_refl _)
      obtain ⟨w3, w4⟩ := highW (ds.length - 1 - T') (Nat.le_refl _)
      refine ⟨_, rfl, pp, _, 0, .str _, rfl, rfl, SqA.t hp, rfl, rfl, _, rfl, iteT ?_⟩
      refine ⟨_, rfl, _, rfl, _, rfl, z, .ref pp, h, t, ss, .top, T', rfl, hz2, l1, ⟨pp, rfl, SqA.t hp⟩, by omega, by omega, w2, fun H3 s3 => ⟨_, _, rfl, rfl, ?_⟩⟩
      have hp3 := s3 _ _ hp
      have hz3 := hz2.same s3
      refine ⟨_, rfl, pp, _, 0, .str _, rfl, rfl, SqA.t hp3, rfl, rfl, _, rfl, iteT ?_⟩
      refine ⟨_, rfl, _, rfl, z, h, t, ss, rfl, hz3, l1, fun H4 z4 s4 hz4 => ?_⟩
      refine ⟨_, rfl, _, rfl, z, .ref pp, h, t, _, ss, .top, rfl, hz3.same s4, l1, ⟨pp, rfl, SqA.t (s4 _ _ hp3)⟩, fun H5 z5 s5 hz5 => ?_⟩
      rw [km, show (ds.length : Int) - 1 - (T' : Int) = ((ds.length - 1 - T' : Nat) : Int) by omega] at hz5
      refine ⟨z4, z5, t, h, turnF ss, _, ds.length - 1 - T', rfl, hz4.same s5, lt2, hz5, by omega, by omega, w4, fun H6 s6 => ⟨_, _, rfl, rfl, ?_⟩⟩
      refine ⟨_, rfl, ?_⟩
      dsimp only
      rw [w1, w3, Int.zero_add, ← Int.natCast_add, ← Ct.fam_open S0 a tp]
      exact (q _ (s02.trans (s3.trans (s4.trans (s5.trans s6)))))
end
end Sh

namespace Ct
open Th (cnt cnt_succ cnt_congr cnt_zero)
/-! ### how many lots all standings fall into -/
theorem cf_none : ∀ k : Nat, cf k (fun U => subB (fun _ => false) k U) = 1
  | 0 => rfl
  | k + 1 => by
    have t1 : cf k (fun U => subB (fun _ => false) (k + 1) U) = 1 := by
      refine Eq.trans (cf_congr fun U hU => ?_) (cf_none k)
      show (subB _ k U && (!U k || false)) = _
      rw [hU k (Nat.le_refl _)]
      simp
    have t2 : cf k (fun U => subB (fun _ => false) (k + 1) (put U k)) = 0 := by
      refine Eq.trans (cf_congr fun U hU => ?_) (cf_false k)
      show (subB _ k (put U k) && (!put U k k || false)) = false
      rw [put_self]
      simp
    show cf k (fun U => subB (fun _ => false) (k + 1) U) + cf k (fun U => subB (fun _ => false) (k + 1) (put U k)) = 1
    rw [t1, t2]
theorem cf_sub {k : Nat} (B : Nat → Bool) (x : Nat) : cf k (fun U => subB B k U && (cnt k U == x)) = bin (cnt k B) x := by
  have s := split (A := fun _ => false) (B := B) (fun i h => by cases h) (k := k) (P := fun _ => true) (x := x)
  have e1 : cf k (fun U => subB (fun _ => false) k U && (fun _ => true) U) = 1 := Eq.trans (cf_congr fun U _ => by simp) (cf_none k)
  rw [e1, Nat.one_mul] at s
  rw [← s]
  refine cf_congr fun U hU => ?_
  have e2 : (fun i => (fun _ : Nat => false) i || B i) = B := by
    funext i
    rfl
  rw [e2]
  cases q : subB B k U with
  | false => rfl
  | true =>
    have : cnt k (fun i => U i && B i) = cnt k U := cnt_congr fun i hi => by
      cases u : U i with
      | false => rfl
      | true => rw [subB_iff.mp q i hi u]; rfl
    rw [this]
    rfl
section
variable {k T : Nat} {G : Nat → Nat → Bool}
/-- full: so many, and all who go at that step -/
def fullB (k T : Nat) (G : Nat → Nat → Bool) (U : Nat → Bool) : Bool := (List.range k).all (fun i => !G (cnt k U) i || U i) && decide (cnt k U ≤ T)
theorem full_iff {U : Nat → Bool} : fullB k T G U = true ↔ (∀ i, i < k → G (cnt k U) i = true → U i = true) ∧ cnt k U ≤ T := by
  unfold fullB
  rw [Bool.and_eq_true, List.all_eq_true, decide_eq_true_eq]
  refine and_congr ⟨fun a i hi g => ?_, fun a i hi => ?_⟩ Iff.rfl
  · have := a i (List.mem_range.mpr hi)
    rw [g] at this
    exact this
  · cases g : G (cnt k U) i with
    | false => rfl
    | true => rw [a i (List.mem_range.mp hi) g]; rfl
def lowN (k T : Nat) (g : Nat → Nat) : Nat := ((List.range (T + 1)).map fun N => if N < g N then 0 else bin (k - g N) (N - g N)).sum
theorem cnt_not' (B : Nat → Bool) : cnt k (fun i => !B i) = k - cnt k B := by
  have := Th.cnt_co k B
  have e : cnt k (Th.co B) = cnt k (fun i => !B i) := rfl
  omega
theorem low_many : cf k (fullB k T G) = lowN k T (fun e => cnt k (G e)) := by
  have p := cf_parts (k := k) (P := fun U => (List.range k).all (fun i => !G (cnt k U) i || U i)) (f := fun U => cnt k U) T
  have e0 : cf k (fullB k T G) = cf k (fun U => (List.range k).all (fun i => !G (cnt k U) i || U i) && decide (cnt k U ≤ T)) := rfl
  rw [e0, ← p]
  unfold lowN
  congr 1
  refine List.map_congr_left fun N _ => ?_
  have e1 : cf k (fun U => (List.range k).all (fun i => !G (cnt k U) i || U i) && (cnt k U == N)) = cf k (fun M => (List.range k).all (fun i => !G N i || (M i == (fun _ => true) i)) && (fun V => cnt k (G N) + cnt k V == N) (fun i => M i && !G N i)) := cf_congr fun U _ => by
    have ee : (fun i => !G N i || (U i == (fun _ => true) i)) = fun i => !G N i || U i := by
      funext i
      cases U i <;> rfl
    rw [Bool.eq_iff_iff, Bool.and_eq_true, Bool.and_eq_true, beq_iff_eq, beq_iff_eq]
    have al : (List.range k).all (fun i => !G N i || (U i == (fun _ => true) i)) = true → cnt k U = cnt k (G N) + cnt k (fun i => U i && !G N i) := fun a => by
      have sp := Th.cnt_split (k := k) U (G N)
      have : cnt k (fun i => U i && G N i) = cnt k (G N) := cnt_congr fun i hi => by
        have := List.all_eq_true.mp a i (List.mem_range.mpr hi)
        cases g : G N i with
        | false => rw [Bool.and_false]
        | true =>
          rw [g] at this
          have u : U i = true := by simpa using this
          rw [u]
          rfl
      omega
    constructor
    · rintro ⟨a, b⟩
      rw [b] at a
      have a' : (List.range k).all (fun i => !G N i || (U i == (fun _ => true) i)) = true := by
        rw [ee]
        exact a
      exact ⟨a', by rw [← al a']; exact b⟩
    · rintro ⟨a, b⟩
      have c := al a
      rw [b] at c
      refine ⟨?_, c⟩
      rw [ee] at a
      rw [c]
      exact a
  rw [e1, fixed (P := fun V => cnt k (G N) + cnt k V == N)]
  dsimp only
  by_cases c : N < cnt k (G N)
  · rw [if_pos c]
    refine Eq.trans (cf_congr fun U _ => ?_) (cf_false k)
    have : (cnt k (G N) + cnt k U == N) = false := by rw [beq_eq_false_iff_ne]; omega
    rw [this, Bool.and_false]
  · rw [if_neg c, ← cnt_not', ← cf_sub]
    refine cf_congr fun U _ => ?_
    congr 1
    rw [Bool.eq_iff_iff, beq_iff_eq, beq_iff_eq]
    omega
/-- those who can lie fast in an open one -/
def fastB (k T : Nat) (G : Nat → Nat → Bool) (X : Nat → Bool) : Bool := subB (fun i => !G T i) k X && (decide (cnt k X ≤ T) && decide (T < cnt k X + cnt k (G T)))
def topN (k T gT : Nat) : Nat := ((List.range (k - gT + 1)).map fun f => if f ≤ T ∧ T < f + gT then bin (k - gT) f else 0).sum
theorem top_many : cf k (fastB k T G) = topN k T (cnt k (G T)) := by
  have ck := cnt_not' (k := k) (G T)
  have p := cf_parts (k := k) (P := fastB k T G) (f := fun U => cnt k U) (k - cnt k (G T))
  have e0 : cf k (fastB k T G) = cf k (fun U => fastB k T G U && decide (cnt k U ≤ k - cnt k (G T))) := cf_congr fun U _ => by
    cases q : fastB k T G U with
    | false => rfl
    | true =>
      have sb : subB (fun i => !G T i) k U = true := by
        unfold fastB at q
        exact (Bool.and_eq_true _ _ ▸ q).1
      have : cnt k U ≤ cnt k (fun i => !G T i) := Th.cnt_mono fun i hi u => subB_iff.mp sb i hi u
      rw [decide_eq_true (by omega)]
      rfl
  rw [e0, ← p]
  unfold topN
  congr 1
  refine List.map_congr_left fun f _ => ?_
  by_cases c : f ≤ T ∧ T < f + cnt k (G T)
  · rw [if_pos c, ← ck, ← cf_sub]
    refine cf_congr fun U _ => ?_
    unfold fastB
    rw [Bool.eq_iff_iff]
    simp only [Bool.and_eq_true, decide_eq_true_eq, beq_iff_eq]
    constructor
    · rintro ⟨⟨a, _⟩, b⟩
      exact ⟨a, b⟩
    · rintro ⟨a, b⟩
      exact ⟨⟨a, by omega, by omega⟩, b⟩
  · rw [if_neg c]
    refine Eq.trans (cf_congr fun U _ => ?_) (cf_false k)
    unfold fastB
    rw [Bool.eq_false_iff]
    simp only [ne_eq, Bool.and_eq_true, decide_eq_true_eq, beq_iff_eq]
    rintro ⟨⟨_, a, b⟩, e⟩
    exact c (by omega)
end
theorem some_of {B : Nat → Bool} : ∀ {k x : Nat}, x ≤ cnt k B → ∃ V : Nat → Bool, (∀ i, V i = true → B i = true ∧ i < k) ∧ cnt k V = x
  | k, 0, _ => ⟨fun _ => false, fun i h => (by cases h), Th.cnt_const k false⟩
  | 0, x + 1, h => by rw [cnt_zero] at h; omega
  | k + 1, x + 1, h => by
    rw [cnt_succ] at h
    cases b : B k with
    | false =>
      rw [b] at h
      obtain ⟨V, a, c⟩ := some_of (B := B) (k := k) (x := x + 1) (by simpa using h)
      refine ⟨V, fun i hi => ⟨(a i hi).1, by have := (a i hi).2; omega⟩, ?_⟩
      rw [cnt_succ, c]
      cases v : V k with
      | false => rfl
      | true => have := (a k v).2; omega
    | true =>
      rw [b, if_pos rfl] at h
      obtain ⟨V, a, c⟩ := some_of (B := B) (k := k) (x := x) (by omega)
      refine ⟨put V k, fun i hi => ?_, ?_⟩
      · by_cases e : i = k
        · rw [e]
          exact ⟨b, by omega⟩
        · rw [put_ne _ e] at hi
          exact ⟨(a i hi).1, by have := (a i hi).2; omega⟩
      · rw [cnt_succ, put_self, if_pos rfl, cnt_congr (U := V) fun i hi => put_ne _ (by omega), c]
end Ct

namespace Sh
open PySem PySem.Spec PyProof.Rows L2
/-! ### lots as the functions that they are -/
theorem allLots_lot : ∀ {c : Nat} {L : List Nat}, L ∈ allLots c → Lot c L
  | 0, L, h => by
    rw [List.mem_singleton.mp h]
    exact Lot.nil _
  | c + 1, L, h => by
    rcases List.mem_append.mp h with z | z
    · have l := allLots_lot z
      exact ⟨l.up, fun i hi => Nat.lt_succ_of_lt (l.lt i hi)⟩
    · obtain ⟨M, hM, rfl⟩ := List.mem_map.mp z
      have l := allLots_lot hM
      refine ⟨List.pairwise_append.mpr ⟨l.up, List.pairwise_singleton _ _, fun a ha b hb => ?_⟩, fun i hi => ?_⟩
      · rw [List.mem_singleton.mp hb]
        exact l.lt a ha
      · rcases List.mem_append.mp hi with y | y
        · exact Nat.lt_succ_of_lt (l.lt i y)
        · rw [List.mem_singleton.mp y]
          omega
theorem allLots_nd : ∀ c : Nat, (allLots c).Nodup
  | 0 => by
    show [([] : List Nat)].Nodup
    simp
  | c + 1 => by
    refine List.nodup_append.mpr ⟨allLots_nd c, ?_, fun a ha b hb e => ?_⟩
    · refine List.pairwise_map.mpr ((allLots_nd c).imp fun h e => h ?_)
      exact List.append_cancel_right e
    · obtain ⟨M, hM, rfl⟩ := List.mem_map.mp hb
      have := (allLots_lot ha).lt c (by rw [e]; simp)
      omega
theorem cf_lots : ∀ {k : Nat} {P : (Nat → Bool) → Bool}, ((allLots k).filter fun L => P (mem L)).length = Ct.cf k P
  | 0, P => by
    show (List.filter (fun L => P (mem L)) [[]]).length = if P (fun _ => false) = true then 1 else 0
    have e : mem [] = fun _ => false := by
      funext i
      exact decide_eq_false (by simp)
    by_cases c : P (mem []) = true
    · rw [List.filter_cons_of_pos (p := fun L => P (mem L)) c, if_pos (by rw [← e]; exact c)]
      rfl
    · rw [List.filter_cons_of_neg (p := fun L => P (mem L)) c, if_neg (by rw [← e]; exact c)]
      rfl
  | k + 1, P => by
    show (List.filter (fun L => P (mem L)) (allLots k ++ (allLots k).map fun L => L ++ [k])).length = Ct.cf k P + Ct.cf k (fun U => P (Ct.put U k))
    rw [List.filter_append, List.length_append, cf_lots, List.filter_map, List.length_map, ← cf_lots (k := k) (P := fun U => P (Ct.put U k))]
    congr 2
    congr 1
    funext L
    show P (mem (L ++ [k])) = P (Ct.put (mem L) k)
    congr 1
    funext i
    unfold mem Ct.put
    by_cases e : i = k
    · rw [if_pos e]
      exact decide_eq_true (by rw [e]; simp)
    · rw [if_neg e, decide_eq_decide, List.mem_append, List.mem_singleton]
      exact ⟨fun z => z.elim id fun y => absurd y e, .inl⟩
/-- as many as come to one another -/
theorem fam_len {h t : Int} {ds : List Int} {L : List Nat} {F : List (List Nat)} (nd : F.Nodup) (all : ∀ M, M ∈ F ↔ Lot ds.length M ∧ Rl h t ds L M) : F.length = Ct.fam ds.length (Gof h t ds) (mem L) := by
  unfold Ct.fam
  rw [← cf_lots]
  have key : ∀ M, M ∈ (allLots ds.length).filter (fun M => @decide (Th.Reach ds.length (Gof h t ds) (mem L) (mem M)) (Classical.propDecidable _)) ↔ M ∈ F := fun M => by
    rw [List.mem_filter, all]
    exact and_congr ⟨allLots_lot, lot_all⟩ (@decide_eq_true_iff _ (Classical.propDecidable _))
  exact Nat.le_antisymm (nodup_len nd fun x hx => (key x).mpr hx) (nodup_len ((allLots_nd _).filter _) fun x hx => (key x).mp hx)
/-! ### one of each -/
structure Trans (h t : Int) (ds : List Int) (R : List (List Nat)) : Prop where
  lot : ∀ M ∈ R, Lot ds.length M
  all : ∀ M, Lot ds.length M → ∃ N ∈ R, Rl h t ds M N
  apart : R.Pairwise fun M N => ¬ Rl h t ds M N
theorem pigeon {α : Type} [DecidableEq α] {rel : α → α → Prop} : ∀ {R R' : List α}, (∀ M ∈ R, ∃ N ∈ R', rel M N) → R.Pairwise (fun M M' => ¬ ∃ N, rel M N ∧ rel M' N) → R.length ≤ R'.length
  | [], _, _, _ => Nat.zero_le _
  | M :: R, R', h, p => by
    obtain ⟨N, hN, r⟩ := h M (.head _)
    obtain ⟨p1, p2⟩ := List.pairwise_cons.mp p
    have := pigeon (R := R) (R' := R'.erase N) (fun M' hM' => by
      obtain ⟨N', hN', r'⟩ := h M' (.tail _ hM')
      refine ⟨N', (List.mem_erase_of_ne fun e => p1 M' hM' ⟨N, r, by rw [← e]; exact r'⟩).mpr hN', r'⟩) p2
    rw [List.length_erase_of_mem hN] at this
    have : 0 < R'.length := List.length_pos_of_mem hN
    rw [List.length_cons]
    omega
theorem Trans.len {h t : Int} {ds : List Int} {R R' : List (List Nat)} (a : Trans h t ds R) (b : Trans h t ds R') : R.length = R'.length := by
  have key : ∀ {R R' : List (List Nat)}, Trans h t ds R → Trans h t ds R' → R.length ≤ R'.length := fun {R R'} a b => pigeon (rel := Rl h t ds) (fun M hM => b.all M (a.lot M hM)) (a.apart.imp fun n ⟨N, r1, r2⟩ => n (Th.Reach.trans r1 (Th.Reach.symm r2)))
  exact Nat.le_antisymm (key a b) (key b a)
def famsN (k T : Nat) (G : Nat → Nat → Bool) : Nat := Ct.lowN k T (fun e => Th.cnt k (G e)) + Ct.topN k T (Th.cnt k (G T)) + Ct.lowN k (k - 1 - T) (fun e => Th.cnt k (Th.dual k G e))
theorem full_stuck {k T : Nat} {G : Nat → Nat → Bool} {U : Nat → Bool} (h : Ct.fullB k T G U = true) : Th.StuckLow k G (Th.cnt k U) U := by
  obtain ⟨a, _⟩ := Ct.full_iff.mp h
  refine ⟨Nat.le_refl _, fun n h1 h2 => by omega, ?_⟩
  rw [Th.cnt_congr (U := U) fun i hi => ?_]
  · exact Nat.le_refl _
  · cases g : G (Th.cnt k U) i with
    | false => rw [Bool.or_false]
    | true => rw [a i hi g]; rfl
theorem trans_ex {h t : Int} {ds : List Int} (d0 : 0 < ds.length) : ∃ R, Trans h t ds R ∧ R.length = famsN ds.length (topI h t ds.length).toNat (Gof h t ds) := by
  have tp : Th.Top ds.length (Gof h t ds) (topI h t ds.length).toNat := top_D h t (fun i => ds.getD i 0) d0
  generalize (topI h t ds.length).toNat = T at tp
  have hT := tp.lt
  -- the full ones
  have lowS : ∀ {M : List Nat}, M ∈ (allLots ds.length).filter (fun M => Ct.fullB ds.length T (Gof h t ds) (mem M)) → ∃ N, N ≤ T ∧ N = Th.cnt ds.length (mem M) ∧ Th.StuckLow ds.length (Gof h t ds) N (mem M) := fun {M} hM => by
    have b := (List.mem_filter.mp hM).2
    exact ⟨_, (Ct.full_iff.mp b).2, rfl, full_stuck b⟩
  have highS : ∀ {M : List Nat}, M ∈ (allLots ds.length).filter (fun M => Ct.fullB ds.length (ds.length - 1 - T) (Th.dual ds.length (Gof h t ds)) (Th.co (mem M))) → ∃ N, N ≤ ds.length - 1 - T ∧ N = Th.cnt ds.length (Th.co (mem M)) ∧ Th.StuckLow ds.length (Th.dual ds.length (Gof h t ds)) N (Th.co (mem M)) := fun {M} hM => by
    have b := (List.mem_filter.mp hM).2
    exact ⟨_, (Ct.full_iff.mp b).2, rfl, full_stuck b⟩
  -- the open ones
  have repX : ∀ X : List Nat, ∃ M : List Nat, Lot ds.length M ∧ (Lot ds.length X → Ct.fastB ds.length T (Gof h t ds) (mem X) = true → Th.Open ds.length (Gof h t ds) T (mem M) ∧ ∀ i, i < ds.length → Gof h t ds T i = false → mem M i = mem X i) := fun X => by
    by_cases c : Ct.fastB ds.length T (Gof h t ds) (mem X) = true
    · have b := c
      unfold Ct.fastB at b
      rw [Bool.and_eq_true, Bool.and_eq_true, decide_eq_true_eq, decide_eq_true_eq, Ct.subB_iff] at b
      obtain ⟨b1, b2, b3⟩ := b
      obtain ⟨V, v1, v2⟩ := Ct.some_of (B := Gof h t ds T) (k := ds.length) (x := T - Th.cnt ds.length (mem X)) (by omega)
      have mm : ∀ i, i < ds.length → mem (lotOf ds.length fun i => mem X i || V i) i = (mem X i || V i) := fun i hi => lotOf_mem hi
      have cX : Th.cnt ds.length (fun i => mem X i && !Gof h t ds T i) = Th.cnt ds.length (mem X) := Th.cnt_congr fun i hi => by
        cases q : mem X i with
        | false => rfl
        | true =>
          have := b1 i hi q
          rw [this]
          rfl
      have cU : Th.cnt ds.length (fun i => mem X i || Gof h t ds T i) = Th.cnt ds.length (mem X) + Th.cnt ds.length (Gof h t ds T) := by
        have := Th.cnt_and_or (k := ds.length) (mem X) (Gof h t ds T)
        omega
      have cM : Th.cnt ds.length (mem (lotOf ds.length fun i => mem X i || V i)) = T := by
        rw [Th.cnt_congr mm]
        have a := Th.cnt_and_or (k := ds.length) (mem X) V
        have e : Th.cnt ds.length (fun i => mem X i && !V i) = Th.cnt ds.length (mem X) := Th.cnt_congr fun i hi => by
          cases q : mem X i with
          | false => rfl
          | true =>
            have g := b1 i hi q
            cases v : V i with
            | false => rfl
            | true =>
              have g2 := (v1 i v).1
              rw [g2] at g
              cases g
        omega
      refine ⟨lotOf ds.length fun i => mem X i || V i, lotOf_lot _ _, fun _ _ => ⟨⟨.inl ⟨by rw [cM]; exact Nat.le_refl _, fun n h1 h2 => by rw [cM] at h1; omega⟩, ?_⟩, fun i hi g => ?_⟩⟩
      · have e : Th.cnt ds.length (fun i => mem (lotOf ds.length fun i => mem X i || V i) i || Gof h t ds T i) = Th.cnt ds.length (fun i => mem X i || Gof h t ds T i) := Th.cnt_congr fun i hi => by
          rw [mm i hi]
          cases v : V i with
          | false => rw [Bool.or_false]
          | true => rw [(v1 i v).1, Bool.or_true, Bool.or_true]
        rw [e, cU]
        omega
      · rw [mm i hi]
        cases v : V i with
        | false => rw [Bool.or_false]
        | true =>
          have := (v1 i v).1
          rw [g] at this
          cases this
    · exact ⟨[], Lot.nil _, fun _ z => absurd z c⟩
  obtain ⟨rep, hrep⟩ := Classical.skolem.mp repX
  have topS : ∀ {M : List Nat}, M ∈ ((allLots ds.length).filter fun X => Ct.fastB ds.length T (Gof h t ds) (mem X)).map rep → Th.Open ds.length (Gof h t ds) T (mem M) := fun {M} hM => by
    obtain ⟨X, hX, rfl⟩ := List.mem_map.mp hM
    obtain ⟨h1, h2⟩ := List.mem_filter.mp hX
    exact ((hrep X).2 (allLots_lot h1) h2).1
  refine ⟨(allLots ds.length).filter (fun M => Ct.fullB ds.length T (Gof h t ds) (mem M)) ++ ((allLots ds.length).filter fun X => Ct.fastB ds.length T (Gof h t ds) (mem X)).map rep ++ (allLots ds.length).filter (fun M => Ct.fullB ds.length (ds.length - 1 - T) (Th.dual ds.length (Gof h t ds)) (Th.co (mem M))), ⟨?_, ?_, ?_⟩, ?_⟩
  · intro M hM
    rcases List.mem_append.mp hM with z | z
    · rcases List.mem_append.mp z with z | z
      · exact allLots_lot (List.mem_filter.mp z).1
      · obtain ⟨X, hX, rfl⟩ := List.mem_map.mp z
        exact (hrep X).1
    · exact allLots_lot (List.mem_filter.mp z).1
  · intro M hM
    have ow : ∀ i, ¬ i < ds.length → mem M i = false := fun i hi => decide_eq_false fun z => hi (hM.lt i z)
    rcases Th.sorts (S := mem M) tp with ⟨N, hN, sl⟩ | ⟨N, hN, sl⟩ | q
    · obtain ⟨U, r, c, e⟩ := sl.full tp hN
      have eU := lotOf_eq hM r
      refine ⟨lotOf ds.length U, List.mem_append.mpr (.inl (List.mem_append.mpr (.inl (List.mem_filter.mpr ⟨lot_all (lotOf_lot _ _), ?_⟩)))), ?_⟩
      · rw [eU]
        refine Ct.full_iff.mpr ⟨fun i hi g => ?_, by omega⟩
        rw [c] at g
        rw [e i hi, g, Bool.or_true]
      · show Th.Reach _ _ _ _
        rw [eU]
        exact r
    · obtain ⟨U, r, c, e⟩ := sl.full tp.dual hN
      have r2 : Th.Reach ds.length (Gof h t ds) (mem M) (Th.co U) := by
        refine Th.Reach.codual ?_
        rw [Th.co_co]
        exact r
      have eU := lotOf_eq hM r2
      refine ⟨lotOf ds.length (Th.co U), List.mem_append.mpr (.inr (List.mem_filter.mpr ⟨lot_all (lotOf_lot _ _), ?_⟩)), ?_⟩
      · rw [eU, Th.co_co]
        refine Ct.full_iff.mpr ⟨fun i hi g => ?_, by omega⟩
        rw [c] at g
        rw [e i hi, g, Bool.or_true]
      · show Th.Reach _ _ _ _
        rw [eU]
        exact r2
    · have op : Th.Open ds.length (Gof h t ds) T (mem M) := q
      have lX : Lot ds.length (lotOf ds.length fun i => mem M i && !Gof h t ds T i) := lotOf_lot _ _
      have mX : ∀ i, i < ds.length → mem (lotOf ds.length fun i => mem M i && !Gof h t ds T i) i = (mem M i && !Gof h t ds T i) := fun i hi => lotOf_mem hi
      have cX : Th.cnt ds.length (mem (lotOf ds.length fun i => mem M i && !Gof h t ds T i)) = Th.cnt ds.length (fun i => mem M i && !Gof h t ds T i) := Th.cnt_congr mX
      have f0 : Th.cnt ds.length (fun i => mem M i && !Gof h t ds T i) ≤ T := by
        rcases q.1 with r | r
        · have : Th.cnt ds.length (fun i => mem M i && !Gof h t ds T i) ≤ Th.cnt ds.length (mem M) := Th.cnt_mono fun i _ z => by
            cases e : mem M i with
            | true => rfl
            | false => rw [e] at z; cases z
          have := r.1
          omega
        · exact r.2 T (Nat.le_refl _) r.1
      have fb : Ct.fastB ds.length T (Gof h t ds) (mem (lotOf ds.length fun i => mem M i && !Gof h t ds T i)) = true := by
        unfold Ct.fastB
        rw [Bool.and_eq_true, Bool.and_eq_true, decide_eq_true_eq, decide_eq_true_eq, Ct.subB_iff, cX]
        refine ⟨fun i hi z => ?_, f0, ?_⟩
        · rw [mX i hi] at z
          cases g : Gof h t ds T i with
          | false => rfl
          | true => rw [g] at z; simp at z
        · have := Th.cnt_and_or (k := ds.length) (mem M) (Gof h t ds T)
          have := q.2
          omega
      obtain ⟨o2, fx⟩ := (hrep _).2 lX fb
      refine ⟨rep _, List.mem_append.mpr (.inl (List.mem_append.mpr (.inr (List.mem_map.mpr ⟨_, List.mem_filter.mpr ⟨lot_all lX, fb⟩, rfl⟩)))), ?_⟩
      refine Th.open_reach tp op.1 o2.1 (fun i hi g => ?_) fun i hi => ?_
      · rw [fx i hi g, mX i hi, g, Bool.not_false, Bool.and_true]
      · rw [ow i hi]
        exact decide_eq_false fun z => hi ((hrep _).1.lt i z)
  · have nd := allLots_nd ds.length
    refine List.pairwise_append.mpr ⟨List.pairwise_append.mpr ⟨?_, ?_, ?_⟩, ?_, ?_⟩
    · refine List.Pairwise.imp_of_mem (fun {M N} hM hN ne r => ne ?_) (nd.filter _)
      obtain ⟨a, a1, a2, sa⟩ := lowS hM
      obtain ⟨c, c1, c2, sc⟩ := lowS hN
      have e := Th.low_uniq (sa.same tp a1 r) sc
      subst e
      have fM := (Ct.full_iff.mp (List.mem_filter.mp hM).2).1
      have fN := (Ct.full_iff.mp (List.mem_filter.mp hN).2).1
      rw [← a2] at fM
      rw [← c2] at fN
      have q := ((sa.iff tp a1 (Th.Reach.out r)).mp r).2
      refine lot_ext (allLots_lot (List.mem_filter.mp hM).1) (allLots_lot (List.mem_filter.mp hN).1) fun i hi => ?_
      have := q i hi
      cases g : Gof h t ds a i with
      | false =>
        rw [g, Bool.or_false, Bool.or_false] at this
        exact this.symm
      | true => rw [fM i hi g, fN i hi g]
    · refine List.pairwise_map.mpr (List.Pairwise.imp_of_mem (fun {X Y} hX hY ne r => ne ?_) (nd.filter _))
      obtain ⟨x1, x2⟩ := List.mem_filter.mp hX
      obtain ⟨y1, y2⟩ := List.mem_filter.mp hY
      have lx := allLots_lot x1
      have ly := allLots_lot y1
      have fx := ((hrep X).2 lx x2).2
      have fy := ((hrep Y).2 ly y2).2
      have iv := Th.fast_inv tp r
      have sx : ∀ i, i < ds.length → mem X i = true → Gof h t ds T i = false := fun i hi z => by
        have b := x2
        unfold Ct.fastB at b
        rw [Bool.and_eq_true, Ct.subB_iff] at b
        have := b.1 i hi z
        simpa using this
      have sy : ∀ i, i < ds.length → mem Y i = true → Gof h t ds T i = false := fun i hi z => by
        have b := y2
        unfold Ct.fastB at b
        rw [Bool.and_eq_true, Ct.subB_iff] at b
        have := b.1 i hi z
        simpa using this
      refine lot_ext lx ly fun i hi => ?_
      cases g : Gof h t ds T i with
      | false => rw [← fx i hi g, ← fy i hi g, iv i hi g]
      | true =>
        cases a : mem X i with
        | true => rw [sx i hi a] at g; cases g
        | false =>
          cases b : mem Y i with
          | true => rw [sy i hi b] at g; cases g
          | false => rfl
    · intro M hM N hN r
      obtain ⟨a, a1, a2, sa⟩ := lowS hM
      exact Th.low_open tp a1 (sa.same tp a1 r) (topS hN)
    · refine List.Pairwise.imp_of_mem (fun {M N} hM hN ne r => ne ?_) (nd.filter _)
      obtain ⟨a, a1, a2, sa⟩ := highS hM
      obtain ⟨c, c1, c2, sc⟩ := highS hN
      have rd := Th.Reach.dual r
      have e := Th.low_uniq (sa.same tp.dual a1 rd) sc
      subst e
      have fM := (Ct.full_iff.mp (List.mem_filter.mp hM).2).1
      have fN := (Ct.full_iff.mp (List.mem_filter.mp hN).2).1
      rw [← a2] at fM
      rw [← c2] at fN
      have q := ((sa.iff tp.dual a1 (Th.Reach.out rd)).mp rd).2
      refine lot_ext (allLots_lot (List.mem_filter.mp hM).1) (allLots_lot (List.mem_filter.mp hN).1) fun i hi => ?_
      have this := q i hi
      have cc : Th.co (mem M) i = Th.co (mem N) i := by
        cases g : Th.dual ds.length (Gof h t ds) a i with
        | false =>
          rw [g, Bool.or_false, Bool.or_false] at this
          exact this.symm
        | true => rw [fM i hi g, fN i hi g]
      revert cc
      show (!mem M i) = (!mem N i) → _
      cases mem M i <;> cases mem N i <;> simp
    · intro M hM N hN r
      obtain ⟨c, c1, c2, sc⟩ := highS hN
      rcases List.mem_append.mp hM with z | z
      · obtain ⟨a, a1, a2, sa⟩ := lowS z
        exact Th.low_high tp a1 (sa.same tp a1 r) c1 sc
      · exact Th.high_open tp c1 sc ((topS z).same tp r)
  · rw [List.length_append, List.length_append, List.length_map, cf_lots (P := Ct.fullB ds.length T (Gof h t ds)), cf_lots (P := Ct.fastB ds.length T (Gof h t ds)), cf_lots (P := fun M => Ct.fullB ds.length (ds.length - 1 - T) (Th.dual ds.length (Gof h t ds)) (Th.co M)), Ct.cf_co (P := Ct.fullB ds.length (ds.length - 1 - T) (Th.dual ds.length (Gof h t ds))) fun U V e => ?_, Ct.low_many, Ct.top_many, Ct.low_many]
    · rfl
    · have ce : Th.cnt ds.length U = Th.cnt ds.length V := Th.cnt_congr e
      rw [Bool.eq_iff_iff, Ct.full_iff, Ct.full_iff, ce]
      exact and_congr ⟨fun a i hi g => by rw [← e i hi]; exact a i hi g, fun a i hi g => by rw [e i hi]; exact a i hi g⟩ Iff.rfl
end Sh

namespace Th
section
variable {k : Nat} {G G' : Nat → Nat → Bool} {S U : Nat → Bool}
theorem moves_along (r : Reach k G S U) {i : Nat} : Moves k G U i ↔ Moves k G S i := ⟨fun ⟨W, x, m⟩ => ⟨W, r.trans x, m⟩, fun ⟨W, x, m⟩ => ⟨W, r.symm.trans x, m⟩⟩
theorem Reach.mono (hg : ∀ s i, G s i = true → G' s i = true) (r : Reach k G S U) : Reach k G' S U := by
  induction r with
  | refl => exact .refl _
  | step _ st ih =>
    cases st with
    | up hi hs hG => exact .step ih (.up hi hs (hg _ _ hG))
    | dn hi hs hG => exact .step ih (.dn hi hs (hg _ _ hG))
theorem may_lt {i : Nat} (hi : i < k) : (if U i = true then cnt k U - 1 else cnt k U) < k := by
  have := cnt_le k U
  cases e : U i with
  | true => rw [if_pos rfl]; omega
  | false =>
    rw [if_neg Bool.false_ne_true]
    have a := cnt_flip_up hi e
    have := cnt_le k (flip U i)
    omega
/-- what is told of a standing's ships: most, least, the draughts of those who ever go -/
structure ToldS (k : Nat) (G : Nat → Nat → Bool) (D : Nat → Int) (S : Nat → Bool) (m l : Int) (ms : List Int) : Prop where
  mx : ∃ n : Nat, m = (n : Int) ∧ IsMax k G S n
  mn : ∃ n : Nat, l = (n : Int) ∧ IsMin k G S n
  up : ms.Pairwise (· < ·)
  mv : ∀ d, d ∈ ms ↔ ∃ i, i < k ∧ D i = d ∧ Moves k G S i
theorem riseI : ∀ {L M : List Int}, L.Pairwise (· < ·) → M.Pairwise (· < ·) → (∀ i, i ∈ L ↔ i ∈ M) → L = M
  | [], [], _, _, _ => rfl
  | [], b :: M, _, _, h => absurd ((h b).mpr (.head _)) (by simp)
  | a :: L, [], _, _, h => absurd ((h a).mp (.head _)) (by simp)
  | a :: L, b :: M, p, q, h => by
    obtain ⟨p1, p2⟩ := List.pairwise_cons.mp p
    obtain ⟨q1, q2⟩ := List.pairwise_cons.mp q
    have ab : a = b := by
      rcases List.mem_cons.mp ((h a).mp (.head _)) with z | z
      · exact z
      · rcases List.mem_cons.mp ((h b).mpr (.head _)) with y | y
        · exact y.symm
        · have := q1 a z
          have := p1 b y
          omega
    subst ab
    rw [riseI p2 q2 fun i => ?_]
    constructor
    · intro z
      rcases List.mem_cons.mp ((h i).mp (.tail _ z)) with y | y
      · have := p1 i z
        omega
      · exact y
    · intro z
      rcases List.mem_cons.mp ((h i).mpr (.tail _ z)) with y | y
      · have := q1 i z
        omega
      · exact y
variable {D : Nat → Int} {m l m' l' : Int} {ms ms' : List Int}
theorem ToldS.uniq (a : ToldS k G D S m l ms) (b : ToldS k G D S m' l' ms') : m' = m ∧ l' = l ∧ ms' = ms := by
  obtain ⟨n, rfl, ⟨A, ra, ca⟩, ua⟩ := a.mx
  obtain ⟨n', rfl, ⟨B, rb, cb⟩, ub⟩ := b.mx
  obtain ⟨o, rfl, ⟨A2, ra2, ca2⟩, ua2⟩ := a.mn
  obtain ⟨o', rfl, ⟨B2, rb2, cb2⟩, ub2⟩ := b.mn
  have := ua B rb
  have := ub A ra
  have := ua2 B2 rb2
  have := ub2 A2 ra2
  exact ⟨by omega, by omega, riseI b.up a.up fun d => (b.mv d).trans (a.mv d).symm⟩
theorem ToldS.along (r : Reach k G S U) (a : ToldS k G D U m l ms) : ToldS k G D S m l ms := by
  obtain ⟨n, rfl, ⟨A, ra, ca⟩, ua⟩ := a.mx
  obtain ⟨o, rfl, ⟨A2, ra2, ca2⟩, ua2⟩ := a.mn
  refine ⟨⟨n, rfl, ⟨A, r.trans ra, ca⟩, fun W x => ua W (r.symm.trans x)⟩, ⟨o, rfl, ⟨A2, r.trans ra2, ca2⟩, fun W x => ua2 W (r.symm.trans x)⟩, a.up, fun d => (a.mv d).trans ?_⟩
  exact ⟨fun ⟨i, hi, e, z⟩ => ⟨i, hi, e, (moves_along r).mp z⟩, fun ⟨i, hi, e, z⟩ => ⟨i, hi, e, (moves_along r).mpr z⟩⟩
theorem ToldS.deeper (hg : ∀ s i, G s i = true → G' s i = true) (a : ToldS k G D S m l ms) (b : ToldS k G' D S m' l' ms') : m ≤ m' ∧ l' ≤ l ∧ ∀ d ∈ ms, d ∈ ms' := by
  obtain ⟨n, rfl, ⟨A, ra, ca⟩, ua⟩ := a.mx
  obtain ⟨n', rfl, ⟨B, rb, cb⟩, ub⟩ := b.mx
  obtain ⟨o, rfl, ⟨A2, ra2, ca2⟩, ua2⟩ := a.mn
  obtain ⟨o', rfl, ⟨B2, rb2, cb2⟩, ub2⟩ := b.mn
  have := ub A (ra.mono hg)
  have := ub2 A2 (ra2.mono hg)
  refine ⟨by omega, by omega, fun d hd => ?_⟩
  obtain ⟨i, hi, e, W, x, z⟩ := (a.mv d).mp hd
  exact (b.mv d).mpr ⟨i, hi, e, W, x.mono hg, hg _ _ z⟩
/-- told of it turned about -/
theorem ToldS.turn {H : Nat → Nat → Bool} (gt : ∀ s i, s < k → H s i = dual k G s i) (a : ToldS k H D (co S) m l ms) : ToldS k G D S ((k : Int) - l) ((k : Int) - m) ms := by
  have back : ∀ {U : Nat → Bool}, Reach k H (co S) U → Reach k G S (co U) := fun {U} r => by
    refine Reach.codual ?_
    rw [co_co]
    exact r.congr gt
  have fwd : ∀ {U : Nat → Bool}, Reach k G S U → Reach k H (co S) (co U) := fun {U} r => r.dual.congr fun s i hs => (gt s i hs).symm
  obtain ⟨n, rfl, ⟨A, ra, ca⟩, ua⟩ := a.mx
  obtain ⟨o, rfl, ⟨A2, ra2, ca2⟩, ua2⟩ := a.mn
  have cA := cnt_co k A
  have cA2 := cnt_co k A2
  refine ⟨⟨k - o, by omega, ⟨co A2, back ra2, by omega⟩, fun W x => ?_⟩, ⟨k - n, by omega, ⟨co A, back ra, by omega⟩, fun W x => ?_⟩, a.up, fun d => (a.mv d).trans ?_⟩
  · have := ua2 _ (fwd x)
    have := cnt_co k W
    omega
  · have := ua _ (fwd x)
    have := cnt_co k W
    omega
  · have mv : ∀ {i : Nat}, i < k → (Moves k H (co S) i ↔ Moves k G S i) := fun {i} hi => by
      rw [← moves_co (G := G) (S := S) hi]
      constructor
      · rintro ⟨W, x, z⟩
        exact ⟨W, x.congr gt, by unfold May at z ⊢; rw [← gt _ _ (may_lt hi)]; exact z⟩
      · rintro ⟨W, x, z⟩
        exact ⟨W, x.congr fun s i hs => (gt s i hs).symm, by unfold May at z ⊢; rw [gt _ _ (may_lt hi)]; exact z⟩
    exact ⟨fun ⟨i, hi, e, z⟩ => ⟨i, hi, e, (mv hi).mp z⟩, fun ⟨i, hi, e, z⟩ => ⟨i, hi, e, (mv hi).mpr z⟩⟩
end
end Th
namespace Th
/-! ### ships that lie fast for ever, more depth for fewer -/
section
variable {k a c : Nat} {G G' : Nat → Nat → Bool} {D D' : Nat → Int} {S : Nat → Bool}
/-- the same ships, behind them a that lie here, the others there -/
def ext (k a : Nat) (U : Nat → Bool) : Nat → Bool := fun i => if i < k then U i else decide (i < k + a)
theorem ext_lt {U : Nat → Bool} {i : Nat} (hi : i < k) : ext k a U i = U i := by unfold ext; rw [if_pos hi]
theorem ext_ge {U : Nat → Bool} {i : Nat} (hi : ¬ i < k) : ext k a U i = decide (i < k + a) := by unfold ext; rw [if_neg hi]
theorem cnt_ext (U : Nat → Bool) : cnt (k + (a + c)) (ext k a U) = cnt k U + a := by
  rw [cnt_add, cnt_add]
  have e0 : cnt k (ext k a U) = cnt k U := cnt_congr fun i hi => ext_lt hi
  have e1 : cnt a (fun i => ext k a U (k + i)) = cnt a (fun _ => true) := cnt_congr fun i hi => by
    rw [ext_ge (by omega)]
    exact decide_eq_true (by omega)
  have e2 : cnt c (fun i => ext k a U (k + (a + i))) = cnt c (fun _ => false) := cnt_congr fun i hi => by
    rw [ext_ge (by omega)]
    exact decide_eq_false (by omega)
  rw [e0, e1, e2, cnt_const, cnt_const]
  simp
theorem ext_flip {U : Nat → Bool} {i : Nat} (hi : i < k) : ext k a (flip U i) = flip (ext k a U) i := by
  funext j
  by_cases e : j = i
  · subst e
    rw [ext_lt hi, flip_self, flip_self, ext_lt hi]
  · rw [flip_ne _ e]
    by_cases hj : j < k
    · rw [ext_lt hj, ext_lt hj, flip_ne _ e]
    · rw [ext_ge hj, ext_ge hj]
variable (gs : ∀ s i, i < k → G' (s + a) i = G s i) (g0 : ∀ s i, s < k + (a + c) → ¬ i < k → G' s i = false)
include gs
theorem ext_reach {U : Nat → Bool} (r : Reach k G S U) : Reach (k + (a + c)) G' (ext k a S) (ext k a U) := by
  induction r with
  | refl => exact .refl _
  | @step U W _ st ih =>
    cases st with
    | @up i hi hs hG =>
      rw [ext_flip hi]
      exact .step ih (.up (by omega) (by rw [ext_lt hi]; exact hs) (by rw [cnt_ext, gs _ _ hi]; exact hG))
    | @dn i hi hs hG =>
      rw [ext_flip hi]
      have := cnt_pos hi hs
      exact .step ih (.dn (by omega) (by rw [ext_lt hi]; exact hs) (by rw [cnt_ext, show cnt k U + a - 1 = cnt k U - 1 + a by omega, gs _ _ hi]; exact hG))
include g0
theorem ext_back {W : Nat → Bool} (r : Reach (k + (a + c)) G' (ext k a S) W) : ∃ U, W = ext k a U ∧ Reach k G S U := by
  induction r with
  | refl => exact ⟨S, rfl, .refl _⟩
  | @step W W' _ st ih =>
    obtain ⟨U, rfl, r⟩ := ih
    cases st with
    | @up i hi hs hG =>
      by_cases h : i < k
      · rw [ext_lt h] at hs
        rw [cnt_ext, gs _ _ h] at hG
        exact ⟨flip U i, (ext_flip h).symm, .step r (.up h hs hG)⟩
      · have := may_lt (U := ext k a U) hi
        rw [hs, if_neg Bool.false_ne_true] at this
        rw [g0 _ _ this h] at hG
        cases hG
    | @dn i hi hs hG =>
      by_cases h : i < k
      · rw [ext_lt h] at hs
        have := cnt_pos h hs
        rw [cnt_ext, show cnt k U + a - 1 = cnt k U - 1 + a by omega, gs _ _ h] at hG
        exact ⟨flip U i, (ext_flip h).symm, .step r (.dn h hs hG)⟩
      · have := may_lt (U := ext k a U) hi
        rw [hs, if_pos rfl] at this
        rw [g0 _ _ this h] at hG
        cases hG
theorem ToldS.lost {m l : Int} {ms : List Int} (hD : ∀ i, i < k → D' i = D i) (t : ToldS (k + (a + c)) G' D' (ext k a S) m l ms) : ToldS k G D S (m - a) (l - a) ms := by
  obtain ⟨n, rfl, ⟨A, ra, ca⟩, ua⟩ := t.mx
  obtain ⟨o, rfl, ⟨A2, ra2, ca2⟩, ua2⟩ := t.mn
  obtain ⟨B, rfl, rb⟩ := ext_back gs g0 ra
  obtain ⟨B2, rfl, rb2⟩ := ext_back gs g0 ra2
  rw [cnt_ext] at ca ca2
  refine ⟨⟨n - a, by omega, ⟨B, rb, by omega⟩, fun W x => ?_⟩, ⟨o - a, by omega, ⟨B2, rb2, by omega⟩, fun W x => ?_⟩, t.up, fun d => (t.mv d).trans ?_⟩
  · have := ua _ (ext_reach gs x)
    rw [cnt_ext] at this
    omega
  · have := ua2 _ (ext_reach gs x)
    rw [cnt_ext] at this
    omega
  · have may : ∀ {U : Nat → Bool} {i : Nat}, i < k → (May (k + (a + c)) G' (ext k a U) i ↔ May k G U i) := fun {U i} hi => by
      unfold May
      rw [ext_lt hi, cnt_ext]
      cases e : U i with
      | false => rw [if_neg Bool.false_ne_true, if_neg Bool.false_ne_true, gs _ _ hi]
      | true =>
        have := cnt_pos hi e
        rw [if_pos rfl, if_pos rfl, show cnt k U + a - 1 = cnt k U - 1 + a by omega, gs _ _ hi]
    constructor
    · rintro ⟨i, hi, e, W, x, z⟩
      obtain ⟨U, rfl, r⟩ := ext_back gs g0 x
      by_cases h : i < k
      · exact ⟨i, h, by rw [← hD i h]; exact e, U, r, (may h).mp z⟩
      · have := g0 _ _ (may_lt (U := ext k a U) hi) h
        unfold May at z
        rw [this] at z
        cases z
    · rintro ⟨i, hi, e, U, r, z⟩
      exact ⟨i, by omega, by rw [hD i hi]; exact e, _, ext_reach gs r, (may hi).mpr z⟩
end
end Th

namespace Ct
open Th (cnt cnt_succ cnt_congr cnt_zero)
section
variable {k : Nat} {G G' : Nat → Nat → Bool} {S : Nat → Bool}
theorem ext_one {U : Nat → Bool} (h : ∀ i, ¬ i < k → U i = false) : Th.ext k 1 U = put U k := by
  funext i
  unfold Th.ext put
  by_cases e : i = k
  · rw [if_pos e, if_neg (by omega)]
    exact decide_eq_true (by omega)
  · rw [if_neg e]
    by_cases c : i < k
    · rw [if_pos c]
    · rw [if_neg c, h i c]
      exact decide_eq_false (by omega)
theorem ext_zero {U : Nat → Bool} (h : ∀ i, ¬ i < k → U i = false) : Th.ext k 0 U = U := by
  funext i
  unfold Th.ext
  by_cases c : i < k
  · rw [if_pos c]
  · rw [if_neg c, h i c]
    exact decide_eq_false (by omega)
/-- a ship more that lies here for ever -/
theorem reach_here (gs : ∀ s i, i < k → G' (s + 1) i = G s i) (g0 : ∀ s i, s < k + 1 → ¬ i < k → G' s i = false) (S0 : ∀ i, ¬ i < k → S i = false) {M : Nat → Bool} : Th.Reach (k + 1) G' (put S k) M ↔ ∃ U, M = put U k ∧ (∀ i, ¬ i < k → U i = false) ∧ Th.Reach k G S U := by
  constructor
  · intro r
    rw [← ext_one S0] at r
    obtain ⟨U, e, r2⟩ := Th.ext_back (k := k) (a := 1) (c := 0) (G := G) (G' := G') gs g0 r
    have U0 : ∀ i, ¬ i < k → U i = false := fun i hi => (Th.reach_out r2 i hi).trans (S0 i hi)
    exact ⟨U, by rw [e, ext_one U0], U0, r2⟩
  · rintro ⟨U, rfl, U0, r⟩
    have := Th.ext_reach (k := k) (a := 1) (c := 0) (G := G) (G' := G') gs r
    rw [ext_one S0, ext_one U0] at this
    exact this
/-- a ship more that lies there for ever -/
theorem reach_there (gs : ∀ s i, i < k → G' s i = G s i) (g0 : ∀ s i, s < k + 1 → ¬ i < k → G' s i = false) (S0 : ∀ i, ¬ i < k → S i = false) {M : Nat → Bool} : Th.Reach (k + 1) G' S M ↔ (∀ i, ¬ i < k → M i = false) ∧ Th.Reach k G S M := by
  constructor
  · intro r
    rw [← ext_zero S0] at r
    obtain ⟨U, e, r2⟩ := Th.ext_back (k := k) (a := 0) (c := 1) (G := G) (G' := G') gs (fun s i hs hi => g0 s i (by omega) hi) (S := S) (by rw [show k + (0 + 1) = k + 1 by omega]; exact r)
    have U0 : ∀ i, ¬ i < k → U i = false := fun i hi => (Th.reach_out r2 i hi).trans (S0 i hi)
    rw [e, ext_zero U0]
    exact ⟨U0, r2⟩
  · rintro ⟨M0, r⟩
    have := Th.ext_reach (k := k) (a := 0) (c := 1) (G := G) (G' := G') gs r
    rw [ext_zero S0, ext_zero M0, show k + (0 + 1) = k + 1 by omega] at this
    exact this
theorem fam_here (gs : ∀ s i, i < k → G' (s + 1) i = G s i) (g0 : ∀ s i, s < k + 1 → ¬ i < k → G' s i = false) (S0 : ∀ i, ¬ i < k → S i = false) : fam (k + 1) G' (put S k) = fam k G S := by
  show cf k (fun M => @decide (Th.Reach (k + 1) G' (put S k) M) (Classical.propDecidable _)) + cf k (fun M => @decide (Th.Reach (k + 1) G' (put S k) (put M k)) (Classical.propDecidable _)) = _
  have t1 : cf k (fun M => @decide (Th.Reach (k + 1) G' (put S k) M) (Classical.propDecidable _)) = 0 := by
    refine Eq.trans (cf_congr fun M hM => ?_) (cf_false k)
    refine @decide_eq_false _ (Classical.propDecidable _) fun r => ?_
    obtain ⟨U, rfl, _⟩ := (reach_here gs g0 S0).mp r
    have := hM k (Nat.le_refl _)
    rw [put_self] at this
    cases this
  rw [t1, Nat.zero_add]
  refine cf_congr fun M hM => ?_
  have M0 : ∀ i, ¬ i < k → M i = false := fun i hi => hM i (by omega)
  rw [Bool.eq_iff_iff]
  refine Iff.trans (@decide_eq_true_iff _ (Classical.propDecidable _)) (Iff.trans ?_ (@decide_eq_true_iff _ (Classical.propDecidable _)).symm)
  rw [reach_here gs g0 S0]
  constructor
  · rintro ⟨U, e, U0, r⟩
    have : M = U := by
      funext i
      by_cases z : i < k
      · have := congrFun e i
        rw [put_ne _ (by omega), put_ne _ (by omega)] at this
        exact this
      · rw [M0 i z, U0 i z]
    rw [this]
    exact r
  · exact fun r => ⟨M, rfl, M0, r⟩
theorem fam_there (gs : ∀ s i, i < k → G' s i = G s i) (g0 : ∀ s i, s < k + 1 → ¬ i < k → G' s i = false) (S0 : ∀ i, ¬ i < k → S i = false) : fam (k + 1) G' S = fam k G S := by
  show cf k (fun M => @decide (Th.Reach (k + 1) G' S M) (Classical.propDecidable _)) + cf k (fun M => @decide (Th.Reach (k + 1) G' S (put M k)) (Classical.propDecidable _)) = _
  have t1 : cf k (fun M => @decide (Th.Reach (k + 1) G' S (put M k)) (Classical.propDecidable _)) = 0 := by
    refine Eq.trans (cf_congr fun M hM => ?_) (cf_false k)
    refine @decide_eq_false _ (Classical.propDecidable _) fun r => ?_
    have := ((reach_there gs g0 S0).mp r).1 k (by omega)
    rw [put_self] at this
    cases this
  rw [t1, Nat.add_zero]
  refine cf_congr fun M hM => ?_
  have M0 : ∀ i, ¬ i < k → M i = false := fun i hi => hM i (by omega)
  rw [Bool.eq_iff_iff]
  refine Iff.trans (@decide_eq_true_iff _ (Classical.propDecidable _)) (Iff.trans ?_ (@decide_eq_true_iff _ (Classical.propDecidable _)).symm)
  rw [reach_there gs g0 S0]
  exact ⟨fun z => z.2, fun r => ⟨M0, r⟩⟩
theorem cf_mono : ∀ {k : Nat} {P Q : (Nat → Bool) → Bool}, (∀ U, P U = true → Q U = true) → cf k P ≤ cf k Q
  | 0, P, Q, h => by
    show (if P (fun _ => false) = true then 1 else 0) ≤ (if Q (fun _ => false) = true then 1 else 0)
    by_cases c : P (fun _ => false) = true
    · rw [if_pos c, if_pos (h _ c)]
      exact Nat.le_refl _
    · rw [if_neg c]
      exact Nat.zero_le _
  | k + 1, P, Q, h => Nat.add_le_add (cf_mono h) (cf_mono fun U => h _)
theorem cf_all : ∀ k : Nat, cf k (fun _ => true) = 2 ^ k
  | 0 => rfl
  | k + 1 => by
    show cf k (fun _ => true) + cf k (fun _ => true) = 2 ^ (k + 1)
    rw [cf_all k, Nat.pow_succ]
    omega
/-- where more may go, more are come to -/
theorem fam_mono (hg : ∀ s i, G s i = true → G' s i = true) : fam k G S ≤ fam k G' S := cf_mono fun M h => (@decide_eq_true_iff _ (Classical.propDecidable _)).mpr (Th.Reach.mono hg ((@decide_eq_true_iff _ (Classical.propDecidable _)).mp h))
/-- turned about -/
theorem fam_turn (gt : ∀ s i, s < k → G' s i = Th.dual k G s i) {S' : Nat → Bool} (S0 : ∀ i, ¬ i < k → S i = false) (S1 : ∀ i, ¬ i < k → S' i = false) (e : ∀ i, i < k → S' i = !S i) : fam k G' S' = fam k G S := by
  have key : ∀ M : Nat → Bool, (∀ i, k ≤ i → M i = false) → (Th.Reach k G S M ↔ Th.Reach k G' S' (fun i => if i < k then !M i else false)) := fun M hM => by
    have ext : ∀ {K : Nat → Nat → Bool} {A B A' B' : Nat → Bool}, Th.Reach k K A B → (∀ i, i < k → A' i = A i) → (∀ i, i < k → B' i = B i) → (∀ i, ¬ i < k → B' i = A' i) → Th.Reach k K A' B' := fun {K A B A' B'} r h1 h2 h3 => by
      have gen : ∀ {B : Nat → Bool}, Th.Reach k K A B → ∀ B' : Nat → Bool, (∀ i, i < k → B' i = B i) → (∀ i, ¬ i < k → B' i = A' i) → Th.Reach k K A' B' := fun {B} r => by
        induction r with
        | refl =>
          intro B' b1 b2
          have : B' = A' := by
            funext i
            by_cases z : i < k
            · rw [b1 i z, h1 i z]
            · exact b2 i z
          rw [this]
          exact .refl _
        | @step U W r st ih =>
          intro B' b1 b2
          have ru := ih (fun i => if i < k then U i else A' i) (fun i hi => if_pos hi) (fun i hi => if_neg hi)
          have cU : cnt k (fun i => if i < k then U i else A' i) = cnt k U := cnt_congr fun i hi => if_pos hi
          cases st with
          | @up i hi hs hG =>
            have e : B' = Th.flip (fun i => if i < k then U i else A' i) i := by
              funext j
              by_cases z : j = i
              · rw [z, Th.flip_self, if_pos hi, b1 i hi, Th.flip_self]
              · rw [Th.flip_ne _ z]
                by_cases y : j < k
                · rw [if_pos y, b1 j y, Th.flip_ne _ z]
                · rw [if_neg y, b2 j y]
            rw [e]
            exact .step ru (.up hi (by rw [if_pos hi]; exact hs) (by rw [cU]; exact hG))
          | @dn i hi hs hG =>
            have e : B' = Th.flip (fun i => if i < k then U i else A' i) i := by
              funext j
              by_cases z : j = i
              · rw [z, Th.flip_self, if_pos hi, b1 i hi, Th.flip_self]
              · rw [Th.flip_ne _ z]
                by_cases y : j < k
                · rw [if_pos y, b1 j y, Th.flip_ne _ z]
                · rw [if_neg y, b2 j y]
            rw [e]
            exact .step ru (.dn hi (by rw [if_pos hi]; exact hs) (by rw [cU]; exact hG))
      exact gen r B' h2 h3
    constructor
    · intro r
      have r2 : Th.Reach k G' (Th.co S) (Th.co M) := r.dual.congr fun s i hs => (gt s i hs).symm
      exact ext r2 (fun i hi => e i hi) (fun i hi => by rw [if_pos hi]; rfl) (fun i hi => by rw [if_neg hi, S1 i hi])
    · intro r
      have r2 : Th.Reach k G' (Th.co S) (Th.co M) := ext r (fun i hi => by rw [e i hi]; rfl) (fun i hi => by rw [if_pos hi]; rfl) (fun i hi => by show (!M i) = (!S i); rw [S0 i hi, hM i (by omega)])
      exact (r2.congr fun s i hs => gt s i hs).codual
  have c := cf_co (k := k) (P := fun M => @decide (Th.Reach k G' S' (fun i => if i < k then M i else false)) (Classical.propDecidable _)) fun U V h => by
    have : (fun i => if i < k then U i else false) = fun i => if i < k then V i else false := by
      funext i
      by_cases z : i < k
      · rw [if_pos z, if_pos z, h i z]
      · rw [if_neg z, if_neg z]
    rw [this]
  have l : fam k G S = cf k (fun M => @decide (Th.Reach k G' S' (fun i => if i < k then Th.co M i else false)) (Classical.propDecidable _)) := cf_congr fun M hM => by
    rw [Bool.eq_iff_iff]
    exact Iff.trans (@decide_eq_true_iff _ (Classical.propDecidable _)) (Iff.trans (key M hM) (@decide_eq_true_iff _ (Classical.propDecidable _)).symm)
  rw [l, c]
  refine cf_congr fun M hM => ?_
  have : (fun i => if i < k then M i else false) = M := by
    funext i
    by_cases z : i < k
    · rw [if_pos z]
    · rw [if_neg z, hM i (by omega)]
  rw [this]
end
end Ct

namespace Th
/-- where all may go always, all is come to -/
theorem reach_any {k : Nat} {G : Nat → Nat → Bool} (g : ∀ s i, s < k → i < k → G s i = true) {S U : Nat → Bool} (ho : ∀ i, ¬ i < k → U i = S i) : Reach k G S U := by
  have key : ∀ n, n ≤ k → Reach k G S (fun i => if i < n then U i else S i) := fun n => by
    induction n with
    | zero =>
      intro _
      have : (fun i => if i < 0 then U i else S i) = S := by
        funext i
        rw [if_neg (by omega)]
      rw [this]
      exact .refl _
    | succ n ih =>
      intro hn
      have r := ih (by omega)
      by_cases e : U n = S n
      · have : (fun i => if i < n + 1 then U i else S i) = fun i => if i < n then U i else S i := by
          funext i
          by_cases z : i = n
          · rw [z, if_pos (by omega), if_neg (by omega), e]
          · by_cases y : i < n
            · rw [if_pos (by omega), if_pos y]
            · rw [if_neg (by omega), if_neg y]
        rw [this]
        exact r
      · have : (fun i => if i < n + 1 then U i else S i) = flip (fun i => if i < n then U i else S i) n := by
          funext i
          by_cases z : i = n
          · rw [z, flip_self, if_pos (by omega), if_neg (by omega)]
            revert e
            cases U n <;> cases S n <;> simp
          · rw [flip_ne _ z]
            by_cases y : i < n
            · rw [if_pos (by omega), if_pos y]
            · rw [if_neg (by omega), if_neg y]
        rw [this]
        generalize (fun i => if i < n then U i else S i) = V at r
        have ml := may_lt (k := k) (U := V) (i := n) (by omega)
        cases q : V n with
        | false =>
          rw [q, if_neg Bool.false_ne_true] at ml
          exact .step r (.up (by omega) q (g _ _ ml (by omega)))
        | true =>
          rw [q, if_pos rfl] at ml
          exact .step r (.dn (by omega) q (g _ _ ml (by omega)))
  have := key k (Nat.le_refl _)
  have e : (fun i => if i < k then U i else S i) = U := by
    funext i
    by_cases z : i < k
    · rw [if_pos z]
    · rw [if_neg z, ho i z]
  rw [e] at this
  exact this
end Th
namespace Sh
open PySem PySem.Spec PyProof.Rows L2
section
variable {h t h' t' : Int} {ds : List Int} {R R' : List (List Nat)} {L : List Nat}
theorem gof_deeper (hh : h ≤ h') (tt : t ≤ t') (s i : Nat) (g : Gof h t ds s i = true) : Gof h' t' ds s i = true := by
  unfold Gof at g ⊢
  rw [decide_eq_true_eq] at g ⊢
  unfold mk at g ⊢
  split at g <;> split <;> omega
/-- dredged there are no more lots -/
theorem trans_deeper (hh : h ≤ h') (tt : t ≤ t') (a : Trans h t ds R) (b : Trans h' t' ds R') : R'.length ≤ R.length := pigeon (rel := Rl h t ds) (fun M hM => a.all M (b.lot M hM)) (b.apart.imp fun n ⟨N, r1, r2⟩ => n (Th.Reach.mono (gof_deeper hh tt) (Th.Reach.trans r1 (Th.Reach.symm r2))))
theorem memO (hL : Lot ds.length L) (i : Nat) (hi : ¬ i < ds.length) : mem L i = false := decide_eq_false fun z => hi (hL.lt i z)
theorem fam_deeper (hh : h ≤ h') (tt : t ≤ t') : Ct.fam ds.length (Gof h t ds) (mem L) ≤ Ct.fam ds.length (Gof h' t' ds) (mem L) := Ct.fam_mono (gof_deeper hh tt)
/-- the others -/
def coL (k : Nat) (L : List Nat) : List Nat := lotOf k fun i => !mem L i
theorem coL_lot (k : Nat) (L : List Nat) : Lot k (coL k L) := lotOf_lot _ _
theorem coL_mem {k i : Nat} {L : List Nat} (hi : i < k) : mem (coL k L) i = !mem L i := lotOf_mem hi
theorem gof_tn (s i : Nat) (hs : s < ds.length) : Gof t h ds s i = Th.dual ds.length (Gof h t ds) s i := Gd_turn (h := h) (t := t) (D := fun i => ds.getD i 0) hs
theorem fam_coL (hL : Lot ds.length L) : Ct.fam ds.length (Gof t h ds) (mem (coL ds.length L)) = Ct.fam ds.length (Gof h t ds) (mem L) :=
  Ct.fam_turn (fun s i hs => gof_tn s i hs) (memO hL) (memO (coL_lot _ _)) fun i hi => coL_mem hi
theorem coL_coL (hL : Lot ds.length L) : coL ds.length (coL ds.length L) = L := lot_ext (lotOf_lot _ _) hL fun i hi => by rw [coL_mem hi, coL_mem hi, Bool.not_not]
theorem rl_co {M N : List Nat} (hM : Lot ds.length M) (hN : Lot ds.length N) (r : Rl h t ds M N) : Rl t h ds (coL ds.length M) (coL ds.length N) := by
  have r2 : Th.Reach ds.length (Gof t h ds) (Th.co (mem M)) (Th.co (mem N)) := (Th.Reach.dual r).congr fun s i hs => (gof_tn s i hs).symm
  obtain ⟨U, e⟩ : ∃ U, U = lotOf ds.length (Th.co (mem N)) := ⟨_, rfl⟩
  show Th.Reach _ _ (mem (coL ds.length M)) (mem (coL ds.length N))
  have gen : ∀ {B : Nat → Bool}, Th.Reach ds.length (Gof t h ds) (Th.co (mem M)) B → Th.Reach ds.length (Gof t h ds) (mem (coL ds.length M)) (mem (lotOf ds.length B)) := fun {B} r => by
    induction r with
    | refl => exact .refl _
    | @step U W r st ih =>
      have cU : Th.cnt ds.length (mem (lotOf ds.length U)) = Th.cnt ds.length U := Th.cnt_congr fun i hi => lotOf_mem hi
      have fl : ∀ {i : Nat}, i < ds.length → mem (lotOf ds.length (Th.flip U i)) = Th.flip (mem (lotOf ds.length U)) i := fun {i} hi => by
        funext j
        by_cases y : j < ds.length
        · rw [lotOf_mem y]
          by_cases z : j = i
          · rw [z, Th.flip_self, Th.flip_self, lotOf_mem hi]
          · rw [Th.flip_ne _ z, Th.flip_ne _ z, lotOf_mem y]
        · have z : j ≠ i := by omega
          rw [Th.flip_ne _ z, memO (lotOf_lot _ _) j y, memO (lotOf_lot _ _) j y]
      cases st with
      | @up i hi hs hG =>
        rw [fl hi]
        exact .step ih (.up hi (by rw [lotOf_mem hi]; exact hs) (by rw [cU]; exact hG))
      | @dn i hi hs hG =>
        rw [fl hi]
        exact .step ih (.dn hi (by rw [lotOf_mem hi]; exact hs) (by rw [cU]; exact hG))
  exact gen r2
theorem Trans.turn (a : Trans h t ds R) : Trans t h ds (R.map (coL ds.length)) := by
  refine ⟨fun M hM => ?_, fun M hM => ?_, ?_⟩
  · obtain ⟨N, _, rfl⟩ := List.mem_map.mp hM
    exact lotOf_lot _ _
  · obtain ⟨N, hN, r⟩ := a.all (coL ds.length M) (lotOf_lot _ _)
    have := rl_co (coL_lot _ _) (a.lot N hN) r
    rw [coL_coL hM] at this
    exact ⟨_, List.mem_map.mpr ⟨N, hN, rfl⟩, this⟩
  · refine List.pairwise_map.mpr (List.Pairwise.imp_of_mem (fun {M N} hM hN n r => n ?_) a.apart)
    have := rl_co (coL_lot _ _) (coL_lot _ _) r
    rw [coL_coL (a.lot M hM), coL_coL (a.lot N hN)] at this
    exact this
theorem Trans.nd (a : Trans h t ds R) : R.Nodup := a.apart.imp fun n e => n (by rw [e]; exact Th.Reach.refl _)
/-- no more lots than standings, one at least; with one of them whole no more than one beyond -/
theorem Trans.bounds (a : Trans h t ds R) (hL : Lot ds.length L) : 1 ≤ R.length ∧ R.length ≤ 2 ^ ds.length ∧ R.length + Ct.fam ds.length (Gof h t ds) (mem L) ≤ 2 ^ ds.length + 1 := by
  have one : 1 ≤ R.length := by
    obtain ⟨N, hN, _⟩ := a.all [] (Lot.nil _)
    exact List.length_pos_of_mem hN
  have F : ((allLots ds.length).filter fun M => @decide (Th.Reach ds.length (Gof h t ds) (mem L) (mem M)) (Classical.propDecidable _)).length = Ct.fam ds.length (Gof h t ds) (mem L) := cf_lots (P := fun U => @decide (Th.Reach ds.length (Gof h t ds) (mem L) U) (Classical.propDecidable _))
  generalize hF : ((allLots ds.length).filter fun M => @decide (Th.Reach ds.length (Gof h t ds) (mem L) (mem M)) (Classical.propDecidable _)) = Fl at F
  have mF : ∀ M, M ∈ Fl ↔ Lot ds.length M ∧ Rl h t ds L M := fun M => by
    rw [← hF, List.mem_filter]
    exact and_congr ⟨allLots_lot, lot_all⟩ (@decide_eq_true_iff _ (Classical.propDecidable _))
  have nF : Fl.Nodup := by rw [← hF]; exact (allLots_nd _).filter _
  have le : R.length ≤ 2 ^ ds.length := by
    rw [← allLots_len]
    exact nodup_len a.nd fun M hM => lot_all (a.lot M hM)
  refine ⟨one, le, ?_⟩
  obtain ⟨N0, hN0, r0⟩ := a.all L hL
  have nE : (R.erase N0 ++ Fl).Nodup := by
    refine List.nodup_append.mpr ⟨a.nd.erase N0, nF, fun x hx y hy e => ?_⟩
    subst e
    have xr := List.mem_of_mem_erase hx
    have ne : x ≠ N0 := fun z => by
      rw [z] at hx
      exact (List.Nodup.mem_erase_iff a.nd).mp hx |>.1 rfl
    have rx := ((mF x).mp hy).2
    have r1 : Rl h t ds x N0 := Th.Reach.trans (Th.Reach.symm rx) r0
    have sym : ∀ {M N : List Nat}, M ∈ R → N ∈ R → M ≠ N → ¬ Rl h t ds M N := fun {M N} hM hN hne r => by
      obtain ⟨i, hi, rfl⟩ := List.getElem_of_mem hM
      obtain ⟨j, hj, rfl⟩ := List.getElem_of_mem hN
      rcases Nat.lt_trichotomy i j with l | l | l
      · exact List.pairwise_iff_getElem.mp a.apart i j hi hj l r
      · subst l
        exact hne rfl
      · exact List.pairwise_iff_getElem.mp a.apart j i hj hi l (Th.Reach.symm r)
    exact sym xr hN0 ne r1
  have := nodup_len nE (m := allLots ds.length) fun M hM => by
    rcases List.mem_append.mp hM with z | z
    · exact lot_all (a.lot M (List.mem_of_mem_erase z))
    · exact lot_all ((mF M).mp z).1
  rw [List.length_append, List.length_erase_of_mem hN0, allLots_len, F] at this
  omega
/-- as deep as all draughts: all come to one another -/
theorem deep_all (g : ∀ s i, s < ds.length → i < ds.length → Gof h t ds s i = true) (hL : Lot ds.length L) (a : Trans h t ds R) : R.length = 1 ∧ Ct.fam ds.length (Gof h t ds) (mem L) = 2 ^ ds.length := by
  constructor
  · have one := (a.bounds hL).1
    match R, a, one with
    | [M], _, _ => rfl
    | M :: N :: R, a, _ =>
      have := (List.pairwise_cons.mp a.apart).1 N (.head _)
      exact absurd (Th.reach_any g fun i hi => by rw [memO (a.lot N (.tail _ (.head _))) i hi, memO (a.lot M (.head _)) i hi]) this
  · rw [← Ct.cf_all]
    refine Ct.cf_congr fun M hM => ?_
    exact @decide_eq_true _ (Classical.propDecidable _) (Th.reach_any g fun i hi => by rw [memO hL i hi, hM i (by omega)])
end
/-! ### a ship more that never goes -/
section
variable {h t d : Int} {ds : List Int} {L : List Nat}
theorem getD_app {i : Nat} (hi : i < ds.length) : (ds ++ [d]).getD i 0 = ds.getD i 0 := by
  rw [List.getD_eq_getElem?_getD, List.getElem?_append_left hi, ← List.getD_eq_getElem?_getD]
theorem getD_last : (ds ++ [d]).getD ds.length 0 = d := by simp
/-- the step to Gof of the great sea, its number of ships told otherwise -/
def Gg (h t d : Int) (ds : List Int) : Nat → Nat → Bool := fun s i => decide ((ds ++ [d]).getD i 0 ≤ mk h t (ds.length + 1) (s : Int))
theorem gg_here (s i : Nat) (hi : i < ds.length) : Gg h t d ds (s + 1) i = Gof (h + 1) t ds s i := by
  unfold Gg Gof
  refine decide_eq_decide.mpr ?_
  rw [getD_app hi]
  have e : mk h t (ds.length + 1) ((s + 1 : Nat) : Int) = mk (h + 1) t ds.length (s : Int) := by
    unfold mk
    split <;> split <;> omega
  rw [e]
theorem gg_there (s i : Nat) (hi : i < ds.length) : Gg h t d ds s i = Gof h (t + 1) ds s i := by
  unfold Gg Gof
  refine decide_eq_decide.mpr ?_
  rw [getD_app hi]
  have e : mk h t (ds.length + 1) (s : Int) = mk h (t + 1) ds.length (s : Int) := by
    unfold mk
    split <;> split <;> omega
  rw [e]
theorem gg_no (big : h + (ds.length : Int) < d) (d0 : 0 ≤ h ∧ 0 ≤ t) (s i : Nat) (hs : s < ds.length + 1) (hi : ¬ i < ds.length) (pos : i = ds.length) : Gg h t d ds s i = false := by
  unfold Gg
  refine decide_eq_false ?_
  rw [pos, getD_last]
  unfold mk
  split <;> omega
end
end Sh

namespace Th
theorem Reach.congrI {k : Nat} {G G' : Nat → Nat → Bool} {S U : Nat → Bool} (e : ∀ s i, i < k → G s i = G' s i) (r : Reach k G S U) : Reach k G' S U := by
  induction r with
  | refl => exact .refl _
  | step _ st ih =>
    cases st with
    | up hi hs hg => exact .step ih (.up hi hs (by rw [← e _ _ hi]; exact hg))
    | dn hi hs hg => exact .step ih (.dn hi hs (by rw [← e _ _ hi]; exact hg))
end Th
namespace Ct
theorem fam_congrI {k : Nat} {G G' : Nat → Nat → Bool} {S : Nat → Bool} (e : ∀ s i, i < k → G s i = G' s i) : fam k G S = fam k G' S := cf_congr fun M _ => by
  rw [Bool.eq_iff_iff]
  exact Iff.trans (@decide_eq_true_iff _ (Classical.propDecidable _)) (Iff.trans ⟨Th.Reach.congrI e, Th.Reach.congrI fun s i hi => (e s i hi).symm⟩ (@decide_eq_true_iff _ (Classical.propDecidable _)).symm)
end Ct
namespace Sh
open PySem PySem.Spec PyProof.Rows L2
section
variable {h t d : Int} {ds : List Int} {L M : List Nat} {R1 R2 : List (List Nat)}
def Gz (h t d : Int) (ds : List Int) : Nat → Nat → Bool := fun s i => Gg h t d ds s i && decide (i < ds.length + 1)
theorem gof_great : Gof h t (ds ++ [d]) = Gg h t d ds := by
  funext s i
  unfold Gof Gg
  rw [show (ds ++ [d]).length = ds.length + 1 by simp]
theorem gz_in (s i : Nat) (hi : i < ds.length + 1) : Gg h t d ds s i = Gz h t d ds s i := by
  unfold Gz
  rw [decide_eq_true hi, Bool.and_true]
theorem gz_here (s i : Nat) (hi : i < ds.length) : Gz h t d ds (s + 1) i = Gof (h + 1) t ds s i := by
  rw [← gz_in _ _ (by omega), gg_here s i hi]
theorem gz_there (s i : Nat) (hi : i < ds.length) : Gz h t d ds s i = Gof h (t + 1) ds s i := by
  rw [← gz_in _ _ (by omega), gg_there s i hi]
theorem gz_no (big : h + (ds.length : Int) < d) (d0 : 0 ≤ h ∧ 0 ≤ t) (s i : Nat) (hs : s < ds.length + 1) (hi : ¬ i < ds.length) : Gz h t d ds s i = false := by
  by_cases z : i = ds.length
  · rw [← gz_in _ _ (by omega)]
    exact gg_no big d0 s i hs hi z
  · unfold Gz
    rw [decide_eq_false (show ¬ i < ds.length + 1 by omega), Bool.and_false]
theorem mem_snoc (k : Nat) : mem (L ++ [k]) = Ct.put (mem L) k := by
  funext i
  unfold mem Ct.put
  by_cases z : i = k
  · rw [if_pos z, z]
    exact decide_eq_true (by simp)
  · rw [if_neg z]
    exact decide_eq_decide.mpr (by simp [z])
theorem lot_snoc {k : Nat} (hL : Lot k L) : Lot (k + 1) (L ++ [k]) := by
  refine ⟨List.pairwise_append.mpr ⟨hL.up, List.pairwise_singleton _ _, fun a ha b hb => ?_⟩, fun i hi => ?_⟩
  · rw [List.mem_singleton.mp hb]
    exact hL.lt a ha
  · rcases List.mem_append.mp hi with z | z
    · have := hL.lt i z
      omega
    · rw [List.mem_singleton.mp z]
      omega
theorem lot_wide {k : Nat} (hL : Lot k L) : Lot (k + 1) L := ⟨hL.up, fun i hi => Nat.lt_succ_of_lt (hL.lt i hi)⟩
theorem lot_last {k : Nat} (hM : Lot (k + 1) M) : Lot k M ∨ ∃ L, M = L ++ [k] ∧ Lot k L := by
  by_cases z : k ∈ M
  · right
    have hL : Lot k (lotOf k (mem M)) := lotOf_lot _ _
    refine ⟨_, lot_ext hM (lot_snoc hL) fun i hi => ?_, hL⟩
    rw [mem_snoc]
    by_cases y : i = k
    · rw [y, Ct.put_self]
      exact decide_eq_true z
    · rw [Ct.put_ne _ y, lotOf_mem (by omega)]
  · left
    refine ⟨hM.up, fun i hi => ?_⟩
    have := hM.lt i hi
    have : i ≠ k := fun e => z (e ▸ hi)
    omega
theorem great_here (big : h + (ds.length : Int) < d) (d0 : 0 ≤ h ∧ 0 ≤ t) (hL : Lot ds.length L) : Ct.fam (ds ++ [d]).length (Gof h t (ds ++ [d])) (mem (L ++ [ds.length])) = Ct.fam ds.length (Gof (h + 1) t ds) (mem L) := by
  rw [gof_great, mem_snoc, show (ds ++ [d]).length = ds.length + 1 by simp, Ct.fam_congrI gz_in]
  exact Ct.fam_here (fun s i hi => gz_here s i hi) (gz_no big d0) (memO hL)
theorem great_there (big : h + (ds.length : Int) < d) (d0 : 0 ≤ h ∧ 0 ≤ t) (hL : Lot ds.length L) : Ct.fam (ds ++ [d]).length (Gof h t (ds ++ [d])) (mem L) = Ct.fam ds.length (Gof h (t + 1) ds) (mem L) := by
  rw [gof_great, show (ds ++ [d]).length = ds.length + 1 by simp, Ct.fam_congrI gz_in]
  exact Ct.fam_there (fun s i hi => gz_there s i hi) (gz_no big d0) (memO hL)
theorem rl_great : Rl h t (ds ++ [d]) L M ↔ Th.Reach (ds.length + 1) (Gz h t d ds) (mem L) (mem M) := by
  unfold Rl
  rw [gof_great, show (ds ++ [d]).length = ds.length + 1 by simp]
  exact ⟨Th.Reach.congrI gz_in, Th.Reach.congrI fun s i hi => (gz_in s i hi).symm⟩
theorem rl_here (big : h + (ds.length : Int) < d) (d0 : 0 ≤ h ∧ 0 ≤ t) (hL : Lot ds.length L) (hM : Lot ds.length M) : Rl h t (ds ++ [d]) (L ++ [ds.length]) (M ++ [ds.length]) ↔ Rl (h + 1) t ds L M := by
  rw [rl_great, mem_snoc, mem_snoc, Ct.reach_here (fun s i hi => gz_here s i hi) (gz_no big d0) (memO hL)]
  constructor
  · rintro ⟨U, e, U0, r⟩
    have : mem M = U := by
      funext i
      by_cases z : i < ds.length
      · have := congrFun e i
        rw [Ct.put_ne _ (by omega), Ct.put_ne _ (by omega)] at this
        exact this
      · rw [memO hM i z, U0 i z]
    show Th.Reach _ _ _ (mem M)
    rw [this]
    exact r
  · exact fun r => ⟨_, rfl, memO hM, r⟩
theorem rl_there (big : h + (ds.length : Int) < d) (d0 : 0 ≤ h ∧ 0 ≤ t) (hL : Lot ds.length L) (hM : Lot ds.length M) : Rl h t (ds ++ [d]) L M ↔ Rl h (t + 1) ds L M := by
  rw [rl_great, Ct.reach_there (fun s i hi => gz_there s i hi) (gz_no big d0) (memO hL)]
  exact ⟨fun z => z.2, fun r => ⟨memO hM, r⟩⟩
theorem rl_cross (big : h + (ds.length : Int) < d) (d0 : 0 ≤ h ∧ 0 ≤ t) (hL : Lot ds.length L) : ¬ Rl h t (ds ++ [d]) L (M ++ [ds.length]) := by
  rw [rl_great, Ct.reach_there (fun s i hi => gz_there s i hi) (gz_no big d0) (memO hL)]
  intro z
  have := z.1 ds.length (by omega)
  rw [mem_snoc, Ct.put_self] at this
  cases this
/-- a ship more that never goes: the lots of both sides -/
theorem trans_great (big : h + (ds.length : Int) < d) (d0 : 0 ≤ h ∧ 0 ≤ t) (a : Trans (h + 1) t ds R1) (b : Trans h (t + 1) ds R2) : Trans h t (ds ++ [d]) (R2 ++ R1.map fun L => L ++ [ds.length]) := by
  have len : (ds ++ [d]).length = ds.length + 1 := by simp
  refine ⟨fun M hM => ?_, fun M hM => ?_, List.pairwise_append.mpr ⟨?_, ?_, ?_⟩⟩
  · rw [len]
    rcases List.mem_append.mp hM with z | z
    · exact lot_wide (b.lot M z)
    · obtain ⟨N, hN, rfl⟩ := List.mem_map.mp z
      exact lot_snoc (a.lot N hN)
  · rw [len] at hM
    rcases lot_last hM with z | ⟨L, rfl, z⟩
    · obtain ⟨N, hN, r⟩ := b.all M z
      exact ⟨N, List.mem_append_left _ hN, (rl_there big d0 z (b.lot N hN)).mpr r⟩
    · obtain ⟨N, hN, r⟩ := a.all L z
      exact ⟨_, List.mem_append_right _ (List.mem_map.mpr ⟨N, hN, rfl⟩), (rl_here big d0 z (a.lot N hN)).mpr r⟩
  · exact List.Pairwise.imp_of_mem (fun {M N} hM hN n r => n ((rl_there big d0 (b.lot M hM) (b.lot N hN)).mp r)) b.apart
  · exact List.pairwise_map.mpr (List.Pairwise.imp_of_mem (fun {M N} hM hN n r => n ((rl_here big d0 (a.lot M hM) (a.lot N hN)).mp r)) a.apart)
  · intro M hM N hN
    obtain ⟨N, hN', rfl⟩ := List.mem_map.mp hN
    exact rl_cross big d0 (b.lot M hM)
end
end Sh

namespace Sh
open PySem PySem.Spec PyProof.Rows L2
/-- how many lots of standings -/
def Fn (h t : Int) (ds : List Int) : Nat := famsN ds.length (topI h t ds.length).toNat (Gof h t ds)
/-- how many standings it comes to -/
noncomputable def Sz (h t : Int) (ds : List Int) (L : List Nat) : Nat := Ct.fam ds.length (Gof h t ds) (mem L)
section
variable {h t d m : Int} {ds : List Int} {L : List Nat}
theorem fn_of {R : List (List Nat)} (d0 : 0 < ds.length) (a : Trans h t ds R) : R.length = Fn h t ds := by
  obtain ⟨R', b, e⟩ := trans_ex (h := h) (t := t) d0
  rw [Trans.len a b, e]
  rfl
theorem fn_great (d0 : 0 < ds.length) (p : 0 ≤ h ∧ 0 ≤ t) (big : h + (ds.length : Int) < d) : Fn h t (ds ++ [d]) = Fn h (t + 1) ds + Fn (h + 1) t ds := by
  obtain ⟨R1, a, _⟩ := trans_ex (h := h + 1) (t := t) d0
  obtain ⟨R2, b, _⟩ := trans_ex (h := h) (t := t + 1) d0
  rw [← fn_of d0 a, ← fn_of d0 b, ← fn_of (by simp) (trans_great big p a b), List.length_append, List.length_map]
theorem fn_deeper {h' t' : Int} (d0 : 0 < ds.length) (hh : h ≤ h') (tt : t ≤ t') : Fn h' t' ds ≤ Fn h t ds := by
  obtain ⟨R1, a, _⟩ := trans_ex (h := h) (t := t) d0
  obtain ⟨R2, b, _⟩ := trans_ex (h := h') (t := t') d0
  rw [← fn_of d0 a, ← fn_of d0 b]
  exact trans_deeper hh tt a b
theorem fn_turn (d0 : 0 < ds.length) : Fn t h ds = Fn h t ds := by
  obtain ⟨R, a, _⟩ := trans_ex (h := h) (t := t) d0
  rw [← fn_of d0 a, ← fn_of d0 a.turn, List.length_map]
theorem sz_turn (hL : Lot ds.length L) : Sz t h ds (away ds.length L) = Sz h t ds L := fam_coL hL
theorem fn_bounds (d0 : 0 < ds.length) (hL : Lot ds.length L) : 1 ≤ Fn h t ds ∧ Fn h t ds ≤ 2 ^ ds.length ∧ Fn h t ds + Sz h t ds L ≤ 2 ^ ds.length + 1 := by
  obtain ⟨R, a, _⟩ := trans_ex (h := h) (t := t) d0
  rw [← fn_of d0 a]
  exact a.bounds hL
theorem fn_deep (d0 : 0 < ds.length) (p : 0 ≤ h ∧ 0 ≤ t) (hm : ∀ x ∈ ds, x ≤ m) (hL : Lot ds.length L) : Fn (h + m) (t + m) ds = 1 ∧ Sz (h + m) (t + m) ds L = 2 ^ ds.length := by
  obtain ⟨R, a, _⟩ := trans_ex (h := h + m) (t := t + m) d0
  rw [← fn_of d0 a]
  refine deep_all (fun s i hs hi => ?_) hL a
  unfold Gof
  refine decide_eq_true ?_
  have e : ds.getD i 0 ≤ m := by
    rw [List.getD_eq_getElem?_getD, List.getElem?_eq_getElem hi]
    exact hm _ (List.getElem_mem hi)
  unfold mk
  split <;> omega
end
end Sh

namespace Th
/-- a standing told by an order of the ships -/
def told (k : Nat) (o : Nat → Nat) (S : Nat → Bool) : Nat → Bool := fun j => decide (j < k) && S (o j)
/-- an order of all ships below k -/
structure Pm (k : Nat) (o : Nat → Nat) : Prop where
  inj : ∀ i, i < k → ∃ j, j < k ∧ o j = i ∧ ∀ j', j' < k → o j' = i → j' = j
  ce : ∀ S : Nat → Bool, cnt k (fun j => S (o j)) = cnt k S
theorem Reach.ren {k : Nat} {G G' : Nat → Nat → Bool} {S U : Nat → Bool} {o : Nat → Nat} (P : Pm k o) (gs : ∀ s j, j < k → G' s j = G s (o j)) (r : Reach k G S U) : Reach k G' (told k o S) (told k o U) := by
  have ct : ∀ S, cnt k (told k o S) = cnt k S := fun S => by
    rw [← P.ce S]
    exact cnt_congr fun j hj => by unfold told; rw [decide_eq_true hj, Bool.true_and]
  have fl : ∀ (S : Nat → Bool) i j, j < k → o j = i → (∀ j', j' < k → o j' = i → j' = j) → told k o (flip S i) = flip (told k o S) j := fun S i j hj e un => by
    funext x
    by_cases z : x = j
    · subst z
      rw [flip_self]
      unfold told
      rw [decide_eq_true hj, Bool.true_and, Bool.true_and, e, flip_self]
    · rw [flip_ne _ z]
      unfold told
      by_cases c : x < k
      · rw [flip_ne _ fun y => z (un x c y)]
      · rw [decide_eq_false c, Bool.false_and, Bool.false_and]
  induction r with
  | refl => exact .refl _
  | step _ st ih =>
    cases st with
    | @up i hi hs hg =>
      obtain ⟨j, hj, e, un⟩ := P.inj i hi
      rw [fl _ i j hj e un]
      refine .step ih (.up hj ?_ ?_)
      · unfold told
        rw [e, hs, Bool.and_false]
      · rw [ct, gs _ _ hj, e]
        exact hg
    | @dn i hi hs hg =>
      obtain ⟨j, hj, e, un⟩ := P.inj i hi
      rw [fl _ i j hj e un]
      refine .step ih (.dn hj ?_ ?_)
      · unfold told
        rw [decide_eq_true hj, e, hs]
        rfl
      · rw [ct, gs _ _ hj, e]
        exact hg
end Th
namespace Sh
open PySem PySem.Spec PyProof.Rows L2
theorem perm_natP {ys : List Int} {c : Nat} (h : ys.Perm ((List.range c).map fun (i : Nat) => (i : Int))) : ∃ os : List Nat, ys = os.map (fun (i : Nat) => (i : Int)) ∧ OrdN c os ∧ os.Perm (List.range c) := by
  obtain ⟨os, e, O⟩ := perm_nat h
  refine ⟨os, e, O, ?_⟩
  rw [e] at h
  exact map_inj h
theorem range_getD (os : List Nat) : (List.range os.length).map (fun j => os.getD j 0) = os := by
  refine List.ext_getElem (by simp) fun i h1 h2 => ?_
  rw [List.getElem_map, List.getElem_range, getD_at h2]
section
variable {h t : Int} {ds : List Int} {L M : List Nat} {os : List Nat} {c : Nat}
theorem pm_idx (O : OrdN c os) (p : os.Perm (List.range c)) {j : Nat} (hj : j < c) : os.idxOf (os.getD j 0) = j := by
  have nd : os.Nodup := p.nodup_iff.mpr List.nodup_range
  have hl : j < os.length := by rw [O.len]; exact hj
  rw [getD_at hl]
  exact nd.idxOf_getElem j hl
theorem pm_of (O : OrdN c os) (p : os.Perm (List.range c)) : Th.Pm c (fun j => os.getD j 0) := by
  refine ⟨fun i hi => ?_, fun S => ?_⟩
  · obtain ⟨hx, e⟩ := O.idx hi
    refine ⟨os.idxOf i, by rw [← O.len]; exact hx, ?_, fun j' hj' e' => ?_⟩
    · exact (getD_at hx).trans e
    · have := pm_idx O p hj'
      rw [e'] at this
      exact this.symm
  · unfold Th.cnt
    have e := p.countP_eq S
    rw [← e]
    have : (List.range c).countP (fun j => S (os.getD j 0)) = ((List.range c).map fun j => os.getD j 0).countP S := by
      rw [List.countP_map]
      rfl
    rw [this, ← O.len, range_getD]
theorem pm_back (O : OrdN c os) (p : os.Perm (List.range c)) : Th.Pm c (fun j => (backN c os).getD j 0) := by
  have P := pm_of O p
  refine ⟨fun i hi => ?_, fun S => ?_⟩
  · have hl : i < os.length := by rw [O.len]; exact hi
    have lt : os[i] < c := O.lt _ (List.getElem_mem hl)
    refine ⟨os[i], lt, ?_, fun j' hj' e' => ?_⟩
    · show (backN c os).getD os[i] 0 = i
      rw [backN_at lt]
      have := pm_idx O p hi
      rw [getD_at hl] at this
      exact this
    · rw [backN_at hj'] at e'
      obtain ⟨hx, e⟩ := O.idx hj'
      rw [← e]
      exact getElem_congr_idx e'
  · rw [← P.ce fun j => S ((backN c os).getD j 0)]
    refine Th.cnt_congr fun j hj => ?_
    have hl : j < os.length := by rw [O.len]; exact hj
    have lt : os.getD j 0 < c := by rw [getD_at hl]; exact O.lt _ (List.getElem_mem hl)
    show S ((backN c os).getD (os.getD j 0) 0) = S j
    rw [backN_at lt, pm_idx O p hj]
theorem mem_ren {qs : List Nat} (e : qs.length = c) : mem (renS qs L) = Th.told c (fun j => qs.getD j 0) (mem L) := by
  funext j
  unfold mem Th.told
  rw [Bool.eq_iff_iff, Bool.and_eq_true, decide_eq_true_eq, decide_eq_true_eq, decide_eq_true_eq, mem_renS, e]
theorem rl_of {qs : List Nat} (e : qs.length = ds.length) (P : Th.Pm ds.length (fun j => qs.getD j 0)) (r : Rl h t ds L M) : Rl h t (pickD ds qs) (renS qs L) (renS qs M) := by
  unfold Rl
  rw [pickD_len, e, mem_ren e, mem_ren e]
  refine Th.Reach.ren P (fun s j hj => ?_) r
  unfold Gof
  have e2 : (pickD ds qs).getD j 0 = ds.getD (qs.getD j 0) 0 := by rw [pickD_at (by rw [e]; exact hj), getD_at (l := qs) (by rw [e]; exact hj)]
  have e3 : (pickD ds qs).length = ds.length := by rw [pickD_len, e]
  rw [e2, e3]
theorem rl_ren (O : OrdN ds.length os) (p : os.Perm (List.range ds.length)) (hL : Lot ds.length L) (hM : Lot ds.length M) : Rl h t (pickD ds os) (renS os L) (renS os M) ↔ Rl h t ds L M := by
  refine ⟨fun r => ?_, rl_of O.len (pm_of O p)⟩
  have lp : (pickD ds os).length = ds.length := by rw [pickD_len, O.len]
  have := rl_of (qs := backN ds.length os) (by rw [backN_len, lp]) (by rw [lp]; exact pm_back O p) r
  rw [pick_back O, renS_back O hL, renS_back O hM] at this
  exact this
theorem ren_ren (O : OrdN c os) (p : os.Perm (List.range c)) (hM : Lot c M) : renS os (renS (backN c os) M) = M := by
  refine up_eq (renS_up _ _) hM.up fun j => ?_
  have key : ∀ j, j < c → (os.getD j 0 ∈ renS (backN c os) M ↔ j ∈ M) := fun j hj => by
    have hl : j < os.length := by rw [O.len]; exact hj
    have lt : os.getD j 0 < c := by rw [getD_at hl]; exact O.lt _ (List.getElem_mem hl)
    rw [mem_renS, backN_len, backN_at lt, pm_idx O p hj]
    exact ⟨fun z => z.2, fun z => ⟨lt, z⟩⟩
  rw [mem_renS, O.len]
  exact ⟨fun ⟨a, b⟩ => (key j a).mp b, fun z => ⟨hM.lt j z, (key j (hM.lt j z)).mpr z⟩⟩
theorem ren_lot (O : OrdN c os) : Lot c (renS os L) := by
  have := renS_lot os L
  rw [O.len] at this
  exact this
theorem back_lot : Lot c (renS (backN c os) M) := by
  have := renS_lot (backN c os) M
  rw [backN_len] at this
  exact this
theorem ren_inj (O : OrdN c os) (hL : Lot c L) (hM : Lot c M) (e : renS os L = renS os M) : L = M := by
  rw [← renS_back O hL, ← renS_back O hM, e]
theorem sz_ren (O : OrdN ds.length os) (p : os.Perm (List.range ds.length)) (hL : Lot ds.length L) : Sz h t (pickD ds os) (renS os L) = Sz h t ds L := by
  have lp : (pickD ds os).length = ds.length := by rw [pickD_len, O.len]
  generalize eF : (allLots ds.length).filter (fun M => @decide (Rl h t ds L M) (Classical.propDecidable _)) = F
  have mF : ∀ M, M ∈ F ↔ Lot ds.length M ∧ Rl h t ds L M := fun M => by
    rw [← eF, List.mem_filter]
    exact and_congr ⟨allLots_lot, lot_all⟩ (@decide_eq_true_iff _ (Classical.propDecidable _))
  have nF : F.Nodup := by rw [← eF]; exact (allLots_nd _).filter _
  have a : F.length = Sz h t ds L := fam_len nF mF
  have b : (F.map (renS os)).length = Sz h t (pickD ds os) (renS os L) := by
    refine fam_len ?_ fun M' => ?_
    · exact List.pairwise_map.mpr (List.Pairwise.imp_of_mem (fun {x y} hx hy n e => n (ren_inj O ((mF x).mp hx).1 ((mF y).mp hy).1 e)) nF)
    · rw [List.mem_map, lp]
      constructor
      · rintro ⟨M, hM, rfl⟩
        obtain ⟨l, r⟩ := (mF M).mp hM
        exact ⟨ren_lot O, (rl_ren O p hL l).mpr r⟩
      · rintro ⟨l, r⟩
        refine ⟨renS (backN ds.length os) M', (mF _).mpr ⟨back_lot, ?_⟩, ren_ren O p l⟩
        rw [← ren_ren O p l] at r
        exact (rl_ren O p hL back_lot).mp r
  rw [← a, ← b, List.length_map]
theorem trans_ren {R : List (List Nat)} (O : OrdN ds.length os) (p : os.Perm (List.range ds.length)) (a : Trans h t ds R) : Trans h t (pickD ds os) (R.map (renS os)) := by
  have lp : (pickD ds os).length = ds.length := by rw [pickD_len, O.len]
  refine ⟨fun M' hM' => ?_, fun M' hM' => ?_, ?_⟩
  · obtain ⟨M, hM, rfl⟩ := List.mem_map.mp hM'
    rw [lp]
    exact ren_lot O
  · rw [lp] at hM'
    obtain ⟨N, hN, r⟩ := a.all (renS (backN ds.length os) M') back_lot
    refine ⟨_, List.mem_map.mpr ⟨N, hN, rfl⟩, ?_⟩
    have := (rl_ren O p back_lot (a.lot N hN)).mpr r
    rw [ren_ren O p hM'] at this
    exact this
  · exact List.pairwise_map.mpr (List.Pairwise.imp_of_mem (fun {M N} hM hN n r => n ((rl_ren O p (a.lot M hM) (a.lot N hN)).mp r)) a.apart)
theorem fn_ren (d0 : 0 < ds.length) (O : OrdN ds.length os) (p : os.Perm (List.range ds.length)) : Fn h t (pickD ds os) = Fn h t ds := by
  obtain ⟨R, a, _⟩ := trans_ex (h := h) (t := t) d0
  rw [← fn_of d0 a, ← fn_of (by rw [pickD_len, O.len]; exact d0) (trans_ren O p a), List.length_map]
end
/-! ### lots of one size -/
section
variable {h t : Int} {ds : List Int} {L M : List Nat} {R : List (List Nat)}
theorem sz_along (r : Rl h t ds L M) : Sz h t ds L = Sz h t ds M := by
  unfold Sz Ct.fam
  refine Ct.cf_congr fun U _ => ?_
  rw [Bool.eq_iff_iff]
  refine Iff.trans (@decide_eq_true_iff _ (Classical.propDecidable _)) (Iff.trans ⟨fun x => Th.Reach.trans (Th.Reach.symm r) x, fun x => Th.Reach.trans r x⟩ (@decide_eq_true_iff _ (Classical.propDecidable _)).symm)
theorem sz_pos (hL : Lot ds.length L) : 0 < Sz h t ds L := by
  have e := fam_len (h := h) (t := t) (ds := ds) (L := L) (F := (allLots ds.length).filter (fun M => @decide (Rl h t ds L M) (Classical.propDecidable _))) ((allLots_nd _).filter _) fun M => by
    rw [List.mem_filter]
    exact and_congr ⟨allLots_lot, lot_all⟩ (@decide_eq_true_iff _ (Classical.propDecidable _))
  show 0 < Ct.fam ds.length (Gof h t ds) (mem L)
  rw [← e]
  exact List.length_pos_of_mem (List.mem_filter.mpr ⟨lot_all hL, (@decide_eq_true_iff _ (Classical.propDecidable _)).mpr (Th.Reach.refl _)⟩)
theorem filter_or {α : Type} (p q : α → Bool) : ∀ {l : List α}, (∀ x ∈ l, p x = true → q x = true → False) → (l.filter fun x => p x || q x).length = (l.filter p).length + (l.filter q).length
  | [], _ => rfl
  | x :: l, dj => by
    have ih := filter_or p q (l := l) fun y hy => dj y (List.mem_cons_of_mem _ hy)
    have d := dj x List.mem_cons_self
    rw [List.filter_cons, List.filter_cons, List.filter_cons]
    cases a : p x <;> cases b : q x <;> simp [ih, a, b] at d ⊢ <;> omega
theorem filter_none {α : Type} {p : α → Bool} {l : List α} (h : ∀ x ∈ l, p x = false) : (l.filter p).length = 0 := by
  rw [List.filter_eq_nil_iff.mpr fun x hx => by rw [h x hx]; exact Bool.false_ne_true]
  rfl
/-- lots of the size m that come to some of R -/
theorem count_of (m : Nat) : ∀ {R : List (List Nat)}, (∀ M ∈ R, Lot ds.length M) → R.Pairwise (fun M N => ¬ Rl h t ds M N) →
    ((allLots ds.length).filter fun L => decide (Sz h t ds L = m) && @decide (∃ N ∈ R, Rl h t ds L N) (Classical.propDecidable _)).length = m * (R.filter fun N => decide (Sz h t ds N = m)).length
  | [], _, _ => by
    rw [filter_none fun x _ => ?_]
    · rfl
    · rw [@decide_eq_false _ (Classical.propDecidable _) (fun ⟨N, hN, _⟩ => by cases hN), Bool.and_false]
  | N :: R, lot, ap => by
    obtain ⟨a1, a2⟩ := List.pairwise_cons.mp ap
    have ih := count_of m (R := R) (fun M hM => lot M (List.mem_cons_of_mem _ hM)) a2
    have lN := lot N List.mem_cons_self
    have e : ∀ L ∈ allLots ds.length, (decide (Sz h t ds L = m) && @decide (∃ N' ∈ N :: R, Rl h t ds L N') (Classical.propDecidable _)) = ((decide (Sz h t ds L = m) && @decide (Rl h t ds L N) (Classical.propDecidable _)) || (decide (Sz h t ds L = m) && @decide (∃ N ∈ R, Rl h t ds L N) (Classical.propDecidable _))) := fun L _ => by
      rw [← Bool.and_or_distrib_left]
      congr 1
      rw [Bool.eq_iff_iff, Bool.or_eq_true]
      refine Iff.trans (@decide_eq_true_iff _ (Classical.propDecidable _)) (Iff.trans ?_ (or_congr (@decide_eq_true_iff _ (Classical.propDecidable _)).symm (@decide_eq_true_iff _ (Classical.propDecidable _)).symm))
      constructor
      · rintro ⟨N', hN', r⟩
        rcases List.mem_cons.mp hN' with z | z
        · rw [z] at r
          exact .inl r
        · exact .inr ⟨N', z, r⟩
      · rintro (r | ⟨N', hN', r⟩)
        · exact ⟨N, List.mem_cons_self, r⟩
        · exact ⟨N', List.mem_cons_of_mem _ hN', r⟩
    rw [List.filter_congr e, filter_or, ih]
    · rw [List.filter_cons]
      have cls : ((allLots ds.length).filter (fun M => @decide (Rl h t ds N M) (Classical.propDecidable _))).length = Sz h t ds N := fam_len ((allLots_nd _).filter _) fun M => by
        rw [List.mem_filter]
        exact and_congr ⟨allLots_lot, lot_all⟩ (@decide_eq_true_iff _ (Classical.propDecidable _))
      by_cases z : Sz h t ds N = m
      · rw [if_pos (decide_eq_true z), List.length_cons, Nat.mul_succ, Nat.add_comm]
        congr 1
        rw [← z, ← cls]
        refine congrArg List.length (List.filter_congr fun L _ => ?_)
        rw [cls, Bool.eq_iff_iff, Bool.and_eq_true]
        refine Iff.trans (and_congr decide_eq_true_iff (@decide_eq_true_iff _ (Classical.propDecidable _))) (Iff.trans ?_ (@decide_eq_true_iff _ (Classical.propDecidable _)).symm)
        exact ⟨fun x => Th.Reach.symm x.2, fun x => ⟨(sz_along x).symm, Th.Reach.symm x⟩⟩
      · rw [if_neg (by simpa using z), filter_none fun L _ => ?_, Nat.zero_add]
        by_cases y : Sz h t ds L = m
        · rw [@decide_eq_false _ (Classical.propDecidable _) (fun r => z ((sz_along r).symm.trans y)), Bool.and_false]
        · rw [decide_eq_false y, Bool.false_and]
    · intro L _ x y
      rw [Bool.and_eq_true] at x y
      have r1 := (@decide_eq_true_iff _ (Classical.propDecidable _)).mp x.2
      obtain ⟨N', hN', r2⟩ := (@decide_eq_true_iff _ (Classical.propDecidable _)).mp y.2
      exact a1 N' hN' (Th.Reach.trans (Th.Reach.symm r1) r2)
theorem count_size (a : Trans h t ds R) (m : Nat) : ((allLots ds.length).filter fun L => decide (Sz h t ds L = m)).length = m * (R.filter fun N => decide (Sz h t ds N = m)).length := by
  rw [← count_of m a.lot a.apart]
  refine congrArg List.length (List.filter_congr fun L hL => ?_)
  rw [(@decide_eq_true_iff _ (Classical.propDecidable _)).mpr (a.all L (allLots_lot hL)), Bool.and_true]
theorem sum_sizes {α : Type} {f : α → Nat} : ∀ {ms : List Nat} {R : List α}, ms.Nodup → (∀ N ∈ R, f N ∈ ms) → (ms.map fun m => (R.filter fun N => decide (f N = m)).length).sum = R.length
  | [], [], _, _ => rfl
  | [], N :: R, _, h => absurd (h N List.mem_cons_self) List.not_mem_nil
  | m :: ms, R, nd, h => by
    obtain ⟨n1, n2⟩ := List.nodup_cons.mp nd
    have ih := sum_sizes (f := f) (ms := ms) (R := R.filter fun N => !decide (f N = m)) n2 fun N hN => by
      obtain ⟨a, b⟩ := List.mem_filter.mp hN
      rcases List.mem_cons.mp (h N a) with z | z
      · rw [decide_eq_true z] at b
        cases b
      · exact z
    have e : ∀ m' ∈ ms, ((R.filter fun N => !decide (f N = m)).filter fun N => decide (f N = m')).length = (R.filter fun N => decide (f N = m')).length := fun m' hm' => by
      rw [List.filter_filter]
      refine congrArg List.length (List.filter_congr fun N _ => ?_)
      by_cases z : f N = m'
      · rw [decide_eq_true z, decide_eq_false (fun y => n1 (by rw [← y, z]; exact hm'))]
        rfl
      · rw [decide_eq_false z, Bool.false_and]
    rw [List.map_cons, List.sum_cons, ← List.map_congr_left e, ih]
    have := filter_or (fun N => decide (f N = m)) (fun N => !decide (f N = m)) (l := R) fun x _ p q => by rw [p] at q; cases q
    rw [← this]
    refine congrArg List.length (List.filter_eq_self.mpr fun N _ => ?_)
    cases decide (f N = m) <;> rfl
/-- few sizes: nodup ones above 0 whose sum is at most 128 -/
theorem few_sizes : ∀ {ms : List Nat}, ms.Nodup → (∀ m ∈ ms, 0 < m) → ms.sum ≤ 128 → ms.length < 64 := fun {ms} nd p s => by
  have key : ∀ ms : List Nat, 3 * ms.length ≤ ms.sum + 3 * (ms.filter fun m => decide (m ≤ 2)).length := fun ms => by
    induction ms with
    | nil => exact Nat.le_refl _
    | cons m ms ih =>
      rw [List.length_cons, List.sum_cons, List.filter_cons]
      by_cases z : m ≤ 2
      · rw [if_pos (decide_eq_true z), List.length_cons]
        omega
      · rw [if_neg (by simpa using z)]
        omega
  have two : (ms.filter fun m => decide (m ≤ 2)).length ≤ [1, 2].length := nodup_len (nd.filter _) fun m hm => by
    obtain ⟨a, b⟩ := List.mem_filter.mp hm
    have := p m a
    have : m ≤ 2 := of_decide_eq_true b
    have : m = 1 ∨ m = 2 := by omega
    simpa using this
  have := key ms
  have : [1, 2].length = 2 := rfl
  omega
end
end Sh
namespace Sh
open PySem PySem.Spec PyProof.Rows L2
section
variable {h t : Int} {ds : List Int} {L M : List Nat} {R : List (List Nat)}
/-- the sizes of all lots -/
noncomputable def zsOf (h t : Int) (ds : List Int) : List Int := (allLots ds.length).map fun L => ((Sz h t ds L : Nat) : Int)
theorem zs_len : (zsOf h t ds).length = 2 ^ ds.length := by
  unfold zsOf
  rw [List.length_map, allLots_len]
theorem zs_mem {z : Int} : z ∈ zsOf h t ds ↔ ∃ L, Lot ds.length L ∧ z = ((Sz h t ds L : Nat) : Int) := by
  unfold zsOf
  rw [List.mem_map]
  exact ⟨fun ⟨L, hL, e⟩ => ⟨L, allLots_lot hL, e.symm⟩, fun ⟨L, hL, e⟩ => ⟨L, lot_all hL, e.symm⟩⟩
theorem zs_count (m : Nat) : (zsOf h t ds).count (m : Int) = ((allLots ds.length).filter fun L => decide (Sz h t ds L = m)).length := by
  unfold zsOf
  rw [List.count_eq_countP, List.countP_map, List.countP_eq_length_filter]
  refine congrArg List.length (List.filter_congr fun L _ => ?_)
  show (((Sz h t ds L : Nat) : Int) == (m : Int)) = decide (Sz h t ds L = m)
  rw [Bool.eq_iff_iff, beq_iff_eq, decide_eq_true_eq]
  omega
theorem nats_of {ks : List Int} (p : ∀ k ∈ ks, 0 ≤ k) : ∃ ms : List Nat, ks = ms.map (fun (m : Nat) => (m : Int)) := by
  refine ⟨ks.map Int.toNat, ?_⟩
  rw [List.map_map]
  have e : ∀ k ∈ ks, ((fun (m : Nat) => (m : Int)) ∘ Int.toNat) k = id k := fun k hk => by
    have := p k hk
    show ((k.toNat : Nat) : Int) = k
    omega
  rw [List.map_congr_left e, List.map_id]
theorem cast_nd {ms : List Nat} (n : (ms.map (fun (m : Nat) => (m : Int))).Nodup) : ms.Nodup := (List.pairwise_map.mp n).imp fun a e => a (by rw [e])
/-- how many of R have that size -/
noncomputable def szN (h t : Int) (ds : List Int) (R : List (List Nat)) (m : Nat) : Nat := (R.filter fun N => decide (Sz h t ds N = m)).length
theorem sizes_few (a : Trans h t ds R) (c7 : ds.length ≤ 7) {ks : List Int} (kn : ks.Nodup) (km : ∀ k, k ∈ ks ↔ k ∈ zsOf h t ds) : ks.length < 64 := by
  obtain ⟨ms, rfl⟩ := nats_of (ks := ks) fun k hk => by
    obtain ⟨L, _, rfl⟩ := zs_mem.mp ((km k).mp hk)
    omega
  have nd := cast_nd kn
  have mm : ∀ m ∈ ms, ∃ L, Lot ds.length L ∧ m = Sz h t ds L := fun m hm => by
    obtain ⟨L, hL, e⟩ := zs_mem.mp ((km (m : Int)).mp (List.mem_map.mpr ⟨m, hm, rfl⟩))
    exact ⟨L, hL, by omega⟩
  rw [List.length_map]
  refine few_sizes nd (fun m hm => ?_) ?_
  · obtain ⟨L, hL, e⟩ := mm m hm
    have := sz_pos (h := h) (t := t) hL
    omega
  · have s := sum_sizes (f := Sz h t ds) (ms := ms) (R := allLots ds.length) nd fun L hL => by
      have z : ((Sz h t ds L : Nat) : Int) ∈ ms.map (fun (m : Nat) => (m : Int)) := (km _).mpr (zs_mem.mpr ⟨L, allLots_lot hL, rfl⟩)
      obtain ⟨m, hm, e⟩ := List.mem_map.mp z
      have : m = Sz h t ds L := by omega
      rw [← this]
      exact hm
    rw [allLots_len] at s
    have p7 : 2 ^ ds.length ≤ 128 := Nat.le_trans (Nat.pow_le_pow_right (by decide) c7) (by decide)
    refine Nat.le_trans ?_ (Nat.le_trans (Nat.le_of_eq s) p7)
    have key : ∀ l : List Nat, (∀ m ∈ l, m ∈ ms) → l.sum ≤ (l.map fun m => ((allLots ds.length).filter fun N => decide (Sz h t ds N = m)).length).sum := fun l => by
      induction l with
      | nil => intro _; exact Nat.le_refl _
      | cons m l ih =>
        intro hl
        have := ih fun m' h' => hl m' (List.mem_cons_of_mem _ h')
        rw [List.map_cons, List.sum_cons, List.sum_cons]
        obtain ⟨L, hL, e⟩ := mm m (hl m List.mem_cons_self)
        have c := count_size a m
        have p : 0 < ((allLots ds.length).filter fun N => decide (Sz h t ds N = m)).length := List.length_pos_of_mem (List.mem_filter.mpr ⟨lot_all hL, decide_eq_true e.symm⟩)
        have : m ≤ ((allLots ds.length).filter fun N => decide (Sz h t ds N = m)).length := by
          rw [c] at p ⊢
          exact Nat.le_mul_of_pos_right _ (Nat.pos_of_mul_pos_left p)
        omega
    exact key ms fun m hm => hm
theorem sz_le (hL : Lot ds.length L) : Sz h t ds L ≤ 2 ^ ds.length := by
  have e := fam_len (h := h) (t := t) (ds := ds) (L := L) (F := (allLots ds.length).filter (fun M => @decide (Rl h t ds L M) (Classical.propDecidable _))) ((allLots_nd _).filter _) fun M => by
    rw [List.mem_filter]
    exact and_congr ⟨allLots_lot, lot_all⟩ (@decide_eq_true_iff _ (Classical.propDecidable _))
  show Ct.fam ds.length (Gof h t ds) (mem L) ≤ _
  rw [← e, ← allLots_len]
  exact List.length_filter_le _ _
theorem range_filter {α : Type} (d : α) (q : α → Bool) (l : List α) : ((List.range l.length).filter fun j => q (l.getD j d)).length = (l.filter q).length := by
  have e : (List.range l.length).map (fun j => l.getD j d) = l := by
    refine List.ext_getElem (by simp) fun i h1 h2 => ?_
    rw [List.getElem_map, List.getElem_range, getD_at h2]
  have : l.filter q = ((List.range l.length).filter fun j => q (l.getD j d)).map fun j => l.getD j d := by
    conv => lhs; rw [← e]
    rw [List.filter_map]
    rfl
  rw [this, List.length_map]
/-- the places of those that a lot comes to -/
noncomputable def matesOf (h t : Int) (ds : List Int) (L : List Nat) (i : Nat) : List Nat := (List.range i).filter fun j => @decide (Rl h t ds L ((allLots ds.length).getD j [])) (Classical.propDecidable _)
theorem mates_len : (matesOf h t ds L (2 ^ ds.length)).length = Sz h t ds L := by
  unfold matesOf
  rw [← allLots_len, range_filter [] (fun M => @decide (Rl h t ds L M) (Classical.propDecidable _))]
  refine fam_len ((allLots_nd _).filter _) fun M => ?_
  rw [List.mem_filter]
  exact and_congr ⟨allLots_lot, lot_all⟩ (@decide_eq_true_iff _ (Classical.propDecidable _))
theorem mates_mem {i j : Nat} : j ∈ matesOf h t ds L i ↔ j < i ∧ Rl h t ds L ((allLots ds.length).getD j []) := by
  unfold matesOf
  rw [List.mem_filter, List.mem_range]
  exact and_congr Iff.rfl (@decide_eq_true_iff _ (Classical.propDecidable _))
end
end Sh

namespace Sh
open PySem PySem.Spec PyProof.Rows L2
/-! ### the program: kinds of things, of any data -/
def isNumD : PyData → Bool
  | .int i => decide (0 ≤ i)
  | _ => false
def isTupD (n : Nat) : PyData → Bool
  | .tuple ds => decide (ds.length = n)
  | _ => false
def spIsNum (K : PySem.W.Frag) : Sp := fun vs H Q _ => ∃ (v : V) (d : PyData), vs = [v] ∧ Dp K H v d ∧ Q (.bl (isNumD d)) H
def spIsTup (K : PySem.W.Frag) : Sp := fun vs H Q _ => ∃ (v : V) (d : PyData) (n : Nat), vs = [v, .int (n : Int)] ∧ Dp K H v d ∧ Q (.bl (isTupD n d)) H
theorem dec_int (a b : Nat) : decide (V.int (a : Int) = V.int (b : Int)) = decide (a = b) := by
  by_cases z : a = b
  · rw [z, decide_eq_true rfl, decide_eq_true rfl]
  · rw [decide_eq_false z, decide_eq_false fun e => z (by have := V.int.inj e; omega)]
abbrev s_is_number : Stmt := topS 1
theorem sc_is_number : FnScope (["thing"] : List Str) (["thing"] : List Str) (defScope s_is_number) := ⟨rfl, rfl, rfl, by decide +kernel, rfl, by decide +kernel, by decide +kernel⟩
theorem b_is_number (kV doc pm : Value) (an : Option Addr) (cdv ct : Value) (us : List Value) (hl : us.length = (["thing"] : List Str).length) : bindArgs (PySem.W.fnOf "is_number" "is_number" (defArgs s_is_number) (defBody s_is_number) (defScope s_is_number) .none kV doc pm an cdv ct) ⟨us, []⟩ = pure ((["thing"] : List Str).zip us) :=
  match us, hl with | [_], _ => rfl
abbrev s_is_tuple_of : Stmt := topS 2
theorem sc_is_tuple_of : FnScope (["thing", "many"] : List Str) (["thing", "many"] : List Str) (defScope s_is_tuple_of) := ⟨rfl, rfl, rfl, by decide +kernel, rfl, by decide +kernel, by decide +kernel⟩
theorem b_is_tuple_of (kV doc pm : Value) (an : Option Addr) (cdv ct : Value) (us : List Value) (hl : us.length = (["thing", "many"] : List Str).length) : bindArgs (PySem.W.fnOf "is_tuple_of" "is_tuple_of" (defArgs s_is_tuple_of) (defBody s_is_tuple_of) (defScope s_is_tuple_of) .none kV doc pm an cdv ct) ⟨us, []⟩ = pure ((["thing", "many"] : List Str).zip us) :=
  match us, hl with | [_, _], _ => rfl
section
variable {P : Program} {w : World} {K : PySem.W.Frag} {mg : Str → Option Value} {base : Heap}
theorem ok_is_number {k : Nat} (D : Df K mg "is_number" s_is_number) (T : Bt mg) : Ok P w K mg base (k + 1) "is_number" s_is_number ["thing"] (spIsNum K) := by
  refine D.ok sc_is_number b_is_number (fun vs H Q E h => ?_) (fun f cdv A outer s H vs Q E hr h => ?_)
  · obtain ⟨v, d, rfl, _⟩ := h
    rfl
  · obtain ⟨v, d, rfl, hv, q⟩ := h
    refine ⟨_, (pss_one (ps_ret (pe_and (pe_callB call_isi (by rfl) T.isinstance_ (by decide +kernel) (pa_cons (pv 0) (pa_cons (pe_bltn (v := .ty "int") (by rfl) T.int_ (by decide +kernel) rfl) pa_nil))) (pe_and (pe_not (pe_callB call_isi (by rfl) T.isinstance_ (by decide +kernel) (pa_cons (pv 0) (pa_cons (pe_bltn (v := .ty "bool") (by rfl) T.bool_ (by decide +kernel) rfl) pa_nil)))) (pe_one (pe_cmpR op_ge (pv 0) pe_int (nomark _))))))), ?_⟩
    have ht := ty_of hv
    cases hv with
    | non => exact ⟨_, rfl, _, .ty "int", .type "NoneType", .type "int", false, rfl, .ty _, ht, kit_ty (by decide +kernel), _, rfl, q⟩
    | bl b =>
      refine ⟨_, rfl, _, .ty "int", .type "bool", .type "int", true, rfl, .ty _, ht, kit_ty (by decide +kernel), _, rfl, ?_⟩
      refine ⟨_, rfl, _, .ty "bool", .type "bool", .type "bool", true, rfl, .ty _, ht, kit_ty (by decide +kernel), _, rfl, _, rfl, ?_⟩
      exact q
    | int i =>
      refine ⟨_, rfl, _, .ty "int", .type "int", .type "int", true, rfl, .ty _, ht, kit_ty (by decide +kernel), _, rfl, ?_⟩
      refine ⟨_, rfl, _, .ty "bool", .type "int", .type "bool", false, rfl, .ty _, ht, kit_ty (by decide +kernel), _, rfl, _, rfl, ?_⟩
      exact ⟨_, rfl, i, 0, rfl, rfl, q⟩
    | str x => exact ⟨_, rfl, _, .ty "int", .type "str", .type "int", false, rfl, .ty _, ht, kit_ty (by decide +kernel), _, rfl, q⟩
    | lst h a => exact ⟨_, rfl, _, .ty "int", .type "list", .type "int", false, rfl, .ty _, ht, kit_ty (by decide +kernel), _, rfl, q⟩
    | tup h a => exact ⟨_, rfl, _, .ty "int", .type "tuple", .type "int", false, rfl, .ty _, ht, kit_ty (by decide +kernel), _, rfl, q⟩
theorem ok_is_tuple {k : Nat} (D : Df K mg "is_tuple_of" s_is_tuple_of) (T : Bt mg) : Ok P w K mg base (k + 1) "is_tuple_of" s_is_tuple_of ["thing", "many"] (spIsTup K) := by
  refine D.ok sc_is_tuple_of b_is_tuple_of (fun vs H Q E h => ?_) (fun f cdv A outer s H vs Q E hr h => ?_)
  · obtain ⟨v, d, n, rfl, _⟩ := h
    rfl
  · obtain ⟨v, d, n, rfl, hv, q⟩ := h
    refine ⟨_, (pss_one (ps_ret (pe_and (pe_callB call_isi (by rfl) T.isinstance_ (by decide +kernel) (pa_cons (pv 0) (pa_cons (pe_bltn (v := .ty "tuple") (by rfl) T.tuple_ (by decide +kernel) rfl) pa_nil))) (pe_one (pe_cmpR op_eq (pe_callB call_len_seq (by rfl) T.len_ PySem.boot_len (pa_cons (pv 0) pa_nil)) (pv 1) (nomark _)))))), ?_⟩
    have ht := ty_of hv
    cases hv with
    | non => exact ⟨_, rfl, _, .ty "tuple", .type "NoneType", .type "tuple", false, rfl, .ty _, ht, kit_ty (by decide +kernel), _, rfl, q⟩
    | bl b => exact ⟨_, rfl, _, .ty "tuple", .type "bool", .type "tuple", false, rfl, .ty _, ht, kit_ty (by decide +kernel), _, rfl, q⟩
    | int i => exact ⟨_, rfl, _, .ty "tuple", .type "int", .type "tuple", false, rfl, .ty _, ht, kit_ty (by decide +kernel), _, rfl, q⟩
    | str x => exact ⟨_, rfl, _, .ty "tuple", .type "str", .type "tuple", false, rfl, .ty _, ht, kit_ty (by decide +kernel), _, rfl, q⟩
    | lst h a => exact ⟨_, rfl, _, .ty "tuple", .type "list", .type "tuple", false, rfl, .ty _, ht, kit_ty (by decide +kernel), _, rfl, q⟩
    | tup h a =>
      refine ⟨_, rfl, _, .ty "tuple", .type "tuple", .type "tuple", true, rfl, .ty _, ht, kit_ty (by decide +kernel), _, rfl, ?_⟩
      refine ⟨_, rfl, _, _, rfl, .inr h, _, rfl, rfl, ?_⟩
      have l := DpAll.len a
      rw [dec_int, l]
      exact q
end
end Sh

namespace Sh
open PySem PySem.Spec PyProof.Rows L2
/-! ### rising numbers, seas, places, standings: of any data -/
def risesAt (ns : List Int) (i : Nat) : Bool := decide (ns.getD i 0 < ns.getD (i + 1) 0)
theorem getD_ix {ns : List Int} {i : Nat} (h : i < ns.length) : ns.getD i 0 = ns[i] := by
  rw [List.getD_eq_getElem?_getD, List.getElem?_eq_getElem h]
  rfl
theorem rises_lt {ns : List Int} {i : Nat} (h : i + 1 < ns.length) : risesAt ns i = decide (ns[i] < ns[i + 1]) := by
  unfold risesAt
  rw [getD_ix h, getD_ix (Nat.lt_of_succ_lt h)]
theorem rises_step : ∀ (ns : List Int), (∀ i, i + 1 < ns.length → risesAt ns i = true) ↔ ns.Pairwise (· < ·)
  | [] => ⟨fun _ => List.Pairwise.nil, fun _ i hi => absurd hi (Nat.not_lt_zero _)⟩
  | [a] => ⟨fun _ => List.pairwise_singleton _ _, fun _ i hi => by simp at hi⟩
  | a :: b :: ns => by
    have ih := rises_step (b :: ns)
    constructor
    · intro h
      have h2 : (b :: ns).Pairwise (· < ·) := ih.mp fun i hi => h (i + 1) (by simpa using hi)
      refine List.pairwise_cons.mpr ⟨fun x hx => ?_, h2⟩
      have ab : a < b := of_decide_eq_true (h 0 (by simp))
      rcases List.mem_cons.mp hx with z | z
      · rw [z]; exact ab
      · exact Int.lt_trans ab ((List.pairwise_cons.mp h2).1 x z)
    · intro h i hi
      obtain ⟨h1, h2⟩ := List.pairwise_cons.mp h
      cases i with
      | zero => exact decide_eq_true (h1 b List.mem_cons_self)
      | succ i => exact ih.mpr h2 i (by simpa using hi)
def risingB (ns : List Int) : Bool := decide (ns.Pairwise (· < ·))
theorem rises_all {ns : List Int} : ((List.range (ns.length - 1)).map (risesAt ns)).all id = risingB ns := by
  unfold risingB
  rw [Bool.eq_iff_iff, List.all_eq_true, decide_eq_true_eq, ← rises_step]
  constructor
  · intro h i hi
    exact h _ (List.mem_map.mpr ⟨i, List.mem_range.mpr (by omega), rfl⟩)
  · intro h x hx
    obtain ⟨i, hi, rfl⟩ := List.mem_map.mp hx
    exact h i (by have := List.mem_range.mp hi; omega)
theorem cut_one (ns : List Int) : cutV (ns.map V.int) (some 1) none = (ns.drop 1).map V.int := by
  unfold cutV
  rw [HT.sIx_none, show (1 : Int) = ((1 : Nat) : Int) from rfl, HT.sIx_nat, List.length_map]
  by_cases c : 1 ≤ ns.length
  · rw [Nat.min_eq_left c, List.map_drop, List.take_of_length_le]
    rw [List.length_drop, List.length_map]
    exact Nat.le_refl _
  · have e : ns = [] := List.length_eq_zero_iff.mp (by omega)
    subst e
    rfl
def spRising (K : PySem.W.Frag) : Sp := fun vs H Q _ => ∃ (p : Addr) (ns : List Int), vs = [.ref p] ∧ SqA K H p (ns.map V.int) ∧ ns.length ≤ 100000 ∧ ∀ H' : Hp, Same H H' → Q (.bl (risingB ns)) H'
abbrev s_are_rising : Stmt := topS 3
theorem sc_are_rising : FnScope (["numbers", "low", "high"] : List Str) (["numbers"] : List Str) (defScope s_are_rising) := ⟨rfl, rfl, rfl, by decide +kernel, rfl, by decide +kernel, by decide +kernel⟩
theorem b_are_rising (kV doc pm : Value) (an : Option Addr) (cdv ct : Value) (us : List Value) (hl : us.length = (["numbers"] : List Str).length) : bindArgs (PySem.W.fnOf "are_rising" "are_rising" (defArgs s_are_rising) (defBody s_are_rising) (defScope s_are_rising) .none kV doc pm an cdv ct) ⟨us, []⟩ = pure ((["numbers"] : List Str).zip us) :=
  match us, hl with | [_], _ => rfl
section
variable {P : Program} {w : World} {K : PySem.W.Frag} {mg : Str → Option Value} {base : Heap}
set_option maxHeartbeats 4000000 in
theorem ok_rising {k : Nat} (D : Df K mg "are_rising" s_are_rising) (T : Bt mg) : Ok P w K mg base (k + 1) "are_rising" s_are_rising ["numbers"] (spRising K) := by
  refine D.ok sc_are_rising b_are_rising (fun vs H Q E h => ?_) (fun f cdv A outer s H vs Q E hr h => ?_)
  · obtain ⟨p, ns, rfl, _⟩ := h
    rfl
  · obtain ⟨p, ns, rfl, hp, l0, q⟩ := h
    refine ⟨_, (pss_one (ps_ret (pe_callB (cr_all rfl) (by rfl) T.all_ (by decide +kernel) (pa_cons (pe_lc (own := [("low", 1), ("high", 2)]) (g := (gSeq K 2 (gCons (gName 1) (gCons (gName 2) gNil)))) (tt := tYes) (by rfl) sc_are_rising.nd (RZ.pi_zipA (by rfl) T.zip_ (pa_cons (pv 0) (pa_cons (pe_slice (SlR.or sl_list sl_tupA) (pv 0) (po_some pe_int) po_none) pa_nil))) (blkOk_by (own := [("low", 1), ("high", 2)]) (N := (["numbers", "low", "high"] : List Str)) (sc := defScope s_are_rising) (by decide +kernel)) (fun _ _ _ _ _ => (pg_seq rfl (pgs_cons (pg_name (i := 1) sc_are_rising.nd rfl (.inl rfl)) (pgs_cons (pg_name (i := 2) sc_are_rising.nd rfl (.inl rfl)) pgs_nil)))) (fun _ _ _ _ _ => pts_nil) (fun _ _ _ _ _ => (pe_cmpR op_lt (pv 1) (pv 2) (nomark _)))) pa_nil)))), ?_⟩
    rcases hp with hp | hp
    · refine ⟨_, rfl, _, rfl, 1, rfl, .inl ⟨p, _, rfl, hp, fun b nb => ?_⟩⟩
      rw [cut_one]
      have s1 : Same H (upd H b (.lst ((ns.drop 1).map V.int))) := same_new nb
      have e1 : upd H b (.lst ((ns.drop 1).map V.int)) b = some (.lst ((ns.drop 1).map V.int)) := upd_same
      generalize upd H b (.lst ((ns.drop 1).map V.int)) = H1 at s1 e1
      replace hp := s1.seq hp
      refine ⟨p, b, _, _, rfl, .inl ⟨hp, SqL.of e1, fun C nC => ?_⟩⟩
      refine lc_it (walk_zip (n := ns.length - 1) (by rw [List.length_map, List.length_map, List.length_drop]; omega)) (fun i H' => Same H1 H' ∧ H' C = some (.lst (((List.range i).map (risesAt ns)).map V.bl))) ⟨same_new nC, upd_same⟩ (fun i H' _ p => ⟨p.1.seq hp, SqL.of (p.1 _ _ e1)⟩) ?_ ?_
      · rintro i z H2 H3 hi ⟨sm, hC⟩ ⟨t, u, v, rfl, nt, rfl, gu, gv⟩
        obtain ⟨a1, rfl⟩ : ∃ a1, u = .int ns[i] := ⟨0, by
          have g3 : (ns.map V.int)[i]? = some (.int ns[i]) := by rw [List.getElem?_map, List.getElem?_eq_getElem (by omega)]; rfl
          exact Option.some.inj (gu.symm.trans g3)⟩
        obtain ⟨a2, rfl⟩ : ∃ a2, v = .int ns[i + 1] := ⟨0, by
          have g3 : ((ns.drop 1).map V.int)[i]? = some (.int ns[i + 1]) := by
            rw [List.getElem?_map, List.getElem?_drop, Nat.add_comm 1 i, List.getElem?_eq_getElem (by omega)]
            rfl
          exact Option.some.inj (gv.symm.trans g3)⟩
        have sm2 : Same H1 (upd H2 t (.tup [.int ns[i], .int ns[i + 1]])) := sm.trans (same_new nt)
        have hC2 : upd H2 t (.tup [.int ns[i], .int ns[i + 1]]) C = _ := same_new nt _ _ hC
        refine ⟨t, _, rfl, SqA.t upd_same, rfl, _, _, rfl, _, _, rfl, rfl, rfl, tyes (iteT ?_)⟩
        refine ⟨_, rfl, _, rfl, _, _, rfl, rfl, _, hC2, ?_, same_over sm2 nC, ?_⟩
        · rw [List.length_map, List.length_map, List.length_range]
          exact Nat.lt_of_lt_of_le (show i < 100000 by omega) (by decide)
        · rw [upd_same, List.range_succ, List.map_append, List.map_append]
          show _ = some (HO.lst (_ ++ [V.bl (risesAt ns i)]))
          rw [rises_lt (by omega)]
      · rintro H2 ⟨sm, hC⟩
        refine ⟨C, _, rfl, SqL.of hC, ?_⟩
        rw [rises_all]
        exact q _ (s1.trans sm)
    · refine ⟨_, rfl, _, rfl, 1, rfl, .inr ⟨p, _, rfl, hp, fun whole => ?_, fun _ b nb => ?_⟩⟩
      · have e : ns = [] := by
          have := whole.1
          rw [show (some (1 : Int)) = some ((1 : Nat) : Int) from rfl, HT.sIx_nat, List.length_map] at this
          exact List.length_eq_zero_iff.mp (by omega)
        subst e
        refine ⟨p, p, _, _, rfl, .inr ⟨hp, hp, fun C nC => ?_⟩⟩
        refine lc_it (walk_zipT (n := 0) rfl) (fun i H' => Same H H' ∧ H' C = some (.lst [])) ⟨same_new nC, upd_same⟩ (fun i H' _ p => ⟨Same.tup p.1 hp, Same.tup p.1 hp⟩) ?_ ?_
        · intro i z H2 H3 hi
          exact absurd hi (Nat.not_lt_zero _)
        · rintro H2 ⟨sm, hC⟩
          refine ⟨C, [], rfl, SqL.of hC, ?_⟩
          exact q _ sm
      rw [cut_one]
      have s1 : Same H (upd H b (.tup ((ns.drop 1).map V.int))) := same_new nb
      have e1 : upd H b (.tup ((ns.drop 1).map V.int)) b = some (.tup ((ns.drop 1).map V.int)) := upd_same
      generalize upd H b (.tup ((ns.drop 1).map V.int)) = H1 at s1 e1
      replace hp := Same.tup s1 hp
      refine ⟨p, b, _, _, rfl, .inr ⟨hp, SqT.of e1, fun C nC => ?_⟩⟩
      refine lc_it (walk_zipT (n := ns.length - 1) (by rw [List.length_map, List.length_map, List.length_drop]; omega)) (fun i H' => Same H1 H' ∧ H' C = some (.lst (((List.range i).map (risesAt ns)).map V.bl))) ⟨same_new nC, upd_same⟩ (fun i H' _ p => ⟨Same.tup p.1 hp, SqT.of (p.1 _ _ e1)⟩) ?_ ?_
      · rintro i z H2 H3 hi ⟨sm, hC⟩ ⟨t, u, v, rfl, nt, rfl, gu, gv⟩
        obtain ⟨a1, rfl⟩ : ∃ a1, u = .int ns[i] := ⟨0, by
          have g3 : (ns.map V.int)[i]? = some (.int ns[i]) := by rw [List.getElem?_map, List.getElem?_eq_getElem (by omega)]; rfl
          exact Option.some.inj (gu.symm.trans g3)⟩
        obtain ⟨a2, rfl⟩ : ∃ a2, v = .int ns[i + 1] := ⟨0, by
          have g3 : ((ns.drop 1).map V.int)[i]? = some (.int ns[i + 1]) := by
            rw [List.getElem?_map, List.getElem?_drop, Nat.add_comm 1 i, List.getElem?_eq_getElem (by omega)]
            rfl
          exact Option.some.inj (gv.symm.trans g3)⟩
        have sm2 : Same H1 (upd H2 t (.tup [.int ns[i], .int ns[i + 1]])) := sm.trans (same_new nt)
        have hC2 : upd H2 t (.tup [.int ns[i], .int ns[i + 1]]) C = _ := same_new nt _ _ hC
        refine ⟨t, _, rfl, SqA.t upd_same, rfl, _, _, rfl, _, _, rfl, rfl, rfl, tyes (iteT ?_)⟩
        refine ⟨_, rfl, _, rfl, _, _, rfl, rfl, _, hC2, ?_, same_over sm2 nC, ?_⟩
        · rw [List.length_map, List.length_map, List.length_range]
          exact Nat.lt_of_lt_of_le (show i < 100000 by omega) (by decide)
        · rw [upd_same, List.range_succ, List.map_append, List.map_append]
          show _ = some (HO.lst (_ ++ [V.bl (risesAt ns i)]))
          rw [rises_lt (by omega)]
      · rintro H2 ⟨sm, hC⟩
        refine ⟨C, _, rfl, SqL.of hC, ?_⟩
        rw [rises_all]
        exact q _ (s1.trans sm)
end
end Sh

namespace Sh
open PySem PySem.Spec PyProof.Rows L2
/-! ### places, seas, standings: of any data -/
def isPlD (c : Nat) : PyData → Bool
  | .int i => decide (0 ≤ i) && decide (i < (c : Int))
  | _ => false
def isTuD : PyData → Bool
  | .tuple _ => true
  | _ => false
def drD : PyData → Bool
  | .tuple ds => decide (0 < ds.length) && ds.all isNumD
  | _ => false
def isSea3 : List PyData → Bool
  | [a, b, c] => isNumD a && (isNumD b && (isTuD c && drD c))
  | _ => false
def isSeaD : PyData → Bool
  | .tuple ds => isSea3 ds
  | _ => false
def intD : PyData → Int
  | .int i => i
  | _ => 0
def isStD (c : Nat) : PyData → Bool
  | .tuple ds => ds.all (isPlD c) && risingB (ds.map intD)
  | _ => false
theorem dp_num {K : PySem.W.Frag} {H : Hp} {v : V} {d : PyData} (h : Dp K H v d) (n : isNumD d = true) : ∃ i : Int, v = .int i ∧ d = .int i ∧ 0 ≤ i := by
  cases h with
  | int i => exact ⟨i, rfl, rfl, of_decide_eq_true n⟩
  | _ => cases n
theorem pl_num {c : Nat} {d : PyData} (n : isNumD d = false) : isPlD c d = false := by
  cases d with
  | int i =>
    show (decide (0 ≤ i) && _) = false
    rw [show decide (0 ≤ i) = false from n, Bool.false_and]
  | _ => rfl
theorem dps_ints {K : PySem.W.Frag} {H : Hp} {c : Nat} : ∀ {vs : List V} {ds : List PyData}, DpAll K H vs ds → ds.all (isPlD c) = true → vs = (ds.map intD).map V.int
  | _, _, .nil, _ => rfl
  | _, _, .cons x a, h => by
    rw [List.all_cons, Bool.and_eq_true] at h
    have ih := dps_ints a h.2
    cases x with
    | int i => rw [List.map_cons, List.map_cons, ← ih]; rfl
    | _ => cases h.1
theorem three_of {α : Type} {l : List α} (h : l.length = 3) : ∃ a b c, l = [a, b, c] := by
  match l, h with
  | [a, b, c], _ => exact ⟨a, b, c, rfl⟩
theorem sea_tup {d : PyData} (n : isTupD 3 d = false) : isSeaD d = false := by
  cases d with
  | tuple ds =>
    have h : ds.length ≠ 3 := of_decide_eq_false n
    show isSea3 ds = false
    match ds, h with
    | [], _ => rfl
    | [_], _ => rfl
    | [_, _], _ => rfl
    | [_, _, _], h => exact absurd rfl h
    | _ :: _ :: _ :: _ :: _, _ => rfl
  | _ => rfl
theorem dp_three {K : PySem.W.Frag} {H : Hp} {v : V} {d : PyData} (h : Dp K H v d) (n : isTupD 3 d = true) : ∃ (p : Addr) (x y z : V) (a b c : PyData), v = .ref p ∧ d = .tuple [a, b, c] ∧ SqT K H p [x, y, z] ∧ Dp K H x a ∧ Dp K H y b ∧ Dp K H z c := by
  cases h with
  | tup h all =>
    rename_i p xs ds
    have l : ds.length = 3 := of_decide_eq_true n
    obtain ⟨a, b, c, rfl⟩ := three_of l
    cases all with
    | cons x all =>
      cases all with
      | cons y all =>
        cases all with
        | cons z all =>
          cases all
          exact ⟨p, _, _, _, a, b, c, rfl, rfl, h, x, y, z⟩
  | non => cases n
  | bl b => cases n
  | int i => cases n
  | str x => cases n
  | lst h a => cases n
theorem dp_tup {K : PySem.W.Frag} {H : Hp} {v : V} {d : PyData} (h : Dp K H v d) (n : isTuD d = true) : ∃ (p : Addr) (xs : List V) (ds : List PyData), v = .ref p ∧ d = .tuple ds ∧ SqT K H p xs ∧ DpAll K H xs ds := by
  cases h with
  | tup h all => exact ⟨_, _, _, rfl, rfl, h, all⟩
  | _ => cases n
theorem kit_tup {d : PyData} : kitB (tyS d) "tuple" = some (isTuD d) := by
  cases d with
  | none => exact (by decide +kernel : kitB "NoneType" "tuple" = some false)
  | bool b => exact (by decide +kernel : kitB "bool" "tuple" = some false)
  | int i => exact (by decide +kernel : kitB "int" "tuple" = some false)
  | str s => exact (by decide +kernel : kitB "str" "tuple" = some false)
  | list xs => exact (by decide +kernel : kitB "list" "tuple" = some false)
  | tuple xs => exact (by decide +kernel : kitB "tuple" "tuple" = some true)
  | dict kvs => exact (by decide +kernel : kitB "dict" "tuple" = some false)
theorem sea_three (a b c : PyData) : isSeaD (.tuple [a, b, c]) = (isNumD a && (isNumD b && (isTuD c && drD c))) := rfl
def spIsPlace (K : PySem.W.Frag) : Sp := fun vs H Q _ => ∃ (v z : V) (h t : Int) (ds : List Int) (d : PyData), vs = [v, z] ∧ SeaA K H v h t ds ∧ Dp K H z d ∧ Q (.bl (isPlD ds.length d)) H
def spIsSea (K : PySem.W.Frag) : Sp := fun vs H Q _ => ∃ (n : Nat) (v : V) (d : PyData), vs = [v] ∧ Dp K H v d ∧ Lv n d ∧ ∀ H', Same H H' → Q (.bl (isSeaD d)) H'
def spIsStand (K : PySem.W.Frag) : Sp := fun vs H Q _ => ∃ (n : Nat) (v z : V) (h t : Int) (ds : List Int) (d : PyData), vs = [v, z] ∧ SeaA K H v h t ds ∧ Dp K H z d ∧ Lv n d ∧ ∀ H', Same H H' → Q (.bl (isStD ds.length d)) H'
abbrev s_is_place : Stmt := topS 50
theorem sc_is_place : FnScope (["sea", "thing"] : List Str) (["sea", "thing"] : List Str) (defScope s_is_place) := ⟨rfl, rfl, rfl, by decide +kernel, rfl, by decide +kernel, by decide +kernel⟩
theorem b_is_place (kV doc pm : Value) (an : Option Addr) (cdv ct : Value) (us : List Value) (hl : us.length = (["sea", "thing"] : List Str).length) : bindArgs (PySem.W.fnOf "is_place" "is_place" (defArgs s_is_place) (defBody s_is_place) (defScope s_is_place) .none kV doc pm an cdv ct) ⟨us, []⟩ = pure ((["sea", "thing"] : List Str).zip us) :=
  match us, hl with | [_, _], _ => rfl
abbrev s_is_sea : Stmt := topS 49
theorem sc_is_sea : FnScope (["thing", "here", "there", "draughts", "draught"] : List Str) (["thing"] : List Str) (defScope s_is_sea) := ⟨rfl, rfl, rfl, by decide +kernel, rfl, by decide +kernel, by decide +kernel⟩
theorem b_is_sea (kV doc pm : Value) (an : Option Addr) (cdv ct : Value) (us : List Value) (hl : us.length = (["thing"] : List Str).length) : bindArgs (PySem.W.fnOf "is_sea" "is_sea" (defArgs s_is_sea) (defBody s_is_sea) (defScope s_is_sea) .none kV doc pm an cdv ct) ⟨us, []⟩ = pure ((["thing"] : List Str).zip us) :=
  match us, hl with | [_], _ => rfl
abbrev s_is_standing : Stmt := topS 51
theorem sc_is_standing : FnScope (["sea", "thing", "ship"] : List Str) (["sea", "thing"] : List Str) (defScope s_is_standing) := ⟨rfl, rfl, rfl, by decide +kernel, rfl, by decide +kernel, by decide +kernel⟩
theorem b_is_standing (kV doc pm : Value) (an : Option Addr) (cdv ct : Value) (us : List Value) (hl : us.length = (["sea", "thing"] : List Str).length) : bindArgs (PySem.W.fnOf "is_standing" "is_standing" (defArgs s_is_standing) (defBody s_is_standing) (defScope s_is_standing) .none kV doc pm an cdv ct) ⟨us, []⟩ = pure ((["sea", "thing"] : List Str).zip us) :=
  match us, hl with | [_, _], _ => rfl
section
variable {P : Program} {w : World} {K : PySem.W.Frag} {mg : Str → Option Value} {base : Heap}
theorem ok_is_place {k : Nat} (D : Df K mg "is_place" s_is_place) (T : Bt mg) (O_is_number : Ok P w K mg base k "is_number" s_is_number ["thing"] (spIsNum K)) : Ok P w K mg base (k + 1) "is_place" s_is_place ["sea", "thing"] (spIsPlace K) := by
  refine D.ok sc_is_place b_is_place (fun vs H Q E h => ?_) (fun f cdv A outer s H vs Q E hr h => ?_)
  · obtain ⟨v, z, h, t, ds, d, rfl, _⟩ := h
    rfl
  · obtain ⟨v, z, h, t, ds, d, rfl, ⟨p, q', rfl, hp, hq⟩, hz, q⟩ := h
    refine ⟨_, (pss_one (ps_ret (pe_and (pe_fn O_is_number (hr.mono (by omega)) (pa_cons (pv 1) pa_nil)) (pe_one (pe_cmpR op_lt (pv 1) (pe_callB call_len_seq (by rfl) T.len_ PySem.boot_len (pa_cons (pe_ix ix_lt (pv 0) pe_int (fun _ _ => rfl)) pa_nil)) (nomark _)))))), ?_⟩
    refine ⟨_, rfl, z, d, rfl, hz, _, rfl, ?_⟩
    cases e : isNumD d with
    | false =>
      rw [pl_num e] at q
      exact q
    | true =>
      obtain ⟨i, rfl, rfl, i0⟩ := dp_num hz e
      refine ⟨_, rfl, _, rfl, p, _, 2, .ref q', rfl, rfl, hp, rfl, q', _, rfl, hq, _, _, rfl, rfl, ?_⟩
      rw [List.length_map]
      have : isPlD ds.length (.int i) = decide (i < (ds.length : Int)) := by
        show (decide (0 ≤ i) && _) = _
        rw [decide_eq_true i0, Bool.true_and]
      rw [this] at q
      exact q
set_option maxHeartbeats 4000000 in
theorem ok_is_sea {k : Nat} (D : Df K mg "is_sea" s_is_sea) (T : Bt mg) (O_is_number : Ok P w K mg base k "is_number" s_is_number ["thing"] (spIsNum K)) (O_is_tuple_of : Ok P w K mg base k "is_tuple_of" s_is_tuple_of ["thing", "many"] (spIsTup K)) : Ok P w K mg base (k + 1) "is_sea" s_is_sea ["thing"] (spIsSea K) := by
  refine D.ok sc_is_sea b_is_sea (fun vs H Q E h => ?_) (fun f cdv A outer s H vs Q E hr h => ?_)
  · obtain ⟨n, v, d, rfl, _⟩ := h
    rfl
  · obtain ⟨n, v, d, rfl, hv, lv, q⟩ := h
    refine ⟨_, (pss_cons (ps_if (pt_not (pt_val (pe_fn O_is_tuple_of (hr.mono (by omega)) (pa_cons (pv 0) (pa_cons pe_int pa_nil)))))
        (pss_one (ps_ret pe_bl))
        pss_nil)
      (pss_cons (ps_asg (pv 0) (pg_seq rfl (pgs_cons (pg_name (i := 1) sc_is_sea.nd rfl (.inl rfl)) (pgs_cons (pg_name (i := 2) sc_is_sea.nd rfl (.inl rfl)) (pgs_cons (pg_name (i := 3) sc_is_sea.nd rfl (.inl rfl)) pgs_nil)))))
      (pss_cons (ps_if (pt_not (PW.pt (pw_and (pt_val (pe_fn O_is_number (hr.mono (by omega)) (pa_cons (pv 1) pa_nil))) (pw_and (pt_val (pe_fn O_is_number (hr.mono (by omega)) (pa_cons (pv 2) pa_nil))) (pw_and1 (pt_val (pe_callB call_isi (by rfl) T.isinstance_ (by decide +kernel) (pa_cons (pv 3) (pa_cons (pe_bltn (v := .ty "tuple") (by rfl) T.tuple_ (by decide +kernel) rfl) pa_nil)))))))))
        (pss_one (ps_ret pe_bl))
        pss_nil)
      (pss_one (ps_ret (pe_and (pe_cmpR op_gt (pe_callB call_len_seq (by rfl) T.len_ PySem.boot_len (pa_cons (pv 3) pa_nil)) pe_int (nomark _)) (pe_one (pe_callB (cr_all rfl) (by rfl) T.all_ (by decide +kernel) (pa_cons (pe_lc (own := [("draught", 4)]) (g := (gName 4)) (tt := tYes) (by rfl) sc_is_sea.nd (pi_seq (pv 3)) (blkOk_by (own := [("draught", 4)]) (N := (["thing", "here", "there", "draughts", "draught"] : List Str)) (sc := defScope s_is_sea) (by decide +kernel)) (fun _ _ _ _ _ => (pg_name (i := 4) sc_is_sea.nd rfl (.inl rfl))) (fun _ _ _ _ _ => pts_nil) (fun _ _ _ _ _ => (pe_fn O_is_number (hr.mono (by omega)) (pa_cons (pv 4) pa_nil)))) pa_nil))))))))), ?_⟩
    refine ⟨_, rfl, v, d, 3, rfl, hv, _, rfl, ?_⟩
    cases e : isTupD 3 d with
    | false =>
      rw [sea_tup e] at q
      exact iteT (q _ (Same.refl _))
    | true =>
      obtain ⟨p, x, y, z, a, b, c, rfl, rfl, hp, hx, hy, hz⟩ := dp_three hv e
      refine iteF ?_
      rw [sea_three] at q
      refine ⟨_, rfl, p, _, rfl, .inr hp, rfl, _, _, rfl, _, _, rfl, _, _, rfl, rfl, ?_⟩
      refine ⟨_, rfl, x, a, rfl, hx, _, rfl, ?_⟩
      cases ea : isNumD a with
      | false =>
        rw [ea] at q
        exact iteF (iteT (q _ (Same.refl _)))
      | true =>
        rw [ea, Bool.true_and] at q
        refine ⟨_, rfl, y, b, rfl, hy, _, rfl, ?_⟩
        cases eb : isNumD b with
        | false =>
          rw [eb] at q
          exact iteF (iteT (q _ (Same.refl _)))
        | true =>
          rw [eb, Bool.true_and] at q
          refine ⟨_, rfl, z, .ty "tuple", _, .type "tuple", isTuD c, rfl, .ty _, ty_of hz, kit_ty kit_tup, _, rfl, ?_⟩
          cases ec : isTuD c with
          | false =>
            rw [ec] at q
            exact iteT (q _ (Same.refl _))
          | true =>
            rw [ec, Bool.true_and] at q
            obtain ⟨pc, xs, cs, rfl, rfl, hc, al⟩ := dp_tup hz ec
            have lx := DpAll.len al
            have lc : cs.length ≤ 100000 := by
              cases n with
              | zero => exact lv.elim
              | succ n =>
                have := lv.2 _ (show PyData.tuple cs ∈ [a, b, PyData.tuple cs] by simp)
                cases n with
                | zero => exact this.elim
                | succ n => exact this.1
            refine iteF ?_
            have eq : drD (.tuple cs) = (decide (0 < cs.length) && cs.all isNumD) := rfl
            rw [eq] at q
            refine ⟨_, rfl, pc, _, rfl, .inr hc, _, 0, rfl, rfl, _, rfl, ?_⟩
            rw [lx]
            by_cases l0 : 0 < cs.length
            · rw [decide_eq_true l0, Bool.true_and] at q
              have l1 : decide ((cs.length : Int) > 0) = true := decide_eq_true (by omega)
              rw [l1]
              refine iteT ?_
              refine ⟨_, rfl, pc, _, H, rfl, .inr hc, Kp.refl _ _, fun J hJ C nC => ?_⟩
              obtain ⟨G, g, W⟩ := hJ.walk
              refine lc_it W (fun i H' => Same H H' ∧ H' C = some (.lst (((cs.take i).map isNumD).map V.bl))) ⟨same_new nC, upd_same⟩ (fun i H' _ z => g H' (.ofS z.1)) ?_ ?_
              · rintro i x' Ha Hb hi ⟨sm, hC⟩ ⟨rfl, gx⟩
                rw [lx] at hi
                obtain ⟨d, gd, hd⟩ := DpAll.get al gx
                obtain rfl : cs[i] = d := by
                  rw [List.getElem?_eq_getElem hi] at gd
                  exact Option.some.inj gd
                refine ⟨rfl, tyes (iteT ?_)⟩
                refine ⟨_, rfl, x', cs[i], rfl, Dp.same sm hd, _, hC, ?_, same_over sm nC, ?_⟩
                · rw [List.length_map, List.length_map, List.length_take]
                  exact Nat.lt_of_lt_of_le (show min i cs.length < 100000 by omega) (by decide)
                · rw [upd_same, take_succ_get hi, List.map_append, List.map_append]
                  rfl
              · rintro Ha ⟨sm, hC⟩
                rw [lx, List.take_length] at hC
                refine ⟨C, _, rfl, SqL.of hC, ?_⟩
                have : (cs.map isNumD).all id = cs.all isNumD := by rw [List.all_map]; rfl
                rw [this]
                exact q _ sm
            · rw [decide_eq_false l0, Bool.false_and] at q
              have l1 : decide ((cs.length : Int) > 0) = false := decide_eq_false (by omega)
              rw [l1]
              exact iteF (q _ (Same.refl _))
set_option maxHeartbeats 4000000 in
theorem ok_is_stand {k : Nat} (D : Df K mg "is_standing" s_is_standing) (T : Bt mg) (O_is_place : Ok P w K mg base k "is_place" s_is_place ["sea", "thing"] (spIsPlace K)) (O_are_rising : Ok P w K mg base k "are_rising" s_are_rising ["numbers"] (spRising K)) : Ok P w K mg base (k + 1) "is_standing" s_is_standing ["sea", "thing"] (spIsStand K) := by
  refine D.ok sc_is_standing b_is_standing (fun vs H Q E h => ?_) (fun f cdv A outer s H vs Q E hr h => ?_)
  · obtain ⟨n, v, z, h, t, ds, d, rfl, _⟩ := h
    rfl
  · obtain ⟨n, v, z, h, t, ds, d, rfl, hv, hz, lv, q⟩ := h
    refine ⟨_, (pss_cons (ps_if (pt_not (pt_val (pe_callB call_isi (by rfl) T.isinstance_ (by decide +kernel) (pa_cons (pv 1) (pa_cons (pe_bltn (v := .ty "tuple") (by rfl) T.tuple_ (by decide +kernel) rfl) pa_nil)))))
        (pss_one (ps_ret pe_bl))
        pss_nil)
      (pss_one (ps_ret (pe_and (pe_callB (cr_all rfl) (by rfl) T.all_ (by decide +kernel) (pa_cons (pe_lc (own := [("ship", 2)]) (g := (gName 2)) (tt := tYes) (by rfl) sc_is_standing.nd (pi_seq (pv 1)) (blkOk_by (own := [("ship", 2)]) (N := (["sea", "thing", "ship"] : List Str)) (sc := defScope s_is_standing) (by decide +kernel)) (fun _ _ _ _ _ => (pg_name (i := 2) sc_is_standing.nd rfl (.inl rfl))) (fun _ _ _ _ _ => pts_nil) (fun _ _ _ _ _ => (pe_fn O_is_place (hr.mono (by omega)) (pa_cons (pv 0) (pa_cons (pv 2) pa_nil))))) pa_nil)) (pe_one (pe_fn O_are_rising (hr.mono (by omega)) (pa_cons (pv 1) pa_nil))))))), ?_⟩
    refine ⟨_, rfl, z, .ty "tuple", _, .type "tuple", isTuD d, rfl, .ty _, ty_of hz, kit_ty kit_tup, _, rfl, ?_⟩
    cases ec : isTuD d with
    | false =>
      have : isStD ds.length d = false := by cases d <;> first | rfl | cases ec
      rw [this] at q
      exact iteT (q _ (Same.refl _))
    | true =>
      obtain ⟨pc, xs, cs, rfl, rfl, hc, al⟩ := dp_tup hz ec
      have lx := DpAll.len al
      have lc : cs.length ≤ 100000 := by
        cases n with
        | zero => exact lv.elim
        | succ n => exact lv.1
      refine iteF ?_
      refine ⟨_, rfl, pc, _, H, rfl, .inr hc, Kp.refl _ _, fun J hJ C nC => ?_⟩
      obtain ⟨G, g, W⟩ := hJ.walk
      refine lc_it W (fun i H' => Same H H' ∧ H' C = some (.lst (((cs.take i).map (isPlD ds.length)).map V.bl))) ⟨same_new nC, upd_same⟩ (fun i H' _ z => g H' (.ofS z.1)) ?_ ?_
      · rintro i x' Ha Hb hi ⟨sm, hC⟩ ⟨rfl, gx⟩
        rw [lx] at hi
        obtain ⟨d, gd, hd⟩ := DpAll.get al gx
        obtain rfl : cs[i] = d := by
          rw [List.getElem?_eq_getElem hi] at gd
          exact Option.some.inj gd
        refine ⟨rfl, tyes (iteT ?_)⟩
        refine ⟨_, rfl, _, rfl, v, x', h, t, ds, cs[i], rfl, hv.same sm, Dp.same sm hd, _, hC, ?_, same_over sm nC, ?_⟩
        · rw [List.length_map, List.length_map, List.length_take]
          exact Nat.lt_of_lt_of_le (show min i cs.length < 100000 by omega) (by decide)
        · rw [upd_same, take_succ_get hi, List.map_append, List.map_append]
          rfl
      · rintro Ha ⟨sm, hC⟩
        rw [lx, List.take_length] at hC
        refine ⟨C, _, rfl, SqL.of hC, _, rfl, ?_⟩
        have : (cs.map (isPlD ds.length)).all id = cs.all (isPlD ds.length) := by rw [List.all_map]; rfl
        rw [this]
        have eq : isStD ds.length (.tuple cs) = (cs.all (isPlD ds.length) && risingB (cs.map intD)) := rfl
        rw [eq] at q
        cases ea : cs.all (isPlD ds.length) with
        | false =>
          rw [ea] at q
          exact q _ sm
        | true =>
          rw [ea, Bool.true_and] at q
          have xe := dps_ints al ea
          rw [xe] at hc
          exact ⟨_, rfl, pc, cs.map intD, rfl, .inr (Same.tup sm hc), by rw [List.length_map]; exact lc, fun H' s' => q _ (sm.trans s')⟩
end
end Sh

namespace Sh
open PySem PySem.Spec PyProof.Rows L2
/-! ### tuples put together, cut: one way out, whatever is empty -/
def rCatS (K : PySem.W.Frag) : R2 := fun x y H Q => ∃ a b xs ys, x = .ref a ∧ y = .ref b ∧ SqT K H a xs ∧ SqT K H b ys ∧ xs.length + ys.length ≤ sizeLine ∧ ∀ (r : Addr) (H' : Hp), Same H H' → SqT K H' r (xs ++ ys) → Q (.ref r) H'
theorem op_catS {X : Cx} : OpR X (binaryOp .Add) (rCatS X.K) := by
  intro pins s σ H x y v u Q I rx ry h
  obtain ⟨a, b, xs, ys, e1, e2, hx, hy, l, q⟩ := h
  refine op_catA pins s σ H x y v u Q I rx ry ⟨a, b, xs, ys, e1, e2, hx, hy, l, fun z => ?_, fun _ z => ?_, fun _ _ p np => q p _ (same_new np) (SqT.of upd_same)⟩
  · subst z
    exact q b H (Same.refl _) hy
  · subst z
    refine q a H (Same.refl _) ?_
    rw [List.append_nil]
    exact hx
def rSlS (K : PySem.W.Frag) : V → Option Int → Option Int → Hp → VK → Prop := fun x lo hi H Q => ∃ a xs, x = .ref a ∧ SqT K H a xs ∧ ∀ (r : Addr) (H' : Hp), Same H H' → SqT K H' r (cutV xs lo hi) → Q (.ref r) H'
theorem sl_tupS {X : Cx} : SlR X (rSlS X.K) := by
  intro pins s σ H x v vl vu lo hi sl Q I rx hs pl pu h
  obtain ⟨a, xs, e, hx, q⟩ := h
  refine sl_tupA pins s σ H x v vl vu lo hi sl Q I rx hs pl pu ⟨a, xs, e, hx, fun w => q a H (Same.refl _) ?_, fun _ p np => q p _ (same_new np) (SqT.of upd_same)⟩
  unfold cutV
  rw [w.1, w.2, List.drop_zero, Nat.sub_zero, List.take_length]
  exact hx
theorem cut_drop (xs : List V) (l : Nat) : cutV xs (some (l : Int)) none = xs.drop l := by
  unfold cutV
  rw [HT.sIx_none, HT.sIx_nat]
  by_cases c : l ≤ xs.length
  · rw [Nat.min_eq_left c, List.take_of_length_le (by rw [List.length_drop]; exact Nat.le_refl _)]
  · rw [Nat.min_eq_right (by omega), List.drop_length, List.drop_of_length_le (by omega), List.take_nil]
/-- [x for x in xs if test], the test may lay new things -/
theorem lc_filterS {σ : L2.St} {H : Hp} {C : Addr} {vs : List Nat} {i : Nat} {tt : TT} {Qd : Hp → Prop} {X : List Nat} {J : It} {G : Hp → Prop} (p : Nat → Bool) (W : Walk J (ni X).length G (YAt (ni X))) (g : ∀ H', Same H H' → G H') (nC : H C = none) (lX : X.length ≤ 1000)
    (hw : ∀ v, wipe ((wipe σ vs).set i (some v)) vs = wipe σ vs) (hv : ∀ v : V, ((wipe σ vs).set i (some v))[i]? = some (some v))
    (ht : ∀ x ∈ X, ∀ H', Same H H' → ∀ Q : Bool → Hp → Prop, (∀ H2, Same H' H2 → Q (p x) H2) → tt ((wipe σ vs).set i (some (.int (x : Int)))) H' Q) (hd : ∀ H', Same H H' → H' C = some (.lst (ni (X.filter p))) → Qd H') :
    ∃ W : Nat → Nat → Hp → Prop, (∃ m, W 0 m (upd H C (.lst []))) ∧ ∀ j m H, W j m H →
      (J.stop j H ∧ Qd H) ∨ (J.go j H ∧ ∃ Nx : Hp → Prop, (∀ H', Nx H' → ∃ m', m' < m ∧ W (j + 1) m' H') ∧ ∀ x H', J.yld j H x H' → gName i x (wipe σ vs) H' fun σ2 H2 => wipe σ2 vs = wipe σ vs ∧ tt σ2 H2 fun b H3 =>
        if b = true then tVar i σ2 H3 fun y H4 => ∃ acc, H4 C = some (.lst acc) ∧ acc.length < sizeLine ∧ Nx (upd H4 C (.lst (acc ++ [y]))) else Nx H3) := by
  refine lc_it W (fun j H' => Same H H' ∧ H' C = some (.lst (ni ((X.take j).filter p)))) ⟨same_new nC, upd_same⟩ (fun j H' _ z => g H' z.1) ?_ ?_
  · rintro j x H3 H4 hj ⟨s3, hC⟩ ⟨rfl, gx⟩
    rw [ni_len] at hj
    obtain rfl : .int ((X[j] : Nat) : Int) = x := Option.some.inj ((ni_get hj).symm.trans gx)
    refine ⟨hw _, ht X[j] (List.getElem_mem hj) _ s3 _ fun H5 s5 => ?_⟩
    cases e : p X[j] with
    | true =>
      rw [if_pos rfl]
      refine ⟨_, hv _, _, s5 _ _ hC, ?_, same_over (s3.trans s5) nC, ?_⟩
      · rw [ni_len]
        have h1 := List.length_filter_le p (X.take j)
        rw [List.length_take] at h1
        exact small1000 (by omega)
      · rw [upd_same, take_succ_get hj, List.filter_append, ni_app, List.filter_cons_of_pos e]
        rfl
    | false =>
      rw [if_neg Bool.false_ne_true]
      refine ⟨s3.trans s5, ?_⟩
      rw [s5 _ _ hC, take_succ_get hj, List.filter_append, List.filter_cons_of_neg (by rw [e]; exact Bool.false_ne_true)]
      simp
  · rintro H3 ⟨s3, hC⟩
    rw [ni_len, List.take_length] at hC
    exact hd H3 s3 hC
end Sh

namespace Th
open Sh (upN dn up_dn dn_up up_ne up_lt)
section
variable {k g : Nat} {G G' : Nat → Nat → Bool} {S U V : Nat → Bool}
/-- the others, numbered anew -/
def cut (g m : Nat) (S : Nat → Bool) : Nat → Bool := fun j => decide (j < m) && S (upN g j)
theorem cut_at {m j : Nat} (h : j < m) : cut g m S j = S (upN g j) := by unfold cut; rw [decide_eq_true h, Bool.true_and]
theorem one_g (hg : g < k) : (List.range k).filter (fun a => !!decide (a = g)) = [g] := by
  refine Sh.up_eq (List.pairwise_lt_range.filter _) (List.pairwise_singleton _ _) fun i => ?_
  rw [List.mem_filter, List.mem_range, Bool.not_not, decide_eq_true_eq, List.mem_singleton]
  exact ⟨fun z => z.2, fun z => ⟨by omega, z⟩⟩
theorem cnt_cut (hg : g < k) (S : Nat → Bool) : cnt k S = cnt (k - 1) (cut g (k - 1) S) + (if S g = true then 1 else 0) := by
  have e : cnt k S = ((List.range k).filter (fun a => !decide (a = g))).countP S + ((List.range k).filter (fun a => !!decide (a = g))).countP S := List.countP_eq_countP_filter_add _ _ _
  rw [one_g hg, show (List.range k).filter (fun a => !decide (a = g)) = (List.range (k - 1)).map (upN g) from Sh.butN_eq hg, List.countP_map] at e
  rw [e]
  congr 1
  · refine cnt_congr fun j hj => ?_
    rw [cut_at hj]
    rfl
  · cases z : S g <;> simp [z]
theorem cnt_dn {i : Nat} (hi : i < k) (h : S i = true) : cnt k S = cnt k (flip S i) + 1 := by
  have := cnt_flip_up (S := flip S i) hi (by rw [flip_self, h]; rfl)
  rw [flip_flip] at this
  exact this
theorem cut_flip {i : Nat} (hi : i ≠ g) (hk : i < k) (hg : g < k) : cut g (k - 1) (flip S i) = flip (cut g (k - 1) S) (dn g i) := by
  have hj : dn g i < k - 1 := (up_lt hg).mp (by rw [up_dn hi]; exact hk)
  funext x
  by_cases z : x = dn g i
  · subst z
    rw [flip_self, cut_at hj, cut_at hj, up_dn hi, flip_self]
  · rw [flip_ne _ z]
    unfold cut
    rw [flip_ne _ fun e => z (by rw [← e, dn_up])]
/-- g never goes -/
def Never (k : Nat) (G : Nat → Nat → Bool) (S : Nat → Bool) (g : Nat) : Prop := ∀ U, Reach k G S U → G (if U g = true then cnt k U - 1 else cnt k U) g = false
theorem Never.down (hg : g < k) (nv : Never k G S g) (gs : ∀ s j, j < k - 1 → G' s j = G (s + if S g = true then 1 else 0) (upN g j)) (r : Reach k G S U) : U g = S g ∧ Reach (k - 1) G' (cut g (k - 1) S) (cut g (k - 1) U) := by
  induction r with
  | refl => exact ⟨rfl, .refl _⟩
  | @step V W r st ih =>
    obtain ⟨e, r'⟩ := ih
    have nV := nv V r
    have cV := cnt_cut hg V
    rw [e] at cV
    cases st with
    | @up i hi hs hgo =>
      have ne : i ≠ g := fun z => by
        subst z
        rw [if_neg (by rw [hs]; exact Bool.false_ne_true)] at nV
        rw [nV] at hgo
        cases hgo
      have hj : dn g i < k - 1 := (up_lt hg).mp (by rw [up_dn ne]; exact hi)
      refine ⟨by rw [flip_ne _ (Ne.symm ne)]; exact e, ?_⟩
      rw [cut_flip ne hi hg]
      refine .step r' (.up hj ?_ ?_)
      · rw [cut_at hj, up_dn ne]
        exact hs
      · rw [gs _ _ hj, up_dn ne, ← cV]
        exact hgo
    | @dn i hi hs hgo =>
      have ne : i ≠ g := fun z => by
        subst z
        rw [if_pos hs] at nV
        rw [nV] at hgo
        cases hgo
      have hj : Sh.dn g i < k - 1 := (up_lt hg).mp (by rw [up_dn ne]; exact hi)
      have hc : cut g (k - 1) V (Sh.dn g i) = true := by
        rw [cut_at hj, up_dn ne]
        exact hs
      have c1 := cnt_dn hj hc
      refine ⟨by rw [flip_ne _ (Ne.symm ne)]; exact e, ?_⟩
      rw [cut_flip ne hi hg]
      refine .step r' (.dn hj hc ?_)
      rw [gs _ _ hj, up_dn ne, show cnt (k - 1) (cut g (k - 1) V) - 1 + (if S g = true then 1 else 0) = cnt k V - 1 by omega]
      exact hgo
/-- g put back -/
def ins (k g : Nat) (S V : Nat → Bool) : Nat → Bool := fun i => if i < k ∧ i ≠ g then V (dn g i) else S i
theorem ins_g : ins k g S V g = S g := by unfold ins; rw [if_neg fun z => z.2 rfl]
theorem ins_at {j : Nat} (hg : g < k) (hj : j < k - 1) : ins k g S V (upN g j) = V j := by
  unfold ins
  rw [if_pos ⟨(up_lt hg).mpr hj, up_ne g j⟩, dn_up]
theorem ins_cut (hg : g < k) : ins k g S (cut g (k - 1) S) = S := by
  funext i
  unfold ins
  split
  · rename_i h
    rw [cut_at ((up_lt hg).mp (by rw [up_dn h.2]; exact h.1)), up_dn h.2]
  · rfl
theorem ins_flip {j : Nat} (hg : g < k) (hj : j < k - 1) : ins k g S (flip V j) = flip (ins k g S V) (upN g j) := by
  funext i
  by_cases z : i = upN g j
  · subst z
    rw [flip_self, ins_at hg hj, ins_at hg hj, flip_self]
  · rw [flip_ne _ z]
    unfold ins
    split
    · rename_i h
      rw [flip_ne _ fun e => z (by rw [← e, up_dn h.2])]
    · rfl
theorem cnt_ins (hg : g < k) : cnt k (ins k g S V) = cnt (k - 1) V + (if S g = true then 1 else 0) := by
  rw [cnt_cut hg, ins_g]
  congr 1
  exact cnt_congr fun j hj => by rw [cut_at hj, ins_at hg hj]
theorem reach_ins (hg : g < k) (gs : ∀ s j, j < k - 1 → G' s j = G (s + if S g = true then 1 else 0) (upN g j)) {X Y : Nat → Bool} (r : Reach (k - 1) G' X Y) : Reach k G (ins k g S X) (ins k g S Y) := by
  induction r with
  | refl => exact .refl _
  | @step V W r st ih =>
    cases st with
    | @up j hj hs hgo =>
      rw [ins_flip hg hj]
      refine .step ih (.up ((up_lt hg).mpr hj) ?_ ?_)
      · rw [ins_at hg hj]
        exact hs
      · rw [cnt_ins hg, ← gs _ _ hj]
        exact hgo
    | @dn j hj hs hgo =>
      have c1 := cnt_dn hj hs
      rw [ins_flip hg hj]
      refine .step ih (.dn ((up_lt hg).mpr hj) ?_ ?_)
      · rw [ins_at hg hj]
        exact hs
      · rw [cnt_ins hg, show cnt (k - 1) V + (if S g = true then 1 else 0) - 1 = cnt (k - 1) V - 1 + (if S g = true then 1 else 0) by omega, ← gs _ _ hj]
        exact hgo
end
end Th
namespace Sh
open PySem PySem.Spec PyProof.Rows L2
section
variable {h t : Int} {ds : List Int} {L M : List Nat} {g : Nat}
theorem mem_lessF (hL : Lot ds.length L) (hg : g < ds.length) : mem (less L g) = Th.cut g (ds.length - 1) (mem L) := by
  funext j
  unfold mem Th.cut
  rw [Bool.eq_iff_iff, Bool.and_eq_true, decide_eq_true_eq, decide_eq_true_eq, decide_eq_true_eq, mem_less]
  exact ⟨fun z => ⟨(up_lt hg).mp (hL.lt _ z), z⟩, fun z => z.2⟩
theorem never_of (hL : Lot ds.length L) (hg : g < ds.length) (nv : ∀ M, Lot ds.length M → Rl h t ds L M → mayB h t ds M g = false) : Th.Never ds.length (Gof h t ds) (mem L) g := fun U r => by
  have eU := lotOf_eq hL r
  have lU : Lot ds.length (lotOf ds.length U) := lotOf_lot _ _
  have := nv _ lU (by show Th.Reach _ _ _ _; rw [eU]; exact r)
  rw [may_G, near_cnt lU hg, ← cnt_mem lU, eU] at this
  rw [← this]
  congr 1
  by_cases z : g ∈ lotOf ds.length U
  · rw [if_pos z, if_pos (by rw [← eU]; exact decide_eq_true z)]
  · rw [if_neg z, if_neg (by rw [← eU]; simpa [mem] using z)]
def pondH (h : Int) (L : List Nat) (g : Nat) : Int := h + if g ∈ L then 1 else 0
def pondT (t : Int) (L : List Nat) (g : Nat) : Int := t + if g ∈ L then 0 else 1
theorem sunk_len (hg : g < ds.length) : (ds.take g ++ ds.drop (g + 1)).length = ds.length - 1 := by
  rw [List.length_append, List.length_take, List.length_drop]
  omega
theorem gof_sunk (hg : g < ds.length) (s j : Nat) (hj : j < ds.length - 1) : Gof (pondH h L g) (pondT t L g) (ds.take g ++ ds.drop (g + 1)) s j = Gof h t ds (s + if mem L g = true then 1 else 0) (upN g j) := by
  have dj : (ds.take g ++ ds.drop (g + 1)).getD j 0 = ds.getD (upN g j) 0 := by
    rw [← pick_but hg, pickD_at (by rw [butN_len hg]; exact hj), ← getD_at (d := 0), butN_at hg hj]
  unfold Gof
  rw [dj, sunk_len hg]
  have em : mk (pondH h L g) (pondT t L g) (ds.length - 1) (s : Int) = mk h t ds.length ((s + if mem L g = true then 1 else 0 : Nat) : Int) := by
    by_cases z : g ∈ L
    · rw [if_pos (show mem L g = true from decide_eq_true z)]
      unfold pondH pondT
      rw [if_pos z, if_pos z]
      unfold mk
      split <;> split <;> omega
    · rw [if_neg (show ¬ mem L g = true from fun y => z (of_decide_eq_true y))]
      unfold pondH pondT
      rw [if_neg z, if_neg z]
      unfold mk
      split <;> split <;> omega
  rw [em]
/-- one that never goes may as well be sunk -/
theorem sz_sunk (hL : Lot ds.length L) (hg : g < ds.length) (nv : ∀ M, Lot ds.length M → Rl h t ds L M → mayB h t ds M g = false) :
    Sz (pondH h L g) (pondT t L g) (ds.take g ++ ds.drop (g + 1)) (less L g) = Sz h t ds L := by
  have nF := never_of hL hg nv
  have gs := fun s j hj => gof_sunk (h := h) (t := t) (L := L) hg s j hj
  generalize eF : (allLots ds.length).filter (fun M => @decide (Rl h t ds L M) (Classical.propDecidable _)) = F
  have mF : ∀ M, M ∈ F ↔ Lot ds.length M ∧ Rl h t ds L M := fun M => by
    rw [← eF, List.mem_filter]
    exact and_congr ⟨allLots_lot, lot_all⟩ (@decide_eq_true_iff _ (Classical.propDecidable _))
  have ndF : F.Nodup := by rw [← eF]; exact (allLots_nd _).filter _
  have a : F.length = Sz h t ds L := fam_len ndF mF
  have sl := sunk_len hg
  have b : (F.map (less · g)).length = Sz (pondH h L g) (pondT t L g) (ds.take g ++ ds.drop (g + 1)) (less L g) := by
    refine fam_len ?_ fun M' => ?_
    · refine List.pairwise_map.mpr (List.Pairwise.imp_of_mem (fun {x y} hx hy n e => n ?_) ndF)
      obtain ⟨lx, rx⟩ := (mF x).mp hx
      obtain ⟨ly, ry⟩ := (mF y).mp hy
      have gx := (Th.Never.down hg nF gs rx).1
      have gy := (Th.Never.down hg nF gs ry).1
      refine lot_ext lx ly fun i hi => ?_
      by_cases z : i = g
      · rw [z, gx, gy]
      · have hj : dn g i < ds.length - 1 := (up_lt hg).mp (by rw [up_dn z]; exact hi)
        have e1 := congrFun (mem_lessF lx hg) (dn g i)
        have e2 := congrFun (mem_lessF ly hg) (dn g i)
        rw [Th.cut_at hj, up_dn z] at e1 e2
        rw [← e1, ← e2, e]
    · rw [List.mem_map, sl]
      constructor
      · rintro ⟨M, hM, rfl⟩
        obtain ⟨l, r⟩ := (mF M).mp hM
        refine ⟨less_lot hg l, ?_⟩
        have := (Th.Never.down hg nF gs r).2
        unfold Rl
        rw [sl, mem_lessF hL hg, mem_lessF l hg]
        exact this
      · rintro ⟨l, r⟩
        unfold Rl at r
        rw [sl, mem_lessF hL hg] at r
        have r2 := Th.reach_ins (S := mem L) hg gs r
        rw [Th.ins_cut hg] at r2
        have eU := lotOf_eq hL r2
        have lU : Lot ds.length (lotOf ds.length (Th.ins ds.length g (mem L) (mem M'))) := lotOf_lot _ _
        refine ⟨_, (mF _).mpr ⟨lU, by show Th.Reach _ _ _ _; rw [eU]; exact r2⟩, ?_⟩
        refine lot_ext (less_lot hg lU) l fun j hj => ?_
        rw [mem_lessF lU hg, Th.cut_at hj, eU, Th.ins_at hg hj]
  rw [← a, ← b, List.length_map]
end
end Sh

namespace Sh
open PySem PySem.Spec PyProof.Rows L2
structure PdOk (m h t : Int) (ds : List Int) : Prop where
  h0 : 0 ≤ h
  h1 : h ≤ m
  t0 : 0 ≤ t
  t1 : t ≤ m
  l0 : 0 < ds.length
  l1 : ds.length ≤ 8
  d0 : ∀ d ∈ ds, 0 ≤ d ∧ d ≤ 2000000000000
/-- one ever goes -/
noncomputable def goesB (h t : Int) (ds : List Int) (L : List Nat) (i : Nat) : Bool := @decide (∃ M, Lot ds.length M ∧ Rl h t ds L M ∧ mayB h t ds M i = true) (Classical.propDecidable _)
theorem goes_mem {h t : Int} {ds : List Int} {L ms : List Nat} {i : Nat} (im : IsMovers h t ds L ms) (hi : i < ds.length) : goesB h t ds L i = decide (i ∈ ms) := by
  unfold goesB
  rw [Bool.eq_iff_iff]
  exact Iff.trans (@decide_eq_true_iff _ (Classical.propDecidable _)) (Iff.trans (im.2 i hi).symm decide_eq_true_iff.symm)
theorem PdOk.ren {m h t : Int} {ds : List Int} {os : List Nat} (po : PdOk m h t ds) (o : OrdN ds.length os) : PdOk (m + 3) h t (pickD ds os) := by
  have lp : (pickD ds os).length = ds.length := by rw [pickD_len, o.len]
  refine ⟨po.h0, by have := po.h1; omega, po.t0, by have := po.t1; omega, by rw [lp]; exact po.l0, by rw [lp]; exact po.l1, fun d hd => ?_⟩
  obtain ⟨x, hx, rfl⟩ := List.mem_map.mp hd
  have := o.lt x hx
  rw [getD_at this]
  exact po.d0 _ (List.getElem_mem this)
theorem PdOk.sunk {m h t : Int} {ds : List Int} {L : List Nat} {g : Nat} (po : PdOk m h t ds) (hg : g < ds.length) (c2 : 1 < ds.length) : PdOk (m + 3) (pondH h L g) (pondT t L g) (ds.take g ++ ds.drop (g + 1)) := by
  have sl := sunk_len hg
  have := po.h0
  have := po.h1
  have := po.t0
  have := po.t1
  have := po.l1
  refine ⟨?_, ?_, ?_, ?_, by omega, by omega, fun d hd => ?_⟩
  · unfold pondH; split <;> omega
  · unfold pondH; split <;> omega
  · unfold pondT; split <;> omega
  · unfold pondT; split <;> omega
  · rcases List.mem_append.mp hd with z | z
    · exact po.d0 d (List.mem_of_mem_take z)
    · exact po.d0 d (List.mem_of_mem_drop z)
def spDoor (K : PySem.W.Frag) : Sp := fun vs H Q _ => ∃ (b : Addr) (n : Nat) (m : Int) (v l : V) (h t : Int) (ds : List Int) (L : List Nat), vs = [.ref b, v, l] ∧ BoxAt H b (n + 200) ∧ SeaT K H v h t ds ∧ LotT K H l L ∧ Lot ds.length L ∧ PdOk m h t ds ∧
  ∀ (H' : Hp) (r : Addr) (pv lv mv iv : V) (h' t' : Int) (ds' : List Int) (L' : List Nat) (sm : Bool), But b H H' → BoxAt H' b n → H' r = some (.tup [pv, lv, mv, iv, .bl sm]) → SeaT K H' pv h' t' ds' → LotT K H' lv L' → SeaT K H' mv h' t' ds' → LotT K H' iv L' → Lot ds'.length L' → PdOk (m + 3) h' t' ds' →
    Sz h t ds L ≤ Sz h' t' ds' L' → (sm = true → Sz h' t' ds' L' = Sz h t ds L) → Q (.ref r) H'
abbrev s__law_door : Stmt := topS 64
theorem sc__law_door : FnScope (["_law_box_here", "_law_pond", "_law_lot_here", "_law_way", "_law_count", "_law_fast", "_law_turns", "_law_mine", "_law_its", "_law_much", "_law_gone_here", "_law_found", "_law_is_here", "_law_some", "_law_whom", "_law_at"] : List Str) (["_law_box_here", "_law_pond", "_law_lot_here"] : List Str) (defScope s__law_door) := ⟨rfl, rfl, rfl, by decide +kernel, rfl, by decide +kernel, by decide +kernel⟩
theorem b__law_door (kV doc pm : Value) (an : Option Addr) (cdv ct : Value) (us : List Value) (hl : us.length = (["_law_box_here", "_law_pond", "_law_lot_here"] : List Str).length) : bindArgs (PySem.W.fnOf "_law_door" "_law_door" (defArgs s__law_door) (defBody s__law_door) (defScope s__law_door) .none kV doc pm an cdv ct) ⟨us, []⟩ = pure ((["_law_box_here", "_law_pond", "_law_lot_here"] : List Str).zip us) :=
  match us, hl with | [_, _, _], _ => rfl
section
variable {P : Program} {w : World} {K : PySem.W.Frag} {mg : Str → Option Value} {base : Heap}
set_option maxHeartbeats 8000000 in
theorem ok_door {k : Nat} (D : Df K mg "_law_door" s__law_door) (T : Bt mg) (O__law_take : Ok P w K mg base k "_law_take" s__law_take ["_law_box_here", "_law_span"] spTake) (O__law_of : Ok P w K mg base k "_law_of" s__law_of ["_law_box_here", "_law_some"] (spOf K))
    (O__law_strewn : Ok P w K mg base k "_law_strewn" s__law_strewn ["_law_box_here", "_law_some"] (spStrewn K)) (O__law_lets : Ok P w K mg base k "_law_lets" s__law_lets ["_law_sea_here", "_law_lot_here"] (spLets K)) (O__law_gone : Ok P w K mg base k "_law_gone" s__law_gone ["_law_lot_here", "_law_whom"] (spGone K))
    (O_movers_of : Ok P w K mg base k "movers_of" s_movers_of ["sea", "standing"] (spMovers K)) (O_renumbered : Ok P w K mg base k "renumbered" s_renumbered ["sea", "order"] (spRenum K)) (O_renumbered_standing : Ok P w K mg base k "renumbered_standing" s_renumbered_standing ["order", "standing"] (spRenumS K))
    (O_turned_sea : Ok P w K mg base k "turned_sea" s_turned_sea ["sea"] (spTurned K)) (O_other_side : Ok P w K mg base k "other_side" s_other_side ["sea", "standing"] (spOther K)) (O_deepened : Ok P w K mg base k "deepened" s_deepened ["sea", "side", "more"] (spDeep K)) (O_sunk : Ok P w K mg base k "sunk" s_sunk ["sea", "standing", "ship"] (spSunk K))
    (O_crossed : Ok P w K mg base k "crossed" s_crossed ["sea", "standing", "ship"] (spCrossed K)) :
    Ok P w K mg base (k + 1) "_law_door" s__law_door ["_law_box_here", "_law_pond", "_law_lot_here"] (spDoor K) := by
  refine D.ok sc__law_door b__law_door (fun vs H Q E h => ?_) (fun f cdv A outer s H vs Q E hr h => ?_)
  · obtain ⟨b, n, m, v, l, h, t, ds, L, rfl, _⟩ := h
    rfl
  · obtain ⟨b, n, m, v, l, h, t, ds, L, rfl, hb, sea, lot, hL, po, q⟩ := h
    have k0 := po.l0
    have k1 := po.l1
    have lL := hL.len
    refine ⟨_, (pss_cons (ps_par (i := 3) (j := 4) (by rfl) sc__law_door.nd rfl rfl (by decide) rfl rfl (pa_cons (pe_fn O__law_take (hr.mono (by omega)) (pa_cons (pv 0) (pa_cons pe_int pa_nil))) (pa_cons (pe_callB call_len_seq (by rfl) T.len_ PySem.boot_len (pa_cons (pe_ix ix_lt (pv 1) pe_int (fun _ _ => rfl)) pa_nil)) pa_nil)) (by rfl))
      (pss_cons (ps_setLc (i := 5) (own := [("_law_whom", 14)]) (g := (gName 14)) (by rfl) sc__law_door.nd rfl rfl (sw_true rfl rfl rfl (by decide +kernel)) (pi_range1 (by rfl) T.range_ (pa_cons (pv 4) pa_nil)) (blkOk_by (own := [("_law_whom", 14)]) (N := (["_law_box_here", "_law_pond", "_law_lot_here", "_law_way", "_law_count", "_law_fast", "_law_turns", "_law_mine", "_law_its", "_law_much", "_law_gone_here", "_law_found", "_law_is_here", "_law_some", "_law_whom", "_law_at"] : List Str)) (sc := defScope s__law_door) (by decide +kernel)) (fun _ _ _ _ _ => (pg_name (i := 14) sc__law_door.nd rfl (.inl rfl))) (fun _ _ _ _ _ => (pts_one (pt_cmpR (op_notInK K) (pv 14) (pe_fn O_movers_of (hr.mono (by omega)) (pa_cons (pv 1) (pa_cons (pv 2) pa_nil))) (by rfl)))) (fun _ _ _ _ _ => (pv 14)))
      (pss_cons (ps_if (pt_cmpR op_eq (pv 3) pe_int (nomark _))
        (pss_cons (ps_set (i := 6) sc__law_door.nd rfl (.inl rfl) (pe_fn O__law_strewn (hr.mono (by omega)) (pa_cons (pv 0) (pa_cons (pe_listRg (by rfl) (by rfl) T.list_ (prg_1 (by rfl) T.range_ (pv 4))) pa_nil))))
          (pss_cons (ps_set (i := 7) sc__law_door.nd rfl (.inl rfl) (pe_tup (pa_cons (pe_ix ix_lt (pv 1) pe_int (fun _ _ => rfl)) (pa_cons (pe_ix ix_lt (pv 1) pe_int (fun _ _ => rfl)) (pa_cons (pe_callTy call_tuple_of (by rfl) T.tuple_ (by decide +kernel) (pa_cons (pe_lc (own := [("_law_whom", 14)]) (g := (gName 14)) (tt := tYes) (by rfl) sc__law_door.nd (pi_seq (pv 6)) (blkOk_by (own := [("_law_whom", 14)]) (N := (["_law_box_here", "_law_pond", "_law_lot_here", "_law_way", "_law_count", "_law_fast", "_law_turns", "_law_mine", "_law_its", "_law_much", "_law_gone_here", "_law_found", "_law_is_here", "_law_some", "_law_whom", "_law_at"] : List Str)) (sc := defScope s__law_door) (by decide +kernel)) (fun _ _ _ _ _ => (pg_name (i := 14) sc__law_door.nd rfl (.inl rfl))) (fun _ _ _ _ _ => pts_nil) (fun _ _ _ _ _ => (pe_ix (ix_ltK K) (pe_ix (ix_ltK K) (pv 1) pe_int (fun _ _ => rfl)) (pv 14) (fun _ _ => rfl)))) pa_nil)) pa_nil)))))
          (pss_cons (ps_set (i := 8) sc__law_door.nd rfl (.inl rfl) (pe_callTy call_tuple_of (by rfl) T.tuple_ (by decide +kernel) (pa_cons (pe_lc (own := [("_law_at", 15), ("_law_whom", 14)]) (g := (gSeq K 2 (gCons (gName 15) (gCons (gName 14) gNil)))) (by rfl) sc__law_door.nd (pi_enumA (by rfl) T.enumerate_ (pa_cons (pv 6) pa_nil)) (blkOk_by (own := [("_law_at", 15), ("_law_whom", 14)]) (N := (["_law_box_here", "_law_pond", "_law_lot_here", "_law_way", "_law_count", "_law_fast", "_law_turns", "_law_mine", "_law_its", "_law_much", "_law_gone_here", "_law_found", "_law_is_here", "_law_some", "_law_whom", "_law_at"] : List Str)) (sc := defScope s__law_door) (by decide +kernel)) (fun _ _ _ _ _ => (pg_seq rfl (pgs_cons (pg_name (i := 15) sc__law_door.nd rfl (.inl rfl)) (pgs_cons (pg_name (i := 14) sc__law_door.nd rfl (.inl rfl)) pgs_nil)))) (fun _ _ _ _ _ => (pts_one (pt_cmpR (op_inK K) (pv 14) (pv 2) (by rfl)))) (fun _ _ _ _ _ => (pv 15))) pa_nil)))
          (pss_one (ps_ret (pe_tup (pa_cons (pe_fn O_renumbered (hr.mono (by omega)) (pa_cons (pv 1) (pa_cons (pv 6) pa_nil))) (pa_cons (pe_fn O_renumbered_standing (hr.mono (by omega)) (pa_cons (pv 6) (pa_cons (pv 2) pa_nil))) (pa_cons (pv 7) (pa_cons (pv 8) (pa_cons pe_bl pa_nil)))))))))))
        pss_nil)
      (pss_cons (ps_if (pt_cmpR op_eq (pv 3) pe_int (nomark _))
        (pss_cons (ps_set (i := 8) sc__law_door.nd rfl (.inl rfl) (pe_callTy call_tuple_of (by rfl) T.tuple_ (by decide +kernel) (pa_cons (pe_lc (own := [("_law_whom", 14)]) (g := (gName 14)) (by rfl) sc__law_door.nd (pi_range1 (by rfl) T.range_ (pa_cons (pv 4) pa_nil)) (blkOk_by (own := [("_law_whom", 14)]) (N := (["_law_box_here", "_law_pond", "_law_lot_here", "_law_way", "_law_count", "_law_fast", "_law_turns", "_law_mine", "_law_its", "_law_much", "_law_gone_here", "_law_found", "_law_is_here", "_law_some", "_law_whom", "_law_at"] : List Str)) (sc := defScope s__law_door) (by decide +kernel)) (fun _ _ _ _ _ => (pg_name (i := 14) sc__law_door.nd rfl (.inl rfl))) (fun _ _ _ _ _ => (pts_one (pt_cmpR (op_notInK K) (pv 14) (pv 2) (by rfl)))) (fun _ _ _ _ _ => (pv 14))) pa_nil)))
          (pss_one (ps_ret (pe_tup (pa_cons (pe_fn O_turned_sea (hr.mono (by omega)) (pa_cons (pv 1) pa_nil)) (pa_cons (pe_fn O_other_side (hr.mono (by omega)) (pa_cons (pv 1) (pa_cons (pv 2) pa_nil))) (pa_cons (pe_tup (pa_cons (pe_ix ix_lt (pv 1) pe_int (fun _ _ => rfl)) (pa_cons (pe_ix ix_lt (pv 1) pe_int (fun _ _ => rfl)) (pa_cons (pe_ix ix_lt (pv 1) pe_int (fun _ _ => rfl)) pa_nil)))) (pa_cons (pv 8) (pa_cons pe_bl pa_nil)))))))))
        pss_nil)
      (pss_cons (ps_if (pt_cmpR op_eq (pv 3) pe_int (nomark _))
        (pss_cons (ps_set (i := 9) sc__law_door.nd rfl (.inl rfl) (pe_fn O__law_take (hr.mono (by omega)) (pa_cons (pv 0) (pa_cons pe_int pa_nil))))
          (pss_one (ps_ret (pe_tup (pa_cons (pe_fn O_deepened (hr.mono (by omega)) (pa_cons (pv 1) (pa_cons pe_str (pa_cons (pv 9) pa_nil)))) (pa_cons (pv 2) (pa_cons (pe_tup (pa_cons (pe_ix ix_lt (pv 1) pe_int (fun _ _ => rfl)) (pa_cons (pe_op op_add (pe_ix ix_lt (pv 1) pe_int (fun _ _ => rfl)) (pv 9)) (pa_cons (pe_ix ix_lt (pv 1) pe_int (fun _ _ => rfl)) pa_nil)))) (pa_cons (pv 2) (pa_cons pe_bl pa_nil)))))))))
        pss_nil)
      (Evl.pss_cut (ps_if (PW.pt (pw_and (pt_cmpR op_eq (pv 3) pe_int (nomark _)) (pw_and (pt_cmpR (op_neD hr.units) (pv 5) (pe_lst pa_nil) (nomark _)) (pw_and1 (pt_cmpR op_gt (pv 4) pe_int (nomark _))))))
        (pss_cons (ps_set (i := 10) sc__law_door.nd rfl (.inr rfl) (pe_fn O__law_of (hr.mono (by omega)) (pa_cons (pv 0) (pa_cons (pv 5) pa_nil))))
          (pss_cons (ps_set (i := 11) sc__law_door.nd rfl (.inl rfl) (pe_fn O_sunk (hr.mono (by omega)) (pa_cons (pv 1) (pa_cons (pv 2) (pa_cons (pv 10) pa_nil)))))
          (pss_cons (ps_set (i := 8) sc__law_door.nd rfl (.inl rfl) (pe_callTy call_tuple_of (by rfl) T.tuple_ (by decide +kernel) (pa_cons (pe_lc (own := [("_law_whom", 14)]) (g := (gName 14)) (by rfl) sc__law_door.nd (pi_seq (pv 2)) (blkOk_by (own := [("_law_whom", 14)]) (N := (["_law_box_here", "_law_pond", "_law_lot_here", "_law_way", "_law_count", "_law_fast", "_law_turns", "_law_mine", "_law_its", "_law_much", "_law_gone_here", "_law_found", "_law_is_here", "_law_some", "_law_whom", "_law_at"] : List Str)) (sc := defScope s__law_door) (by decide +kernel)) (fun _ _ _ _ _ => (pg_name (i := 14) sc__law_door.nd rfl (.inl rfl))) (fun _ _ _ _ _ => (pts_one (pt_cmpR op_ne (pv 14) (pv 10) (nomark _)))) (fun _ _ _ _ _ => (pe_op op_sub (pv 14) (pe_callTy call_int1 (by rfl) T.int_ (by decide +kernel) (pa_cons (pe_cmpR op_gt (pv 14) (pv 10) (nomark _)) pa_nil))))) pa_nil)))
          (pss_cons (ps_set (i := 12) sc__law_door.nd rfl (.inl rfl) (pe_callTy call_int1 (by rfl) T.int_ (by decide +kernel) (pa_cons (pe_cmpR op_in_seq (pv 10) (pv 2) (by rfl)) pa_nil)))
          (pss_cons (ps_set (i := 7) sc__law_door.nd rfl (.inl rfl) (pe_tup (pa_cons (pe_op op_add (pe_ix ix_lt (pv 1) pe_int (fun _ _ => rfl)) (pv 12)) (pa_cons (pe_op op_sub (pe_op op_add (pe_ix ix_lt (pv 1) pe_int (fun _ _ => rfl)) pe_int) (pv 12)) (pa_cons (pe_op op_catS (pe_slice sl_tupS (pe_ix ix_lt (pv 1) pe_int (fun _ _ => rfl)) po_none (po_some (pv 10))) (pe_slice sl_tupS (pe_ix ix_lt (pv 1) pe_int (fun _ _ => rfl)) (po_some (pe_op op_add (pv 10) pe_int)) po_none)) pa_nil)))))
          (pss_one (ps_ret (pe_tup (pa_cons (pe_ix ix_lt (pv 11) pe_int (fun _ _ => rfl)) (pa_cons (pe_ix ix_lt (pv 11) pe_int (fun _ _ => rfl)) (pa_cons (pv 7) (pa_cons (pv 8) (pa_cons pe_bl pa_nil)))))))))))))
        pss_nil)
      (pss_cons (ps_set (i := 13) sc__law_door.nd rfl (.inl rfl) (pe_fn O__law_lets (hr.mono (by omega)) (pa_cons (pv 1) (pa_cons (pv 2) pa_nil))))
      (pss_cons (ps_if (pt_cmpR (op_eqD hr.units) (pv 13) (pe_lst pa_nil) (nomark _))
        (pss_one (ps_ret (pe_tup (pa_cons (pv 1) (pa_cons (pv 2) (pa_cons (pv 1) (pa_cons (pv 2) (pa_cons pe_bl pa_nil))))))))
        pss_nil)
      (pss_cons (ps_set (i := 14) sc__law_door.nd rfl (.inl rfl) (pe_fn O__law_of (hr.mono (by omega)) (pa_cons (pv 0) (pa_cons (pv 13) pa_nil))))
      (pss_one (ps_ret (pe_tup (pa_cons (pv 1) (pa_cons (pe_fn O_crossed (hr.mono (by omega)) (pa_cons (pv 1) (pa_cons (pv 2) (pa_cons (pv 14) pa_nil)))) (pa_cons (pv 1) (pa_cons (pe_fn O__law_gone (hr.mono (by omega)) (pa_cons (pv 2) (pa_cons (pv 14) pa_nil))) (pa_cons pe_bl pa_nil))))))))))))))))), ?_⟩
    refine ⟨_, rfl, b, n + 199, 5, rfl, by decide, by decide, hb, fun way ys w0 w1 hy => ?_⟩
    have u1 : But b H (upd H b (.lst ys)) := But.ups
    have x1 : BoxAt (upd H b (.lst ys)) b (n + 199) := .put hy
    have sea1 := sea.but hb u1
    have lot1 := lot.but hb u1
    generalize upd H b (.lst ys) = H1 at u1 x1 sea1 lot1
    clear hy sea lot
    obtain ⟨p, q', rfl, hp, hq⟩ := id sea1
    obtain ⟨pl, rfl, hl⟩ := id lot1
    refine ⟨_, rfl, p, _, 2, .ref q', rfl, rfl, .inr hp, rfl, q', _, rfl, .inr hq, ?_⟩
    rw [List.length_map]
    refine ⟨_, _, rfl, ?_⟩
    -- those that never go
    refine ⟨_, rfl, (ds.length : Int), rfl, by omega, by omega, fun C nC => ?_⟩
    rw [show ((ds.length : Int)).toNat = ds.length by omega]
    refine lc_filterS (fun j => !goesB h t ds L j) (walk_rg ds.length) (fun _ _ => trivial) nC (by rw [List.length_range]; omega) (fun _ => rfl) (fun _ => rfl) (fun y hy H' s' Q' q' => ?_) (fun H2 s2 hC => ?_)
    · refine ⟨_, rfl, _, rfl, _, rfl, .ref p, .ref pl, h, t, ds, L, rfl, (sea1.same s').d, (lot1.same s').a, by omega, k0, hL, fun H2 pm ms s2 npm hpm im => ?_⟩
      refine ⟨pm, _, rfl, SqA.l hpm, rfl, ni_flat ms, _, rfl, ?_⟩
      rw [if_pos rfl, in_ni, ← goes_mem im (List.mem_range.mp hy)]
      exact q' H2 s2
    generalize eC : (List.range ds.length).filter (fun j => !goesB h t ds L j) = fs at hC
    have u2 : But b H H2 := u1.trans (Same.but (b := b) s2)
    have x2 := x1.same s2
    have Cb : C ≠ b := (x1.ne nC).symm
    have sea2 := sea1.same s2
    have lot2 := lot1.same s2
    replace hp := Same.tup s2 hp
    replace hq := Same.tup s2 hq
    replace hl := Same.tup s2 hl
    clear sea1 lot1 s2 x1 u1 nC
    refine ⟨_, rfl, rfl, _, rfl, ite2 (fun c0 => ?_) (fun c0 => ?_)⟩
    · -- numbered anew
      refine ⟨_, rfl, _, rfl, _, rfl, .of_le (by omega) (by omega) (by omega) (by omega), fun rp nrp => ?_⟩
      rw [rgV_ni]
      have s3 : Same H2 (upd H2 rp (.lst (ni (List.range ds.length)))) := same_new nrp
      have e3 : upd H2 rp (.lst (ni (List.range ds.length))) rp = some (.lst (ni (List.range ds.length))) := upd_same
      generalize upd H2 rp (.lst (ni (List.range ds.length))) = H3 at s3 e3
      have x3 := x2.same s3
      rw [ni_ints] at e3
      refine ⟨b, rp, n + 99, _, rfl, SqA.l e3, by simp; omega, x3.mono (by omega), fun H4 r1 ys1 u4 x4 nr1 h4 pm1 => ?_⟩
      obtain ⟨os, rfl, ord, per⟩ := perm_natP pm1
      rw [← ni_ints] at h4
      have sea4 := (sea2.same s3).but x3 u4
      have lot4 := (lot2.same s3).but x3 u4
      replace hp := tup_but (Same.tup s3 hp) x3 u4
      replace hq := tup_but (Same.tup s3 hq) x3 u4
      replace hl := tup_but (Same.tup s3 hl) x3 u4
      replace u4 := (u2.trans (Same.but (b := b) s3)).trans u4
      clear s3 e3 x3 sea2 lot2 hC u2 x2
      have o1 := ord.len
      -- this law's own
      refine ⟨_, rfl, p, _, 0, .int h, rfl, rfl, .inr hp, rfl, _, rfl, p, _, 1, .int t, rfl, rfl, .inr hp, rfl, _, rfl, r1, _, H4, rfl, SqA.l h4, Kp.refl _ _, fun J hJ C nC => ?_⟩
      obtain ⟨G, g, W⟩ := hJ.walk
      refine lc_it W (fun i H' => Same H4 H' ∧ H' C = some (.lst ((pickD ds (os.take i)).map V.int))) ⟨same_new nC, upd_same⟩ (fun i H' _ z => g H' (.ofS z.1)) ?_ ?_
      · rintro i x Ha Hb hi ⟨sm, hC⟩ ⟨rfl, gx⟩
        rw [ni_len] at hi
        obtain rfl : .int ((os[i] : Nat) : Int) = x := Option.some.inj ((ni_get hi).symm.trans gx)
        have ho := ord.lt os[i] (List.getElem_mem hi)
        refine ⟨rfl, tyes (iteT ?_)⟩
        refine ⟨_, rfl, p, _, 2, .ref q', rfl, rfl, .inr (Same.tup sm hp), rfl, _, rfl, q', _, _, .int ds[os[i]], rfl, rfl, .inr (Same.tup sm hq), at_nat (j := os[i]) rfl (by simp [ho]), _, hC, ?_, same_over sm nC, ?_⟩
        · unfold pickD
          rw [List.length_map, List.length_map, List.length_take]
          exact small1000 (by omega)
        · rw [upd_same]
          unfold pickD
          rw [map_take _ hi, List.map_append, List.getD_eq_getElem?_getD, List.getElem?_eq_getElem ho]
          rfl
      rintro H5 ⟨s5, hC⟩
      rw [ni_len, List.take_length] at hC
      refine ⟨C, _, rfl, .inl ⟨SqL.of hC, fun a na => ⟨(by show 3 ≤ sizeLine; decide), fun du ndu => ?_⟩⟩⟩
      have due : SeaT K (upd (upd H5 a (.tup ((pickD ds os).map V.int))) du (.tup [.int h, .int t, .ref a])) (.ref du) h t (pickD ds os) := ⟨du, a, rfl, SqT.of upd_same, SqT.of (same_new ndu _ _ upd_same)⟩
      have s6 : Same H4 (upd (upd H5 a (.tup ((pickD ds os).map V.int))) du (.tup [.int h, .int t, .ref a])) := s5.trans ((same_new na).trans (same_new ndu))
      generalize upd (upd H5 a (.tup ((pickD ds os).map V.int))) du (.tup [.int h, .int t, .ref a]) = H6 at due s6
      clear W g G hJ hC s5 nC
      refine ⟨_, rfl, r1, _, H6, rfl, SqA.l (s6 _ _ h4), Kp.refl _ _, fun J hJ C nC => ?_⟩
      obtain ⟨G, g, W⟩ := hJ.walk
      refine lc_it W (fun i H' => Same H6 H' ∧ H' C = some (.lst (ni ((List.range i).filter fun j => decide (os.getD j 0 ∈ L))))) ⟨same_new nC, upd_same⟩ (fun i H' _ z => g H' (.ofS z.1)) ?_ ?_
      · rintro i x Ha Hb hi ⟨sm, hC⟩ ⟨t', x1, x2, rfl, nt, rfl, g1, g2⟩
        rw [ni_len] at hi
        obtain rfl : .int (i : Int) = x1 := Option.some.inj g1
        obtain rfl : .int ((os[i] : Nat) : Int) = x2 := Option.some.inj ((ni_get hi).symm.trans g2)
        have smT : Same H6 (upd Ha t' (.tup [.int (i : Int), .int ((os[i] : Nat) : Int)])) := sm.trans (same_new nt)
        have hCT : upd Ha t' (.tup [.int (i : Int), .int ((os[i] : Nat) : Int)]) C = some (.lst (ni ((List.range i).filter fun j => decide (os.getD j 0 ∈ L)))) := by rw [upd_ne (ne_of_none hC nt)]; exact hC
        have etT : upd Ha t' (.tup [.int (i : Int), .int ((os[i] : Nat) : Int)]) t' = some (.tup [.int (i : Int), .int ((os[i] : Nat) : Int)]) := upd_same
        generalize upd Ha t' (.tup [.int (i : Int), .int ((os[i] : Nat) : Int)]) = Ht at smT hCT etT
        refine ⟨t', _, rfl, SqA.t etT, rfl, _, _, rfl, _, _, rfl, rfl, rfl, ?_⟩
        refine ⟨_, rfl, _, rfl, pl, _, rfl, .inr (Same.tup (s6.trans smT) hl), rfl, ni_flat L, _, rfl, ?_⟩
        rw [in_ni]
        have eo : os.getD i 0 = os[i] := by rw [List.getD_eq_getElem?_getD, List.getElem?_eq_getElem hi]; rfl
        by_cases z : os[i] ∈ L
        · rw [decide_eq_true z]
          refine iteT ⟨_, rfl, _, hCT, ?_, same_over smT nC, ?_⟩
          · rw [ni_len]
            exact Nat.lt_of_le_of_lt (filter_len _ _) (small1000 (by omega))
          · rw [upd_same, filter_succ, if_pos (by rw [eo]; exact decide_eq_true z), ni_app]
            rfl
        · rw [decide_eq_false z]
          refine iteF ⟨smT, ?_⟩
          rw [hCT, filter_succ, if_neg (by rw [eo, decide_eq_false z]; exact Bool.false_ne_true), List.append_nil]
      rintro H7 ⟨s7, hC⟩
      rw [ni_len] at hC
      change H7 C = some (.lst (ni (renS os L))) at hC
      refine ⟨C, _, rfl, .inl ⟨SqL.of hC, fun it nit => ?_⟩⟩
      have iT : LotT K (upd H7 it (.tup (ni (renS os L)))) (.ref it) (renS os L) := ⟨it, rfl, SqT.of upd_same⟩
      have s8 : Same H6 (upd H7 it (.tup (ni (renS os L)))) := s7.trans (same_new nit)
      generalize eH : upd H7 it (.tup (ni (renS os L))) = H8 at iT s8
      clear W g G hJ hC s7 nC
      refine ⟨_, rfl, _, rfl, .ref p, .ref r1, h, t, ds, os, rfl, (sea4.same (s6.trans s8)).a, ⟨r1, rfl, SqA.l ((s6.trans s8) _ _ h4)⟩, by omega, ord.lt, fun H9 ra s9 t9 => ?_⟩
      refine ⟨_, rfl, _, rfl, .ref r1, .ref pl, os, L, rfl, ⟨r1, rfl, SqA.l ((s6.trans (s8.trans s9)) _ _ h4)⟩, (lot4.same (s6.trans (s8.trans s9))).a, by omega, fun H10 rl s10 t10 => ?_⟩
      refine ⟨_, rfl, _, rfl, (by show 5 ≤ sizeLine; decide), fun r nr => ?_⟩
      have s11 : Same H10 (upd H10 r (.tup [ra, rl, .ref du, .ref it, .bl true])) := same_new nr
      have z := s6.trans (s8.trans (s9.trans (s10.trans s11)))
      refine q _ r ra rl (.ref du) (.ref it) h t (pickD ds os) (renS os L) true (u4.trans (Same.but z)) ((x4.same z).mono (by omega)) upd_same (t9.same (s10.trans s11)) (t10.same s11) (due.same (s8.trans (s9.trans (s10.trans s11)))) (iT.same (s9.trans (s10.trans s11))) (by rw [pickD_len, o1]; exact ren_lot ord) (po.ren ord) ?_ ?_
      · exact Nat.le_of_eq (sz_ren ord per hL).symm
      · exact fun _ => sz_ren ord per hL
    refine ⟨_, rfl, rfl, _, rfl, ite2 (fun c1 => ?_) (fun c1 => ?_)⟩
    · -- from the other basin
      refine ⟨_, rfl, _, rfl, by omega, by omega, fun C1 nC1 => ?_⟩
      rw [show ((ds.length : Int)).toNat = ds.length by omega]
      refine lc_filter (fun j => !decide (j ∈ L)) (walk_rg ds.length) (fun _ _ => trivial) nC1 (by rw [List.length_range]; omega) (fun _ => rfl) (fun _ => rfl) (fun y hy H' s' Q' q' => ?_) (fun H3 s3 hC1 => ?_)
      · refine ⟨_, rfl, _, rfl, pl, _, rfl, .inr (Same.tup s' hl), rfl, ni_flat L, _, rfl, ?_⟩
        rw [if_pos rfl, in_ni]
        exact q'
      change H3 C1 = some (.lst (ni (away ds.length L))) at hC1
      refine ⟨C1, _, rfl, .inl ⟨SqL.of hC1, fun it nit => ?_⟩⟩
      have iT : LotT K (upd H3 it (.tup (ni (away ds.length L)))) (.ref it) (away ds.length L) := ⟨it, rfl, SqT.of upd_same⟩
      have s4 : Same H2 (upd H3 it (.tup (ni (away ds.length L)))) := s3.trans (same_new nit)
      generalize upd H3 it (.tup (ni (away ds.length L))) = H4 at iT s4
      refine ⟨_, rfl, .ref p, h, t, ds, rfl, (sea2.same s4).a, by omega, fun H5 ra s5 t5 => ?_⟩
      have s45 := s4.trans s5
      refine ⟨_, rfl, _, rfl, .ref p, .ref pl, h, t, ds, L, rfl, (sea2.same s45).a, (lot2.same s45).a, by omega, hL, fun H6 rl s6 t6 => ?_⟩
      have s46 := s45.trans s6
      refine ⟨_, rfl, p, _, 1, .int t, rfl, rfl, .inr (Same.tup s46 hp), rfl, _, rfl, p, _, 0, .int h, rfl, rfl, .inr (Same.tup s46 hp), rfl, _, rfl, p, _, 2, .ref q', rfl, rfl, .inr (Same.tup s46 hp), rfl, (by show 3 ≤ sizeLine; decide), fun du ndu => ?_⟩
      have due : SeaT K (upd H6 du (.tup [.int t, .int h, .ref q'])) (.ref du) t h ds := ⟨du, q', rfl, SqT.of upd_same, Same.tup (s46.trans (same_new ndu)) hq⟩
      have s7 : Same H6 (upd H6 du (.tup [.int t, .int h, .ref q'])) := same_new ndu
      generalize upd H6 du (.tup [.int t, .int h, .ref q']) = H7 at due s7
      refine ⟨_, rfl, (by show 5 ≤ sizeLine; decide), fun r nr => ?_⟩
      have s8 : Same H7 (upd H7 r (.tup [ra, rl, .ref du, .ref it, .bl true])) := same_new nr
      have z := s46.trans (s7.trans s8)
      refine q _ r ra rl (.ref du) (.ref it) t h ds (away ds.length L) true (u2.trans (Same.but z)) ((x2.same z).mono (by omega)) upd_same (t5.same (s6.trans (s7.trans s8))) (t6.same (s7.trans s8)) (due.same s8) (iT.same (s5.trans (s6.trans (s7.trans s8)))) (away_lot _ _) ?_ (Nat.le_of_eq (sz_turn hL).symm) (fun _ => sz_turn hL)
      exact ⟨po.t0, by have := po.t1; omega, po.h0, by have := po.h1; omega, k0, k1, po.d0⟩
    refine ⟨_, rfl, rfl, _, rfl, ite2 (fun c2 => ?_) (fun c2 => ?_)⟩
    · -- a basin deeper
      refine ⟨_, rfl, b, n + 150, 3, rfl, by decide, by decide, x2.mono (by omega), fun mu ys m0 m1 hy => ?_⟩
      have u3 : But b H2 (upd H2 b (.lst ys)) := But.ups
      have x3 : BoxAt (upd H2 b (.lst ys)) b (n + 150) := .put hy
      have sea3 := sea2.but x2 u3
      have lot3 := lot2.but x2 u3
      replace hp := tup_but hp x2 u3
      replace hq := tup_but hq x2 u3
      generalize upd H2 b (.lst ys) = H3 at u3 x3 sea3 lot3 hp hq
      replace u3 := u2.trans u3
      refine ⟨_, rfl, _, rfl, .ref p, h, t, mu, ds, false, rfl, sea3.a, by omega, fun H4 ra s4 t4 => ?_⟩
      replace t4 : SeaT K H4 ra h (t + mu) ds := t4
      refine ⟨_, rfl, _, rfl, p, _, 0, .int h, rfl, rfl, .inr (Same.tup s4 hp), rfl, _, rfl, p, _, 1, .int t, rfl, rfl, .inr (Same.tup s4 hp), rfl, _, rfl, t, mu, rfl, rfl, _, rfl, p, _, 2, .ref q', rfl, rfl, .inr (Same.tup s4 hp), rfl, (by show 3 ≤ sizeLine; decide), fun du ndu => ?_⟩
      have due : SeaT K (upd H4 du (.tup [.int h, .int (t + mu), .ref q'])) (.ref du) h (t + mu) ds := ⟨du, q', rfl, SqT.of upd_same, Same.tup (s4.trans (same_new ndu)) hq⟩
      have s5 : Same H4 (upd H4 du (.tup [.int h, .int (t + mu), .ref q'])) := same_new ndu
      dsimp only
      generalize upd H4 du (.tup [.int h, .int (t + mu), .ref q']) = H5 at due s5
      refine ⟨_, rfl, (by show 5 ≤ sizeLine; decide), fun r nr => ?_⟩
      have s6 : Same H5 (upd H5 r (.tup [ra, .ref pl, .ref du, .ref pl, .bl false])) := same_new nr
      have z := s4.trans (s5.trans s6)
      refine q _ r ra (.ref pl) (.ref du) (.ref pl) h (t + mu) ds L false (u3.trans (Same.but z)) ((x3.same z).mono (by omega)) upd_same (t4.same (s5.trans s6)) (lot3.same z) (due.same s6) (lot3.same z) hL ?_ (fam_deeper (Int.le_refl _) (by omega)) (fun z => by cases z)
      exact ⟨po.h0, by have := po.h1; omega, by have := po.t0; omega, by have := po.t1; omega, k0, k1, po.d0⟩
    refine ⟨fun σ' H' => σ' = [some (.ref b), some (.ref p), some (.ref pl), some (.int way), some (.int (ds.length : Int)), some (.ref C), none, none, none, none, none, none, none, none, none, none] ∧ Same H2 H', ?_, ?_⟩
    · refine ⟨_, rfl, rfl, _, rfl, ?_⟩
      by_cases c3 : way = 3
      · rw [decide_eq_true (by rw [c3])]
        refine iteT ?_
        refine ⟨_, rfl, Nat.zero_le _, fun em nem => ?_⟩
        have s3 : Same H2 (upd H2 em (.lst [])) := same_new nem
        have e3 : upd H2 em (.lst []) em = some (.lst []) := upd_same
        generalize upd H2 em (.lst []) = H3 at s3 e3
        have hC3 := s3 _ _ hC
        refine ⟨.list ((fs.map fun (i : Nat) => (i : Int)).map .int), .list [], dp_ni hC3, .lst (SqL.of e3) .nil, shaped_ints _, rfl, _, rfl, ?_⟩
        rw [eqv_nil]
        by_cases f0 : fs = []
        · rw [f0]
          exact iteF ⟨rfl, s3⟩
        have fp : 0 < fs.length := List.length_pos_iff.mpr f0
        have ie : (fs.map fun (i : Nat) => (i : Int)).isEmpty = false := by cases fs with | nil => exact absurd rfl f0 | cons => rfl
        rw [ie]
        refine iteT ?_
        refine ⟨_, rfl, _, 1, rfl, rfl, _, rfl, ?_⟩
        by_cases c4 : 1 < ds.length
        · rw [decide_eq_true (show (ds.length : Int) > 1 by omega)]
          refine iteT ?_
          have fl : fs.length ≤ ds.length := by
            rw [← eC]
            exact Nat.le_trans (List.length_filter_le _ _) (by rw [List.length_range]; exact Nat.le_refl _)
          have x3 := x2.same s3
          refine ⟨_, rfl, _, rfl, b, C, n + 150, ni fs, rfl, SqA.l hC3, Cb, by rw [ni_len]; exact fp, by rw [ni_len]; omega, x3.mono (by omega), fun v ys hv hy => ?_⟩
          obtain ⟨g, hgf, rfl⟩ : ∃ g : Nat, g ∈ fs ∧ .int (g : Int) = v := by
            unfold ni at hv
            obtain ⟨g, a, e⟩ := List.mem_map.mp hv
            exact ⟨g, a, e⟩
          rw [← eC, List.mem_filter, List.mem_range] at hgf
          obtain ⟨hg, ng⟩ := hgf
          have nv : ∀ M, Lot ds.length M → Rl h t ds L M → mayB h t ds M g = false := fun M lM rM => by
            cases e : mayB h t ds M g with
            | false => rfl
            | true =>
              rw [show goesB h t ds L g = true from (@decide_eq_true_iff _ (Classical.propDecidable _)).mpr ⟨M, lM, rM, e⟩] at ng
              cases ng
          have u4 : But b H3 (upd H3 b (.lst ys)) := But.ups
          have x4 : BoxAt (upd H3 b (.lst ys)) b (n + 150) := .put hy
          have sea4 := (sea2.same s3).but x3 u4
          have lot4 := (lot2.same s3).but x3 u4
          replace hp := tup_but (Same.tup s3 hp) x3 u4
          replace hq := tup_but (Same.tup s3 hq) x3 u4
          replace hl := tup_but (Same.tup s3 hl) x3 u4
          generalize upd H3 b (.lst ys) = H4 at u4 x4 sea4 lot4 hp hq hl
          replace u4 := (u2.trans (Same.but (b := b) s3)).trans u4
          clear s3 e3 hC3 x3 sea2 lot2 hC u2 x2 hy
          refine ⟨_, rfl, _, rfl, _, rfl, .ref p, .ref pl, h, t, ds, L, g, rfl, sea4.a, lot4.a, by omega, hL, hg, fun H5 pr r1 r2 s5 hpr h1 h2 => ?_⟩
          refine ⟨_, rfl, pl, _, H5, rfl, .inr (Same.tup s5 hl), Kp.refl _ _, fun J hJ C2 nC2 => ?_⟩
          obtain ⟨G, gg, W⟩ := hJ.walk
          refine lc_it W (fun j H' => Same H5 H' ∧ H' C2 = some (.lst (ni (less (L.take j) g)))) ⟨same_new nC2, upd_same⟩ (fun j H' _ z => gg H' (.ofS z.1)) ?_ ?_
          · rintro j x Ha Hb hj ⟨sm, hC⟩ ⟨rfl, gx⟩
            rw [ni_len] at hj
            obtain rfl : .int ((L[j] : Nat) : Int) = x := Option.some.inj ((ni_get hj).symm.trans gx)
            refine ⟨rfl, ?_⟩
            refine ⟨_, rfl, _, rfl, rfl, _, rfl, ?_⟩
            rw [dec_ne]
            have ls : less (L.take (j + 1)) g = less (L.take j) g ++ if L[j] = g then [] else [dn g L[j]] := by
              unfold less
              rw [take_succ_get hj, List.filter_append, List.map_append]
              congr 1
              by_cases z : L[j] = g
              · rw [if_pos z, List.filter_cons_of_neg (by simpa using z)]
                rfl
              · rw [if_neg z, List.filter_cons_of_pos (by simpa using z)]
                rfl
            by_cases z : L[j] = g
            · rw [decide_eq_true z]
              refine iteF ⟨sm, ?_⟩
              rw [hC, ls, if_pos z, List.append_nil]
            · rw [decide_eq_false z]
              refine iteT ?_
              refine ⟨_, rfl, _, rfl, _, rfl, _, _, rfl, rfl, .inr ⟨_, rfl, ?_⟩⟩
              refine ⟨_, _, rfl, rfl, _, hC, ?_, same_over sm nC2, ?_⟩
              · rw [ni_len]
                unfold less
                rw [List.length_map]
                have h1 := List.length_filter_le (fun w => !decide (w = g)) (L.take j)
                rw [List.length_take] at h1
                exact small1000 (by omega)
              · rw [upd_same, ls, if_neg z, ni_app]
                have ev : ((L[j] : Nat) : Int) - (if decide (((L[j] : Nat) : Int) > (g : Int)) = true then 1 else 0) = ((dn g L[j] : Nat) : Int) := by
                  unfold dn
                  by_cases y : L[j] > g
                  · rw [if_pos y, if_pos (decide_eq_true (show ((L[j] : Nat) : Int) > (g : Int) by omega))]
                    omega
                  · rw [if_neg y, if_neg (by rw [decide_eq_false (show ¬ ((L[j] : Nat) : Int) > (g : Int) by omega)]; exact Bool.false_ne_true)]
                    omega
                show some (HO.lst (_ ++ [V.int _])) = some (HO.lst (_ ++ [V.int _]))
                rw [← ev]
          rintro H6 ⟨s6, hC2⟩
          rw [ni_len, List.take_length] at hC2
          refine ⟨C2, _, rfl, .inl ⟨SqL.of hC2, fun it nit => ?_⟩⟩
          have iT : LotT K (upd H6 it (.tup (ni (less L g)))) (.ref it) (less L g) := ⟨it, rfl, SqT.of upd_same⟩
          have s7 : Same H5 (upd H6 it (.tup (ni (less L g)))) := s6.trans (same_new nit)
          generalize upd H6 it (.tup (ni (less L g))) = H7 at iT s7
          clear W gg G hJ hC2 s6 nC2
          have s47 := s5.trans s7
          refine ⟨_, rfl, _, rfl, pl, _, rfl, .inr (Same.tup s47 hl), rfl, ni_flat L, .inr ⟨_, rfl, ?_⟩⟩
          rw [if_neg Bool.false_ne_true, in_ni]
          have eH : pondH h L g = h + (if decide (g ∈ L) = true then 1 else 0) := by
            unfold pondH
            by_cases z : g ∈ L
            · rw [if_pos z, if_pos (decide_eq_true z)]
            · rw [if_neg z, if_neg (by rw [decide_eq_false z]; exact Bool.false_ne_true)]
          have eT : pondT t L g = t + 1 - (if decide (g ∈ L) = true then 1 else 0) := by
            unfold pondT
            by_cases z : g ∈ L
            · rw [if_pos z, if_pos (decide_eq_true z)]
              omega
            · rw [if_neg z, if_neg (by rw [decide_eq_false z]; exact Bool.false_ne_true)]
              omega
          generalize (if decide (g ∈ L) = true then (1 : Int) else 0) = ih at eH eT
          replace hp := Same.tup s47 hp
          replace hq := Same.tup s47 hq
          refine ⟨_, rfl, p, _, 0, .int h, rfl, rfl, .inr hp, rfl, _, rfl, h, ih, rfl, rfl, _, rfl, p, _, 1, .int t, rfl, rfl, .inr hp, rfl, t, 1, rfl, rfl, _, rfl, t + 1, ih, rfl, rfl, ?_⟩
          refine ⟨_, rfl, p, _, 2, .ref q', rfl, rfl, .inr hp, rfl, _, rfl, (g : Int), rfl, q', _, rfl, hq, fun sa H8 s8 hsa => ?_⟩
          refine ⟨_, rfl, p, _, 2, .ref q', rfl, rfl, .inr (Same.tup s8 hp), rfl, _, rfl, (g : Int), 1, rfl, rfl, ((g + 1 : Nat) : Int), rfl, q', _, rfl, Same.tup s8 hq, fun sb H9 s9 hsb => ?_⟩
          rw [cut_take, ← List.map_take] at hsa
          rw [cut_drop, ← List.map_drop] at hsb
          refine ⟨sa, sb, _, _, rfl, rfl, Same.tup s9 hsa, hsb, ?_, fun sc H10 s10 hsc => ?_⟩
          · rw [List.length_map, List.length_map, List.length_take, List.length_drop]
            exact Nat.le_trans (show min g ds.length + (ds.length - (g + 1)) ≤ 100 by omega) (by decide)
          rw [← List.map_append] at hsc
          refine ⟨(by show 3 ≤ sizeLine; decide), fun du ndu => ?_⟩
          have due : SeaT K (upd H10 du (.tup [.int (h + ih), .int (t + 1 - ih), .ref sc])) (.ref du) (pondH h L g) (pondT t L g) (ds.take g ++ ds.drop (g + 1)) := by
            rw [eH, eT]
            exact ⟨du, sc, rfl, SqT.of upd_same, Same.tup (same_new ndu) hsc⟩
          have s11 : Same H10 (upd H10 du (.tup [.int (h + ih), .int (t + 1 - ih), .ref sc])) := same_new ndu
          dsimp only
          generalize upd H10 du (.tup [.int (h + ih), .int (t + 1 - ih), .ref sc]) = H11 at due s11
          have s711 := s8.trans (s9.trans (s10.trans s11))
          have s511 := s7.trans s711
          refine ⟨_, rfl, pr, _, 0, r1, rfl, rfl, SqA.t (s511 _ _ hpr), rfl, _, rfl, pr, _, 1, r2, rfl, rfl, SqA.t (s511 _ _ hpr), rfl, _, rfl, _, rfl, (by show 5 ≤ sizeLine; decide), fun r nr => ?_⟩
          have s12 : Same H11 (upd H11 r (.tup [r1, r2, .ref du, .ref it, .bl true])) := same_new nr
          have z := s511.trans s12
          refine q _ r r1 r2 (.ref du) (.ref it) (pondH h L g) (pondT t L g) (ds.take g ++ ds.drop (g + 1)) (less L g) true (u4.trans (Same.but (s5.trans z))) ((x4.same (s5.trans z)).mono (by omega)) upd_same (h1.same z) (h2.same z) (due.same s12) (iT.same (s711.trans s12)) (by rw [sunk_len hg]; exact less_lot hg hL) (po.sunk hg c4) (Nat.le_of_eq (sz_sunk hL hg nv).symm) (fun _ => sz_sunk hL hg nv)
        · rw [decide_eq_false (show ¬ (ds.length : Int) > 1 by omega)]
          exact iteF ⟨rfl, s3⟩
      · rw [decide_eq_false (fun e => c3 (V.int.inj e))]
        exact iteF ⟨rfl, Same.refl _⟩
    rintro σ H3 ⟨rfl, s3⟩
    have x3 := x2.same s3
    refine ⟨_, rfl, _, rfl, .ref p, .ref pl, h, t, ds, L, rfl, (sea2.same s3).a, (lot2.same s3).a, by omega, by omega, fun H4 so s4 nso hso => ?_⟩
    have s24 := s3.trans s4
    have sob : so ≠ b := (x3.ne nso).symm
    have x4 := x3.same s4
    refine ⟨_, rfl, Nat.zero_le _, fun em nem => ?_⟩
    have s5 : Same H4 (upd H4 em (.lst [])) := same_new nem
    have e5 : upd H4 em (.lst []) em = some (.lst []) := upd_same
    generalize upd H4 em (.lst []) = H5 at s5 e5
    have s25 := s24.trans s5
    have hso5 := s5 _ _ hso
    have x5 := x4.same s5
    refine ⟨.list (((lets h t ds L ds.length).map fun (i : Nat) => (i : Int)).map .int), .list [], dp_ni hso5, .lst (SqL.of e5) .nil, shaped_ints _, rfl, _, rfl, ?_⟩
    rw [eqv_nil]
    by_cases f0 : lets h t ds L ds.length = []
    · rw [f0]
      refine iteT ?_
      refine ⟨_, rfl, _, rfl, _, rfl, _, rfl, (by show 5 ≤ sizeLine; decide), fun r nr => ?_⟩
      have s6 : Same H5 (upd H5 r (.tup [.ref p, .ref pl, .ref p, .ref pl, .bl true])) := same_new nr
      have z := s25.trans s6
      refine q _ r (.ref p) (.ref pl) (.ref p) (.ref pl) h t ds L true (u2.trans (Same.but z)) ((x2.same z).mono (by omega)) upd_same (sea2.same z) (lot2.same z) (sea2.same z) (lot2.same z) hL ?_ (Nat.le_refl _) (fun _ => rfl)
      exact ⟨po.h0, by have := po.h1; omega, po.t0, by have := po.t1; omega, k0, k1, po.d0⟩
    have fp : 0 < (lets h t ds L ds.length).length := List.length_pos_iff.mpr f0
    have ie : ((lets h t ds L ds.length).map fun (i : Nat) => (i : Int)).isEmpty = false := by cases e : lets h t ds L ds.length with | nil => exact absurd e f0 | cons => rfl
    rw [ie]
    refine iteF ?_
    have fl : (lets h t ds L ds.length).length ≤ ds.length := Nat.le_trans (List.length_filter_le _ _) (by rw [List.length_range]; exact Nat.le_refl _)
    refine ⟨_, rfl, _, rfl, b, so, n + 150, ni (lets h t ds L ds.length), rfl, SqA.l hso5, sob, by rw [ni_len]; exact fp, by rw [ni_len]; omega, x5.mono (by omega), fun v ys hv hy => ?_⟩
    obtain ⟨g, hgf, rfl⟩ : ∃ g : Nat, g ∈ lets h t ds L ds.length ∧ .int (g : Int) = v := by
      unfold ni at hv
      obtain ⟨g, a, e⟩ := List.mem_map.mp hv
      exact ⟨g, a, e⟩
    unfold lets at hgf
    rw [List.mem_filter, List.mem_range] at hgf
    obtain ⟨hg, mg'⟩ := hgf
    have u6 : But b H5 (upd H5 b (.lst ys)) := But.ups
    have x6 : BoxAt (upd H5 b (.lst ys)) b (n + 150) := .put hy
    have sea6 := (sea2.same s25).but x5 u6
    have lot6 := (lot2.same s25).but x5 u6
    generalize upd H5 b (.lst ys) = H6 at u6 x6 sea6 lot6
    replace u6 := (u2.trans (Same.but (b := b) s25)).trans u6
    have rl := rl_one hL hg mg'
    refine ⟨_, rfl, _, rfl, _, rfl, _, rfl, .ref p, .ref pl, h, t, ds, L, g, rfl, sea6.a, lot6.a, by omega, hL, hg, mg', fun H7 lv s7 t7 => ?_⟩
    refine ⟨_, rfl, _, rfl, _, rfl, .ref pl, L, ds.length, g, rfl, (lot6.same s7).a, hL, by omega, hg, fun H8 gl s8 ngl hgl => ?_⟩
    refine ⟨(by show 5 ≤ sizeLine; decide), fun r nr => ?_⟩
    have s9 : Same H8 (upd H8 r (.tup [.ref p, lv, .ref p, .ref gl, .bl true])) := same_new nr
    have z := s7.trans (s8.trans s9)
    refine q _ r (.ref p) lv (.ref p) (.ref gl) h t ds (gone L g) true (u6.trans (Same.but z)) ((x6.same z).mono (by omega)) upd_same (sea6.same z) (t7.same (s8.trans s9)) (sea6.same z) ⟨gl, rfl, SqT.of (s9 _ _ hgl)⟩ (gone_lot hL hg) ?_ (Nat.le_of_eq (sz_along rl)) (fun _ => (sz_along rl).symm)
    exact ⟨po.h0, by have := po.h1; omega, po.t0, by have := po.t1; omega, k0, k1, po.d0⟩
end
end Sh

namespace Sh
open PySem PySem.Spec PyProof.Rows L2
theorem fit_sea2 {h t : Int} {ds : List Int} (c : ds.length ≤ 100) (fh : h.natAbs < 10 ^ 14) (ft : t.natAbs < 10 ^ 14) (fd : ∀ i ∈ ds, i.natAbs < 10 ^ 14) : Fit 2000 2 (.tuple [.int h, .int t, .tuple (ds.map .int)]) := by
  have f : FitAll 1700 0 (ds.map .int) := (FitAll.ints fd).mono (by omega) (Nat.le_refl 0)
  exact (Fit.tup (.cons ((fit_int fh).mono (Nat.le_refl _) (Nat.zero_le 1)) (.cons ((fit_int ft).mono (Nat.le_refl _) (Nat.zero_le 1)) (.cons (Fit.tup f) (.nil 1))))).mono (by omega) (Nat.le_refl 2)
def pairD (h t : Int) (ds : List Int) (L : List Nat) : PyData := .list [.tuple [.int h, .int t, .tuple (ds.map .int)], .tuple ((L.map fun (i : Nat) => (i : Int)).map .int)]
theorem fit_pair {m h t : Int} {ds : List Int} {L : List Nat} (po : PdOk m h t ds) (m1 : m ≤ 2000000000000) (hL : Lot ds.length L) : Fit 20000 3 (pairD h t ds L) := by
  have lL := hL.len
  have l1 := po.l1
  have fh : h.natAbs < 10 ^ 14 := by
    have := po.h0
    have := po.h1
    show h.natAbs < 100000000000000
    omega
  have ft : t.natAbs < 10 ^ 14 := by
    have := po.t0
    have := po.t1
    show t.natAbs < 100000000000000
    omega
  have f1 := fit_sea2 (ds := ds) (by omega) fh ft fun d hd => by
    have := po.d0 d hd
    show d.natAbs < 100000000000000
    omega
  have f2 := (Fit.tup (fit_lot (L := L) (by omega) fun i hi => by have := hL.lt i hi; omega)).mono (Nat.le_refl _) (show 1 ≤ 2 by decide)
  exact (Fit.list (.cons f1 (.cons f2 (.nil 2)))).mono (by decide) (Nat.le_refl 3)
theorem sea_ok {m h t : Int} {ds : List Int} (po : PdOk m h t ds) : isSeaD (.tuple [.int h, .int t, .tuple (ds.map .int)]) = true := by
  rw [sea_three]
  show (decide (0 ≤ h) && (decide (0 ≤ t) && (true && (decide (0 < (ds.map PyData.int).length) && (ds.map PyData.int).all isNumD)))) = true
  rw [decide_eq_true po.h0, decide_eq_true po.t0, decide_eq_true (by rw [List.length_map]; exact po.l0), Bool.true_and, Bool.true_and, Bool.true_and, Bool.true_and, List.all_eq_true]
  intro x hx
  obtain ⟨d, hd, rfl⟩ := List.mem_map.mp hx
  exact decide_eq_true (po.d0 d hd).1
theorem stand_ok {c : Nat} {L : List Nat} (hL : Lot c L) : isStD c (.tuple ((L.map fun (i : Nat) => (i : Int)).map .int)) = true := by
  show (((L.map fun (i : Nat) => (i : Int)).map PyData.int).all (isPlD c) && risingB (((L.map fun (i : Nat) => (i : Int)).map PyData.int).map intD)) = true
  rw [Bool.and_eq_true]
  constructor
  · rw [List.all_eq_true]
    intro x hx
    obtain ⟨d, hd, rfl⟩ := List.mem_map.mp hx
    obtain ⟨i, hi, rfl⟩ := List.mem_map.mp hd
    have := hL.lt i hi
    show (decide (0 ≤ (i : Int)) && decide ((i : Int) < (c : Int))) = true
    rw [decide_eq_true (by omega), decide_eq_true (by omega)]
    rfl
  · have e : ((L.map fun (i : Nat) => (i : Int)).map PyData.int).map intD = L.map fun (i : Nat) => (i : Int) := by
      rw [List.map_map]
      have : (intD ∘ PyData.int) = id := by funext i; rfl
      rw [this, List.map_id]
    rw [e]
    refine decide_eq_true (List.pairwise_map.mpr (hL.up.imp fun h => ?_))
    omega
theorem lv_sea {h t : Int} {ds : List Int} (l : ds.length ≤ 100000) : Lv 3 (.tuple [.int h, .int t, .tuple (ds.map .int)]) := ⟨by show 3 ≤ 100000; decide, fun e he => by
  have e3 : e = .int h ∨ e = .int t ∨ e = .tuple (ds.map .int) := by simpa using he
  rcases e3 with rfl | rfl | rfl
  · trivial
  · trivial
  · exact lv_intsT ds l⟩
abbrev s__law_right : Stmt := topS 65
theorem sc__law_right : FnScope (["_law_box_here", "_law_pond", "_law_lot_here", "_law_turn", "_law_size", "_law_mine", "_law_its", "_law_is_same", "_law_later"] : List Str) (["_law_box_here"] : List Str) (defScope s__law_right) := ⟨rfl, rfl, rfl, by decide +kernel, rfl, by decide +kernel, by decide +kernel⟩
theorem b__law_right (kV doc pm : Value) (an : Option Addr) (cdv ct : Value) (us : List Value) (hl : us.length = (["_law_box_here"] : List Str).length) : bindArgs (PySem.W.fnOf "_law_right" "_law_right" (defArgs s__law_right) (defBody s__law_right) (defScope s__law_right) .none kV doc pm an cdv ct) ⟨us, []⟩ = pure ((["_law_box_here"] : List Str).zip us) :=
  match us, hl with | [_], _ => rfl
section
variable {P : Program} {w : World} {K : PySem.W.Frag} {mg : Str → Option Value} {base : Heap}
set_option maxHeartbeats 8000000 in
theorem ok_right {k : Nat} (D : Df K mg "_law_right" s__law_right) (T : Bt mg) (O__law_sea : Ok P w K mg base k "_law_sea" s__law_sea ["_law_box_here", "_law_most"] spSea) (O__law_take : Ok P w K mg base k "_law_take" s__law_take ["_law_box_here", "_law_span"] spTake)
    (O__law_lot : Ok P w K mg base k "_law_lot" s__law_lot ["_law_box_here", "_law_count"] spLot) (O__law_door : Ok P w K mg base k "_law_door" s__law_door ["_law_box_here", "_law_pond", "_law_lot_here"] (spDoor K)) (O__law_lets : Ok P w K mg base k "_law_lets" s__law_lets ["_law_sea_here", "_law_lot_here"] (spLets K))
    (O_family_size : Ok P w K mg base k "family_size" s_family_size ["sea", "standing"] (spFamily K)) (O_is_sea : Ok P w K mg base k "is_sea" s_is_sea ["thing"] (spIsSea K)) (O_is_standing : Ok P w K mg base k "is_standing" s_is_standing ["sea", "thing"] (spIsStand K)) (O_may_cross : Ok P w K mg base k "may_cross" s_may_cross ["sea", "standing"] (spMay K)) :
    OkG P w K mg base (k + 1) "_law_right" s__law_right ["_law_box_here"] spRight := by
  refine D.okG sc__law_right b__law_right (fun vs H Q E h => ?_) (fun f cdv A outer s H vs Q E hr hG h => ?_)
  · obtain ⟨b, rfl, _⟩ := h
    rfl
  · obtain ⟨b, rfl, hb, q⟩ := h
    refine ⟨_, (pss_cons (ps_set (i := 1) sc__law_right.nd rfl (.inl rfl) (pe_fn O__law_sea (hr.mono (by omega)) (pa_cons (pv 0) (pa_cons pe_int pa_nil))))
      (pss_cons (ps_set (i := 1) sc__law_right.nd rfl (.inl rfl) (pe_tup (pa_cons (pe_ix ix_lt (pv 1) pe_int (fun _ _ => rfl)) (pa_cons (pe_ix ix_lt (pv 1) pe_int (fun _ _ => rfl)) (pa_cons (pe_op op_catT (pe_ix ix_lt (pv 1) pe_int (fun _ _ => rfl)) (pe_tup (pa_cons (pe_op op_add (pe_ix ix_lt (pe_ix ix_lt (pv 1) pe_int (fun _ _ => rfl)) pe_int (fun _ _ => rfl)) (pe_fn O__law_take (hr.mono (by omega)) (pa_cons (pv 0) (pa_cons pe_int pa_nil)))) pa_nil))) pa_nil)))))
      (pss_cons (ps_set (i := 2) sc__law_right.nd rfl (.inl rfl) (pe_fn O__law_lot (hr.mono (by omega)) (pa_cons (pv 0) (pa_cons (pe_callB call_len_seq (by rfl) T.len_ PySem.boot_len (pa_cons (pe_ix ix_lt (pv 1) pe_int (fun _ _ => rfl)) pa_nil)) pa_nil))))
      (pss_cons (ps_for PassesOwn.never rfl (pi_range1 (by rfl) T.range_ (pa_cons (pe_op op_add pe_int (pe_fn O__law_take (hr.mono (by omega)) (pa_cons (pv 0) (pa_cons pe_int pa_nil)))) pa_nil)) (pg_name (i := 3) sc__law_right.nd rfl (.inl rfl))
        (pss_cons (ps_set (i := 4) sc__law_right.nd rfl (.inl rfl) (pe_fn O_family_size (hr.mono (by omega)) (pa_cons (pv 1) (pa_cons (pv 2) pa_nil))))
          (pss_cons (ps_asg (pe_fn O__law_door (hr.mono (by omega)) (pa_cons (pv 0) (pa_cons (pv 1) (pa_cons (pv 2) pa_nil)))) (pg_seq rfl (pgs_cons (pg_name (i := 1) sc__law_right.nd rfl (.inl rfl)) (pgs_cons (pg_name (i := 2) sc__law_right.nd rfl (.inl rfl)) (pgs_cons (pg_name (i := 5) sc__law_right.nd rfl (.inl rfl)) (pgs_cons (pg_name (i := 6) sc__law_right.nd rfl (.inl rfl)) (pgs_cons (pg_name (i := 7) sc__law_right.nd rfl (.inl rfl)) pgs_nil)))))))
          (pss_cons (ps_if (PW.pt (pw_or (pt_cmpR op_ne (pe_callB (cr_repr hG (reprU hr)) (by rfl) T.repr_ (by decide +kernel) (pa_cons (pe_lst (pa_cons (pv 1) (pa_cons (pv 2) pa_nil))) pa_nil)) (pe_callB (cr_repr hG (reprU hr)) (by rfl) T.repr_ (by decide +kernel) (pa_cons (pe_lst (pa_cons (pv 5) (pa_cons (pv 6) pa_nil))) pa_nil)) (nomark _)) (pw_or (pt_not (pt_val (pe_fn O_is_sea (hr.mono (by omega)) (pa_cons (pv 1) pa_nil)))) (pw_or1 (pt_not (pt_val (pe_fn O_is_standing (hr.mono (by omega)) (pa_cons (pv 1) (pa_cons (pv 2) pa_nil)))))))))
            (pss_one (ps_ret pe_bl))
            pss_nil)
          (pss_cons (ps_set (i := 8) sc__law_right.nd rfl (.inl rfl) (pe_fn O_family_size (hr.mono (by omega)) (pa_cons (pv 1) (pa_cons (pv 2) pa_nil))))
          (pss_one (ps_if (PW.pt (pw_or (pt_cmpR op_lt (pv 8) (pv 4) (nomark _)) (pw_or (PW.pt (pw_and (pt_truth (pv 7) (by intro _; rfl)) (pw_and1 (pt_cmpR op_ne (pv 8) (pv 4) (nomark _))))) (pw_or1 (pt_cmpR (op_neD hr.units) (pe_fn O_may_cross (hr.mono (by omega)) (pa_cons (pv 1) (pa_cons (pv 2) pa_nil))) (pe_fn O__law_lets (hr.mono (by omega)) (pa_cons (pv 1) (pa_cons (pv 2) pa_nil))) (nomark _))))))
            (pss_one (ps_ret pe_bl))
            pss_nil)))))))
      (pss_one (ps_ret pe_bl)))))), ?_⟩
    refine ⟨_, rfl, b, 90000, 7, rfl, by decide, by decide, hb.mono (by decide), fun H1 p q' h t ds u1 x1 np nq hp hq so => ?_⟩
    have k0 := so.l0
    have k1 : ds.length ≤ 7 := so.l1
    refine ⟨_, rfl, p, _, 0, .int h, rfl, rfl, SqA.t hp, rfl, _, rfl, p, _, 1, .int t, rfl, rfl, SqA.t hp, rfl, _, rfl, p, _, 2, .ref q', rfl, rfl, SqA.t hp, rfl, _, rfl, p, _, 2, .ref q', rfl, rfl, SqA.t hp, rfl, q', _, 0, .int ds[0], rfl, rfl, SqA.t hq, at_nat (j := 0) rfl (by simp [k0]), ?_⟩
    refine ⟨_, rfl, b, 89000, 4, rfl, by decide, by decide, x1.mono (by decide), fun v ys v0 v1 y => ?_⟩
    obtain ⟨u2, x2⟩ := tk u1 y
    have hq2 : upd H1 b (.lst ys) q' = some (.tup (ds.map V.int)) := by
      obtain ⟨zs, hz, _⟩ := x1
      rw [upd_ne (ne_of hq hz (by intro z; cases z))]
      exact hq
    generalize upd H1 b (.lst ys) = H2 at u2 x2 hq2
    refine ⟨_, _, rfl, rfl, (by show 1 ≤ sizeLine; decide), fun t1 nt1 => ?_⟩
    have s3 : Same H2 (upd H2 t1 (.tup [.int (ds[0] + v)])) := same_new nt1
    have e3 : upd H2 t1 (.tup [.int (ds[0] + v)]) t1 = some (.tup [.int (ds[0] + v)]) := upd_same
    dsimp only
    generalize upd H2 t1 (.tup [.int (ds[0] + v)]) = H3 at s3 e3
    refine ⟨q', t1, ds.map V.int, [.int (ds[0] + v)], rfl, rfl, SqT.of (s3 _ _ hq2), SqT.of e3, fun z => ?_, ?_, fun z => (by cases z), fun _ p2 np2 => ?_⟩
    · rw [List.map_eq_nil_iff.mp z] at k0
      exact absurd k0 (by decide)
    · rw [List.length_map]
      exact Nat.le_trans (show ds.length + 1 ≤ 8 by omega) (by decide)
    rw [show ds.map V.int ++ [V.int (ds[0] + v)] = (ds ++ [ds[0] + v]).map V.int by rw [List.map_append]; rfl]
    have dl : (ds ++ [ds[0] + v]).length = ds.length + 1 := by simp
    have po : PdOk 1000000000000 h t (ds ++ [ds[0] + v]) := by
      refine ⟨so.h0, so.h1, so.t0, so.t1, by omega, by omega, fun d hd => ?_⟩
      rcases List.mem_append.mp hd with z | z
      · have := so.d0 d z
        omega
      · have e : d = ds[0] + v := by simpa using z
        have := so.d0 ds[0] (List.getElem_mem k0)
        omega
    generalize ds ++ [ds[0] + v] = es at po dl
    have s4 : Same H3 (upd H3 p2 (.tup (es.map V.int))) := same_new np2
    have e4 : upd H3 p2 (.tup (es.map V.int)) p2 = _ := upd_same
    generalize upd H3 p2 (.tup (es.map V.int)) = H4 at s4 e4
    refine ⟨(by show 3 ≤ sizeLine; decide), fun p3 np3 => ?_⟩
    have s5 : Same H4 (upd H4 p3 (.tup [.int h, .int t, .ref p2])) := same_new np3
    have e5 : upd H4 p3 (.tup [.int h, .int t, .ref p2]) p3 = _ := upd_same
    generalize upd H4 p3 (.tup [.int h, .int t, .ref p2]) = H5 at s5 e5
    have s25 := s3.trans (s4.trans s5)
    have x5 := x2.same s25
    have u5 := u2.trans (Same.but (b := b) s25)
    have hp5 : H5 p3 = some (.tup [.int h, .int t, .ref p2]) := e5
    have hq5 : H5 p2 = some (.tup (es.map V.int)) := s5 _ _ e4
    clear s3 e3 s4 e4 s5 e5 s25 u2 x2 hq2 hp hq np nq x1 u1 nt1 np2 np3 so
    have l1 := po.l1
    -- who lies here
    refine ⟨_, rfl, _, rfl, p3, _, 2, .ref p2, rfl, rfl, SqA.t hp5, rfl, p2, _, rfl, .inr (SqT.of hq5), ?_⟩
    rw [List.length_map]
    refine ⟨b, 80000, es.length, rfl, by omega, x5.mono (by decide), fun H6 pf L u6 x6 npf hpf hL => ?_⟩
    have sea6 : SeaT K H6 (.ref p3) h t es := ⟨p3, p2, rfl, tup_but (SqT.of hp5) x5 u6, tup_but (SqT.of hq5) x5 u6⟩
    have lot6 : LotT K H6 (.ref pf) L := ⟨pf, rfl, SqT.of hpf⟩
    have u06 := u5.trans u6
    clear u6 u5 x5 hp5 hq5 hpf npf
    -- door by door
    refine ⟨_, rfl, b, 79000, 5, rfl, by decide, by decide, x6.mono (by decide), fun tn ys tn0 tn1 hy => ?_⟩
    have u7 : But b H6 (upd H6 b (.lst ys)) := But.ups
    have x7 : BoxAt (upd H6 b (.lst ys)) b 79000 := .put hy
    have sea7 := sea6.but x6 u7
    have lot7 := lot6.but x6 u7
    generalize upd H6 b (.lst ys) = H7 at u7 x7 sea7 lot7
    replace u7 := u06.trans u7
    clear sea6 lot6 x6 u06 hy
    refine ⟨2, tn, rfl, rfl, _, rfl, by omega, by omega, ?_⟩
    generalize en : (2 + tn).toNat = n
    have hn : n ≤ 6 := by omega
    refine for_range (lo := 0) (n := n) (fun i σ H' => ∃ (y3 y4 y5 y6 y7 y8 : Option V) (pv lv : V) (h t : Int) (ds : List Int) (L : List Nat), σ = [some (.ref b), some pv, some lv, y3, y4, y5, y6, y7, y8] ∧ BoxAt H' b (79000 - 300 * i) ∧ But b H H' ∧ SeaT K H' pv h t ds ∧ LotT K H' lv L ∧ Lot ds.length L ∧ PdOk (1000000000000 + 3 * (i : Int)) h t ds)
      ⟨none, none, none, none, none, none, .ref p3, .ref pf, h, t, es, L, rfl, x7, u7, sea7, lot7, hL, by simpa using po⟩ ?_ ?_
    · rintro i σ Ha hi ⟨y3, y4, y5, y6, y7, y8, pv, lv, h, t, ds, L, rfl, xa, ua, sea, lot, hL, po⟩
      have k0 := po.l0
      have k1 := po.l1
      refine ⟨_, rfl, _, rfl, pv, lv, h, t, ds, L, rfl, sea.a, lot.a, by omega, k0, hL, fun Hb sb => ?_⟩
      have xb := xa.same sb
      refine ⟨_, rfl, _, rfl, _, rfl, b, 79000 - 300 * (i + 1), _, pv, lv, h, t, ds, L, rfl, xb.mono (by omega), sea.same sb, lot.same sb, hL, po, fun Hc r pv' lv' mv iv h' t' ds' L' sm uc xc hrr s1 l1' s2 l2 hL' po' z1 z2 => ?_⟩
      refine ⟨r, _, rfl, SqA.t hrr, rfl, _, _, rfl, _, _, rfl, _, _, rfl, _, _, rfl, _, _, rfl, rfl, ?_⟩
      have uc0 := (ua.trans (Same.but (b := b) sb)).trans uc
      have fit := fit_pair po' (by omega) hL'
      have dpK : ∀ {H' : Hp} {a : Addr} {x y : V}, SeaT K H' x h' t' ds' → LotT K H' y L' → H' a = some (.lst [x, y]) → Dp K H' (.ref a) (pairD h' t' ds' L') := fun c d x => .lst (SqL.of x) (.cons c.dp (.cons d.dp .nil))
      refine ⟨_, rfl, _, rfl, (by show 2 ≤ sizeLine; decide), fun k1 nk1 => ?_⟩
      have sd : Same Hc (upd Hc k1 (.lst [pv', lv'])) := same_new nk1
      have ed : upd Hc k1 (.lst [pv', lv']) k1 = some (.lst [pv', lv']) := upd_same
      generalize upd Hc k1 (.lst [pv', lv']) = Hd at sd ed
      refine ⟨k1, _, rfl, dpK (s1.same sd) (l1'.same sd) ed, fit.shaped (by decide), fit.sh, fit.sz (by decide), ?_⟩
      refine ⟨_, rfl, _, rfl, (by show 2 ≤ sizeLine; decide), fun k2 nk2 => ?_⟩
      have se : Same Hd (upd Hd k2 (.lst [mv, iv])) := same_new nk2
      have ee : upd Hd k2 (.lst [mv, iv]) k2 = some (.lst [mv, iv]) := upd_same
      generalize upd Hd k2 (.lst [mv, iv]) = He at se ee
      have sce := sd.trans se
      refine ⟨k2, _, rfl, dpK (s2.same sce) (l2.same sce) ee, fit.shaped (by decide), fit.sh, fit.sz (by decide), ?_⟩
      refine ⟨rfl, _, rfl, iteNS rfl ?_⟩
      have k0' := po'.l0
      have k1' := po'.l1
      have lL' := hL'.len
      refine ⟨_, rfl, 3, pv', _, rfl, (s1.same sce).dp, lv_sea (by omega), fun Hf sf => ?_⟩
      rw [sea_ok po']
      have scf := sce.trans sf
      refine ⟨true, rfl, iteF ?_⟩
      refine ⟨_, rfl, _, rfl, 2, pv', lv', h', t', ds', _, rfl, (s1.same scf).a, (l1'.same scf).dp, lv_intsT _ (by rw [List.length_map]; omega), fun Hg sg => ?_⟩
      rw [stand_ok hL']
      have scg := scf.trans sg
      refine ⟨true, rfl, iteF ?_⟩
      -- as many
      refine ⟨_, rfl, _, rfl, pv', lv', h', t', ds', L', rfl, (s1.same scg).a, (l1'.same scg).a, by omega, k0', hL', fun Hh sh => ?_⟩
      have sch := scg.trans sh
      refine ⟨_, rfl, _, rfl, _, _, rfl, rfl, _, rfl, ite2 (fun c => ?_) (fun _ => ?_)⟩
      · exfalso
        have c2 := of_decide_eq_true c
        have z3 : Ct.fam ds.length (Gof h t ds) (mem L) ≤ Ct.fam ds'.length (Gof h' t' ds') (mem L') := z1
        omega
      refine ⟨_, rfl, sm, rfl, ?_⟩
      cases sm with
      | true =>
        refine iteT ?_
        refine ⟨_, rfl, _, rfl, rfl, _, rfl, iteNS (congrArg (fun n : Nat => V.int (n : Int)) (show Ct.fam ds'.length (Gof h' t' ds') (mem L') = Ct.fam ds.length (Gof h t ds) (mem L) from z2 rfl)) ?_⟩
        refine ⟨_, rfl, _, rfl, pv', lv', h', t', ds', L', rfl, (s1.same sch).a, (l1'.same sch).a, by omega, hL', fun Hj m1 sj nm1 hm1 => ?_⟩
        have scj := sch.trans sj
        refine ⟨_, rfl, _, rfl, pv', lv', h', t', ds', L', rfl, (s1.same scj).a, (l1'.same scj).a, by omega, by omega, fun Hk m2 sk nm2 hm2 => ?_⟩
        have sck := scj.trans sk
        refine ⟨_, _, dp_ni (sk _ _ hm1), dp_ni hm2, shaped_ints _, shaped_ints _, _, rfl, ?_⟩
        rw [eqv_ints, decide_eq_true rfl]
        refine iteF ?_
        exact ⟨_, _, _, _, _, _, pv', lv', h', t', ds', L', rfl, xc.same sck, uc0.trans (Same.but sck), s1.same sck, l1'.same sck, hL', by rw [show (1000000000000 : Int) + 3 * ((i + 1 : Nat) : Int) = 1000000000000 + 3 * (i : Int) + 3 by omega]; exact po'⟩
      | false =>
        refine iteF ?_
        refine ⟨_, rfl, _, rfl, pv', lv', h', t', ds', L', rfl, (s1.same sch).a, (l1'.same sch).a, by omega, hL', fun Hj m1 sj nm1 hm1 => ?_⟩
        have scj := sch.trans sj
        refine ⟨_, rfl, _, rfl, pv', lv', h', t', ds', L', rfl, (s1.same scj).a, (l1'.same scj).a, by omega, by omega, fun Hk m2 sk nm2 hm2 => ?_⟩
        have sck := scj.trans sk
        refine ⟨_, _, dp_ni (sk _ _ hm1), dp_ni hm2, shaped_ints _, shaped_ints _, _, rfl, ?_⟩
        rw [eqv_ints, decide_eq_true rfl]
        refine iteF ?_
        exact ⟨_, _, _, _, _, _, pv', lv', h', t', ds', L', rfl, xc.same sck, uc0.trans (Same.but sck), s1.same sck, l1'.same sck, hL', by rw [show (1000000000000 : Int) + 3 * ((i + 1 : Nat) : Int) = 1000000000000 + 3 * (i : Int) + 3 by omega]; exact po'⟩
    · rintro σ Hz ⟨_, _, _, _, _, _, _, _, _, _, _, _, rfl, _, uz, _⟩
      exact q _ uz
end
end Sh

namespace Sh
open PySem PySem.Spec PyProof.Rows L2
/-! ### the law itself -/
def spLaw (K : PySem.W.Frag) : Sp := fun vs H Q _ => ∃ (a : Addr) (ns : List Int), vs = [.ref a] ∧ SqL K H a (ns.map V.int) ∧ ns.length ≤ 63 ∧ ∀ H', Q (.bl true) H'
abbrev s_law : Stmt := topS 66
theorem sc_law : FnScope (["_law_script", "_law_k"] : List Str) (["_law_script"] : List Str) (defScope s_law) := ⟨rfl, rfl, rfl, by decide +kernel, rfl, by decide +kernel, by decide +kernel⟩
theorem b_law (kV doc pm : Value) (an : Option Addr) (cdv ct : Value) (us : List Value) (hl : us.length = (["_law_script"] : List Str).length) : bindArgs (PySem.W.fnOf "law" "law" (defArgs s_law) (defBody s_law) (defScope s_law) .none kV doc pm an cdv ct) ⟨us, []⟩ = pure ((["_law_script"] : List Str).zip us) :=
  match us, hl with | [_], _ => rfl
section
variable {P : Program} {w : World} {K : PySem.W.Frag} {mg : Str → Option Value} {base : Heap}
theorem ok_law {k : Nat} (D : Df K mg "law" s_law) (T : Bt mg) (O__law_box : Ok P w K mg base k "_law_box" s__law_box ["_law_script", "_law_k"] (spBox K)) (O__law_right : OkG P w K mg base k "_law_right" s__law_right ["_law_box_here"] spRight) :
    OkG P w K mg base (k + 1) "law" s_law ["_law_script"] (spLaw K) := by
  refine D.okG sc_law b_law (fun vs H Q E h => ?_) (fun f cdv A outer s H vs Q E hr hG h => ?_)
  · obtain ⟨a, ns, rfl, _⟩ := h
    rfl
  · obtain ⟨a, ns, rfl, hS, hl, q⟩ := h
    refine ⟨_, (pss_one (ps_ret (pe_callB (cr_all rfl) (by rfl) T.all_ (by decide +kernel) (pa_cons (pe_lc (own := [("_law_k", 1)]) (g := (gName 1)) (tt := tYes) (by rfl) sc_law.nd (pi_range1 (by rfl) T.range_ (pa_cons (pe_op op_add pe_int (pe_callB (call_min2 rfl) (by rfl) T.min_ (by decide +kernel) (pa_cons pe_int (pa_cons (pe_callB call_len_seq (by rfl) T.len_ PySem.boot_len (pa_cons (pv 0) pa_nil)) pa_nil)))) pa_nil)) (blkOk_by (own := [("_law_k", 1)]) (N := (["_law_script", "_law_k"] : List Str)) (sc := defScope s_law) (by decide +kernel)) (fun _ _ _ _ _ => (pg_name (i := 1) sc_law.nd rfl (.inl rfl))) (fun _ _ _ _ _ => pts_nil) (fun _ _ _ _ _ => (pe_fnG O__law_right (hr.mono (by omega)) hG (pa_cons (pe_fn O__law_box (hr.mono (by omega)) (pa_cons (pv 0) (pa_cons (pv 1) pa_nil))) pa_nil)))) pa_nil)))), ?_⟩
    refine ⟨_, rfl, a, _, rfl, .inl hS, _, _, rfl, 1, _, rfl, rfl, _, rfl, ?_, ?_, fun C nC => ?_⟩
    · split <;> omega
    · rw [List.length_map]
      split <;> omega
    rw [List.length_map]
    generalize en : (1 + if (ns.length : Int) < 3 then (ns.length : Int) else 3).toNat = n
    have hn : n ≤ 4 := by
      rw [← en]
      split <;> omega
    refine lc_range (fun i H' => Same H H' ∧ H' C = some (.lst ((List.replicate i true).map V.bl))) ⟨same_new nC, upd_same⟩ ?_ ?_
    · rintro i H1 hi ⟨sm, hC⟩
      refine ⟨rfl, tyes (iteT ?_)⟩
      refine ⟨_, rfl, _, rfl, a, ns, i, ?_, by omega, sm.seq hS, fun b xs nb bx => ?_⟩
      · show [V.ref a, V.int (0 + (i : Int))] = _
        rw [Int.zero_add]
      refine ⟨b, rfl, (BoxAt.put bx).mono (by decide), fun H2 u2 => ?_⟩
      have nCb : C ≠ b := ne_of_none hC nb
      refine ⟨_, u2 _ _ nCb (by rw [upd_ne nCb]; exact hC), ?_, fun p o ho => ?_, ?_⟩
      · rw [List.length_map, List.length_replicate]
        exact small1000 (by omega)
      · have npb : p ≠ b := ne_of_none (sm _ _ ho) nb
        rw [upd_ne (ne_of_none ho nC)]
        exact u2 _ _ npb (by rw [upd_ne npb]; exact sm _ _ ho)
      · rw [upd_same, List.replicate_succ', List.map_append]
        rfl
    · rintro H1 ⟨sm, hC⟩
      refine ⟨C, _, rfl, SqL.of hC, ?_⟩
      have e : (List.replicate n true).all id = true := by simp
      rw [e]
      exact q _
theorem law_end {k : Nat} {fa : Addr} {sp : Sp} (D : Df K mg "law" s_law) (hfa : mg "law" = some (.ref fa)) (O : ∀ base, OkG P w K mg base k "law" s_law ["_law_script"] sp) :
    ∃ fd : FuncData, (∀ (s : Shared) (v : Value), BindsTo s fd ⟨[v], []⟩ [("_law_script", v)]) ∧ ∀ base : Heap, K.In base → base.Ns mainGlobals mg → FnG P w K mg base k fa fd ["_law_script"] sp := by
  obtain ⟨f, fd, F, g⟩ := D.ex
  obtain rfl : fa = f := by
    have e := hfa.symm.trans g
    cases e
    rfl
  refine ⟨fd, fun s v => ?_, fun base _ _ => ?_⟩
  · obtain ⟨oc, od, kV, doc, pm, an, cdv, ct, osl, rfl, lk, hcd⟩ := F.ex
    exact .of_eq (b_law kV doc pm an cdv ct [v] rfl)
  · obtain ⟨f', fd', F', g', _, G⟩ := (O base).ex
    obtain rfl : fa = f' := by
      have e := g.symm.trans g'
      cases e
      rfl
    obtain ⟨_, _, _, _, _, _, _, _, _, _, lk, _⟩ := F.ex
    obtain ⟨_, _, _, _, _, _, _, _, _, _, lk', _⟩ := F'.ex
    have e := lk.symm.trans lk'
    cases e
    exact G
theorem df_mk {x : Str} {st : Stmt} {h : Heap} {f : Addr} {oc : Value} {od an : Option Addr} {sl : Array (Option Value)} {kV dc pm cd ct : Value} (X : K.In h) (G : h.Ns mainGlobals mg)
    (a : PySem.W.nsIn K mainGlobals x = some (some (.ref f))) (l : K.lookup f = some ⟨oc, od, .func (PySem.W.fnOf x x (defArgs st) (defBody st) (defScope st) .none kV dc pm an cd ct), sl⟩)
    (c : PySem.W.codeIn K cd x = true) (k : PySem.W.keepIn K (.ref f) = true) : Df K mg x st := ⟨f, _, fun_mk l c k, PySem.W.mg_of X G a⟩
theorem with_df {R : Prop} {x : Str} {st : Stmt} {h : Heap} {f : Addr} {oc : Value} {od an : Option Addr} {sl : Array (Option Value)} {kV dc pm cd ct : Value} (X : K.In h) (G : h.Ns mainGlobals mg)
    (a : PySem.W.nsIn K mainGlobals x = some (some (.ref f))) (l : K.lookup f = some ⟨oc, od, .func (PySem.W.fnOf x x (defArgs st) (defBody st) (defScope st) .none kV dc pm an cd ct), sl⟩)
    (c : PySem.W.codeIn K cd x = true) (k : PySem.W.keepIn K (.ref f) = true) (r : Df K mg x st → R) : R := r (df_mk X G a l c k)
end
end Sh

open PySem PySem.W PyProof.Rows
set_option maxHeartbeats 0 in
theorem PySem.Challenge.cw_shoalmates_k89_whole_door_by_door_holds : PySem.Challenge.rw_shoalmates_k89_whole_door_by_door.Holds := by
  w_on; o_law; k_head; (case hw => w_witness2)
  k_fill
  refine Sh.walk_ofG (l := PySem.Challenge.rw_shoalmates_k89_whole_door_by_door) (n := 63) (k := 9) (x := "_law_script") (sp := fun w => Sh.spLaw _) rfl (by decide) rfl ⟨rfl, by decide, by decide⟩ (fun w h Y => PySem.W.kIn_of Y) ?F (fun _ _ a ns hl _ hS => ⟨a, ns, rfl, hS, hl, fun _ => rfl⟩)
  case F =>
    intro w mg fa h KX G hmg
    have T : Sh.Bt mg := by
      constructor <;> (refine PySem.W.mg_none_of KX G ?_; k_is)
    refine' Sh.with_cn KX G ?a ?b ?c fun C => ?_
    (case a => k_is); (case b => k_is); (case c => k_is)
    refine' Sh.with_ck (w := w) KX G ?a ?l ?k ?d1 ?d2 ?d3 fun Ck => ?_
    (case a => k_is); (case l => k_is); (case d1 => k_is); (case d2 => k_is); (case d3 => k_is); (case k => exact ⟨⟨_, _, rfl, rfl⟩, ⟨_, _, rfl, rfl⟩, ⟨_, _, rfl, rfl⟩, trivial⟩)
    refine' Sh.with_ch KX G ?a ?b fun Ch => ?_
    (case a => k_is); (case b => k_is)
    refine' Sh.with_df (x := "is_number") (st := Sh.s_is_number) KX G ?a ?l ?c ?k fun D_is_number => ?_
    (case a => k_is); (case l => k_is); (case c => k_is); (case k => k_is)
    refine' Sh.with_df (x := "is_tuple_of") (st := Sh.s_is_tuple_of) KX G ?a ?l ?c ?k fun D_is_tuple_of => ?_
    (case a => k_is); (case l => k_is); (case c => k_is); (case k => k_is)
    refine' Sh.with_df (x := "are_rising") (st := Sh.s_are_rising) KX G ?a ?l ?c ?k fun D_are_rising => ?_
    (case a => k_is); (case l => k_is); (case c => k_is); (case k => k_is)
    refine' Sh.with_df (x := "mark_of") (st := Sh.s_mark_of) KX G ?a ?l ?c ?k fun D_mark_of => ?_
    (case a => k_is); (case l => k_is); (case c => k_is); (case k => k_is)
    refine' Sh.with_df (x := "top_of") (st := Sh.s_top_of) KX G ?a ?l ?c ?k fun D_top_of => ?_
    (case a => k_is); (case l => k_is); (case c => k_is); (case k => k_is)
    refine' Sh.with_df (x := "fleet_of") (st := Sh.s_fleet_of) KX G ?a ?l ?c ?k fun D_fleet_of => ?_
    (case a => k_is); (case l => k_is); (case c => k_is); (case k => k_is)
    refine' Sh.with_df (x := "turned_fleet") (st := Sh.s_turned_fleet) KX G ?a ?l ?c ?k fun D_turned_fleet => ?_
    (case a => k_is); (case l => k_is); (case c => k_is); (case k => k_is)
    refine' Sh.with_df (x := "ships_many") (st := Sh.s_ships_many) KX G ?a ?l ?c ?k fun D_ships_many => ?_
    (case a => k_is); (case l => k_is); (case c => k_is); (case k => k_is)
    refine' Sh.with_df (x := "mark_in") (st := Sh.s_mark_in) KX G ?a ?l ?c ?k fun D_mark_in => ?_
    (case a => k_is); (case l => k_is); (case c => k_is); (case k => k_is)
    refine' Sh.with_df (x := "goers_many") (st := Sh.s_goers_many) KX G ?a ?l ?c ?k fun D_goers_many => ?_
    (case a => k_is); (case l => k_is); (case c => k_is); (case k => k_is)
    refine' Sh.with_df (x := "top_in") (st := Sh.s_top_in) KX G ?a ?l ?c ?k fun D_top_in => ?_
    (case a => k_is); (case l => k_is); (case c => k_is); (case k => k_is)
    refine' Sh.with_df (x := "filled_at") (st := Sh.s_filled_at) KX G ?a ?l ?c ?k fun D_filled_at => ?_
    (case a => k_is); (case l => k_is); (case c => k_is); (case k => k_is)
    refine' Sh.with_df (x := "low_stop") (st := Sh.s_low_stop) KX G ?a ?l ?c ?k fun D_low_stop => ?_
    (case a => k_is); (case l => k_is); (case c => k_is); (case k => k_is)
    refine' Sh.with_df (x := "lot_of") (st := Sh.s_lot_of) KX G ?a ?l ?c ?k fun D_lot_of => ?_
    (case a => k_is); (case l => k_is); (case c => k_is); (case k => k_is)
    refine' Sh.with_df (x := "turned_lot") (st := Sh.s_turned_lot) KX G ?a ?l ?c ?k fun D_turned_lot => ?_
    (case a => k_is); (case l => k_is); (case c => k_is); (case k => k_is)
    refine' Sh.with_df (x := "fixed_ones") (st := Sh.s_fixed_ones) KX G ?a ?l ?c ?k fun D_fixed_ones => ?_
    (case a => k_is); (case l => k_is); (case c => k_is); (case k => k_is)
    refine' Sh.with_df (x := "moving_mark") (st := Sh.s_moving_mark) KX G ?a ?l ?c ?k fun D_moving_mark => ?_
    (case a => k_is); (case l => k_is); (case c => k_is); (case k => k_is)
    refine' Sh.with_df (x := "mark_at") (st := Sh.s_mark_at) KX G ?a ?l ?c ?k fun D_mark_at => ?_
    (case a => k_is); (case l => k_is); (case c => k_is); (case k => k_is)
    refine' Sh.with_df (x := "movers_of") (st := Sh.s_movers_of) KX G ?a ?l ?c ?k fun D_movers_of => ?_
    (case a => k_is); (case l => k_is); (case c => k_is); (case k => k_is)
    refine' Sh.with_df (x := "deepened") (st := Sh.s_deepened) KX G ?a ?l ?c ?k fun D_deepened => ?_
    (case a => k_is); (case l => k_is); (case c => k_is); (case k => k_is)
    refine' Sh.with_df (x := "renumbered") (st := Sh.s_renumbered) KX G ?a ?l ?c ?k fun D_renumbered => ?_
    (case a => k_is); (case l => k_is); (case c => k_is); (case k => k_is)
    refine' Sh.with_df (x := "renumbered_standing") (st := Sh.s_renumbered_standing) KX G ?a ?l ?c ?k fun D_renumbered_standing => ?_
    (case a => k_is); (case l => k_is); (case c => k_is); (case k => k_is)
    refine' Sh.with_df (x := "without_ship") (st := Sh.s_without_ship) KX G ?a ?l ?c ?k fun D_without_ship => ?_
    (case a => k_is); (case l => k_is); (case c => k_is); (case k => k_is)
    refine' Sh.with_df (x := "sunk") (st := Sh.s_sunk) KX G ?a ?l ?c ?k fun D_sunk => ?_
    (case a => k_is); (case l => k_is); (case c => k_is); (case k => k_is)
    refine' Sh.with_df (x := "ways_to_take") (st := Sh.s_ways_to_take) KX G ?a ?l ?c ?k fun D_ways_to_take => ?_
    (case a => k_is); (case l => k_is); (case c => k_is); (case k => k_is)
    refine' Sh.with_df (x := "with_more") (st := Sh.s_with_more) KX G ?a ?l ?c ?k fun D_with_more => ?_
    (case a => k_is); (case l => k_is); (case c => k_is); (case k => k_is)
    refine' Sh.with_df (x := "ways_below") (st := Sh.s_ways_below) KX G ?a ?l ?c ?k fun D_ways_below => ?_
    (case a => k_is); (case l => k_is); (case c => k_is); (case k => k_is)
    refine' Sh.with_df (x := "family_size") (st := Sh.s_family_size) KX G ?a ?l ?c ?k fun D_family_size => ?_
    (case a => k_is); (case l => k_is); (case c => k_is); (case k => k_is)
    refine' Sh.with_df (x := "may_go") (st := Sh.s_may_go) KX G ?a ?l ?c ?k fun D_may_go => ?_
    (case a => k_is); (case l => k_is); (case c => k_is); (case k => k_is)
    refine' Sh.with_df (x := "may_cross") (st := Sh.s_may_cross) KX G ?a ?l ?c ?k fun D_may_cross => ?_
    (case a => k_is); (case l => k_is); (case c => k_is); (case k => k_is)
    refine' Sh.with_df (x := "crossed") (st := Sh.s_crossed) KX G ?a ?l ?c ?k fun D_crossed => ?_
    (case a => k_is); (case l => k_is); (case c => k_is); (case k => k_is)
    refine' Sh.with_df (x := "is_sea") (st := Sh.s_is_sea) KX G ?a ?l ?c ?k fun D_is_sea => ?_
    (case a => k_is); (case l => k_is); (case c => k_is); (case k => k_is)
    refine' Sh.with_df (x := "is_place") (st := Sh.s_is_place) KX G ?a ?l ?c ?k fun D_is_place => ?_
    (case a => k_is); (case l => k_is); (case c => k_is); (case k => k_is)
    refine' Sh.with_df (x := "is_standing") (st := Sh.s_is_standing) KX G ?a ?l ?c ?k fun D_is_standing => ?_
    (case a => k_is); (case l => k_is); (case c => k_is); (case k => k_is)
    refine' Sh.with_df (x := "other_side") (st := Sh.s_other_side) KX G ?a ?l ?c ?k fun D_other_side => ?_
    (case a => k_is); (case l => k_is); (case c => k_is); (case k => k_is)
    refine' Sh.with_df (x := "turned_sea") (st := Sh.s_turned_sea) KX G ?a ?l ?c ?k fun D_turned_sea => ?_
    (case a => k_is); (case l => k_is); (case c => k_is); (case k => k_is)
    refine' Sh.with_df (x := "_law_cell_at") (st := Sh.s__law_cell_at) KX G ?a ?l ?c ?k fun D__law_cell_at => ?_
    (case a => k_is); (case l => k_is); (case c => k_is); (case k => k_is)
    refine' Sh.with_df (x := "_law_box") (st := Sh.s__law_box) KX G ?a ?l ?c ?k fun D__law_box => ?_
    (case a => k_is); (case l => k_is); (case c => k_is); (case k => k_is)
    refine' Sh.with_df (x := "_law_take") (st := Sh.s__law_take) KX G ?a ?l ?c ?k fun D__law_take => ?_
    (case a => k_is); (case l => k_is); (case c => k_is); (case k => k_is)
    refine' Sh.with_df (x := "_law_of") (st := Sh.s__law_of) KX G ?a ?l ?c ?k fun D__law_of => ?_
    (case a => k_is); (case l => k_is); (case c => k_is); (case k => k_is)
    refine' Sh.with_df (x := "_law_strewn") (st := Sh.s__law_strewn) KX G ?a ?l ?c ?k fun D__law_strewn => ?_
    (case a => k_is); (case l => k_is); (case c => k_is); (case k => k_is)
    refine' Sh.with_df (x := "_law_sea") (st := Sh.s__law_sea) KX G ?a ?l ?c ?k fun D__law_sea => ?_
    (case a => k_is); (case l => k_is); (case c => k_is); (case k => k_is)
    refine' Sh.with_df (x := "_law_lot") (st := Sh.s__law_lot) KX G ?a ?l ?c ?k fun D__law_lot => ?_
    (case a => k_is); (case l => k_is); (case c => k_is); (case k => k_is)
    refine' Sh.with_df (x := "_law_lets") (st := Sh.s__law_lets) KX G ?a ?l ?c ?k fun D__law_lets => ?_
    (case a => k_is); (case l => k_is); (case c => k_is); (case k => k_is)
    refine' Sh.with_df (x := "_law_gone") (st := Sh.s__law_gone) KX G ?a ?l ?c ?k fun D__law_gone => ?_
    (case a => k_is); (case l => k_is); (case c => k_is); (case k => k_is)
    refine' Sh.with_df (x := "_law_door") (st := Sh.s__law_door) KX G ?a ?l ?c ?k fun D__law_door => ?_
    (case a => k_is); (case l => k_is); (case c => k_is); (case k => k_is)
    refine' Sh.with_df (x := "_law_right") (st := Sh.s__law_right) KX G ?a ?l ?c ?k fun D__law_right => ?_
    (case a => k_is); (case l => k_is); (case c => k_is); (case k => k_is)
    refine' Sh.with_df (x := "law") (st := Sh.s_law) KX G ?a ?l ?c ?k fun D_law => ?_
    (case a => k_is); (case l => k_is); (case c => k_is); (case k => k_is)
    exact Sh.law_end D_law hmg fun base =>
      let O__law_take := Sh.ok_take (base := base) (k := 0) D__law_take T
      let O__law_cell_at := Sh.ok_cell_at (base := base) (k := 0) D__law_cell_at T
      let O__law_box := Sh.ok_box (k := 1) D__law_box T O__law_cell_at
      let O__law_of := Sh.ok_of (k := 1) D__law_of T O__law_take
      let O__law_sea := Sh.ok_sea (k := 2) D__law_sea T (O__law_take.mono (by decide)) O__law_of
      let O__law_lot := Sh.ok_lot (k := 2) D__law_lot T (O__law_take.mono (by decide)) O__law_of
      let O__law_lets := Sh.ok_lets (base := base) (k := 0) D__law_lets T
      let O__law_gone := Sh.ok_gone (base := base) (k := 0) D__law_gone T
      let O__law_strewn := Sh.ok_strewn (k := 1) D__law_strewn T O__law_take
      let O_mark_of := Sh.ok_mark_of (base := base) (k := 0) D_mark_of T
      let O_top_of := Sh.ok_top_of (base := base) (k := 0) D_top_of T
      let O_mark_at := Sh.ok_mark (k := 1) D_mark_at T O_mark_of
      let O_may_go := Sh.ok_may_go (k := 2) D_may_go T O_mark_at
      let O_may_cross := Sh.ok_may_cross (k := 3) D_may_cross T O_may_go
      let O_crossed := Sh.ok_crossed (k := 3) D_crossed T O_may_go
      let O_ships_many := Sh.ok_ships (base := base) (k := 0) D_ships_many T
      let O_mark_in := Sh.ok_mark_in (k := 1) D_mark_in T O_mark_of O_ships_many
      let O_top_in := Sh.ok_top_in (k := 1) D_top_in T O_top_of O_ships_many
      let O_goers_many := Sh.ok_goers_many (k := 2) D_goers_many T O_mark_in
      let O_filled_at := Sh.ok_filled (k := 2) D_filled_at T O_mark_in
      let O_low_stop := Sh.ok_low_stop (k := 3) D_low_stop T O_filled_at
      let O_turned_fleet := Sh.ok_turned_fleet (base := base) (k := 0) D_turned_fleet T
      let O_lot_of := Sh.ok_lot_of (k := 4) D_lot_of T C (O_ships_many.mono (by decide)) (O_top_in.mono (by decide)) O_low_stop (O_turned_fleet.mono (by decide))
      let O_turned_lot := Sh.ok_turned_lot (k := 1) D_turned_lot T Ck O_ships_many
      let O_fixed_ones := Sh.ok_fixed (k := 2) D_fixed_ones T O_mark_in
      let O_moving_mark := Sh.ok_moving (k := 2) D_moving_mark T C (O_ships_many.mono (by decide)) O_mark_in
      let O_fleet_of := Sh.ok_fleet_of (base := base) (k := 0) D_fleet_of T
      let O_movers_of := Sh.ok_movers (k := 5) D_movers_of T (O_moving_mark.mono (by decide)) O_lot_of (O_fleet_of.mono (by decide))
      let O_other_side := Sh.ok_other (base := base) (k := 0) D_other_side T
      let O_turned_sea := Sh.ok_turned (base := base) (k := 0) D_turned_sea T
      let Ofa := Sh.ok_fleet_ofA (base := base) (k := 0) D_fleet_of T
      let Owt := Sh.ok_ways_take (base := base) (k := 0) D_ways_to_take T
      let Owm := Sh.ok_with_more (k := 1) D_with_more T Owt
      let Owb := Sh.ok_ways_below (k := 5) D_ways_below T (O_fixed_ones.mono (by decide)) (O_goers_many.mono (by decide)) (Owm.mono (by decide))
      let Ofs := Sh.ok_family (k := 6) D_family_size T C (Ofa.mono (by decide)) (O_lot_of.mono (by decide)) Owb (O_turned_fleet.mono (by decide)) (O_turned_lot.mono (by decide))
      let Orn := Sh.ok_renum (base := base) (k := 0) D_renumbered T
      let Ors := Sh.ok_renumS (base := base) (k := 0) D_renumbered_standing T
      let Owo := Sh.ok_without (k := 1) D_without_ship T Orn Ors
      let Ode := Sh.ok_deep (base := base) (k := 1) D_deepened T Ch
      let Osu := Sh.ok_sunk (k := 2) D_sunk T Ch Owo Ode
      let Oin := Sh.ok_is_number (base := base) (k := 0) D_is_number T
      let Oit := Sh.ok_is_tuple (base := base) (k := 0) D_is_tuple_of T
      let Ori := Sh.ok_rising (base := base) (k := 1) D_are_rising T
      let Oip := Sh.ok_is_place (k := 1) D_is_place T Oin
      let Ois := Sh.ok_is_sea (k := 1) D_is_sea T Oin Oit
      let Ost := Sh.ok_is_stand (k := 2) D_is_standing T Oip Ori
      let Odo := Sh.ok_door (k := 6) D__law_door T (O__law_take.mono (by decide)) (O__law_of.mono (by decide)) (O__law_strewn.mono (by decide)) (O__law_lets.mono (by decide)) (O__law_gone.mono (by decide)) (O_movers_of.mono (by decide)) (Orn.mono (by decide)) (Ors.mono (by decide)) (O_turned_sea.mono (by decide)) (O_other_side.mono (by decide)) (Ode.mono (by decide)) (Osu.mono (by decide)) (O_crossed.mono (by decide))
      Sh.ok_law (k := 8) D_law T (O__law_box.mono (by decide)) (Sh.ok_right (k := 7) D__law_right T (O__law_sea.mono (by decide)) (O__law_take.mono (by decide)) (O__law_lot.mono (by decide)) Odo (O__law_lets.mono (by decide)) Ofs (Ois.mono (by decide)) (Ost.mono (by decide)) (O_may_cross.mono (by decide)))
