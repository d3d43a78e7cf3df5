import PyProof.Rows.All
import Wide.All
import OpenK.AllK
import Wide.FinOn
import KE.GoesEnum
import HandS.ForMost
import HandS.Walk
import HandS.Zip
import HandS.IsInst
import HandS.NoneIn
import HandS.SortInts
import HandS.Evl
import HandS.Conv
import HandS.Style
import HandS.Star
import HandS.More
import HandS.Strs
import HandS.SetFor
import HandS.Wide
import HandS.ExcOwn
import HandS.WordsExc
import HandS.ExcInit
import HandS.FStr
import HandS.ExcIs
import HandS.ExcField
import HandS.TryMany
import HandS.ExcValue
import KE.KExcIs
import KE.RegKTryMore
import KE.RegKIsAll
import PyProof.ReprRoads
import PyProof.ReprLen
import HandS.TupAny
import KE.KExcInit
import HandS.Finally
import HandS.MakeKwOnly
import PySem.Challenge.RW_shoalmates_k51_refused_at_a_harbour
set_option Elab.async false
set_option linter.all false
set_option maxRecDepth 100000
set_option maxHeartbeats 1000000
/-! Own layer over the hand layer: sequences (a list or a tuple), enumerate of a tuple, defs by one fact each, what is told kept under a growing heap. -/
namespace Sh
open PySem PySem.Spec PyProof.Rows L2

/-! ### heaps -/
theorem same_new {H : Hp} {p : Addr} {o : HO} (h : H p = none) : Same H (upd H p o) := fun b x e => by
  rw [upd_ne (ne_of_none e h)]
  exact e
theorem Same.tup {K : PySem.W.Frag} {H H' : Hp} {a : Addr} {xs : List V} (e : Same H H') (h : SqT K H a xs) : SqT K H' a xs := by
  rcases h with (h | ⟨o, h⟩) | h
  · exact .inl (.inl (e _ _ h))
  · exact .inl (.inr ⟨o, e _ _ h⟩)
  · exact .inr h
/-- a list or a tuple of xs is to be read at a -/
def SqA (K : PySem.W.Frag) (H : Hp) (a : Addr) (xs : List V) : Prop := SqL K H a xs ∨ SqT K H a xs
theorem Same.sqA {K : PySem.W.Frag} {H H' : Hp} {a : Addr} {xs : List V} (e : Same H H') (h : SqA K H a xs) : SqA K H' a xs := h.elim (fun q => .inl (e.seq q)) fun q => .inr (Same.tup e q)
theorem SqA.l {K : PySem.W.Frag} {H : Hp} {a : Addr} {xs : List V} (h : H a = some (.lst xs)) : SqA K H a xs := .inl (SqL.of h)
theorem SqA.t {K : PySem.W.Frag} {H : Hp} {a : Addr} {xs : List V} (h : H a = some (.tup xs)) : SqA K H a xs := .inr (SqT.of h)
/-- nothing but b has changed of what was tracked -/
def But (b : Addr) (H H' : Hp) : Prop := ∀ a o, a ≠ b → H a = some o → H' a = some o
theorem But.refl (b : Addr) (H : Hp) : But b H H := fun _ _ _ e => e
theorem But.trans {b : Addr} {H H1 H2 : Hp} (x : But b H H1) (y : But b H1 H2) : But b H H2 := fun a o n e => y a o n (x a o n e)
theorem Same.but {b : Addr} {H H' : Hp} (e : Same H H') : But b H H' := fun a o _ h => e a o h
theorem But.ups {b : Addr} {H : Hp} {o : HO} : But b H (upd H b o) := fun a x n e => by rw [upd_ne n]; exact e
theorem But.same {b : Addr} {G H H' : Hp} (x : But b H H') (g : Same G H) (n : G b = none) : Same G H' := fun a o e => x a o (ne_of_none e n) (g a o e)

section
variable {K : PySem.W.Frag} {H H' : Hp}
mutual
theorem Dp.same (e : Same H H') : ∀ {v : V} {d : PyData}, Dp K H v d → Dp K H' v d
  | _, _, .non => .non
  | _, _, .bl b => .bl b
  | _, _, .int i => .int i
  | _, _, .str x => .str x
  | _, _, .lst h a => .lst (e.seq h) (DpAll.same e a)
  | _, _, .tup h a => .tup (Same.tup e h) (DpAll.same e a)
theorem DpAll.same (e : Same H H') : ∀ {vs : List V} {ds : List PyData}, DpAll K H vs ds → DpAll K H' vs ds
  | _, _, .nil => .nil
  | _, _, .cons h a => .cons (Dp.same e h) (DpAll.same e a)
end
theorem DpAll.ints : ∀ ns : List Int, DpAll K H (ns.map V.int) (ns.map PyData.int)
  | [] => .nil
  | n :: ns => .cons (.int n) (DpAll.ints ns)
theorem DpAll.len : ∀ {vs : List V} {ds : List PyData}, DpAll K H vs ds → vs.length = ds.length
  | _, _, .nil => rfl
  | _, _, .cons _ a => congrArg Nat.succ (DpAll.len a)
theorem DpAll.get : ∀ {vs : List V} {ds : List PyData} {i : Nat} {v : V}, DpAll K H vs ds → vs[i]? = some v → ∃ d, ds[i]? = some d ∧ Dp K H v d
  | _, _, _, _, .nil, h => by simp at h
  | _, _, 0, _, .cons x _, h => by
    cases Option.some.inj h
    exact ⟨_, rfl, x⟩
  | _, _, i + 1, _, .cons _ a, h => DpAll.get (i := i) a h
end

/-! ### rules for a list or a tuple -/
section
variable {X : Cx}
def rIxA (K : PySem.W.Frag) : R2 := fun x y H Q => ∃ p xs i v, x = .ref p ∧ y = .int i ∧ SqA K H p xs ∧ atI xs i = some v ∧ Q v H
theorem ix_lt : IxR X (rIxA X.K) := fun value slice pins s σ H x y v u Q I rx ry h hs => by
  obtain ⟨p, xs, i, z, e1, e2, hq | hq, he, q⟩ := h
  · exact ix_list value slice pins s σ H x y v u Q I rx ry ⟨p, xs, i, z, e1, e2, hq, he, q⟩ hs
  · exact ix_tup value slice pins s σ H x y v u Q I rx ry ⟨p, xs, i, z, e1, e2, hq, he, q⟩ hs
/-- a written power, its worth written -/
theorem op_powC (v : Int) : OpR X (binaryOp .Pow) (rI (fun i j => CPow i j ∧ i ^ j.toNat = v) fun _ _ => .int v) := fun pins s σ H x y u w Q I rx ry h => by
  obtain ⟨i, j, e1, e2, ⟨hc, hv⟩, q⟩ := h
  exact op_pow pins s σ H x y u w Q I rx ry ⟨i, j, e1, e2, hc, show Q (.int (i ^ j.toNat)) H by rw [hv]; exact q⟩
/-- a < b < c < d -/
def tChain3 (r r' r'' : R2) (ta tb tc td : TE) : TE := fun σ H Q => ta σ H fun x H1 => tb σ H1 fun y H2 => r x y H2 fun z H3 => ∃ k, z = .bl k ∧
  (if k = true then tc σ H3 fun y' H4 => r' y y' H4 fun z' H5 => ∃ k', z' = .bl k' ∧ (if k' = true then td σ H5 fun y'' H6 => r'' y' y'' H6 Q else Q (.bl false) H5) else Q (.bl false) H3)
theorem pe_chain3 {a b c d : Expr} {ta tb tc td : TE} {pos : Pos} {op op' op'' : CmpOp} {r r' r'' : R2} (ho : OpR X (compareOp op) r) (ho' : OpR X (compareOp op') r') (ho'' : OpR X (compareOp op'') r'') (ha : PE X a ta) (hb : PE X b tb) (hc : PE X c tc) (hd : PE X d td)
    (hm : lastMarks [op, op', op''] [b, c, d] = false := by with_unfolding_all rfl) : PE X (.Compare a [op, op', op''] [b, c, d] pos) (tChain3 r r' r'' ta tb tc td) := by
  refine ⟨fun pins s σ H Q I h => ?_⟩
  refine Compare_chain (thn (ha.run pins s σ H _ I h) fun v s1 ⟨x, H1, I1, r1, q1⟩ => chain_link (thn (hb.run pins s1 σ H1 _ I1 q1) fun u s2 ⟨y, H2, I2, r2, q2⟩ =>
    thn (ho pins s2 σ H2 x y v u _ I2 r1 r2 q2) fun e s3 ⟨z, H3, I3, r3, k, ez, q3⟩ => ?_)) hm
  subst ez
  cases r3
  refine wpAny_truthy_bool ?_
  cases k with
  | false => exact ite_ff ⟨.bl false, H3, I3, rfl, q3⟩
  | true =>
    refine ite_tt (chain_link (thn (hc.run pins s3 σ H3 _ I3 q3) fun u' s4 ⟨y', H4, I4, r4, q4⟩ => thn (ho' pins s4 σ H4 y y' u u' _ I4 r2 r4 q4) fun e s5 ⟨z', H5, I5, r5, k', ez', q5⟩ => ?_))
    subst ez'
    cases r5
    refine wpAny_truthy_bool ?_
    cases k' with
    | false => exact ite_ff ⟨.bl false, H5, I5, rfl, q5⟩
    | true => exact ite_tt (chain_last (thn (hd.run pins s5 σ H5 _ I5 q5) fun w' s6 ⟨y'', H6, I6, r6, q6⟩ => ho'' pins s6 σ H6 y' y'' u' w' Q I6 r4 r6 q6))
theorem pt_chain3 {a b c d : Expr} {ta tb tc td : TE} {pos : Pos} {op op' op'' : CmpOp} {r r' r'' : R2} (ho : OpR X (compareOp op) r) (ho' : OpR X (compareOp op') r') (ho'' : OpR X (compareOp op'') r'') (ha : PE X a ta) (hb : PE X b tb) (hc : PE X c tc) (hd : PE X d td)
    (hm : lastMarks [op, op', op''] [b, c, d] = false := by with_unfolding_all rfl) : PT X (.Compare a [op, op', op''] [b, c, d] pos) (tTest (tChain3 r r' r'' ta tb tc td)) := by
  refine ⟨fun pins s σ H Q I h => ?_⟩
  refine isTrue_chain (thn (ha.run pins s σ H _ I h) fun v s1 ⟨x, H1, I1, r1, q1⟩ => test_link (thn (hb.run pins s1 σ H1 _ I1 q1) fun u s2 ⟨y, H2, I2, r2, q2⟩ =>
    thn (ho pins s2 σ H2 x y v u _ I2 r1 r2 q2) fun e s3 ⟨z, H3, I3, r3, k, ez, q3⟩ => ?_)) hm
  subst ez
  cases r3
  refine wpAny_truthy_bool ?_
  cases k with
  | false =>
    obtain ⟨k', e', q'⟩ := q3
    cases e'
    exact ite_ff ⟨H3, I3, q'⟩
  | true =>
    refine ite_tt (test_link (thn (hc.run pins s3 σ H3 _ I3 q3) fun u' s4 ⟨y', H4, I4, r4, q4⟩ => thn (ho' pins s4 σ H4 y y' u u' _ I4 r2 r4 q4) fun e s5 ⟨z', H5, I5, r5, k', ez', q5⟩ => ?_))
    subst ez'
    cases r5
    refine wpAny_truthy_bool ?_
    cases k' with
    | false =>
      obtain ⟨k', e', q'⟩ := q5
      cases e'
      exact ite_ff ⟨H5, I5, q'⟩
    | true =>
      refine ite_tt (test_last (thn (hd.run pins s5 σ H5 _ I5 q5) fun w' s6 ⟨y'', H6, I6, r6, q6⟩ => thn (ho'' pins s6 σ H6 y' y'' u' w' _ I6 r4 r6 q6) fun e s7 ⟨z2, H7, I7, r7, k2, e2, q7⟩ => ?_))
      subst e2
      cases r7
      exact wpAny_truthy_bool ⟨H7, I7, q7⟩
/-- the same, the written part by its own name (within a comprehension) -/
theorem ix_ltK (K : PySem.W.Frag) (hK : X.K = K := by rfl) : IxR X (rIxA K) := hK ▸ ix_lt
theorem call_lenK (K : PySem.W.Frag) (hK : X.K = K := by rfl) : CallR X (.builtin "len") (fun xs H Q => ∃ p ys, xs = [.ref p] ∧ (SqL K H p ys ∨ SqT K H p ys) ∧ Q (.int ys.length) H) := hK ▸ call_len_seq
theorem op_inK (K : PySem.W.Frag) (hK : X.K = K := by rfl) : OpR X (compareOp .In) (rIn K false) := hK ▸ op_in_seq
theorem op_notInK (K : PySem.W.Frag) (hK : X.K = K := by rfl) : OpR X (compareOp .NotIn) (rIn K true) := hK ▸ op_notIn_seq
def gSeq (K : PySem.W.Frag) (n : Nat) (t : TGs) : TG := fun v σ H Q => ∃ a xs, v = .ref a ∧ SqA K H a xs ∧ xs.length = n ∧ t xs σ H Q
theorem pg_seq {es : List Expr} {k : Nat} {t : TGs} {n : Nat} {pos : Pos} (hc : X.calm = true) (h : PGs X es t)
    (hn : (assignEach es X.env).length = n := by rfl) (hst : (assignEach es X.env).findIdx? (·.1) = none := by rfl) : PG X (.Tuple es k pos) (gSeq X.K n t) := by
  refine ⟨fun pins s σ H v u Q I r hw => ?_⟩
  obtain ⟨a, xs, e1, hq | hq, hl, hw⟩ := hw
  · exact (pg_unl hc h hn hst).run pins s σ H v u Q I r ⟨a, xs, e1, hq, hl, hw⟩
  · exact (pg_tup hc h hn hst).run pins s σ H v u Q I r ⟨a, xs, e1, hq, hl, hw⟩
/-- what stands at a stands -/
def Kp (a : Addr) (H H' : Hp) : Prop := ∀ o, H a = some o → H' a = some o
theorem Kp.ofS {a : Addr} {H H' : Hp} (e : Same H H') : Kp a H H' := fun o h => e a o h
theorem Kp.ofB {a b : Addr} {H H' : Hp} (e : But b H H') (n : a ≠ b) : Kp a H H' := fun o h => e a o n h
theorem Kp.refl (a : Addr) (H : Hp) : Kp a H H := fun _ h => h
theorem Kp.sl {K : PySem.W.Frag} {a : Addr} {xs : List V} {H H' : Hp} (k : Kp a H H') (h : SqL K H a xs) : SqL K H' a xs := by
  rcases h with (h | ⟨o, h⟩) | h
  · exact .inl (.inl (k _ h))
  · exact .inl (.inr ⟨o, k _ h⟩)
  · exact .inr h
theorem Kp.st {K : PySem.W.Frag} {a : Addr} {xs : List V} {H H' : Hp} (k : Kp a H H') (h : SqT K H a xs) : SqT K H' a xs := by
  rcases h with (h | ⟨o, h⟩) | h
  · exact .inl (.inl (k _ h))
  · exact .inl (.inr ⟨o, k _ h⟩)
  · exact .inr h
theorem Kp.sa {K : PySem.W.Frag} {a : Addr} {xs : List V} {H H' : Hp} (k : Kp a H H') (h : SqA K H a xs) : SqA K H' a xs := h.elim (fun q => .inl (k.sl q)) fun q => .inr (k.st q)
/-- the walk over what stood at a in H0 -/
def ItA (K : PySem.W.Frag) (H0 : Hp) (a : Addr) (xs : List V) (J : It) : Prop := (J = Itl K a ∧ SqL K H0 a xs) ∨ (J = Itt K a ∧ SqT K H0 a xs)
def iSeq (K : PySem.W.Frag) (tl : TE) : TI := fun σ H R => tl σ H fun x H1 => ∃ (a : Addr) (xs : List V) (H0 : Hp), x = .ref a ∧ SqA K H0 a xs ∧ Kp a H0 H1 ∧ ∀ J, ItA K H0 a xs J → R J H1
theorem pi_seq {tg l : Expr} {tl : TE} (hl : PE X l tl) : PI X tg l (iSeq X.K tl) := by
  refine ⟨fun pins s σ H R I h => ?_⟩
  refine thn (hl.run pins s σ H _ I h) fun v s1 ⟨x, H1, I1, r1, q1⟩ => ?_
  obtain ⟨a, xs, H0, e, hq | hq, hk, q⟩ := q1
  · replace q := q _ (.inl ⟨rfl, hq⟩)
    replace hq := hk.sl hq
    subst e
    cases r1
    obtain ⟨its, rv, p, hz⟩ := I1.list hq
    refine wpAny_pyIter_list p.isList ?_
    refine ⟨s1.heap.objs.size, [s1.heap.objs.size], _, _, H1, rfl, I1.kept (t' := s1.toks) fun b o e => Heap.get?_push_of_some _ e, turn_list a _, ⟨_, Heap.get?_push_size _ rfl, rfl, rfl⟩, fun b hb => ?_, q⟩
    have e : b = s1.heap.objs.size := by simpa using hb
    subst e
    exact I1.fpOk (Nat.le_refl _) (I1.hok.fresh (Nat.le_refl _))
  · replace q := q _ (.inr ⟨rfl, hq⟩)
    replace hq := hk.st hq
    subst e
    cases r1
    obtain ⟨its, rv, p, hz⟩ := I1.tuple hq
    refine wpAny_pyIter_tuple (show s1.heap.IsTuple a its.toArray from p) ?_
    refine ⟨s1.heap.objs.size, [s1.heap.objs.size], _, _, H1, rfl, I1.kept (t' := s1.toks) fun b o e => Heap.get?_push_of_some _ e, turn_tuple a _, ⟨_, Heap.get?_push_size _ rfl, rfl, rfl⟩, fun b hb => ?_, q⟩
    have e : b = s1.heap.objs.size := by simpa using hb
    subst e
    exact I1.fpOk (Nat.le_refl _) (I1.hok.fresh (Nat.le_refl _))
end

theorem ItA.walk {K : PySem.W.Frag} {H0 : Hp} {a : Addr} {xs : List V} {J : It} (h : ItA K H0 a xs J) : ∃ G : Hp → Prop, (∀ H', Kp a H0 H' → G H') ∧ Walk J xs.length G (YAt xs) := by
  rcases h with ⟨rfl, q⟩ | ⟨rfl, q⟩
  · exact ⟨_, fun _ k => k.sl q, walk_list⟩
  · exact ⟨_, fun _ k => k.st q, walk_tup⟩

/-! ### enumerate of a tuple -/
set_option maxHeartbeats 1000000 in
theorem meets_enum1 {v : Value} {o : Obj} {H : Heap → Prop} (B : Begins v o H) :
    Meets (Builtin.«enumerate.__new__» ⟨[.type "enumerate", v], []⟩) (fun _ R s => H s.heap ∧
      R (.ok (.ret (.ref (s.heap.push o).objs.size))) { s with heap := (s.heap.push o).push { cls := .type "enumerate", data := .fields #[.none, .bool false, .ref s.heap.objs.size, rawInt 0, .none, .none] } }) :=
  .of_wp fun prog w A R s h => by
    obtain ⟨hp, g, d, tk, os⟩ := s; obtain ⟨h1, h⟩ := h
    have hsub := sub_enumerate
    have q1 : ∀ {A' : Around} {E : Value → Shared → Prop} {Q : Value → Shared → Prop}, Q (.ref hp.objs.size) ⟨hp.push o, g, d, tk, os⟩ → wpAny (model prog w) A' (pyIter v) Q E ⟨hp, g, d, tk, os⟩ :=
      fun q => B.iter prog w _ _ ⟨hp, g, d, tk, os⟩ _ h1 q
    wp_walk using q1
    refine wpAny_stack_any fun st => wpAny_pure ?_
    split
    · rename_i c _ _ _ _ _
      cases (c == Value.type "enumerate")
      · wp_walk using q1
        exact ⟨_, rfl, h⟩
      · wp_walk using q1
        exact ⟨_, rfl, h⟩
    · wp_walk using q1
      exact ⟨_, rfl, h⟩
section
variable {prog : Program} {w : World} {A : Around} {E : Value → Shared → Prop} {s : Shared}
theorem enum1_begins {v : Value} {o : Obj} {H : Heap → Prop} {Q : Value → Shared → Prop} (B : Begins v o H) (h1 : H s.heap)
    (h : ∀ h', IsEnum h' (s.heap.objs.size + 1) s.heap.objs.size 0 .none → h'.get? s.heap.objs.size = some o → h'.objs.size = s.heap.objs.size + 2 →
      (∀ b o, s.heap.get? b = some o → h'.get? b = some o) → Q (.ref (s.heap.objs.size + 1)) { s with heap := h' }) :
    wpAny (model prog w) A (call (.type "enumerate") [v]) Q E s := by
  refine callType_new F.called_enumerate (by decide) (F.typeCall_enumerate_1 _) (F.newCall_enumerate_1 _) (fun obj => F.args_object_init_2 obj _) F.entry_enumerate_new
    (meets_enum1 B) ⟨h1, ?_⟩
  have hz : (s.heap.push o).objs.size = s.heap.objs.size + 1 := Heap.size_push ..
  show _ ∧ _
  rw [hz]
  have he : IsEnum ((s.heap.push o).push { cls := .type "enumerate", data := .fields #[.none, .bool false, .ref s.heap.objs.size, rawInt 0, .none, .none] }) (s.heap.objs.size + 1) s.heap.objs.size 0 .none := by
    have := Heap.get?_push_size (s.heap.push o) (o := { cls := .type "enumerate", data := .fields #[.none, .bool false, .ref s.heap.objs.size, rawInt 0, .none, .none] }) rfl
    rw [hz] at this; exact this
  refine ⟨⟨_, he, rfl⟩, h _ he (Heap.get?_push_of_some _ (Heap.get?_push_size _ B.free)) (by rw [Heap.size_push, hz]) fun b o x => Heap.get?_push_of_some _ (Heap.get?_push_of_some _ x)⟩
end
/-- the tuple at a as it stands at each turn, each item in a new pair -/
def IteT (K : PySem.W.Frag) (a : Addr) : It :=
  ⟨fun i H => ∃ (xs : List V) (x : V), SqT K H a xs ∧ xs[i]? = some x, fun i H v H' => ∃ T x, v = .ref T ∧ H T = none ∧ H' = upd H T (.tup [.int (i : Nat), x]) ∧ ∀ xs, SqT K H a xs → xs[i]? = some x, fun i H => ∃ xs : List V, SqT K H a xs ∧ xs.length ≤ i⟩
end Sh

namespace Sh
open PySem PySem.Spec PyProof.Rows L2
section
variable {prog : Program} {w : World} {A : Around} {E : Value → Shared → Prop} {s : Shared}
theorem enum_endT {e it t : Addr} {n : Nat} {i : Int} {old : Value} {items : Array Value} {Q : Option Value → Shared → Prop} (hh : A.handled = none)
    (he : IsEnum s.heap e it i old) (hit : s.heap.IsTupleIter it t n) (ht : s.heap.IsTuple t items) (hx : items[n]? = none)
    (hQ : ∀ h', Heap.ExtBut it s.heap h' → Q none { s with heap := h' }) : wpAny (model prog w) A (pyNext (.ref e)) Q E s := by
  have hT : s.TypeIs (.ref e) "enumerate" := ⟨_, he, rfl⟩
  unfold pyNext
  refine wpAny_bind (wpAny_attempt (wpAny_callSpecial?_slot (name := Str.ofString "__next__") hT F.slot_enumerate_next
    (wpAny_call_entry F.slot_enumerate_next hT F.entry_enumerate_next ?_ (F.args_enumerate_next_1 _))))
  show wpAny _ _ (field (.ref e) 2 >>= _) _ _ _
  refine wpAny_bind (wpAny_field he rfl (x := .ref it) rfl ?_)
  refine wpAny_bind (wpAny_nextOf_tuple_end (show _ = none from hh) hit ht hx fun h' x he' hx' => ?_)
  obtain ⟨o, ho, hc⟩ := hx'
  refine wpAny_bind (wpAny_isInstance (T := "StopIteration") (b := true) ⟨o, ho, hc⟩ isSubtype_stop ?_)
  exact wpAny_pure (hQ _ he')
end
theorem turn_enumT {P : Program} {w : World} {K : PySem.W.Frag} {elts : List Expr} {kk : Nat} {tpos : Pos} (a e it : Addr) :
    Turn P w K (.Tuple elts kk tpos) (IteT K a) [e, it] e (fun i h => (∃ old, IsEnum h e it ((i : Nat) : Int) old) ∧ h.IsTupleIter it a i ∧ e ≠ it ∧ a ≠ it ∧ e ≠ a) where
  mem := by simp
  obj := fun i h st b hb => by
    obtain ⟨⟨old, he⟩, ⟨o, ho, hc, hd⟩, _⟩ := st
    have e' : b = e ∨ b = it := by simpa using hb
    rcases e' with z | z
    · rw [z]; exact ⟨_, he, fun v q => nomatch q⟩
    · rw [z]; exact ⟨o, ho, fun v q => by rw [hd] at q; cases q⟩
  keep := fun i h h' st k => let ⟨⟨old, he⟩, hi, hne⟩ := st; ⟨⟨old, k e (by simp) _ he⟩, hi.at fun o q => k it (by simp) o q, hne⟩
  item := by
    intro X hP hw hK hc i pins s σ H E I hf st hg
    subst hP hw hK
    obtain ⟨⟨old, he⟩, hit, hne, hai, hea⟩ := st
    obtain ⟨xs, x, hq, hx⟩ := hg
    obtain ⟨its, rv, p, hz⟩ := I.tuple hq
    obtain ⟨u, hu, ru⟩ := rv.get hx
    have hel : e < s.heap.objs.size := Heap.lt_size he
    have hil : it < s.heap.objs.size := by obtain ⟨_, q, _⟩ := hit; exact Heap.lt_size q
    have D := Draws.tuple (prog := X.prog) (w := X.w) (A := X.A.in1) (show X.A.in1.handled = none from I.ok.hd hc) it a hai its.toArray
    have hlt : i < its.toArray.size := by
      have q := (List.getElem?_eq_some_iff.mp hu).1
      simpa using q
    refine wpAny_pyNext_enum_itemC D he ⟨hit, p⟩ hlt hne (by simp [hne, hea]) fun u' h' tk hP ho hst' hT hsz hk => ?_
    have eu : u' = u := by
      have q : its.toArray[i]? = some u' := hP
      have q2 : its.toArray[i]? = some u := by simpa using hu
      exact Option.some.inj (q.symm.trans q2)
    subst eu
    obtain ⟨hit', _⟩ := hst'
    refine ⟨_, rfl, wpAny_letOwnedTupleGo_enum (s := { s with heap := h', toks := tk + 1 }) ho fun h'' he' sb => ?_⟩
    have hT2 : h''.get? s.heap.objs.size = some { cls := .type "tuple", data := .seq #[.int i tk, u'] } := (sb.2 _ (Nat.ne_of_gt hel)).trans hT
    have new : ObjOk X.prog X.w (upd H s.heap.objs.size (.tup [.int (i : Nat), x])) h'' s.heap.objs.size (.tup [.int (i : Nat), x]) :=
      ⟨by show 2 ≤ sizeLine; decide, [.int i tk, u'], .cons ⟨_, rfl⟩ (.cons ru .nil), ⟨_, hT2, rfl, _, rfl⟩⟩
    have I1 : Inv X pins σ (upd H s.heap.objs.size (.tup [.int (i : Nat), x])) { s with heap := h'', toks := tk + 1 } :=
      I.turnedNew (ch := [e, it]) (fun b ob hb q => (sb.2 b (fun z => hb (by simp [z]))).trans (hk b ob (fun z => hb (by simp [z])) (fun z => hb (by simp [z])) q)) hf (Nat.le_refl _) new
    refine ⟨.ref s.heap.objs.size, _, I1, rfl, ⟨_, x, rfl, I.hok.fresh (Nat.le_refl _), rfl, fun ys hy => by rw [I.tuple_inj hy hq]; exact hx⟩, ⟨⟨u', ?_⟩, hit'.at fun o q => (sb.2 it (Ne.symm hne)).trans q, hne, hai, hea⟩, fun b hb => ?_⟩
    · have e1 : ((i + 1 : Nat) : Int) = (i : Int) + 1 := by omega
      rw [e1]; exact he'
    · have hb' : b < s.heap.objs.size := by
        have e' : b = e ∨ b = it := by simpa using hb
        rcases e' with z | z
        · rw [z]; exact hel
        · rw [z]; exact hil
      rw [upd_ne (Nat.ne_of_lt hb')]
      exact (hf b hb).1
  done := by
    intro X hP hw hK hc i pins s σ H E I hf st hg
    subst hP hw hK
    obtain ⟨⟨old, he⟩, hit, hne, hai, hea⟩ := st
    obtain ⟨xs, hq, hx⟩ := hg
    obtain ⟨its, rv, p, hz⟩ := I.tuple hq
    obtain ⟨f0, f1, f2, f3, f4, f5⟩ := hf it (by simp)
    have hl := rv.length
    exact enum_endT (I.ok.hd hc) he hit p (by simp; omega) fun h' eb => ⟨rfl, I.turned (t' := s.toks) (fun b o hb q => eb b o hb q) f0 f1 f3 f4 f5⟩
  self := fun A i s Q E st h => let ⟨⟨_, he⟩, _⟩ := st; wpAny_pyIter_enum he h
def ItE (K : PySem.W.Frag) (H0 : Hp) (a : Addr) (xs : List V) (J : It) : Prop := (J = Ite K a ∧ SqL K H0 a xs) ∨ (J = IteT K a ∧ SqT K H0 a xs)
def iEnumA (K : PySem.W.Frag) (ta : TA) : TI := fun σ H R => ta σ H fun vs H1 => ∃ (a : Addr) (xs : List V) (H0 : Hp), vs = [.ref a] ∧ SqA K H0 a xs ∧ Kp a H0 H1 ∧ ∀ J, ItE K H0 a xs J → R J H1
theorem pi_enumA {X : Cx} {e : Expr} {ta : TA} {p pos tpos : Pos} {elts : List Expr} {kk : Nat} (hg : Gl X "enumerate") (hm : X.mg "enumerate" = none) (ha : PA X [e] ta) (hs : starEach [e] X.env = [(false, eval e X.env)] := by rfl) :
    PI X (.Tuple elts kk tpos) (.Call (.Name "enumerate" p) [e] [] pos) (iEnumA X.K ta) := by
  refine ⟨fun pins s σ H R I h => ?_⟩
  refine Call_ (ld_blt I hg hm boot_enumerate (PyProof.Rows.callWith_type1 (thn (ha.run pos pins s σ H _ I h) fun us s1 ⟨vs, H1, I1, r1, q1⟩ => ?_) hs rfl))
  obtain ⟨a, xs, H0, ex, hs0, hk, q1⟩ := q1
  subst ex
  cases r1 with
  | cons r rr =>
    cases rr
    cases r
    have fr : ∀ b ∈ [s1.heap.objs.size + 1, s1.heap.objs.size], FpOk X pins H1 b := fun b hb => by
      have e' : b = s1.heap.objs.size + 1 ∨ b = s1.heap.objs.size := by simpa using hb
      have hle : s1.heap.objs.size ≤ b := by
        rcases e' with z | z
        · rw [z]; exact Nat.le_add_right _ _
        · rw [z]; exact Nat.le_refl _
      exact I1.fpOk hle (I1.hok.fresh hle)
    rcases hs0 with hq | hq
    · have q := q1 _ (.inl ⟨rfl, hq⟩)
      replace hq := hk.sl hq
      obtain ⟨its, rv, p', hz⟩ := I1.list hq
      refine call_enumerate_list p'.isList fun h' he hit hsz hk => wpAny_pyIter_enum he ?_
      have I2 : Inv X pins σ H1 { s1 with heap := h' } := I1.kept (t' := s1.toks) hk
      exact ⟨s1.heap.objs.size + 1, [s1.heap.objs.size + 1, s1.heap.objs.size], _, _, H1, rfl, I2, turn_enum a (s1.heap.objs.size + 1) s1.heap.objs.size, ⟨⟨.none, he⟩, hit, Nat.succ_ne_self _⟩, fr, q⟩
    · have q := q1 _ (.inr ⟨rfl, hq⟩)
      replace hq := hk.st hq
      obtain ⟨its, rv, p', hz⟩ := I1.tuple hq
      have al : a < s1.heap.objs.size := by obtain ⟨_, q, _⟩ := id p'; exact Heap.lt_size q
      refine enum1_begins (begins_tuple a its.toArray) p' fun h' he hit hsz hk => wpAny_pyIter_enum he ?_
      have I2 : Inv X pins σ H1 { s1 with heap := h' } := I1.kept (t' := s1.toks) hk
      exact ⟨s1.heap.objs.size + 1, [s1.heap.objs.size + 1, s1.heap.objs.size], _, _, H1, rfl, I2, turn_enumT a (s1.heap.objs.size + 1) s1.heap.objs.size, ⟨⟨.none, he⟩, ⟨_, hit, rfl, rfl⟩, Nat.succ_ne_self _, Nat.ne_of_lt al, Nat.ne_of_gt (Nat.lt_succ_of_lt al)⟩, fr, q⟩
theorem walk_enumT {K : PySem.W.Frag} {a : Addr} {xs : List V} : Walk (IteT K a) xs.length (fun H => SqT K H a xs) (YPair (fun i => some (.int (i : Nat))) (fun i => xs[i]?)) := by
  refine ⟨fun i _ hi q => ⟨xs, xs[i], q, by simp [hi]⟩, fun _ q => ⟨xs, q, Nat.le_refl _⟩, fun i H v H' _ q y => ?_⟩
  obtain ⟨T, x, h1, h2, h3, h4⟩ := y
  exact ⟨T, .int (i : Nat), x, h1, h2, h3, rfl, h4 xs q⟩
theorem ItE.walk {K : PySem.W.Frag} {H0 : Hp} {a : Addr} {xs : List V} {J : It} (h : ItE K H0 a xs J) : ∃ G : Hp → Prop, (∀ H', Kp a H0 H' → G H') ∧ Walk J xs.length G (YPair (fun i => some (.int (i : Nat))) (fun i => xs[i]?)) := by
  rcases h with ⟨rfl, q⟩ | ⟨rfl, q⟩
  · exact ⟨_, fun _ k => k.sl q, walk_enum⟩
  · exact ⟨_, fun _ k => k.st q, walk_enumT⟩
theorem walk_zipT {K : PySem.W.Frag} {a b : Addr} {xs ys : List V} {n : Nat} (hn : n = min xs.length ys.length) : Walk (RZ.ItzT K a b) n (fun H => SqT K H a xs ∧ SqT K H b ys) (YPair (fun i => xs[i]?) (fun i => ys[i]?)) := by
  subst hn
  refine ⟨fun i _ hi q => ?_, fun _ q => ⟨xs, ys, q.1, q.2, by omega⟩, fun i H v H' _ q y => ?_⟩
  · have h1 : i < xs.length := by omega
    have h2 : i < ys.length := by omega
    exact ⟨xs, ys, xs[i], ys[i], q.1, q.2, by simp [h1], by simp [h2]⟩
  · obtain ⟨T, x, z, h1, h2, h3, h4, h5⟩ := y
    exact ⟨T, x, z, h1, h2, h3, h4 xs q.1, h5 ys q.2⟩
end Sh

namespace Sh
open PySem PySem.Spec PyProof.Rows L2
/-- a def of the top: where it stands, and the global name -/
structure Df (K : PySem.W.Frag) (mg : Str → Option Value) (x : Str) (st : Stmt) : Prop where
  ex : ∃ (f : Addr) (fd : FuncData), Fun K x x st f fd ∧ mg x = some (.ref f)
/-- it keeps its promise -/
structure Ok (P : Program) (w : World) (K : PySem.W.Frag) (mg : Str → Option Value) (base : Heap) (k : Nat) (x : Str) (st : Stmt) (ps : List Str) (sp : Sp) : Prop where
  ex : ∃ (f : Addr) (fd : FuncData), Fun K x x st f fd ∧ mg x = some (.ref f) ∧ Binds K fd ps [] ∧ FnOk P w K mg base CX0 k f fd ps sp
section
variable {P : Program} {w : World} {K : PySem.W.Frag} {mg : Str → Option Value} {base : Heap}
theorem Df.ok {x : Str} {st : Stmt} {N ps : List Str} {k : Nat} {sp : Sp} (D : Df K mg x st) (S : FnScope N ps (defScope st))
    (hb : ∀ (kV doc pm : Value) (an : Option Addr) (cdv ct : Value) (us : List Value), us.length = ps.length → bindArgs (PySem.W.fnOf x x (defArgs st) (defBody st) (defScope st) .none kV doc pm an cdv ct) ⟨us, []⟩ = pure (ps.zip us))
    (len : ∀ vs H Q E, sp vs H Q E → vs.length = ps.length)
    (hbody : ∀ (f : Addr) (cdv : Value) (A : Around) (outer : List Env) (s : Shared) (H : Hp) (vs : List V) (Q : VK) (E : XK), Room k (A.deeper (envOfC x (defScope st) s.heap.objs.size f cdv)) → sp vs H Q E →
      ∃ t, PSs (cxOf CX0 P w K mg base N x (defScope st) f cdv A outer s H E).nox (defBody st) t ∧ t { nx := fun _ H' => Q .non H', rt := Q } (start N vs) H) : Ok P w K mg base (k + 1) x st ps sp := by
  obtain ⟨f, fd, F, g⟩ := D.ex
  exact ⟨f, fd, F, g, F.binds hb, F.ok S len (fun cdv A outer s H vs Q E hr h => hbody f cdv A outer s H vs Q E hr h)⟩
theorem Ok.mono {x : Str} {st : Stmt} {ps : List Str} {j k : Nat} {sp : Sp} (O : Ok P w K mg base j x st ps sp) (h : j ≤ k) : Ok P w K mg base k x st ps sp := by
  obtain ⟨f, fd, F, g, b, G⟩ := O.ex
  exact ⟨f, fd, F, g, b, G.mono h⟩
theorem Ok.imp {x : Str} {st : Stmt} {ps : List Str} {k : Nat} {sp sp' : Sp} (O : Ok P w K mg base k x st ps sp) (h : ∀ vs H Q E, sp' vs H Q E → sp vs H Q E) : Ok P w K mg base k x st ps sp' := by
  obtain ⟨f, fd, F, g, b, G⟩ := O.ex
  exact ⟨f, fd, F, g, b, G.imp h⟩
end
/-- the values at the places js -/
def pk {α : Type} (js : List Nat) (l : List α) : List α := js.filterMap fun j => l[j]?
theorem vals_get : ∀ {vs : List V} {us : List Value} (j : Nat), Vals vs us → (vs[j]? = none ∧ us[j]? = none) ∨ ∃ v u, vs[j]? = some v ∧ us[j]? = some u ∧ RelV v u
  | _, _, _, .nil => .inl ⟨by simp, by simp⟩
  | _, _, 0, .cons r _ => .inr ⟨_, _, rfl, rfl, r⟩
  | _, _, j + 1, .cons _ t => by simpa using vals_get j t
theorem vals_app : ∀ {vs zs : List V} {us ws : List Value}, Vals vs us → Vals zs ws → Vals (vs ++ zs) (us ++ ws)
  | _, _, _, _, .nil, h => h
  | _, _, _, _, .cons r t, h => .cons r (vals_app t h)
theorem vals_pk {vs : List V} {us : List Value} (h : Vals vs us) : ∀ js : List Nat, Vals (pk js vs) (pk js us)
  | [] => .nil
  | j :: js => by
    unfold pk
    rcases vals_get j h with ⟨a, b⟩ | ⟨v, u, a, b, r⟩
    · rw [List.filterMap_cons_none a, List.filterMap_cons_none b]
      exact vals_pk h js
    · rw [List.filterMap_cons_some a, List.filterMap_cons_some b]
      exact .cons r (vals_pk h js)
section
variable {X : Cx} {k : Nat} {x : Str} {st : Stmt} {ps : List Str} {sp : Sp} {e : Expr} {es : List Expr} {t tk : TA} {p pos : Pos} {kws : List Keyword} {ks : List Str}
/-- f(e, ..) -/
theorem pe_fn (O : Ok X.prog X.w X.K X.mg X.base k x st ps sp) (hr : Room k X.A) (ha : PA X (e :: es) t) (hg : Gl X x := by rfl)
    (hdb : (x == ("__debug__" : Str)) = false := by decide) (he : starEach (e :: es) X.env = (false, eval e X.env) :: starEach es X.env := by rfl) (hpl : (backTo pos (starEach es X.env)).any (·.1) = false := by rfl) :
    PE X (.Call (.Name x p) (e :: es) [] pos) (tCall sp [] E0 t) := by
  obtain ⟨f, fd, F, g, b, G⟩ := O.ex
  exact pe_call G hr hg g F.kp b .nil pass0 ha hdb he hpl
/-- f(e, .., k = v, ..): the parameters are the places js of all that is handed in -/
def tCallJ (js : List Nat) (n : Nat) (sp : Sp) (t tk : TA) : TE := fun σ H Q => t σ H fun vs H1 => tk σ H1 fun zs H2 => (vs.length + zs.length = n ∧ zs.length = n - vs.length) ∧ sp (pk js (vs ++ zs)) H2 Q E0
theorem run_fnJ {pins : List (Addr × Obj)} {σ : L2.St} {H : Hp} {s : Shared} {Q : VK} {us ws : List Value} {vs zs : List V} {js : List Nat} {f : Addr} {fd : FuncData} (F : Fun X.K x x st f fd) (G : FnOk X.prog X.w X.K X.mg X.base CX0 k f fd ps sp) (hr : Room k X.A)
    (hb : ∀ (kV doc pm : Value) (an : Option Addr) (cdv ct : Value), bindArgs (PySem.W.fnOf x x (defArgs st) (defBody st) (defScope st) .none kV doc pm an cdv ct) ⟨us, ks.zip ws⟩ = pure (ps.zip (pk js (us ++ ws))))
    (I : Inv X pins σ H s) (r : Vals vs us) (rz : Vals zs ws) (h : sp (pk js (vs ++ zs)) H Q E0) : wpAny (model X.prog X.w) X.A (call (.ref f) us (ks.zip ws)) (EP X pins σ Q) X.xe s := by
  obtain ⟨oc, od, kV, doc, pm, an, cdv, ct, osl, rfl, lk, hcd⟩ := F.ex
  refine wpAny_call (codeAny_mono (G.run X.A X.stack s H ⟨us, ks.zip ws⟩ (pk js (us ++ ws)) (pk js (vs ++ zs)) Q E0 hr I.env0 (.of_eq (hb kV doc pm an cdv ct)) (vals_pk (vals_app r rz) js) h) fun r s' hq => ?_)
  cases r with
  | error e => exact pass0 pins σ H s e s' I hq
  | ok fl =>
    cases fl with
    | ret u => exact I.after hq
    | next => exact False.elim hq
    | brk => exact False.elim hq
    | cont => exact False.elim hq
/-- f(k = v, ..) -/
theorem pe_fnK0 (js : List Nat) (O : Ok X.prog X.w X.K X.mg X.base k x st ps sp) (hr : Room k X.A)
    (hb : ∀ (kV doc pm : Value) (an : Option Addr) (cdv ct : Value) (ws : List Value), ws.length = ks.length → bindArgs (PySem.W.fnOf x x (defArgs st) (defBody st) (defScope st) .none kV doc pm an cdv ct) ⟨[], ks.zip ws⟩ = pure (ps.zip (pk js ws)))
    (hkw : PK X kws tk) (hg : Gl X x := by rfl) (hall : (backToKw pos (keywordEach kws X.env)).all (·.1.isSome) = true := by rfl) (hks : (backToKw pos (keywordEach kws X.env)).filterMap (·.1) = ks := by rfl) (hdb : (x == ("__debug__" : Str)) = false := by decide)
    (hpl : ((backTo pos (starEach [] X.env)).any (·.1) || (backToKw pos (keywordEach kws X.env)).any (·.1.isNone)) = false := by rfl) :
    PE X (.Call (.Name x p) [] kws pos) (tCallJ js ks.length sp tNil tk) := by
  obtain ⟨f, fd, F, g, b, G⟩ := O.ex
  refine ⟨fun pins s σ H Q I h => ?_⟩
  refine wpAny_Call_Name_kw (ld_glob I hg g ?_ hdb)
  refine PySem.W.callWith_KW0 (h₀ := X.base) I.ok.mod.kin F.kp hall ?_ hpl
  refine thn (hkw.run pos pins s σ H _ I h) fun ws s2 ⟨zs, H2, I2, rz, l2, q2⟩ => ⟨I2.kIn, ?_⟩
  rw [hks]
  exact run_fnJ (us := []) (vs := []) (js := js) F G hr (fun kV doc pm an cdv ct => hb kV doc pm an cdv ct ws (rz.length.symm.trans l2.2)) I2 .nil rz q2
/-- f(e, .., k = v, ..), n positional ones -/
theorem pe_fnK (js : List Nat) (n : Nat) (O : Ok X.prog X.w X.K X.mg X.base k x st ps sp) (hr : Room k X.A)
    (hb : ∀ (kV doc pm : Value) (an : Option Addr) (cdv ct : Value) (us ws : List Value), us.length = n → ws.length = ks.length → bindArgs (PySem.W.fnOf x x (defArgs st) (defBody st) (defScope st) .none kV doc pm an cdv ct) ⟨us, ks.zip ws⟩ = pure (ps.zip (pk js (us ++ ws))))
    (ha : PA X (e :: es) t) (hkw : PK X kws tk) (hg : Gl X x := by rfl) (hall : (backToKw pos (keywordEach kws X.env)).all (·.1.isSome) = true := by rfl) (hks : (backToKw pos (keywordEach kws X.env)).filterMap (·.1) = ks := by rfl)
    (hdb : (x == ("__debug__" : Str)) = false := by decide) (he : starEach (e :: es) X.env = (false, eval e X.env) :: starEach es X.env := by rfl)
    (hpl : ((backTo pos (starEach (e :: es) X.env)).any (·.1) || (backToKw pos (keywordEach kws X.env)).any (·.1.isNone)) = false := by rfl) :
    PE X (.Call (.Name x p) (e :: es) kws pos) (fun σ H Q => t σ H fun vs H1 => tk σ H1 fun zs H2 => (vs.length = n ∧ zs.length = ks.length) ∧ sp (pk js (vs ++ zs)) H2 Q E0) := by
  obtain ⟨f, fd, F, g, b, G⟩ := O.ex
  refine ⟨fun pins s σ H Q I h => ?_⟩
  refine wpAny_Call_Name_kw (ld_glob I hg g ?_ hdb)
  refine PySem.W.callWith_KW (h₀ := X.base) I.ok.mod.kin F.kp hall (thn (ha.run pos pins s σ H _ I h) fun us s1 ⟨vs, H1, I1, r, q⟩ => ?_) hpl he
  refine thn (hkw.run pos pins s1 σ H1 _ I1 q) fun ws s2 ⟨zs, H2, I2, rz, ⟨l1, l2⟩, q2⟩ => ⟨I2.kIn, ?_⟩
  rw [hks]
  exact run_fnJ (js := js) F G hr (fun kV doc pm an cdv ct => hb kV doc pm an cdv ct us ws (r.length.symm.trans l1) (rz.length.symm.trans l2)) I2 r rz q2
end
theorem tyes {σ : L2.St} {H : Hp} {Q : Bool → Hp → Prop} (h : Q true H) : tYes σ H Q := h
/-! ### xs[a:b:c] -/
def pickV (xs : List V) (lo hi st : Option Int) : List V := pk (sliceRange (sliceBounds lo hi st xs.length).1 (sliceBounds lo hi st xs.length).2.1 (sliceBounds lo hi st xs.length).2.2) xs
theorem pick_vals {xs : List V} {us : List Value} (r : Vals xs us) (lo hi st : Option Int) : Vals (pickV xs lo hi st) (slicePick us.toArray lo hi st).toList := by
  have e := vals_pk r (sliceRange (sliceBounds lo hi st xs.length).1 (sliceBounds lo hi st xs.length).2.1 (sliceBounds lo hi st xs.length).2.2)
  have e2 : (slicePick us.toArray lo hi st).toList = pk (sliceRange (sliceBounds lo hi st xs.length).1 (sliceBounds lo hi st xs.length).2.1 (sliceBounds lo hi st xs.length).2.2) us := by
    unfold slicePick pk
    rw [List.size_toArray, ← r.length]
    simp
  rw [e2]
  exact e
section
variable {X : Cx}
def tStep (K : PySem.W.Frag) (te : TE) (tl th ts : TO) : TE := fun σ H Q => te σ H fun x H1 => tl σ H1 fun l H2 => th σ H2 fun u H3 => ts σ H3 fun o H4 => ∃ a xs, x = .ref a ∧ SqL K H4 a xs ∧ o ≠ some 0 ∧ (pickV xs l u o).length ≤ sizeLine ∧ ∀ p, H4 p = none → Q (.ref p) (upd H4 p (.lst (pickV xs l u o)))
theorem pe_step {e st : Expr} {lo hi : Option Expr} {te : TE} {tl th ts : TO} {p3 pos : Pos} (he : PE X e te) (hlo : PO X lo tl) (hhi : PO X hi th) (hst : PO X (some st) ts) : PE X (.Subscript e (.Slice lo hi (some st) p3) pos) (tStep X.K te tl th ts) := by
  refine ⟨fun pins s σ H Q I h => ?_⟩
  refine Subscript_ (thn (he.run pins s σ H _ I h) fun v s1 ⟨x, H1, I1, r1, q1⟩ => ?_)
  refine wpAny_Slice (thn (hlo.run pins s1 σ H1 _ I1 q1) fun vl s2 ⟨l, H2, I2, pl, q2⟩ => ?_)
  refine thn (hhi.run pins s2 σ H2 _ I2 q2) fun vu s3 ⟨u, H3, I3, pu, q3⟩ => ?_
  refine thn (hst.run pins s3 σ H3 _ I3 q3) fun vs s4 ⟨o, H4, I4, ps, q4⟩ => ?_
  obtain ⟨a, xs, ex, hx, h0, hz2, q⟩ := q4
  subst ex
  cases r1
  have I5 : Inv X pins σ H4 { s4 with heap := s4.heap.push { cls := .type "slice", data := .fields #[vl, vu, vs] } } := I4.kept (t' := s4.toks) fun b ob q => Heap.get?_push_of_some _ q
  obtain ⟨its, r, ht, hz⟩ := I5.list hx
  have hlen := r.length
  show wpAny (model X.prog X.w) X.A (subscriptTail e (.Slice lo hi (some st) p3) (.ref a) (.ref s4.heap.objs.size)) (EP X pins σ Q) X.xe { s4 with heap := s4.heap.push { cls := .type "slice", data := .fields #[vl, vu, vs] } }
  refine tail_any (ops := [.ref a, .ref s4.heap.objs.size]) ht.isList.typeIs (PySem.slot_list_getitem.lookup) ?_ (by with_unfolding_all rfl)
  refine wpAny_getItem_list_slice ht.isList (Heap.IsSliceOf.new _ vl vu vs) pl pu ps h0 ?_ (by rw [List.size_toArray]; omega)
  refine ⟨.ref _, _, I5.laid (t' := s4.toks) (o := .lst (pickV xs l u o)) (fun b ob q => Heap.get?_push_of_some _ q) (Nat.le_refl _) ?_, rfl, q _ (I5.hok.fresh (Nat.le_refl _))⟩
  exact ⟨hz2, (slicePick its.toArray l u o).toList, 0, pick_vals r l u o, Heap.get?_push_size _ rfl⟩
end
/-! ### set(t) of a tuple of ints, as a thing that stands -/
def rSetT (K : PySem.W.Frag) (w : World) : List V → Hp → VK → Prop := fun xs H Q => ∃ (q : Addr) (ns : List Int), xs = [.ref q] ∧ SqT K H q (ns.map V.int) ∧ ns.length ≤ 1000 ∧ ∀ (a : Addr) (c : Nat), H a = none → c ≤ ns.length → Q (.ref a) (upd H a (SetO w a (fun j => decide (j ∈ ns)) c))
theorem cr_setT {X : Cx} (hc : X.calm = true) : CallR X (.type "set") (rSetT X.K X.w) := by
  intro pins s σ H xs us Q I r h
  obtain ⟨q, ns, rfl, hq, hl, k⟩ := h
  rw [Vals.ref1 r]
  obtain ⟨its, rv, pt, hz⟩ := I.tuple hq
  have hi : IntsAre its.toArray.toList ns := ints_of_vals rv
  refine call_set_tupI ns (I.ok.hd hc) (show s.heap.IsTuple q its.toArray from pt) hi (by unfold scanBound; omega) fun h' tk c R1 hcn kk => ?_
  exact ⟨.ref _, upd H s.heap.objs.size (SetO X.w s.heap.objs.size _ c), I.laid (t' := tk) kk (Nat.le_refl _) (setO_new R1), rfl, k _ _ (I.hok.fresh (Nat.le_refl _)) hcn⟩
theorem cr_setTw {X : Cx} (w : World) (hc : X.calm = true) (hw : X.w = w := by rfl) : CallR X (.type "set") (rSetT X.K w) := hw ▸ cr_setT hc
theorem cr_sortedSetw {X : Cx} (w : World) (hc : X.calm = true) (hw : X.w = w := by rfl) : CallR X (.builtin "sorted") (rSortedSet w) := hw ▸ cr_sortedSet hc
/-- names of Python's own that the top leaves alone -/
structure Bt (mg : Str → Option Value) : Prop where
  len_ : mg "len" = none
  range_ : mg "range" = none
  abs_ : mg "abs" = none
  int_ : mg "int" = none
  min_ : mg "min" = none
  max_ : mg "max" = none
  list_ : mg "list" = none
  tuple_ : mg "tuple" = none
  all_ : mg "all" = none
  any_ : mg "any" = none
  sorted_ : mg "sorted" = none
  sum_ : mg "sum" = none
  repr_ : mg "repr" = none
  zip_ : mg "zip" = none
  enumerate_ : mg "enumerate" = none
  isinstance_ : mg "isinstance" = none
  reversed_ : mg "reversed" = none
  str_ : mg "str" = none
  bool_ : mg "bool" = none
  set_ : mg "set" = none
end Sh

/-! calls where no text of a list is under way: then repr(..) is known -/
namespace Sh
open PySem PySem.Spec PyProof.Rows L2
/-- a def's promise, kept where no repr is under way -/
structure FnG (P : Program) (w : World) (K : PySem.W.Frag) (mg : Str → Option Value) (bs : Heap) (k : Nat) (f : Addr) (fd : FuncData) (ps : List Str) (sp : Sp) : Prop where
  many : ∀ vs H Q E, sp vs H Q E → vs.length = ps.length
  go : ∀ (B : Around) (fr : List Env) (s : Shared) (H : Hp) (gs : Args) (us : List Value) (vs : List V) (Q : VK) (E : XK), Room k B → B.guards = some [] → Env0 P w K mg bs B fr s H → BindsTo s fd gs (ps.zip us) → Vals vs us → sp vs H Q E → codeAny (model P w) B (.call (.ref f) gs) (CR CX0 fr P w H s Q E) s
structure OkG (P : Program) (w : World) (K : PySem.W.Frag) (mg : Str → Option Value) (bs : Heap) (k : Nat) (x : Str) (st : Stmt) (ps : List Str) (sp : Sp) : Prop where
  ex : ∃ (f : Addr) (fd : FuncData), Fun K x x st f fd ∧ mg x = some (.ref f) ∧ Binds K fd ps [] ∧ FnG P w K mg bs k f fd ps sp
section
variable {P : Program} {w : World} {K : PySem.W.Frag} {mg : Str → Option Value} {bs : Heap}
theorem FnG.mono {j k : Nat} {f : Addr} {fd : FuncData} {ps : List Str} {sp : Sp} (G : FnG P w K mg bs j f fd ps sp) (h : j ≤ k) : FnG P w K mg bs k f fd ps sp := ⟨G.many, fun B fr s H gs us vs Q E hr => G.go B fr s H gs us vs Q E (hr.mono h)⟩
theorem OkG.mono {x : Str} {st : Stmt} {ps : List Str} {j k : Nat} {sp : Sp} (O : OkG P w K mg bs j x st ps sp) (h : j ≤ k) : OkG P w K mg bs k x st ps sp := by
  obtain ⟨f, fd, F, g, b, G⟩ := O.ex
  exact ⟨f, fd, F, g, b, G.mono h⟩
theorem Df.okG {x : Str} {st : Stmt} {N ps : List Str} {k : Nat} {sp : Sp} (D : Df K mg x st) (S : FnScope N ps (defScope st))
    (hb : ∀ (kV dc pm : Value) (an : Option Addr) (cdv ct : Value) (us : List Value), us.length = ps.length → bindArgs (PySem.W.fnOf x x (defArgs st) (defBody st) (defScope st) .none kV dc pm an cdv ct) ⟨us, []⟩ = pure (ps.zip us))
    (many : ∀ vs H Q E, sp vs H Q E → vs.length = ps.length)
    (bd : ∀ (f : Addr) (cdv : Value) (B : Around) (fr : List Env) (s : Shared) (H : Hp) (vs : List V) (Q : VK) (E : XK), Room k (B.deeper (envOfC x (defScope st) s.heap.objs.size f cdv)) → (B.deeper (envOfC x (defScope st) s.heap.objs.size f cdv)).guards = some [] → sp vs H Q E →
      ∃ t, PSs (cxOf CX0 P w K mg bs N x (defScope st) f cdv B fr s H E).nox (defBody st) t ∧ t { nx := fun _ J => Q .non J, rt := Q } (start N vs) H) : OkG P w K mg bs (k + 1) x st ps sp := by
  obtain ⟨f, fd, F, g⟩ := D.ex
  have F0 := F
  obtain ⟨oc, od, kV, dc, pm, an, cdv, ct, osl, rfl, lk, hcd⟩ := F.ex
  refine ⟨f, _, F0, g, F0.binds hb, many, fun B fr s H gs us vs Q E rm gd e0 bnd r wish => ?_⟩
  have nm := many _ _ _ _ wish
  have kin : K.In s.heap := e0.mod.kin.keeps fun a o e => (e0.bs a o e).1
  have nol : s.heap.NoLimit := e0.mod.nolimit.keeps fun a o e => (e0.bs a o e).1
  have kinds : ∀ y ∈ ps.zip us, (defScope st).names.lookup y.1 = some .local ∨ ((defScope st).names.lookup y.1 = some .cell ∧ ((cellsFrom (s.heap.objs.size + 1) (defScope st).names []).lookup y.1).isSome = true) := by
    rintro ⟨n, v⟩ hy
    cases S.par n (List.of_mem_zip hy).1 with
    | inl q => exact .inl q
    | inr q => exact .inr ⟨q, PySem.W.cellsFrom_some _ _ _ (.inl q)⟩
  refine codeAny_call_function rm.depth (kin _ _ lk) rfl S.co S.gen rfl (PySem.W.codeRec_of kin hcd) (bnd _ _ _ _ ?_)
  refine wpAny_newFunctionEnv_cells S.kind kinds fun env ee s1 z => ?_
  subst ee
  refine ⟨nol.keeps z.toInCall.keep, codeAny_func ?_⟩
  obtain ⟨t, ht, hq⟩ := bd f cdv B fr s H vs Q E (rm.deeper _) gd wish
  have ht' := ht.nox
  have I : Inv (cxOf CX0 P w K mg bs N x (defScope st) f cdv B fr s H E) [] (start N vs) H s1 := inv_start S rm.hd e0 nm r z
  refine wpAny_mono (ht'.run [] s1 (start N vs) H _ I hq) (fun fl s2 hs => ?_) fun e s2 hs => hs
  cases fl with
  | ret u =>
    obtain ⟨v, σ2, H2, J, rv, q⟩ := hs
    exact ⟨v, H2, J.os, J.bare, J.base, J.hok, rv, q⟩
  | next =>
    obtain ⟨σ2, H2, J, q⟩ := hs
    exact ⟨V.non, H2, J.os, J.bare, J.base, J.hok, rfl, q⟩
  | brk =>
    obtain ⟨_, _, _, q⟩ := hs
    exact q.elim
  | cont =>
    obtain ⟨_, _, _, q⟩ := hs
    exact q.elim
end
section
variable {X : Cx} {k : Nat} {x : Str} {st : Stmt} {ps : List Str} {sp : Sp} {e : Expr} {es : List Expr} {t : TA} {p pos : Pos}
/-- f(e, ..) -/
theorem pe_fnG (O : OkG X.prog X.w X.K X.mg X.base k x st ps sp) (hr : Room k X.A) (gd : X.A.guards = some []) (ha : PA X (e :: es) t) (hg : Gl X x := by rfl)
    (hdb : (x == ("__debug__" : Str)) = false := by decide) (he : starEach (e :: es) X.env = (false, eval e X.env) :: starEach es X.env := by rfl) (hpl : (backTo pos (starEach es X.env)).any (·.1) = false := by rfl) :
    PE X (.Call (.Name x p) (e :: es) [] pos) (tCall sp [] E0 t) := by
  obtain ⟨f, fd, F, g, b, G⟩ := O.ex
  refine ⟨fun pins s σ H Q I h => ?_⟩
  refine wpAny_Call_Name_kw (ld_glob I hg g ?_ hdb)
  refine PySem.W.callWith_K (h₀ := X.base) I.ok.mod.kin F.kp (thn (ha.run pos pins s σ H _ I h) fun us s1 ⟨vs, H1, I1, r, q⟩ => ⟨I1.kIn, ?_⟩) he hpl
  have q' : sp vs H1 Q E0 := by
    have z : sp (vs ++ []) H1 Q E0 := q
    rw [List.append_nil] at z
    exact z
  have nm : us.length = ps.length := by
    rw [← r.length]
    exact G.many _ _ _ _ q'
  have bd : BindsTo s1 fd ⟨us, []⟩ (ps.zip us) := by
    have z := b s1 us I1.kIn (by rw [List.append_nil]; exact nm)
    rw [List.append_nil] at z
    exact z
  refine wpAny_call (codeAny_mono (G.go X.A X.stack s1 H1 ⟨us, []⟩ us vs Q E0 hr gd I1.env0 bd r q') fun y s2 hq => ?_)
  cases y with
  | error e => exact pass0 pins σ H1 s1 e s2 I1 hq
  | ok fl =>
    cases fl with
    | ret u => exact I1.after hq
    | next => exact hq.elim
    | brk => exact hq.elim
    | cont => exact hq.elim
theorem reprU {A : Around} (r : Room k A) : A.units + 66 < cLine := by
  have := r.un
  omega
/-- repr(x) of a list or a tuple of data -/
def rRepr (K : PySem.W.Frag) : List V → Hp → VK → Prop := fun xs H Q => ∃ (a : Addr) (d : PyData), xs = [.ref a] ∧ Dp K H (.ref a) d ∧ SeqAt.shaped d = true ∧ d.showable = true ∧ d.shown.length ≤ sizeLine ∧ Q (.str d.shown) H
theorem cr_repr (gd : X.A.guards = some []) (hu : X.A.units + 66 < cLine) : CallR X (.builtin "repr") (rRepr X.K) := by
  intro pins s σ H xs us Q I r h
  obtain ⟨a, d, rfl, hd, sd, sh, sz, q⟩ := h
  rw [Vals.ref1 r]
  obtain ⟨as, r1⟩ := Dp.reads I d (.ref a) (.ref a) hd rfl
  have lay := SeqAt.canLay_of_shaped sd
  have dp : d.depth ≤ 64 := by
    have z := sd
    unfold SeqAt.shaped at z
    rw [Bool.and_eq_true] at z
    exact of_decide_eq_true z.2
  exact repr_of_reads' r1 sh (PyData.noDict_hsm (PyData.hasDict_of_canLay _ lay)) gd (by omega) (fun _ _ e => e) (fun h' u tk hk => ⟨.str d.shown, H, I.kept hk, ⟨u, rfl⟩, q⟩) sz
end
/-! ### the law's call, where nothing is under way -/
section
theorem script_call {P : Program} {w : World} {K : PySem.W.Frag} {mg mb : Str → Option Value} {k : Nat} {fa a : Addr} {fd : FuncData} {x : Str} {sp : Sp} {s1 : Shared} {vs : List Value} {ns : List Int}
    (kin : K.In s1.heap) (hns : s1.heap.Ns mainGlobals mg) (hbn : s1.heap.Ns builtinsNs mb) (hbb : ∀ y : Str, y ≠ "__name__" → mb y = bootBuiltins y) (nol : s1.heap.NoLimit) (hgn : s1.gens = #[])
    (hla : s1.heap.get? a = some { cls := .type "list", data := .seq vs.toArray }) (hit : IntsAre vs ns) (hsz : ns.length ≤ sizeLine) (rm : Room k callerA)
    (F : ∀ bs : Heap, K.In bs → bs.Ns mainGlobals mg → FnG P w K mg bs k fa fd [x] sp) (bnd : ∀ (s : Shared) (u : Value), BindsTo s fd ⟨[u], []⟩ [(x, u)])
    (wish : ∀ H : Hp, Only H → SqL K H a (ns.map V.int) → sp [.ref a] H (fun v _ => v = .bl true) fun _ _ _ => False) :
    codeAny (model P w) callerA (.call (.ref fa) ⟨[.ref a], []⟩) (fun y s2 => y = .ok (.ret (.bool true)) ∧ OldK s1.heap s2.heap ∧ s2.os = s1.os ∧ AllBare s2.gens) s1 := by
  have rv := vals_ints hit
  have many := hit.length
  have step : ∀ H : Hp, Only H → SqL K H a (ns.map V.int) → HOk P w H s1.heap → (∀ b, H b ≠ none → b = a) → (H a ≠ none → K.lookup a = none) →
      codeAny (model P w) callerA (.call (.ref fa) ⟨[.ref a], []⟩) (fun y s2 => y = .ok (.ret (.bool true)) ∧ OldK s1.heap s2.heap ∧ s2.os = s1.os ∧ AllBare s2.gens) s1 := by
    intro H only sq hok sole apart
    have hid : ∀ {b : Addr} {o : Obj}, s1.heap.get? b = some o → H b = none → (hidT s1.heap H).get? b = some o := fun e n => hidT_get e n
    have isa : ∀ {b : Addr} {u : HO}, H b = some u → b = a := fun {b u} q => sole b (by rw [q]; exact fun z => nomatch z)
    have bare : ∀ {b : Addr} {o : Obj} {es : Array DictEntry} {ep : Nat}, s1.heap.get? b = some o → o.data = .dict es ep → H b = none := by
      intro b o es ep e d
      cases q : H b with
      | none => rfl
      | some u =>
        obtain rfl := isa q
        rw [hla] at e
        cases e
        cases (show Data.seq vs.toArray _ = Data.dict es ep from d)
    have spaces : ∀ {b : Addr} {m : Str → Option Value}, s1.heap.Ns b m → (hidT s1.heap H).Ns b m := by
      rintro b m ⟨o, es, ep, e, d, r⟩
      exact ⟨o, es, ep, hid e (bare e d), d, r⟩
    have kin0 : K.In (hidT s1.heap H) := by
      intro b o e
      refine hid (kin b o e) ?_
      cases q : H b with
      | none => rfl
      | some u =>
        obtain rfl := isa q
        rw [apart (by rw [q]; exact fun z => nomatch z)] at e
        cases e
    have md : Mod K mg (hidT s1.heap H) := by
      obtain ⟨mc, n1, n2⟩ := nol
      exact ⟨kin0, spaces hns, ⟨mb, spaces hbn, hbb⟩, ⟨mc, spaces n1, n2⟩⟩
    have at0 : Env0 P w K mg (hidT s1.heap H) callerA [] s1 H := by
      refine ⟨rfl, md, fun b o e => of_hidT e, Nat.le_of_eq (hidT_size _ _), trivial, fun b hb => ?_, hok, .of_eq hgn⟩
      exact absurd (show b ∈ ([] : List Addr) from hb) List.not_mem_nil
    refine codeAny_mono ((F _ kin0 (spaces hns)).go callerA [] s1 H ⟨[.ref a], []⟩ [.ref a] [.ref a] _ _ rm rfl at0 (bnd s1 (.ref a)) (.cons rfl .nil) (wish H only sq)) fun y s2 h => ?_
    cases y with
    | error e => exact False.elim (show False from h)
    | ok fl =>
      cases fl with
      | next => exact h.elim
      | brk => exact h.elim
      | cont => exact h.elim
      | ret u =>
        obtain ⟨v, H2, os, br, un, hok2, r2, q⟩ := h
        obtain rfl : v = .bl true := q
        obtain rfl : u = Value.bool true := r2
        refine ⟨rfl, OldK.of_keep fun b o e => ?_, os, br⟩
        cases q : H b with
        | none => exact un.keep b o e q (fun z => absurd (show b ∈ ([] : List Addr) from z) List.not_mem_nil) (by simp)
        | some u =>
          cases only b with
          | inl z =>
            rw [q] at z
            cases z
          | inr z =>
            obtain ⟨ob, xs, z⟩ := z
            have z2 := un.frzs b ob _ z
            obtain ⟨e1, _⟩ := hok b _ z
            obtain ⟨e2, _⟩ := hok2 b _ z2
            rw [e] at e1
            cases e1
            exact e2
  cases hk : K.lookup a with
  | some o =>
    have e := kin a o hk
    rw [hla] at e
    cases e
    refine step (fun _ => none) (fun _ => .inl rfl) (.inr ⟨_, vs.toArray, _, hk, rfl, rfl, rfl, by rw [List.size_toArray, many]; exact hsz, by simpa using rv⟩) ?_ (fun b z => absurd rfl z) fun z => absurd rfl z
    intro b u z
    cases (show (none : Option HO) = some u from z)
  | none =>
    refine step (fun b => if b = a then some (.frz { cls := .type "list", data := .seq vs.toArray } (.lst (ns.map V.int))) else none) ?_ (.inl (.inr ⟨{ cls := .type "list", data := .seq vs.toArray }, if_pos rfl⟩)) ?_ ?_ fun _ => hk
    · intro b
      by_cases c : b = a
      · exact .inr ⟨_, _, if_pos c⟩
      · exact .inl (if_neg c)
    · intro b u z
      by_cases c : b = a
      · cases (if_pos c).symm.trans z
        subst c
        exact ⟨hla, by rw [List.length_map]; exact hsz, vs, _, rv, hla⟩
      · cases (if_neg c).symm.trans z
    · intro b z
      by_cases c : b = a
      · exact c
      · exact absurd (if_neg c) z
theorem walk_ofG {l : PySem.W.OpenLaw} {n k : Nat} {q : Program} {loose : List Str} {XP : (Str → Option Value) → Heap → Prop} {YP : World → Heap → Prop} {d : DefRec} {K : Params → PySem.W.Frag} {sp : World → Sp} {x : Str}
    (hn : l.most = some n) (hz : n ≤ sizeLine) (hdf : d.params.defaults = []) (rm : Room k callerA) (hY : ∀ (w : World) (h : Heap), YP w h → (K w.params).In h)
    (F : ∀ (w : World) (mg : Str → Option Value) (fa : Addr) (h : Heap), (K w.params).In h → h.Ns mainGlobals mg → mg d.name = some (.ref fa) → ∃ fd : FuncData, (∀ (s : Shared) (u : Value), BindsTo s fd ⟨[u], []⟩ [(x, u)]) ∧ ∀ bs : Heap, (K w.params).In bs → bs.Ns mainGlobals mg → FnG l.prog w (K w.params) mg bs k fa fd [x] (sp w))
    (wish : ∀ (w : World) (H : Hp) (a : Addr) (ns : List Int), ns.length ≤ n → Only H → SqL (K w.params) H a (ns.map V.int) → sp w [.ref a] H (fun v _ => v = .bl true) fun _ _ _ => False) :
    PySem.W.WalkO q loose XP YP l.row.toRowW d [] (fun f vs => PySem.call f vs) := by
  refine Att.attach_call hn hdf fun w s0 s1 mg mb fa o pm cd dc a vs ns G Y ho hd hcd hmg hobj hints hlen hg => ?_
  obtain ⟨fd, bnd, hF⟩ := F w mg fa _ (hY w _ Y) G.T.g hmg
  exact script_call (hY w _ Y) G.T.g G.T.b G.T.builtins G.T.nolimit hg hobj hints (Nat.le_trans hlen hz) rm hF bnd fun H hO hS => wish w H a ns hlen hO hS
end
end Sh

/-! defs that may raise, by one fact each; own exception classes over ValueError, with one field or none -/
namespace Sh
open PySem PySem.Spec PyProof.Rows L2
/-- a def of the top that may raise keeps its promise -/
structure OkX (P : Program) (w : World) (K : PySem.W.Frag) (mg : Str → Option Value) (base : Heap) (k : Nat) (x : Str) (st : Stmt) (ps : List Str) (sp : Sp) : Prop where
  ex : ∃ (f : Addr) (fd : FuncData), Fun K x x st f fd ∧ mg x = some (.ref f) ∧ Binds K fd ps [] ∧ FnOk P w K mg base (L2.CX P w) k f fd ps sp
section
variable {P : Program} {w : World} {K : PySem.W.Frag} {mg : Str → Option Value} {base : Heap}
theorem Df.okX {x : Str} {st : Stmt} {N ps : List Str} {k : Nat} {sp : Sp} (D : Df K mg x st) (S : FnScope N ps (defScope st))
    (hb : ∀ (kV doc pm : Value) (an : Option Addr) (cdv ct : Value) (us : List Value), us.length = ps.length → bindArgs (PySem.W.fnOf x x (defArgs st) (defBody st) (defScope st) .none kV doc pm an cdv ct) ⟨us, []⟩ = pure (ps.zip us))
    (len : ∀ vs H Q E, sp vs H Q E → vs.length = ps.length)
    (hbody : ∀ (f : Addr) (cdv : Value) (A : Around) (outer : List Env) (s : Shared) (H : Hp) (vs : List V) (Q : VK) (E : XK), Room k (A.deeper (envOfC x (defScope st) s.heap.objs.size f cdv)) → sp vs H Q E →
      ∃ t, PSs (cxOf (L2.CX P w) P w K mg base N x (defScope st) f cdv A outer s H E) (defBody st) t ∧ t { nx := fun _ H' => Q .non H', rt := Q } (start N vs) H) : OkX P w K mg base (k + 1) x st ps sp := by
  obtain ⟨f, fd, F, g⟩ := D.ex
  exact ⟨f, fd, F, g, F.binds hb, F.okX S len fun cdv A outer s H vs Q E hr h => hbody f cdv A outer s H vs Q E hr h⟩
theorem OkX.mono {x : Str} {st : Stmt} {ps : List Str} {j k : Nat} {sp : Sp} (O : OkX P w K mg base j x st ps sp) (h : j ≤ k) : OkX P w K mg base k x st ps sp := by
  obtain ⟨f, fd, F, g, b, G⟩ := O.ex
  exact ⟨f, fd, F, g, b, G.mono h⟩
theorem OkX.imp {x : Str} {st : Stmt} {ps : List Str} {k : Nat} {sp sp' : Sp} (O : OkX P w K mg base k x st ps sp) (h : ∀ vs H Q E, sp' vs H Q E → sp vs H Q E) : OkX P w K mg base k x st ps sp' := by
  obtain ⟨f, fd, F, g, b, G⟩ := O.ex
  exact ⟨f, fd, F, g, b, G.imp h⟩
end
section
variable {X : Cx} {k : Nat} {x : Str} {st : Stmt} {ps : List Str} {sp : Sp} {e : Expr} {es : List Expr} {t tk : TA} {p pos : Pos} {kws : List Keyword} {ks : List Str} {W : WX}
/-- f(e, ..) where f may raise: its exception is wished for by W -/
theorem pe_fnX (O : OkX X.prog X.w X.K X.mg X.base k x st ps sp) (hr : Room k X.A) (tk : L2.Takes X W) (ha : PA X (e :: es) t) (hg : Gl X x := by rfl)
    (hdb : (x == ("__debug__" : Str)) = false := by decide) (he : starEach (e :: es) X.env = (false, eval e X.env) :: starEach es X.env := by rfl) (hpl : (backTo pos (starEach es X.env)).any (·.1) = false := by rfl) :
    PE X (.Call (.Name x p) (e :: es) [] pos) (tCallS sp (WE W) t) := by
  obtain ⟨f, fd, F, g, b, G⟩ := O.ex
  exact pe_callS G hr hg g F.kp b (fun σ => passAt tk σ) ha hdb he hpl
/-- f(e, ..) where f may raise, but not here -/
theorem pe_fnL (O : OkX X.prog X.w X.K X.mg X.base k x st ps sp) (hr : Room k X.A) (ha : PA X (e :: es) t) (hg : Gl X x := by rfl)
    (hdb : (x == ("__debug__" : Str)) = false := by decide) (he : starEach (e :: es) X.env = (false, eval e X.env) :: starEach es X.env := by rfl) (hpl : (backTo pos (starEach es X.env)).any (·.1) = false := by rfl) :
    PE X (.Call (.Name x p) (e :: es) [] pos) (tCall sp [] E0 t) := by
  obtain ⟨f, fd, F, g, b, G⟩ := O.ex
  exact pe_call G hr hg g F.kp b .nil passL ha hdb he hpl
/-- the same by keywords: the parameters are the places js of all that is handed in -/
def tCallJX (js : List Nat) (n : Nat) (sp : Sp) (E : L2.St → XK) (t tk : TA) : TE := fun σ H Q => t σ H fun vs H1 => tk σ H1 fun zs H2 => (vs.length + zs.length = n ∧ zs.length = n - vs.length) ∧ sp (pk js (vs ++ zs)) H2 Q (E σ)
theorem run_fnJX {CX : CXT} {E : XK} {pins : List (Addr × Obj)} {σ : L2.St} {H : Hp} {s : Shared} {Q : VK} {us ws : List Value} {vs zs : List V} {js : List Nat} {f : Addr} {fd : FuncData} (F : Fun X.K x x st f fd) (G : FnOk X.prog X.w X.K X.mg X.base CX k f fd ps sp) (hr : Room k X.A) (hx : PassesAt CX X σ E)
    (hb : ∀ (kV doc pm : Value) (an : Option Addr) (cdv ct : Value), bindArgs (PySem.W.fnOf x x (defArgs st) (defBody st) (defScope st) .none kV doc pm an cdv ct) ⟨us, ks.zip ws⟩ = pure (ps.zip (pk js (us ++ ws))))
    (I : Inv X pins σ H s) (r : Vals vs us) (rz : Vals zs ws) (h : sp (pk js (vs ++ zs)) H Q E) : wpAny (model X.prog X.w) X.A (call (.ref f) us (ks.zip ws)) (EP X pins σ Q) X.xe s := by
  obtain ⟨oc, od, kV, doc, pm, an, cdv, ct, osl, rfl, lk, hcd⟩ := F.ex
  refine wpAny_call (codeAny_mono (G.run X.A X.stack s H ⟨us, ks.zip ws⟩ (pk js (us ++ ws)) (pk js (vs ++ zs)) Q E hr I.env0 (.of_eq (hb kV doc pm an cdv ct)) (vals_pk (vals_app r rz) js) h) fun r s' hq => ?_)
  rcases r with e | fl
  · exact hx pins H s e s' I hq
  · cases fl <;> first | exact I.after hq | exact False.elim hq
theorem pe_fnK0X (js : List Nat) (O : OkX X.prog X.w X.K X.mg X.base k x st ps sp) (hr : Room k X.A) (tkk : L2.Takes X W)
    (hb : ∀ (kV doc pm : Value) (an : Option Addr) (cdv ct : Value) (ws : List Value), ws.length = ks.length → bindArgs (PySem.W.fnOf x x (defArgs st) (defBody st) (defScope st) .none kV doc pm an cdv ct) ⟨[], ks.zip ws⟩ = pure (ps.zip (pk js ws)))
    (hkw : PK X kws tk) (hg : Gl X x := by rfl) (hall : (backToKw pos (keywordEach kws X.env)).all (·.1.isSome) = true := by rfl) (hks : (backToKw pos (keywordEach kws X.env)).filterMap (·.1) = ks := by rfl) (hdb : (x == ("__debug__" : Str)) = false := by decide)
    (hpl : ((backTo pos (starEach [] X.env)).any (·.1) || (backToKw pos (keywordEach kws X.env)).any (·.1.isNone)) = false := by rfl) :
    PE X (.Call (.Name x p) [] kws pos) (tCallJX js ks.length sp (WE W) tNil tk) := by
  obtain ⟨f, fd, F, g, b, G⟩ := O.ex
  refine ⟨fun pins s σ H Q I h => wpAny_Call_Name_kw (ld_glob I hg g (PySem.W.callWith_KW0 (h₀ := X.base) I.ok.mod.kin F.kp hall (thn (hkw.run pos pins s σ H _ I h) fun ws s2 ⟨zs, H2, I2, rz, l2, q2⟩ => ⟨I2.kIn, ?_⟩) hpl) hdb)⟩
  rw [hks]
  exact run_fnJX (us := []) (vs := []) (js := js) F G hr (passAt tkk σ) (fun kV doc pm an cdv ct => hb kV doc pm an cdv ct ws (rz.length.symm.trans l2.2)) I2 .nil rz q2
theorem pe_fnK0L (js : List Nat) (O : OkX X.prog X.w X.K X.mg X.base k x st ps sp) (hr : Room k X.A)
    (hb : ∀ (kV doc pm : Value) (an : Option Addr) (cdv ct : Value) (ws : List Value), ws.length = ks.length → bindArgs (PySem.W.fnOf x x (defArgs st) (defBody st) (defScope st) .none kV doc pm an cdv ct) ⟨[], ks.zip ws⟩ = pure (ps.zip (pk js ws)))
    (hkw : PK X kws tk) (hg : Gl X x := by rfl) (hall : (backToKw pos (keywordEach kws X.env)).all (·.1.isSome) = true := by rfl) (hks : (backToKw pos (keywordEach kws X.env)).filterMap (·.1) = ks := by rfl) (hdb : (x == ("__debug__" : Str)) = false := by decide)
    (hpl : ((backTo pos (starEach [] X.env)).any (·.1) || (backToKw pos (keywordEach kws X.env)).any (·.1.isNone)) = false := by rfl) :
    PE X (.Call (.Name x p) [] kws pos) (tCallJX js ks.length sp (fun _ => E0) tNil tk) := by
  obtain ⟨f, fd, F, g, b, G⟩ := O.ex
  refine ⟨fun pins s σ H Q I h => wpAny_Call_Name_kw (ld_glob I hg g (PySem.W.callWith_KW0 (h₀ := X.base) I.ok.mod.kin F.kp hall (thn (hkw.run pos pins s σ H _ I h) fun ws s2 ⟨zs, H2, I2, rz, l2, q2⟩ => ⟨I2.kIn, ?_⟩) hpl) hdb)⟩
  rw [hks]
  exact run_fnJX (us := []) (vs := []) (js := js) F G hr (fun pins H s e s' I c => passL pins σ H s e s' I c) (fun kV doc pm an cdv ct => hb kV doc pm an cdv ct ws (rz.length.symm.trans l2.2)) I2 .nil rz q2
end
/-! ### an exception of one field -/
/-- what its own __init__ promises -/
def spIni (C : Addr) (f : Str) (ok : V → Prop) : Sp := fun vs H Q _ => ∃ (a : Addr) (v : V), vs = [.ref a, v] ∧ ok v ∧ H a = some (exo a C none) ∧ ∀ dx, H dx = none → dx ≠ a → Q .non (upd (upd H dx (exd dx [(f, v)])) a (exo a C (some dx)))
/-- all that is to be known of an own exception class with one field -/
structure ExcOk (P : Program) (w : World) (K : PySem.W.Frag) (mg : Str → Option Value) (base : Heap) (k : Nat) (x : Str) (C : Addr) (f : Str) (ok : V → Prop) : Prop where
  g : mg x = some (.ref C)
  T : OexC K C
  ini : ∃ (fI : Addr) (fd : FuncData) (ps : List Str), PySem.W.findIn K (.ref C) "__init__" = some (some (.ref fI)) ∧ PySem.W.typeIn K (.ref fI) = some (.type "function") ∧ FnOk P w K mg base CX0 k fI fd ps (spIni C f ok) ∧ Binds K fd ps []
section
variable {X : Cx} {W : WX} {k : Nat} {x f : Str} {C : Addr} {ok : V → Prop} {e : Expr} {ta : TA} {p pos pos2 : Pos}
theorem del_back {H : Hp} {a d : Addr} {o u z : HO} {c : HO} (na : H a = none) (nd : d ≠ a) : upd (del (upd (upd (upd H a c) d o) a u) a) d z = upd H d z := by
  funext b
  by_cases hd : b = d
  · rw [hd, upd_same, upd_same]
  · rw [upd_ne hd, upd_ne hd]
    by_cases ha : b = a
    · rw [ha, del_same, na]
    · rw [del_ne ha, upd_ne ha, upd_ne hd, upd_ne ha]
/-- a reading of arguments, closed under weaker wishes -/
def clA (ta : TA) : TA := fun σ H R => ∃ R0 : List V → Hp → Prop, ta σ H R0 ∧ ∀ vs H1, R0 vs H1 → R vs H1
theorem PA.cl {X : Cx} {es : List Expr} {ta : TA} (h : PA X es ta) : PA X es (clA ta) := ⟨fun pos pins s σ H Q I ⟨R0, a, b⟩ => wpAny_mono (h.run pos pins s σ H R0 I a) (fun us s1 ⟨vs, H1, I1, r1, q1⟩ => ⟨vs, H1, I1, r1, b _ _ q1⟩) fun _ _ z => z⟩
/-- raise X(e) -/
def tRaise1 (C : Addr) (f : Str) (ok : V → Prop) (W : WX) (ta : TA) : TS := fun _ σ H => ta σ H fun vs H1 => ∃ v, vs = [v] ∧ ok v ∧ ∀ d, H1 d = none → W (.ref C) (some d) σ (upd H1 d (.xd [(f, v)]))
theorem ps_raise1 (hc : X.calm = true) (E : ExcOk X.prog X.w X.K X.mg X.base k x C f ok) (hr : Room (k + 1) X.A) (tk : L2.Takes X W) (ha : PA X [e] ta) (hg : Gl X x := by rfl)
    (hdb : (x == ("__debug__" : Str)) = false := by decide) (he : starEach [e] X.env = (false, eval e X.env) :: starEach [] X.env := by rfl) (hpl : (backTo pos (starEach [] X.env)).any (·.1) = false := by rfl) :
    PS X (.Raise (some (.Call (.Name x p) [e] [] pos)) none pos2) (tRaise1 C f ok W ta) := by
  obtain ⟨fI, fd, ps, iC, tI, F1, b⟩ := E.ini
  have R := ps_raise (pos := pos2) hc tk (pmk_oex (p := p) (pos := pos) E.T iC tI F1 hr b .nil pass0 hg E.g (PA.cl ha) hdb he hpl)
  refine ⟨fun pins s σ H D I h => R.run pins s σ H D I ⟨_, h, fun vs H1 ⟨v, ev, hv, q⟩ => ?_⟩⟩
  subst ev
  refine ⟨(by show 1 ≤ 1000; decide), fun a na => ⟨a, v, rfl, hv, upd_same, fun dx ndx nda => ⟨rfl, dx, [(f, v)], upd_same, ?_, ?_, ?_⟩⟩⟩
  · rw [upd_ne nda, upd_same]
  · rw [upd_ne nda] at ndx
    exact ndx
  · rw [upd_ne nda] at ndx
    rw [del_back na nda]
    exact q dx ndx
end
end Sh

/-! an own exception class over ValueError whose __init__ takes nothing and stores nothing -/
namespace Sh
open PySem PySem.Spec PyProof.Rows L2
def spIni0 (C : Addr) : Sp := fun vs H Q _ => ∃ a : Addr, vs = [.ref a] ∧ H a = some (exo a C none) ∧ Q .non H
structure ExcOk0 (P : Program) (w : World) (K : PySem.W.Frag) (mg : Str → Option Value) (base : Heap) (k : Nat) (x : Str) (C : Addr) : Prop where
  g : mg x = some (.ref C)
  T : OexC K C
  ini : ∃ (fI : Addr) (fd : FuncData) (ps : List Str), PySem.W.findIn K (.ref C) "__init__" = some (some (.ref fI)) ∧ PySem.W.typeIn K (.ref fI) = some (.type "function") ∧ FnOk P w K mg base CX0 k fI fd ps (spIni0 C) ∧ Binds K fd ps []
section
variable {X : Cx} {W : WX} {k : Nat} {x : Str} {C : Addr} {p pos pos2 : Pos}
/-- the exception is let go: what was tracked stands without it -/
theorem bare_end {pins : List (Addr × Obj)} {σ : L2.St} {H1 H2 : Hp} {Q : XK} {hA hB hZ : Heap} {gA gZ : Array GenState} {dA dZ : Drawn} {tA tZ : Nat} {oA oZ : OsState} {a : Addr} (T : Raises X (.ref C)) (I1 : Inv X pins σ H1 ⟨hA, gA, dA, tA, oA⟩)
    (ha : hA.objs.size ≤ a) (kp : ∀ b o, hA.get? b = some o → hB.get? b = some o) (un : Un (frs X.stack) [] (upd H1 a (exo a C none)) H2 hB hZ) (hok : HOk X.prog X.w H2 hZ) (ho : oZ = oA) (hb : AllBare gZ)
    (ea : H2 a = some (exo a C none)) (q : Q (.ref C) none (del H2 a)) : MkP X pins σ Q (.ref a) ⟨hZ, gZ, dZ, tZ, oZ⟩ := by
  obtain ⟨t0, hoe⟩ := exo_at hok ea
  have n1 : H1 a = none := I1.hok.fresh ha
  obtain ⟨G, k1, k2⟩ := restrict hZ fun b => decide (b ≠ a)
  have gK : ∀ b, b ≠ a → G.get? b = hZ.get? b := fun b z => k1 b (decide_eq_true z)
  have gN : G.get? a = none := k2 a (by simp)
  have old : ∀ {b : Addr} {o : Obj}, hA.get? b = some o → b ≠ a := fun {b o} z => Nat.ne_of_lt (Nat.lt_of_lt_of_le (Heap.lt_size z) ha)
  have fr : ∀ {b : Addr} {o : Obj}, hA.get? b = some o → H1 b = none → upd H1 a (exo a C none) b = none := fun z n => (upd_ne (old z)).trans n
  have wide : ∀ {b : Addr} {o : HO}, H1 b = some o → upd H1 a (exo a C none) b = some o := fun z => (upd_ne (ne_of_none z n1)).trans z
  have U : Un (frs X.stack) [] H1 (del H2 a) hA G :=
    ⟨fun b o z n f1 f2 => (gK b (old z)).trans (un.keep b o (kp b o z) (fr z n) f1 f2),
     fun b o z n f1 f2 => by
      obtain ⟨sl, e⟩ := un.slot b o (kp b o z) (fr z n) f1 f2
      exact ⟨sl, (gK b (old z)).trans e⟩,
     fun b o z n f2 => (del_ne (old z)).trans (un.free b o (kp b o z) (fr z n) f2),
     fun b o z f2 => by
      obtain ⟨o', e⟩ := un.there b o (kp b o z) f2
      exact ⟨o', (gK b (old z)).trans e⟩,
     fun b ys z => (del_ne (ne_of_none z n1)).trans (un.tups b ys (wide z)),
     fun b o v z => (del_ne (ne_of_none z n1)).trans (un.frzs b o v (wide z)),
     fun b ps z => by
      obtain ⟨m, e⟩ := un.tbls b ps (wide z)
      exact ⟨m, (del_ne (ne_of_none z n1)).trans e⟩⟩
  have hok2 : HOk X.prog X.w (del H2 a) G := fun b o z => by
    have ba : b ≠ a := fun e => by
      rw [e, del_same] at z
      cases z
    rw [del_ne ba] at z
    have na : ∀ {c : Addr}, H2 c = some (.own b) → c ≠ a := fun hc => at_ne ea hc exo_own
    exact (hok b o z).stay (fun c v hc y => (gK c (hc.elim (fun e => e ▸ ba) na)).trans y) (fun c hc => (del_ne (na hc)).trans hc) (fun c ys hc => (del_ne (at_ne ea hc exo_tup)).trans hc)
  have J : Inv X pins σ (del H2 a) ⟨G, gZ, dZ, tZ, oZ⟩ := I1.call' (ch := []) ho U hok2 hb (fun b z => absurd z (by simp))
  refine ⟨a, _, _, ⟨G, gZ, dZ, tZ, oZ⟩, _, .ref C, none, rfl, J, fun b o z => ?_, gN, hoe, ⟨rfl, rfl⟩, rfl, rfl, del_same, rfl, hb, T, q⟩
  by_cases ba : b = a
  · rw [ba, gN] at z
    cases z
  · exact (gK b ba).symm.trans z
theorem del_upd {H : Hp} {a : Addr} {o : HO} (n : H a = none) : del (upd H a o) a = H := by
  funext b
  by_cases e : b = a
  · rw [e, del_same, n]
  · rw [del_ne e, upd_ne e]
theorem pmk_bare (E : ExcOk0 X.prog X.w X.K X.mg X.base k x C) (hr : Room (k + 1) X.A) (hg : Gl X x) (hdb : (x == ("__debug__" : Str)) = false := by decide) :
    PMk X (.Call (.Name x p) [] [] pos) (fun _ H Q => Q (.ref C) none H) := by
  intro pins s σ H Q I q
  obtain ⟨fI, fd, ps, iC, tI, F1, b⟩ := E.ini
  obtain ⟨nm, qn, N, bs, bm, sn, sub, ab, col, dd, k0, k1, k2, k3, k5, hC, hbm⟩ := E.T.cls
  refine wpAny_Call_Name_kw (ld_glob I hg E.g ?_ hdb)
  refine PySem.W.callWith_K0 I.kIn E.T.kC ?_
  obtain ⟨hp, gs, dr, tk, os⟩ := s
  have up1 : hp.objs.size ≤ hp.objs.size + 1 := Nat.le_succ _
  have nH : H (hp.objs.size + 1) = none := I.hok.fresh up1
  have kk : ∀ b o, hp.get? b = some o → ((hp.push (PySem.W.kdv_tup [])).push (PySem.HandSPX.excO C hp.objs.size)).get? b = some o := fun b o z => Heap.get?_push_of_some _ (Heap.get?_push_of_some _ z)
  have got : ((hp.push (PySem.W.kdv_tup [])).push (PySem.HandSPX.excO C hp.objs.size)).get? (hp.objs.size + 1) = some (PySem.HandSPX.excO C hp.objs.size) := by heap_get
  have J : Inv X pins σ (upd H (hp.objs.size + 1) (exo (hp.objs.size + 1) C none)) ⟨(hp.push (PySem.W.kdv_tup [])).push (PySem.HandSPX.excO C hp.objs.size), gs, dr, tk, os⟩ :=
    I.laid (t' := tk) (a := hp.objs.size + 1) (o := exo (hp.objs.size + 1) C none) (h' := (hp.push (PySem.W.kdv_tup [])).push (PySem.HandSPX.excO C hp.objs.size)) kk up1 (exo_ok got)
  have hsp : spIni0 C [V.ref (hp.objs.size + 1)] (upd H (hp.objs.size + 1) (exo (hp.objs.size + 1) C none)) (fun v H2 => v = .non ∧ H2 = upd H (hp.objs.size + 1) (exo (hp.objs.size + 1) C none)) (fun _ _ _ => False) := ⟨_, rfl, upd_same, rfl, rfl⟩
  have hl : ([Value.ref (hp.objs.size + 1)] ++ ([] : List Value)).length = ps.length := (F1.len _ _ _ _ hsp)
  refine wpAny_call (PySem.HandSPX.call_own F.excBase_ValueError (fun Y => PySem.HandSPX.refsVE_contains Y bm hbm) (I.kIn _ _ hC) (PySem.W.looks_findIn I.kIn iC) (fun self => PySem.W.bind_fn I.kIn self tI) (Nat.zero_le _)
    (codeAny_mono (F1.run _ X.stack _ _ ⟨[Value.ref (hp.objs.size + 1)], []⟩ [Value.ref (hp.objs.size + 1)] _ _ (fun _ _ _ => False) (hr.make C [] []) (J.env0.make C [] []) (b _ [Value.ref (hp.objs.size + 1)] J.kIn hl) (show Vals [V.ref (hp.objs.size + 1)] [Value.ref (hp.objs.size + 1)] from .cons rfl .nil) hsp) fun r s' hq => ?_))
  rcases r with er | fl
  · exact pass0 pins σ _ _ er s' J hq
  · cases fl with
    | ret u =>
      obtain ⟨v, H2, os2, bare2, un2, hok2, rv, ev, eH⟩ := hq
      subst ev
      obtain ⟨h2, g2, d2, t2, o2⟩ := s'
      subst eH
      exact ⟨rv, bare_end (raises_own E.T.exC E.T.tyC) I up1 kk un2 hok2 os2 bare2 upd_same (by rw [del_upd nH]; exact q)⟩
    | _ => exact False.elim hq
/-- raise X() -/
theorem ps_raise0 (hc : X.calm = true) (E : ExcOk0 X.prog X.w X.K X.mg X.base k x C) (hr : Room (k + 1) X.A) (tk : L2.Takes X W) (hg : Gl X x := by rfl) (hdb : (x == ("__debug__" : Str)) = false := by decide) :
    PS X (.Raise (some (.Call (.Name x p) [] [] pos)) none pos2) (fun _ σ H => W (.ref C) none σ H) := ps_raise hc tk (pmk_bare E hr hg hdb)
end
end Sh

/-! try: .. except (A, B, ..) as n: suite, the caught exception kept; isinstance of it, its field -/
namespace Sh
open PySem PySem.Spec PyProof.Rows L2
/-- a caught exception that is kept -/
def exk (a : Addr) (cls : Value) (d : Option Addr) : HO := .ext fun h => ∃ (oe : Obj) (vs : Array Value), h.get? a = some oe ∧ Zc cls d oe ∧ oe.data = .fields vs
theorem exk_ok {P : Program} {w : World} {H : Hp} {h : Heap} {a : Addr} {cls : Value} {d : Option Addr} {oe : Obj} {vs : Array Value} (e : h.get? a = some oe) (z : Zc cls d oe) (hd : oe.data = .fields vs) : ObjOk P w H h a (exk a cls d) :=
  ⟨⟨oe, vs, e, z, hd⟩, ⟨oe, e⟩, fun _ _ ⟨o, v, q, r⟩ k => ⟨o, v, k o q, r⟩⟩
section
variable {M : Model} {K : PySem.W.Frag}
/-- the answer of one class of the clause -/
def exmP (K : PySem.W.Frag) (cls c : Value) : Bool := (PySem.W.exmOne K cls c).getD false
theorem exmAny_all {cls : Value} : ∀ {cs : List Value} {b : Bool}, PySem.W.exmAny K cls cs = some b → b = cs.any (exmP K cls) ∧ ∀ c ∈ cs, PySem.W.exmOne K cls c = some (exmP K cls c)
  | [], b, h => ⟨(Option.some.inj h).symm, fun _ z => nomatch z⟩
  | c :: r, b, h => by
    obtain ⟨b1, d1, x1, y1, z1⟩ := PySem.W.exmAny_cons h
    obtain ⟨i1, i2⟩ := exmAny_all y1
    have e1 : exmP K cls c = b1 := by unfold exmP; rw [x1]; rfl
    refine ⟨by rw [z1, List.any_cons, e1, i1], fun c' m => ?_⟩
    rcases List.mem_cons.mp m with rfl | m
    · rw [e1]; exact x1
    · exact i2 c' m
theorem lk_for {h : Heap} {f : Value → PUnit → Sem (ForInStep PUnit)} : ∀ {cs : List Value}, (∀ c ∈ cs, PySem.W.Looks M h (f c ⟨⟩) (.yield ⟨⟩)) → PySem.W.Looks M h (forIn cs (⟨⟩ : PUnit) f) ⟨⟩
  | [], _ => fun A Q E s k q => by
    rw [List.forIn_nil]
    exact wpAny_pure q
  | c :: r, hf => fun A Q E s k q => by
    rw [List.forIn_cons]
    refine wpAny_bind (hf c List.mem_cons_self A _ E s k ?_)
    exact lk_for (fun c' m => hf c' (List.mem_cons_of_mem _ m)) A Q E s k q
theorem lk_forR {h : Heap} {p : Value → Bool} {f : Value → Option Bool × PUnit → Sem (ForInStep (Option Bool × PUnit))} : ∀ {cs : List Value}, (∀ c ∈ cs, PySem.W.Looks M h (f c ⟨none, ⟨⟩⟩) (if p c then .done ⟨some true, ⟨⟩⟩ else .yield ⟨none, ⟨⟩⟩)) →
    PySem.W.Looks M h (forIn cs ((none, ⟨⟩) : Option Bool × PUnit) f) (if cs.any p then ⟨some true, ⟨⟩⟩ else ⟨none, ⟨⟩⟩)
  | [], _ => fun A Q E s k q => by
    rw [List.forIn_nil]
    exact wpAny_pure q
  | c :: r, hf => fun A Q E s k q => by
    rw [List.forIn_cons]
    refine wpAny_bind (hf c List.mem_cons_self A _ E s k ?_)
    rw [List.any_cons] at q
    cases hp : p c with
    | true =>
      rw [hp] at q
      rw [if_pos rfl]
      exact wpAny_pure q
    | false =>
      rw [hp, Bool.false_or] at q
      rw [if_neg Bool.false_ne_true]
      exact lk_forR (fun c' m => hf c' (List.mem_cons_of_mem _ m)) A Q E s k q
theorem exm_tupN {cs : List Value} {cls : Value} {tp e : Addr} {b : Bool} {h : Heap} (X : K.In h) (LT : PySem.W.Looks M h (typeOf (.ref e)) cls) (hp : h.get? tp = some { cls := .type "tuple", data := .seq cs.toArray }) (hx : PySem.W.exmAny K cls cs = some b) :
    PySem.W.Looks M h (excMatches (.ref e) (.ref tp)) b := by
  obtain ⟨eb, hall⟩ := exmAny_all hx
  intro A Q E s k q
  have LT0 : PySem.W.Looks M h (isInstance (.ref tp) (.type "tuple")) true := ((PySem.W.Looks.ld hp).andThen .now).andThen (PySem.W.Looks.of_pure isSubtype_tuple_tuple)
  unfold excMatches
  refine wpAny_bind ((LT0.keeps k).here ?_)
  rw [if_pos rfl]
  have hp' := k _ _ hp
  first
    | refine wpAny_bind (wpAny_seqItems hp' rfl ?_)
    | refine wpAny_bind (wpAny_bind (wpAny_seqItems hp' rfl (wpAny_pure ?_)))
  show wpAny M A (forIn cs _ _ >>= _) Q E s
  refine wpAny_bind (lk_for (h := h) (fun c m => ?_) A _ E s k ?_)
  · intro A' Q' E' s' k' q'
    obtain ⟨e1, _⟩ := PySem.W.exm_cls (M := M) X (hall c m)
    refine wpAny_bind ((e1.keeps k').here ?_)
    rw [if_neg (by decide)]
    exact wpAny_pure q'
  refine wpAny_bind ((LT.keeps k).here ?_)
  refine wpAny_bind (lk_forR (h := h) (p := exmP K cls) (fun c m => ?_) A _ E s k ?_)
  · intro A' Q' E' s' k' q'
    obtain ⟨_, S1⟩ := PySem.W.exm_cls (M := M) X (hall c m)
    refine wpAny_bind ((S1.keeps k').here ?_)
    cases hp : exmP K cls c with
    | true =>
      rw [hp] at q'
      rw [if_pos rfl] at q' ⊢
      exact wpAny_pure q'
    | false =>
      rw [hp] at q'
      rw [if_neg Bool.false_ne_true] at q' ⊢
      exact wpAny_pure q'
  have hb : ((some cs.toArray).getD #[]).toList.any (exmP K cls) = b := by rw [eb]; simp
  rw [hb]
  cases b <;> exact wpAny_pure q
end
/-- what stands in an except clause: one class, or a tuple of them -/
inductive ClsE (X : Cx) : Expr → List Value → Prop
  | one {x : Str} {c : Value} {p : Pos} (h : Names X x c) : ClsE X (.Name x p) [c]
  | tup {es : List Expr} {cs : List Value} {kk : Nat} {p : Pos} (h : Paired (fun e c => ∃ x np, e = Expr.Name x np ∧ Names X x c) es cs) (hl : es.length ≤ sizeLine) : ClsE X (.Tuple es kk p) cs
section
variable {X : Cx} {pins : List (Addr × Obj)} {σ : L2.St} {H : Hp} {s : Shared} {a : Addr} {oe : Obj} {cls : Value} {d : Option Addr} {vs : Array Value}
/-- the clause's test -/
theorem clsE_ok {E : Value → Shared → Prop} {Q : Bool → Shared → Prop} {t : Expr} {cs : List Value} {b : Bool} {pn : List (Addr × Obj)} (I : Inv (X.suite a pn) pins σ H s) (ct : ClsE X t cs) (LT : PySem.W.Looks (model X.prog X.w) s.heap (typeOf (.ref a)) cls) (hb : PySem.W.exmAny X.K cls cs = some b)
    (q : ∀ h', (∀ c o, s.heap.get? c = some o → h'.get? c = some o) → Q b { s with heap := h' }) : wpAny (model X.prog X.w) (X.A.mark (some (.ref a))) (eval t X.env) (fun c s₁ => wpAny (model X.prog X.w) (X.A.mark (some (.ref a))) (excMatches (.ref a) c) Q E s₁) E s := by
  have test : ∀ {x : Str} {c : Value} {np : Pos} {Q' : Value → Shared → Prop}, Names X x c → Q' c s → wpAny (model X.prog X.w) (X.A.mark (some (.ref a))) (eval (.Name x np) X.env) Q' E s := fun {x c np Q'} hc q' => by
    obtain ⟨hg, hdbg, hm | ⟨hm, hv, hnn⟩⟩ := hc
    · exact ld_glob (X := X.suite a pn) I hg hm q' hdbg
    · exact ld_blt (X := X.suite a pn) I hg hm hv q' hnn hdbg
  cases ct with
  | one h =>
    refine test h ?_
    obtain ⟨b1, d1, x1, y1, z1⟩ := PySem.W.exmAny_cons hb
    cases y1
    rw [Bool.or_false] at z1
    subst z1
    exact (PySem.W.exm_one (M := model X.prog X.w) I.kIn LT x1).here (q s.heap fun _ _ z => z)
  | @tup es cs kk p h hl =>
    refine wpAny_Tuple ?_
    have go : ∀ {es : List Expr} {cs : List Value}, Paired (fun e c => ∃ x np, e = Expr.Name x np ∧ Names X x c) es cs → ∀ {Q' : List Value → Shared → Prop}, Q' cs s → wpAny (model X.prog X.w) (X.A.mark (some (.ref a))) (spliced (backTo p (starEach es X.env))) Q' E s := by
      intro es cs hk
      induction hk with
      | nil => intro Q' q'; exact wpAny_items_nil q'
      | cons r t ih =>
        intro Q' q'
        obtain ⟨x, np, rfl, hn⟩ := r
        exact wpAny_items_cons (test hn (ih q'))
    refine go h ⟨by rw [← Paired.length h]; exact hl, ?_⟩
    have kp : ∀ q o, s.heap.get? q = some o → (s.heap.push { cls := .type "tuple", data := .seq cs.toArray }).get? q = some o := fun _ _ z => Heap.get?_push_of_some _ z
    exact (exm_tupN (I.kIn.keeps kp) (LT.keeps kp) (Heap.get?_push_size s.heap rfl) hb).here (q _ kp)
/-- a caught exception is tracked -/
theorem held_at (I : Inv X pins σ H s) (n0 : X.s_0.heap.get? a = none) (np : ∀ p ∈ X.pn ++ pins, p.1 ≠ a) (e : s.heap.get? a = some oe) (hz : Zc cls d oe) (hd : oe.data = .fields vs) (na : H a = none) (nL : a ≠ X.env.locals) : Inv X pins σ (upd H a (exk a cls d)) s := by
  have ne0 : ∀ {b : Addr} {o : Obj}, X.s_0.heap.get? b = some o → b ≠ a := fun z q => by
    rw [q, n0] at z
    cases z
  refine ⟨I.ok, I.os, I.bare, ⟨I.base.keep, I.base.slot, fun b o z n hx => ?_, I.base.there, fun b xs z => ?_, fun b o u z => ?_, fun b ps z => ?_⟩, I.loc, I.cell, ?_, fun x c z => ?_, fun p hp => ?_, HOk.laidN I.hok (fun _ _ z => z) na (exk_ok e hz hd), I.len⟩
  · rw [upd_ne (ne0 z)]
    exact I.base.free b o z n hx
  · have q := I.base.tups b xs z
    rw [upd_ne (ne_of_none q na)]
    exact q
  · have q := I.base.frzs b o u z
    rw [upd_ne (ne_of_none q na)]
    exact q
  · obtain ⟨m, q⟩ := I.base.tbls b ps z
    exact ⟨m, by rw [upd_ne (ne_of_none q na)]; exact q⟩
  · rw [upd_ne (Ne.symm nL)]
    exact I.free
  · obtain ⟨v, o, ho, hdc⟩ := I.cell x c z
    have : c ≠ a := fun q => by
      rw [q, e] at ho
      cases ho
      rw [hd] at hdc
      cases hdc
    rw [upd_ne this]
    exact I.freeC x c z
  · obtain ⟨p1, p2, p3⟩ := I.pin p hp
    exact ⟨p1, by rw [upd_ne (np p hp)]; exact p2, p3⟩
end
/-- the ends of a suite behind which the caught exception is kept -/
def endsK (i : Nat) (a : Addr) (cls : Value) (d : Option Addr) (D : Ends) : Ends := { nx := fun σ' H' => D.nx (σ'.set i none) (upd H' a (exk a cls d)), rt := fun v H' => D.rt v (upd H' a (exk a cls d)), bk := fun σ' H' => D.bk (σ'.set i none) (upd H' a (exk a cls d)), ct := fun σ' H' => D.ct (σ'.set i none) (upd H' a (exk a cls d)) }
/-- what 'except .. as n' wishes of an exception of the body: slot i is n's, the exception is kept -/
def wKeep (K : PySem.W.Frag) (cs : List Value) (i : Nat) (ts : Addr → Value → Option Addr → TS) (Wout : WX) (D : Ends) : WX := fun cls d σ H =>
  ∃ b, PySem.W.exmAny K cls cs = some b ∧ (b = true → ∀ a, H a = none → ts a cls d (endsK i a cls d D) (σ.set i (some (.ref a))) H) ∧ (b = false → Wout cls d σ H)
section
variable {X : Cx} {n : Str} {cs : List Value} {i : Nat} {body suite : List Stmt} {b₀ : Stmt} {t : Expr} {pos pos' : Pos} {tb : WX → TS} {ts : Addr → Value → Option Addr → TS} {Wout : WX}
theorem ps_try_keep (hs : X.stack = X.env :: X.outer) (hf : X.env.frame = some X.env.locals) (hex : X.ex = []) (hN : X.N.Nodup) (hi : X.N[i]? = some n) (hln : X.env.kindOf n = some .local) (hc : ClsE X t cs) (tk : L2.Takes X Wout)
    (hb : ∀ (W : WX) (pn : List (Addr × Obj)) (xe : Value → Shared → Prop), L2.Takes (X.tr pn xe) W → PassesOwn (model X.prog X.w) X.A X.env xe → PSs (X.tr pn xe) body (tb W))
    (hsu : ∀ (a : Addr) (oe : Obj) (cls : Value) (d : Option Addr) (pn : List (Addr × Obj)), Zc cls d oe → (∃ vs, oe.data = .fields vs) → PSs (X.suite a ((a, oe) :: pn)) (b₀ :: suite) (ts a cls d)) :
    PS X (.Try body [.ExceptHandler (some t) (some n) (b₀ :: suite) pos'] [] [] pos) (fun D σ H => tb (wKeep X.K cs i ts Wout D) D σ H) := by
  refine ⟨fun pins s σ H D I h => ?_⟩
  have ok := I.ok
  have hfr : X.A.frames = some (X.env :: X.outer) := by rw [ok.frames, hs]
  have hloc : Loc X.env.scope n := .inl hln
  refine wpAny_Try_except ?_
  refine wpAny_mono ((hb (wKeep X.K cs i ts Wout D) (X.pn ++ pins) (fun e s₁ => wpAny (model X.prog X.w) X.A (noteFrame e X.env) (fun _ s₂ => wpAny (model X.prog X.w) X.A (setFlight e none) (fun _ s₃ =>
    wpAny (model X.prog X.w) X.A (handleBy e X.env [.ExceptHandler (some t) (some n) (b₀ :: suite) pos']) (SP X pins D) X.xe s₃) X.xe s₂) X.xe s₁) (fun u s' xx => ?_) PassesOwn.looking).run [] s σ H D (I.toTry _) h) (fun f s1 hsp => ?_) (fun e s1 he => he)
  · -- the catch
    obtain ⟨a, B, sI, pins', σ', H', cls, d, rfl, J', nb, up, sky, na, os, ag, b, hb1, hyes, hno⟩ := xx
    have J : Inv X pins σ' H' sI := J'.ofTry ok
    have sky' : Sky B (X.env :: X.outer) a (Zc cls d) X.env.locals s'.heap := by rw [← hs]; exact sky
    show wpAny (model X.prog X.w) X.A (noteFrame (.ref a) X.env) _ _ _
    refine Sky.land Zc.steady hfr hf sky' fun h3 fl3 up3 => ?_
    have J3 : Inv X pins σ' H' { s' with heap := h3 } := J.landed nb fl3.1 (up.trans up3) os ag
    obtain ⟨oe3, vs3, he3, hz3, hd3⟩ := fl3.there
    have notFr : ∀ {h : Heap} {o : Obj} {vs : Array Value}, h.FunFrames B (X.env :: X.outer) → h.get? a = some o → o.data = .fields vs → a ∉ frs (X.env :: X.outer) := fun {h o vs} ff e dd hm => by
      obtain ⟨_, o', e', hnf⟩ := ff.mem hm
      rw [e] at e'; cases e'
      exact hnf _ dd
    have nfr := notFr fl3.2.2.1 he3 hd3
    have nL : a ≠ X.env.locals := fun z => nfr (List.mem_filterMap.mpr ⟨X.env, List.mem_cons_self, by rw [hf, z]⟩)
    have nF : a ∉ X.fs := fun hm => by
      obtain ⟨e, he, q⟩ := List.mem_filterMap.mp hm
      exact nfr (List.mem_filterMap.mpr ⟨e, List.mem_cons_of_mem _ he, q⟩)
    have nI : sI.heap.get? a = none := by
      cases e : sI.heap.get? a with
      | none => rfl
      | some o =>
        have z := nb a o e (by rw [hs]; exact nfr)
        rw [fl3.2.1] at z
        cases z
    have n0 : X.s_0.heap.get? a = none := by
      cases e : X.s_0.heap.get? a with
      | none => rfl
      | some o =>
        obtain ⟨o', z⟩ := J.base.there a o e (by rw [hex]; exact fun z => nomatch z)
        rw [nI] at z
        cases z
    have np : ∀ p ∈ X.pn ++ pins, p.1 ≠ a := fun p hp z => by
      have q := (J.pin p hp).1
      rw [z, nI] at q
      cases q
    have S3 := J3.suite he3 hd3 na nL nF
    refine wpAny_handleBy_cons (codeAny_handlers_test ?_) (by intro q; cases q)
    have LT : PySem.W.Looks (model X.prog X.w) h3 (typeOf (.ref a)) cls := fun A Q E s k q => wpAny_typeOf_ref (k _ _ he3) (by rw [hz3.1]; exact q)
    refine clsE_ok (s := { s' with heap := h3 }) S3 hc LT hb1 fun h5 kp5 => ?_
    have fl5 : HandSPX.FlyingZ B (X.env :: X.outer) a (Zc cls d) h5 := by
      obtain ⟨k1, k2, k3, oe, ws, T, oT, ts', he, hz, hd, h1, hnT, hTe, hT, hdT, h3'⟩ := fl3
      exact ⟨fun b o e => kp5 b o (k1 b o e), k2, Heap.FunFrames.of_keeps (fun b o e _ => ⟨o, kp5 b o e, rfl⟩) k3, oe, ws, T, oT, ts', kp5 _ _ he, hz, hd, h1, hnT, hTe, kp5 _ _ hT, hdT, h3'⟩
    have up5 : h3.UpToSlots h5 := Heap.UpToSlots.of_keeps kp5
    cases b with
    | true =>
      refine codeAny_handlers_suite_as ?_
      refine HandSPX.lands_againZ fl5 fun h4 fl4 up4 => ?_
      have J4 : Inv X pins σ' H' { s' with heap := h4 } := J.landed nb fl4.1 (((up.trans up3).trans up5).trans up4) os ag
      obtain ⟨oe4, vs4, he4, hz4, hd4⟩ := fl4.there
      have S4 := J4.suite he4 hd4 na nL nF
      refine store_ok (X := X.suite a ((a, oe4) :: (X.pn ++ pins))) (v := .ref a) S4 hN hi hloc rfl (fun s5 S5 => ?_) (.inr hln)
      refine wpAny_mono ((hsu a oe4 cls d (X.pn ++ pins) hz4 ⟨_, hd4⟩).run [] s5 _ H' _ S5 (hyes rfl a na)) (fun f s6 hsp => ?_) (fun _ _ z => False.elim z)
      have end_ : ∀ {σ6 : L2.St} {H6 : Hp} {Q : Shared → Prop}, Inv (X.suite a ((a, oe4) :: (X.pn ++ pins))) [] σ6 H6 s6 → (∀ s7, Inv X pins (σ6.set i none) (upd H6 a (exk a cls d)) s7 → Q s7) →
          wpAny (model X.prog X.w) X.A (do bindName X.env n .none; unbindBehindTheSuite X.env n pos') (fun _ s7 => Q s7) X.xe s6 := fun {σ6 H6 Q} S6 hq => gone_ok (X := X.suite a ((a, oe4) :: (X.pn ++ pins))) S6 hN hi hln fun s7 S7 => hq s7 (by
        obtain ⟨g1, g2, _⟩ := S7.pin (a, oe4) (List.mem_append_left _ List.mem_cons_self)
        exact held_at (S7.unsuite ok) n0 np g1 hz4 hd4 g2 nL)
      cases f with
      | next =>
        obtain ⟨σ6, H6, S6, q6⟩ := hsp
        exact end_ S6 fun s7 J7 => ⟨_, _, J7, q6⟩
      | brk =>
        obtain ⟨σ6, H6, S6, q6⟩ := hsp
        exact end_ S6 fun s7 J7 => ⟨_, _, J7, q6⟩
      | cont =>
        obtain ⟨σ6, H6, S6, q6⟩ := hsp
        exact end_ S6 fun s7 J7 => ⟨_, _, J7, q6⟩
      | ret u =>
        obtain ⟨v6, σ6, H6, S6, r6, q6⟩ := hsp
        exact end_ S6 fun s7 J7 => ⟨_, _, _, J7, r6, q6⟩
    | false =>
      show wpAny _ X.A (handleBy (.ref a) X.env []) _ _ _
      refine wpAny_handleBy_nil ?_
      obtain ⟨k1, k2, k3, oe, vs, T, oT, ts', he, hz, hd, h1, hr⟩ := id fl5
      unfold PySem.passOn
      refine wpAny_bind (wpAny_field he hd h1 ?_)
      rw [if_neg (show ¬ ((Value.ref T == Value.none) = true) from by simp)]
      have fin : wpAny (model X.prog X.w) X.A (setFlight (.ref a) X.env.frame) (fun _ s4 => wpAny (model X.prog X.w) X.A (throw (.ref a) : Sem Flow) (SP X pins D) X.xe s4) X.xe { s' with heap := h5 } := by
        rw [hf]
        refine HandSPX.setFlight_upZ fl5 fun h4 hh4 up4 => wpAny_throw (tk _ _ ?_)
        exact ⟨a, B, sI, pins, σ', H', cls, d, rfl, J, nb, ((up.trans up3).trans up5).trans up4, .inr (.inr (by rw [hs]; exact hh4)), na, os, ag, hno rfl⟩
      first
        | exact wpAny_bind (wpAny_pure (wpAny_bind fin))
        | exact wpAny_bind fin
  · cases f with
    | next =>
      obtain ⟨σ', H', J', q⟩ := hsp
      exact wpAny_execs_nil ⟨σ', H', J'.ofTry ok, q⟩
    | brk =>
      obtain ⟨σ', H', J', q⟩ := hsp
      exact ⟨σ', H', J'.ofTry ok, q⟩
    | cont =>
      obtain ⟨σ', H', J', q⟩ := hsp
      exact ⟨σ', H', J'.ofTry ok, q⟩
    | ret u =>
      obtain ⟨v, σ', H', J', r, q⟩ := hsp
      exact ⟨v, σ', H', J'.ofTry ok, r, q⟩
end
/-- a holds a kept exception of the class at C, with the fields fs -/
def ExAt (H : Hp) (a C : Addr) (fs : Option (List (Str × V))) : Prop := ∃ d, H a = some (exk a (.ref C) d) ∧ match fs with
  | none => d = none
  | some fs => ∃ dd, d = some dd ∧ H dd = some (.xd fs)
theorem ExAt.inst {X : Cx} {pins : List (Addr × Obj)} {σ : L2.St} {H : Hp} {s : Shared} {a C : Addr} {fs : Option (List (Str × V))} (I : Inv X pins σ H s) (x : ExAt H a C fs) : ∃ oe od, PySem.W.InstAt s.heap a oe C od := by
  obtain ⟨d, ha, hd⟩ := x
  obtain ⟨⟨oe, vs, ho, hz, hv⟩, _, _⟩ := I.hok a _ ha
  cases fs with
  | none =>
    subst hd
    exact ⟨oe, none, ho, hz.1, by unfold PySem.W.notCls; rw [hv] <;> rfl, by rw [hz.2]; trivial⟩
  | some fs =>
    obtain ⟨dd, rfl, hdd⟩ := hd
    have hx : ObjOk X.prog X.w H s.heap dd (.xd fs) := I.hok dd _ hdd
    obtain ⟨mA, hns, hr⟩ := hx
    obtain ⟨od, ho', hl⟩ := lookIn_ns hns
    exact ⟨oe, some od, ho, hz.1, by unfold PySem.W.notCls; rw [hv] <;> rfl, by rw [hz.2]; exact ho'⟩
theorem ExAt.same {H H' : Hp} {a C : Addr} {fs : Option (List (Str × V))} (x : ExAt H a C fs) (e : Same H H') : ExAt H' a C fs := by
  obtain ⟨d, ha, hd⟩ := x
  refine ⟨d, e _ _ ha, ?_⟩
  cases fs with
  | none => exact hd
  | some fs =>
    obtain ⟨dd, h1, h2⟩ := hd
    exact ⟨dd, h1, e _ _ h2⟩
/-- isinstance(v, C) of a kept exception -/
def rIsX (K : PySem.W.Frag) : List V → Hp → VK → Prop := fun xs H Q => ∃ (a D : Addr) (fs : Option (List (Str × V))) (c : V) (u : Value) (b : Bool), xs = [.ref a, c] ∧ ExAt H a D fs ∧ ExcC K D ∧ ClsV c u ∧ PySem.W.kitOne K (.ref D) u = some b ∧ Q (.bl b) H
/-- isinstance(v, (A, B, ..)) of a kept exception -/
def rIsXT (K : PySem.W.Frag) : List V → Hp → VK → Prop := fun xs H Q => ∃ (a D tp : Addr) (fs : Option (List (Str × V))) (cs : List V) (us : List Value) (b : Bool), xs = [.ref a, .ref tp] ∧ H tp = some (.tup cs) ∧ Paired ClsV cs us ∧ ExAt H a D fs ∧ ExcC K D ∧ PySem.W.kitAny K (.ref D) us = some b ∧ Q (.bl b) H
section
variable {X : Cx}
theorem call_isX : CallR X (.builtin "isinstance") (rIsX X.K) := by
  intro pins s σ H xs us Q I r h
  obtain ⟨a, D, fs, c, u, b, rfl, ea, C, k, e, q⟩ := h
  obtain ⟨u1, u2, rfl, r1, r2⟩ := vals2 r
  have e2 := k.eq r2
  subst e2
  cases (show u1 = Value.ref a from r1)
  obtain ⟨oe, od, J⟩ := ea.inst I
  obtain ⟨cd, hc, _⟩ := PySem.W.any_some C.hd
  exact PySem.W.kia_one (PySem.W.kitx_exc (by rw [hc]; rfl) C.hg C.hk C.hs C.ha C.hn C.ht C.hm) I.kIn J e (fun z => nomatch z) fun tk => ⟨.bl b, H, I.tok tk, rfl, q⟩
theorem call_isXT : CallR X (.builtin "isinstance") (rIsXT X.K) := by
  intro pins s σ H xs us Q I r h
  obtain ⟨a, D, tp, fs, cs, ws, b, rfl, hT, k, ea, C, e, q⟩ := h
  obtain ⟨u1, u2, rfl, r1, r2⟩ := vals2 r
  cases (show u2 = Value.ref tp from r2)
  cases (show u1 = Value.ref a from r1)
  obtain ⟨oe, od, J⟩ := ea.inst I
  obtain ⟨cd, hc, _⟩ := PySem.W.any_some C.hd
  obtain ⟨_, its, rv, o, h1, h2, n, h3⟩ := (show ObjOk X.prog X.w H s.heap tp (.tup cs) from I.hok tp _ hT)
  have e3 := ClsV.all k rv
  subst e3
  obtain ⟨oc, od', dt, sl⟩ := o
  simp only at h2 h3
  subst h2 h3
  exact PySem.W.kia_tup (PySem.W.kitx_exc (by rw [hc]; rfl) C.hg C.hk C.hs C.ha C.hn C.ht C.hm) I.kIn J h1 e (fun z => nomatch z) fun tk => ⟨.bl b, H, I.tok tk, rfl, q⟩
/-- v.f of a kept exception -/
def tXk (K : PySem.W.Frag) (f : Str) (te : TE) : TE := fun σ H Q => te σ H fun x H1 => ∃ (a C : Addr) (fs : List (Str × V)) (v : V), x = .ref a ∧ ExAt H1 a C (some fs) ∧ ExcC K C ∧ PySem.W.findIn K (.ref C) f = some none ∧ fs.lookup f = some v ∧ Q v H1
theorem pe_xk {e : Expr} {te : TE} {pos : Pos} {f : Str} (he : PE X e te) (hb : attributeBase e f X.env (eval e X.env) = eval e X.env := by rfl) : PE X (.Attribute e f pos) (tXk X.K f te) := by
  refine ⟨fun pins s σ H Q I h => ?_⟩
  refine attr_of hb (thn (he.run pins s σ H _ I h) fun u s1 hh => ?_)
  obtain ⟨x, H1, I1, rx, a, C, fs, v, ex, ⟨d, ha, dd, ed, hdd⟩, T, hno, l, q⟩ := hh
  subst ex
  obtain rfl : u = Value.ref a := rx
  subst ed
  obtain ⟨⟨oe, vs, ho, hz, hv⟩, _, _⟩ := I1.hok a _ ha
  have hx : ObjOk X.prog X.w H1 s1.heap dd (.xd fs) := I1.hok dd _ hdd
  obtain ⟨mA, hns, hr⟩ := hx
  obtain ⟨od, ho', hl⟩ := lookIn_ns hns
  obtain ⟨u, hu, ru⟩ := RelO.some_of (v := v) (o := mA f) (by rw [← l]; exact hr f)
  have J : PySem.W.InstAt s1.heap a oe C (some od) := ⟨ho, hz.1, by unfold PySem.W.notCls; rw [hv] <;> rfl, by rw [hz.2]; exact ho'⟩
  exact HandSPX.exc_get I1.kIn J T.hg T.hk T.hs (PySem.W.findObj_own T.hd hno rfl (by rw [hl, hu])) (handed_of ru) ⟨v, H1, I1.tok _, ru, q⟩
end
end Sh

/-! own exception classes straight under another built-in class, with one field -/
namespace Sh
open PySem PySem.Spec PyProof.Rows L2
open Builtin Builtin.ObjectAttr in
/-- what is known of a built-in class under which an own one stands -/
structure EB (B nw ini : String) (tl : List Value) : Prop where
  F : ExcBaseFacts B nw ini tl
  pass : ∀ z : Value, refuseLoop z "__setattr__" tl = pure ()
  ty : typeOf (.type B) = pure (.type "type")
  ob : tl.contains (.type "object") = true
abbrev tlLE : List Value := [.type "LookupError", .type "Exception", .type "BaseException", .type "object"]
abbrev tlOE : List Value := [.type "OverflowError", .type "ArithmeticError", .type "Exception", .type "BaseException", .type "object"]
theorem eb_LE : EB "LookupError" "LookupError.__new__" "LookupError.__init__" tlLE := ⟨F.excBase_LookupError, fun z => F.store_LookupError.passes z, by kernel_rfl, by decide +kernel⟩
theorem eb_OE : EB "OverflowError" "OverflowError.__new__" "OverflowError.__init__" tlOE := ⟨F.excBase_OverflowError, fun z => F.store_OverflowError.passes z, by kernel_rfl, by decide +kernel⟩
/-- what the written part says of the own class -/
structure OexB (K : PySem.W.Frag) (nw : String) (tl : List Value) (C : Addr) : Prop where
  cls : ∃ nm q N bs sn sub ab col dd k0 k1 k2 k3 k5, K.lookup C = some (excClassObj nm q C N bs tl true sn sub ab col dd k0 k1 k2 k3 k5 nw)
  sa : PySem.W.findIn K (.ref C) "__setattr__" = some (some (.builtin "object.__setattr__"))
  exC : PySem.W.subIn K (.ref C) (.type "BaseException") = some true
  tyC : PySem.W.typeIn K (.ref C) = some (.type "type")
  kC : PySem.W.keepIn K (.ref C) = true
section
open Builtin Builtin.ObjectAttr PySem.HandSPX
variable {pg : Program} {w : World} {A : Around} {E : Value → Shared → Prop} {R : Result → Shared → Prop} {h0 : Heap} {gs : Array GenState} {dr : Drawn} {tn : Nat} {os : OsState}
theorem osaB {K : PySem.W.Frag} {nm : Str} {tk : Tok} {v : Value} {x C : Addr} {fv : Array Value} {cd : ClassData} {tl : List Value}
    (X : K.In h0) (hx : h0.get? x = some { cls := .ref C, data := .fields fv }) (hcd : PySem.W.clsIn K C = some cd) (hm : cd.mro = .ref C :: tl) (hp : ∀ z : Value, refuseLoop z "__setattr__" tl = pure ()) (ho : tl.contains (.type "object") = true) (hh : cd.hasDict = true)
    (ha : PySem.W.findIn K (.ref C) nm = some none)
    (hq : ∀ h1 tk1 dx, (∀ b o, b ≠ x → h0.get? b = some o → h1.get? b = some o) → h0.objs.size ≤ dx → dx ≠ x → h1.get? x = some { cls := .ref C, dict := some dx, data := .fields fv } →
      h1.Ns1 dx (fun y => if y = nm then some v else none) → R (.ok (.ret .none)) ⟨h1, gs, dr, tk1, os⟩) :
    codeAny (model pg w) A (.call (.builtin "object.__setattr__") ⟨[.ref x, .str nm tk, v], []⟩) R ⟨h0, gs, dr, tn, os⟩ := by
  have I : PySem.W.InstAt h0 x { cls := .ref C, data := .fields fv } C none := ⟨hx, rfl, rfl, trivial⟩
  have S1 := F.store_object
  have hpass : ∀ z : Value, refuseLoop z "__setattr__" cd.mro = pure () := fun z => by
    rw [hm, refuseLoop_ref]
    exact hp z
  have hem : cd.mro.isEmpty = false := by rw [hm]; rfl
  have hob : cd.mro.contains (.type "object") = true := by rw [hm, List.contains_cons, ho, Bool.or_true]
  have hxs : x ≠ h0.objs.size := Nat.ne_of_lt (Heap.lt_size hx)
  have sub : PySem.W.Looks (model pg w) h0 (isInstance (.ref x) (.type "object")) true := I.type.andThen (PySem.W.looks_mroIn X (by unfold PySem.W.mroIn; rw [hcd, Option.bind_some, if_neg (by rw [hem]; decide), hob]))
  refine codeAny_call_builtin S1.slot.plain S1.entry (@PySem.W.check_slot (model pg w) _ _ ⟨h0, gs, dr, tn, os⟩ "object.__setattr__" "object" "__setattr__" (.ref x) [.str nm tk, v] [] _ S1.kind S1.split sub (S1.args (.ref x) (.str nm tk) v) ?_)
  have Lm : PySem.W.Looks (model pg w) h0 (mroOf (.ref C)) cd.mro := (PySem.W.looks_clsIn X hcd).andThen .now
  have Ls : PySem.W.Looks (model pg w) h0 (storeTaker? none) none := .now
  have Lc : PySem.W.Looks (model pg w) h0 (classData C) cd := PySem.W.looks_clsIn X hcd
  rw [PySem.W.osa_eq, refuse_eq]
  refine wpAny_bind (wpAny_bind (I.type.at (wpAny_bind (Lm.at ?_))))
  rw [hpass]
  refine wpAny_pure (wpAny_bind (I.type.at (wpAny_bind ((PySem.W.looks_findIn X ha).at (wpAny_bind (Ls.at ?_))))))
  show wpAny _ _ (storeInOwnDict (.ref x) (.ref C) (.str nm tk) nm v false) _ _ _
  obtain ⟨nm', bs, mro, ns, qn, hd, sn, sb, ab, col, del⟩ := cd
  dsimp only at hh
  subst hh
  unfold storeInOwnDict ownDictForStores
  repeat (first | with_reducible refine store_in_new ?_ ?_ | with_reducible refine wpAny_loadPart_at hx ?_ | with_reducible refine Lc.at ?_ | wp_step)
  · exact ⟨_, #[], _, (Heap.get?_update_ne _ _ _ _ hxs.symm).trans (Heap.get?_push_at rfl rfl), rfl, fun e he => absurd he (by simp), fun _ => rfl⟩
  · intro h1 tk1 hn1 hs1
    have hx1 : (h0.push { cls := .type "dict", data := .dict #[] }).get? x = some { cls := .ref C, data := .fields fv } := Heap.get?_push_of_some _ hx
    refine hq h1 tk1 h0.objs.size (fun b o hb hbo => ?_) (Nat.le_refl _) hxs.symm ?_ hn1
    · exact (hs1.2 b (Nat.ne_of_lt (Heap.lt_size hbo))).trans ((Heap.get?_update_ne _ _ _ _ hb).trans (Heap.get?_push_of_some _ hbo))
    · exact (hs1.2 x hxs).trans (Heap.get?_update_self _ hx1 rfl)
end
section
variable {X : Cx} {pins : List (Addr × Obj)} {σ : L2.St} {H : Hp} {s : Shared} {a C dx : Addr} {f : Str} {y : V} {u : Value} {Q : Unit → Shared → Prop} {E : Value → Shared → Prop} {A : Around} {B nw ini : String} {tl : List Value}
/-- self.f = y, the first one -/
theorem ostB (T : OexB X.K nw tl C) (W : EB B nw ini tl) (I : Inv X pins σ H s) (e : H a = some (exo a C none)) (hno : PySem.W.findIn X.K (.ref C) f = some none) (ry : RelV y u)
    (h : ∀ dx s1, H dx = none → dx ≠ a → Inv X pins σ (upd (upd H dx (exd dx [(f, y)])) a (exo a C (some dx))) s1 → Q () s1) : wpAny (model X.prog X.w) A (setAttr (.ref a) f u) Q E s := by
  obtain ⟨nm, q, N, bs, sn, sub, ab, col, dd, k0, k1, k2, k3, k5, hC⟩ := T.cls
  have hcl : PySem.W.clsIn X.K C = some { name := nm, bases := bs, mro := .ref C :: tl, ns := N, qualname := q, hasDict := true, slotNames := sn, subclasses := sub, abstract := ab, collection := col, hasDel := false } := by unfold PySem.W.clsIn; rw [hC] <;> rfl
  obtain ⟨t1, at1⟩ := exo_at I.hok e
  obtain ⟨h0, gs, dr, tn, os⟩ := s
  refine PySem.W.set_plain I.kIn (ox := { cls := .ref C, dict := none, data := .fields #[.ref t1, .none, .none, .none, .bool false, .none] }) (od := none) ⟨at1, rfl, rfl, trivial⟩ T.sa ?_
  refine osaB I.kIn at1 hcl rfl W.pass W.ob rfl hno (fun h1 tk1 dx k dn dne hx hn => ?_)
  have fr : H dx = none := I.hok.fresh dn
  have nd : ∀ {b : Addr} {o : Obj}, h0.get? b = some o → b ≠ dx := fun {b o} z => Nat.ne_of_lt (Nat.lt_of_lt_of_le (Heap.lt_size z) dn)
  have na : ∀ {b : Addr}, H b = none → b ≠ a := fun {b} n z => by
    rw [z, e] at n
    cases n
  have U1 : Un X.fs [] H (upd (upd H dx (exd dx [(f, y)])) a (exo a C (some dx))) h0 h1 := {
    keep := fun b o z n _ _ => k b o (na n) z
    slot := fun b o z n _ _ => ⟨o.slots, k b o (na n) z⟩
    free := fun b o z n _ => by rw [upd_ne (na n), upd_ne (nd z)]; exact n
    there := fun b o z _ => by
      by_cases ba : b = a
      · exact ⟨_, by rw [ba]; exact hx⟩
      · exact ⟨o, k b o ba z⟩
    tups := fun b xs z => by rw [upd_ne (at_ne e z exo_tup), upd_ne (ne_of_none z fr)]; exact z
    frzs := fun b o v z => by rw [upd_ne (at_ne e z exo_frz), upd_ne (ne_of_none z fr)]; exact z
    tbls := fun b ps z => ⟨#[], by rw [upd_ne (at_ne e z exo_tbl), upd_ne (ne_of_none z fr), z]; simp⟩ }
  refine h dx _ fr dne (I.un (t' := tk1) U1 fun b o z => ?_)
  by_cases ba : b = a
  · subst ba
    rw [upd_same] at z
    cases z
    exact exo_ok hx
  · rw [upd_ne ba] at z
    by_cases bd : b = dx
    · subst bd
      rw [upd_same] at z
      cases z
      exact exd_ok hn (relO_put (fs := []) ry fun g => True.intro)
    · rw [upd_ne bd] at z
      exact (I.hok b o z).stay (fun c v hc r => k c v (by
          rcases hc with hc | hc
          · rw [hc]
            exact ba
          · exact at_ne e hc exo_own) r)
        (fun c hc => by rw [upd_ne (at_ne e hc exo_own), upd_ne (ne_of_none hc fr)]; exact hc) (fun c xs hc => by rw [upd_ne (at_ne e hc exo_tup), upd_ne (ne_of_none hc fr)]; exact hc)
/-- B.__init__(self, ..): nothing of it is told -/
theorem oinitB {us : List Value} {Q : Value → Shared → Prop} (T : OexB X.K nw tl C) (W : EB B nw ini tl) (I : Inv X pins σ H s) (e : H a = some (exo a C none)) (hl : us.length ≤ sizeLine) (h : ∀ s1, Inv X pins σ H s1 → Q .none s1) :
    wpAny (model X.prog X.w) A (call (.builtin ini) (.ref a :: us)) Q E s := by
  obtain ⟨nm, q, N, bs, sn, sub, ab, col, dd, k0, k1, k2, k3, k5, hC⟩ := T.cls
  obtain ⟨t1, at1⟩ := exo_at I.hok e
  obtain ⟨h0, gs, dr, tn, os⟩ := s
  refine wpAny_call (PySem.HandSPX.init_base W.F (fun _ => rfl) (I.kIn _ _ hC) at1 hl fun h1 t2 k hx => ?_)
  have J := I.write (t' := tn) (x := a) (e := a) (o := exo a C none) (by rw [e]; exact True.intro) (.inl rfl) k ⟨_, hx⟩ (exo_ok hx)
  have eu : upd H a (exo a C none) = H := by
    funext b
    by_cases ba : b = a
    · rw [ba, upd_same, e]
    · rw [upd_ne ba]
  rw [eu] at J
  exact h _ J
end
/-- B.__init__(self, ..) -/
def tBI (K : PySem.W.Frag) (nw : String) (tl : List Value) (ta : TA) : TE := fun σ H Q => ta σ H fun vs H1 => ∃ (a C : Addr) (ws : List V), vs = .ref a :: ws ∧ ws.length ≤ 1000 ∧ OexB K nw tl C ∧ H1 a = some (exo a C none) ∧ Q .non H1
/-- self.f = e, the first one -/
def tOB (K : PySem.W.Frag) (nw : String) (tl : List Value) (f : Str) (to te : TE) : TS := fun D σ H => te σ H fun y H1 => to σ H1 fun x H2 => ∃ a C : Addr, x = .ref a ∧ OexB K nw tl C ∧ PySem.W.findIn K (.ref C) f = some none ∧
  H2 a = some (exo a C none) ∧ ∀ dx, H2 dx = none → dx ≠ a → D.nx σ (upd (upd H2 dx (exd dx [(f, y)])) a (exo a C (some dx)))
/-- all that is to be known of such a class -/
structure ExcOkB (P : Program) (w : World) (K : PySem.W.Frag) (mg : Str → Option Value) (base : Heap) (k : Nat) (x : Str) (C : Addr) (f : Str) (ok : V → Prop) (nw : String) (tl : List Value) : Prop where
  g : mg x = some (.ref C)
  T : OexB K nw tl C
  ini : ∃ (fI : Addr) (fd : FuncData) (ps : List Str), PySem.W.findIn K (.ref C) "__init__" = some (some (.ref fI)) ∧ PySem.W.typeIn K (.ref fI) = some (.type "function") ∧ FnOk P w K mg base CX0 k fI fd ps (spIni C f ok) ∧ Binds K fd ps []
section
variable {X : Cx} {o e : Expr} {es : List Expr} {to te : TE} {ta : TA} {f x : Str} {p pp p1 p2 pos pos2 : Pos} {B nw ini : String} {tl : List Value} {W : WX} {k : Nat} {C : Addr} {ok : V → Prop}
theorem pe_binit {b : Str} {pl : Sem Bool} (Wb : EB B nw ini tl) (hg : Gl X b) (hm : X.mg b = none) (hbt : bootBuiltins b = some (.type B)) (hdb : (b == ("__debug__" : Str)) = false) (hnn : b ≠ "__name__") (vV : PySem.W.findCls X.K (.type B) (.type "type") "__init__" = some (.val (.builtin ini))) (ha : PA X (e :: es) ta)
    (hc : eval (.Call (.Attribute (.Name b p1) "__init__" p2) (e :: es) [] pos) X.env = (do
      let oz ← eval (.Name b p1) X.env
      standAt p2.atName
      let (fz, fst) ← holding [oz] (getMethod oz "__init__" pl)
      callWith pos fz fst (backTo pos (starEach (e :: es) X.env)) (backToKw pos (keywordEach [] X.env))) := by rfl)
    (he : starEach (e :: es) X.env = (false, eval e X.env) :: starEach es X.env := by rfl) (hpl : (backTo pos (starEach es X.env)).any (·.1) = false := by rfl)
    (hst : Manifest.isStub B = false := by decide +kernel) (hh : PySem.W.handedIn (.builtin ini) = true := by decide +kernel) :
    PE X (.Call (.Attribute (.Name b p1) "__init__" p2) (e :: es) [] pos) (tBI X.K nw tl ta) := by
  refine ⟨fun pins s σ H Q I h => ?_⟩
  refine PySem.W.methodCall_KW (ld_blt I hg hm hbt ?_ hnn hdb) hc
  obtain ⟨m, fr⟩ := I.fr
  refine PySem.W.method_type fr I.ok.mod.kin Wb.ty hst vV hh ?_
  show wpAny _ _ (callWith pos (Value.builtin ini) [] (backTo pos (starEach (e :: es) X.env)) []) _ _ _
  refine PyProof.Rows.callWith_method1 (thn (ha.run pos pins _ σ H _ (I.tok _) h) fun us s1 hz => ?_) he hpl
  obtain ⟨vs, H1, I1, r1, a, C, ws, ev, hl, T, ea, q⟩ := hz
  subst ev
  cases r1 with
  | @cons _ u0 _ ur ra rw' =>
    obtain rfl : u0 = Value.ref a := ra
    have lz : ur.length ≤ sizeLine := by
      rw [← Paired.length rw', sizeLine_eq]
      omega
    exact oinitB T Wb I1 ea lz fun s1 J => ⟨.non, H1, J, rfl, q⟩
theorem ps_ostB (Wb : EB B nw ini tl) (ho : PE X o to) (he : PE X e te) (hs : swapsWith e (some (.Attribute o f pp)) pos.line X.env = pure false := by rfl) : PS X (.Assign [.Attribute o f pp] e pos) (tOB X.K nw tl f to te) := by
  refine ⟨fun pins s σ H D I h => ?_⟩
  refine plainObj_wpAny_Assign_Attribute (thn (he.run pins s σ H _ I h) fun v s1 hz => ?_) hs
  obtain ⟨y, H1, I1, r1, q1⟩ := hz
  refine thn (ho.run pins s1 σ H1 _ I1 q1) fun u s2 hy => ?_
  obtain ⟨z, H2, I2, r2, a, C, ez, T, hno, ea, q⟩ := hy
  subst ez
  obtain rfl : u = Value.ref a := r2
  exact ostB T Wb I2 ea hno r1 fun dx s3 n ne J => ⟨σ, _, J, q dx n ne⟩
/-- C(e, ..) in a raise -/
theorem pmkB (Wb : EB B nw ini tl) (Ok1 : ExcOkB X.prog X.w X.K X.mg X.base k x C f ok nw tl) (hr : Room (k + 1) X.A) (hg : Gl X x) (ha : PA X (e :: es) ta)
    (hdb : (x == ("__debug__" : Str)) = false := by decide) (he : starEach (e :: es) X.env = (false, eval e X.env) :: starEach es X.env := by rfl) (hpl : (backTo pos (starEach es X.env)).any (·.1) = false := by rfl) :
    PMk X (.Call (.Name x p) (e :: es) [] pos) (tMkO C (spIni C f ok) [] ta) := by
  intro pins s σ H Q I h
  obtain ⟨fI, fd, ps, iC, tI, F1, hb⟩ := Ok1.ini
  have T := Ok1.T
  obtain ⟨nm, q, N, bs, sn, sub, ab, col, dd, k0, k1, k2, k3, k5, hC⟩ := T.cls
  refine wpAny_Call_Name_kw (ld_glob I hg Ok1.g ?_ hdb)
  refine PySem.W.callWith_K (h₀ := X.base) I.ok.mod.kin T.kC (thn (ha.run pos pins s σ H _ I h) fun us s1 hz => ?_) he hpl
  obtain ⟨vs, H1, I1, r1, hlen, q1⟩ := hz
  refine ⟨I1.kIn, ?_⟩
  show wpAny _ _ (call (.ref C) us) _ _ _
  obtain ⟨h0, gs, dr, tk, os⟩ := s1
  have up1 : h0.objs.size ≤ h0.objs.size + 1 := Nat.le_succ _
  have fr1 : H1 (h0.objs.size + 1) = none := I1.hok.fresh up1
  have hq := q1 (h0.objs.size + 1) fr1
  rw [List.append_nil] at hq
  have kk : ∀ b o, h0.get? b = some o → ((h0.push (PySem.W.kdv_tup us)).push (PySem.HandSPX.excO C h0.objs.size)).get? b = some o := fun b o z => Heap.get?_push_of_some _ (Heap.get?_push_of_some _ z)
  have got : ((h0.push (PySem.W.kdv_tup us)).push (PySem.HandSPX.excO C h0.objs.size)).get? (h0.objs.size + 1) = some (PySem.HandSPX.excO C h0.objs.size) := by heap_get
  have J : Inv X pins σ (upd H1 (h0.objs.size + 1) (exo (h0.objs.size + 1) C none)) ⟨(h0.push (PySem.W.kdv_tup us)).push (PySem.HandSPX.excO C h0.objs.size), gs, dr, tk, os⟩ :=
    I1.laid (t' := tk) (a := h0.objs.size + 1) (o := exo (h0.objs.size + 1) C none) (h' := (h0.push (PySem.W.kdv_tup us)).push (PySem.HandSPX.excO C h0.objs.size)) kk up1 (exo_ok got)
  have r2 : Vals (V.ref (h0.objs.size + 1) :: vs) (Value.ref (h0.objs.size + 1) :: us) := .cons rfl r1
  have hl : (Value.ref (h0.objs.size + 1) :: us).length = ps.length := by
    have z := r2.length
    rw [F1.len _ _ _ _ hq] at z
    exact z.symm
  have hus : us.length ≤ sizeLine := by
    rw [← Paired.length r1, sizeLine_eq]
    omega
  refine wpAny_call (PySem.HandSPX.call_own Wb.F (fun _ => rfl) (I1.kIn _ _ hC) (PySem.W.looks_findIn I1.kIn iC) (fun self => PySem.W.bind_fn I1.kIn self tI) hus
    (codeAny_mono (F1.run _ X.stack _ _ ⟨Value.ref (h0.objs.size + 1) :: us, []⟩ (Value.ref (h0.objs.size + 1) :: us) _ _ (fun _ _ _ => False) (hr.make C us []) (J.env0.make C us []) (by
      have z := hb _ (Value.ref (h0.objs.size + 1) :: us) J.kIn (by rw [List.append_nil]; exact hl)
      rw [List.append_nil] at z
      exact z) r2 hq) fun r s' hz => ?_))
  cases r with
  | error er => exact pass0 pins σ _ _ er s' J hz
  | ok fl =>
    cases fl with
    | ret u =>
      obtain ⟨v, H2, os2, bare2, un2, hok2, rv, ev, d, fs, ea, ed, hd1, q2⟩ := hz
      subst ev
      obtain ⟨h2, g2, d2, t2, o2⟩ := s'
      exact ⟨rv, mk_end (raises_own T.exC T.tyC) I1 up1 kk un2 hok2 os2 bare2 ea ed hd1 q2⟩
    | _ => exact False.elim hz
/-- raise C(e) -/
theorem ps_raiseB (Wb : EB B nw ini tl) (hc : X.calm = true) (O1 : ExcOkB X.prog X.w X.K X.mg X.base k x C f ok nw tl) (hr : Room (k + 1) X.A) (tk : L2.Takes X W) (ha : PA X [e] ta) (hg : Gl X x := by rfl)
    (hdb : (x == ("__debug__" : Str)) = false := by decide) (he : starEach [e] X.env = (false, eval e X.env) :: starEach [] X.env := by rfl) (hpl : (backTo pos (starEach [] X.env)).any (·.1) = false := by rfl) :
    PS X (.Raise (some (.Call (.Name x p) [e] [] pos)) none pos2) (tRaise1 C f ok W ta) := by
  have R := ps_raise (pos := pos2) hc tk (pmkB (p := p) (pos := pos) Wb O1 hr hg (PA.cl ha) hdb he hpl)
  refine ⟨fun pins s σ H D I h => R.run pins s σ H D I ⟨_, h, fun vs H1 ⟨v, ev, hv, q⟩ => ?_⟩⟩
  subst ev
  refine ⟨(by show 1 ≤ 1000; decide), fun a na => ⟨a, v, rfl, hv, upd_same, fun dx ndx nda => ⟨rfl, dx, [(f, v)], upd_same, ?_, ?_, ?_⟩⟩⟩
  · rw [upd_ne nda, upd_same]
  · rw [upd_ne nda] at ndx
    exact ndx
  · rw [upd_ne nda] at ndx
    rw [del_back na nda]
    exact q dx ndx
end
end Sh

/-! methods by one fact each, some of them raising; len(x), repr(x) by own methods; try: .. finally: of a statement, of a statement and a return -/
namespace Sh
open PySem PySem.Spec PyProof.Rows L2
/-- a method of the class at C: where it stands -/
structure Md (K : PySem.W.Frag) (C : Addr) (m q : Str) (st : Stmt) : Prop where
  ex : ∃ (f : Addr) (fd : FuncData), Meth K C m f ∧ Fun K m q st f fd
/-- it keeps its promise -/
structure MOk (P : Program) (w : World) (K : PySem.W.Frag) (mg : Str → Option Value) (base : Heap) (k : Nat) (C : Addr) (m q : Str) (st : Stmt) (ps : List Str) (sp : Sp) : Prop where
  ex : ∃ (f : Addr) (fd : FuncData), Meth K C m f ∧ Fun K m q st f fd ∧ Binds K fd ps [] ∧ FnOk P w K mg base CX0 k f fd ps sp
/-- .. and may raise -/
structure MOkX (P : Program) (w : World) (K : PySem.W.Frag) (mg : Str → Option Value) (base : Heap) (k : Nat) (C : Addr) (m q : Str) (st : Stmt) (ps : List Str) (sp : Sp) : Prop where
  ex : ∃ (f : Addr) (fd : FuncData), Meth K C m f ∧ Fun K m q st f fd ∧ Binds K fd ps [] ∧ FnOk P w K mg base (L2.CX P w) k f fd ps sp
section
variable {P : Program} {w : World} {K : PySem.W.Frag} {mg : Str → Option Value} {base : Heap} {C : Addr} {m q : Str} {st : Stmt} {N ps : List Str} {k j : Nat} {sp : Sp}
theorem Md.ok (D : Md K C m q st) (S : FnScope N ps (defScope st))
    (hb : ∀ (kV doc pm : Value) (an : Option Addr) (cdv ct : Value) (us : List Value), us.length = ps.length → bindArgs (PySem.W.fnOf m q (defArgs st) (defBody st) (defScope st) .none kV doc pm an cdv ct) ⟨us, []⟩ = pure (ps.zip us))
    (len : ∀ vs H Q E, sp vs H Q E → vs.length = ps.length)
    (hbody : ∀ (f : Addr) (cdv : Value) (A : Around) (outer : List Env) (s : Shared) (H : Hp) (vs : List V) (Q : VK) (E : XK), Room k (A.deeper (envOfC q (defScope st) s.heap.objs.size f cdv)) → sp vs H Q E →
      ∃ t, PSs (cxOf CX0 P w K mg base N q (defScope st) f cdv A outer s H E).nox (defBody st) t ∧ t { nx := fun _ H' => Q .non H', rt := Q } (start N vs) H) : MOk P w K mg base (k + 1) C m q st ps sp := by
  obtain ⟨f, fd, M, F⟩ := D.ex
  exact ⟨f, fd, M, F, F.binds hb, F.ok S len fun cdv A outer s H vs Q E hr h => hbody f cdv A outer s H vs Q E hr h⟩
theorem Md.okX (D : Md K C m q st) (S : FnScope N ps (defScope st))
    (hb : ∀ (kV doc pm : Value) (an : Option Addr) (cdv ct : Value) (us : List Value), us.length = ps.length → bindArgs (PySem.W.fnOf m q (defArgs st) (defBody st) (defScope st) .none kV doc pm an cdv ct) ⟨us, []⟩ = pure (ps.zip us))
    (len : ∀ vs H Q E, sp vs H Q E → vs.length = ps.length)
    (hbody : ∀ (f : Addr) (cdv : Value) (A : Around) (outer : List Env) (s : Shared) (H : Hp) (vs : List V) (Q : VK) (E : XK), Room k (A.deeper (envOfC q (defScope st) s.heap.objs.size f cdv)) → sp vs H Q E →
      ∃ t, PSs (cxOf (L2.CX P w) P w K mg base N q (defScope st) f cdv A outer s H E) (defBody st) t ∧ t { nx := fun _ H' => Q .non H', rt := Q } (start N vs) H) : MOkX P w K mg base (k + 1) C m q st ps sp := by
  obtain ⟨f, fd, M, F⟩ := D.ex
  exact ⟨f, fd, M, F, F.binds hb, F.okX S len fun cdv A outer s H vs Q E hr h => hbody f cdv A outer s H vs Q E hr h⟩
theorem MOk.mono (O : MOk P w K mg base j C m q st ps sp) (h : j ≤ k) : MOk P w K mg base k C m q st ps sp := by
  obtain ⟨f, fd, M, F, b, G⟩ := O.ex
  exact ⟨f, fd, M, F, b, G.mono h⟩
theorem MOkX.mono (O : MOkX P w K mg base j C m q st ps sp) (h : j ≤ k) : MOkX P w K mg base k C m q st ps sp := by
  obtain ⟨f, fd, M, F, b, G⟩ := O.ex
  exact ⟨f, fd, M, F, b, G.mono h⟩
theorem MOk.imp {sp' : Sp} (O : MOk P w K mg base k C m q st ps sp) (h : ∀ vs H Q E, sp' vs H Q E → sp vs H Q E) : MOk P w K mg base k C m q st ps sp' := by
  obtain ⟨f, fd, M, F, b, G⟩ := O.ex
  exact ⟨f, fd, M, F, b, G.imp h⟩
theorem MOkX.imp {sp' : Sp} (O : MOkX P w K mg base k C m q st ps sp) (h : ∀ vs H Q E, sp' vs H Q E → sp vs H Q E) : MOkX P w K mg base k C m q st ps sp' := by
  obtain ⟨f, fd, M, F, b, G⟩ := O.ex
  exact ⟨f, fd, M, F, b, G.imp h⟩
end
section
variable {X : Cx} {C : Addr} {m q : Str} {st : Stmt} {ps ks : List Str} {k : Nat} {sp : Sp} {o e : Expr} {es : List Expr} {kws : List Keyword} {ta : TE} {t tk : TA} {apos pos : Pos} {W : WX}
/-- o.m(e, ..) -/
theorem pe_m {pl : Sem Bool} (O : MOk X.prog X.w X.K X.mg X.base k C m q st ps sp) (c : Cls X.K C) (hr : Room k X.A) (he : PE X o ta) (ha : PA X (e :: es) t)
    (hst : starEach (e :: es) X.env = (false, eval e X.env) :: starEach es X.env := by rfl) (hpl : (backTo pos (starEach es X.env)).any (·.1) = false := by rfl)
    (ht : eval (.Call (.Attribute o m apos) (e :: es) [] pos) X.env = (do
      let ov ← eval o X.env
      standAt apos.atName
      let (f, first) ← holding [ov] (getMethod ov m pl)
      callWith pos f first (backTo pos (starEach (e :: es) X.env)) (backToKw pos (keywordEach [] X.env))) := by rfl) :
    PE X (.Call (.Attribute o m apos) (e :: es) [] pos) (tMeth C m sp [] E0 ta t) := by
  obtain ⟨f, fd, M, F, b, G⟩ := O.ex
  exact pe_meth he c M G hr b .nil pass0 ha hst hpl ht
/-- o.m() -/
theorem pe_m0 {pl : Sem Bool} (O : MOk X.prog X.w X.K X.mg X.base k C m q st ps sp) (c : Cls X.K C) (hr : Room k X.A) (he : PE X o ta)
    (ht : eval (.Call (.Attribute o m apos) [] [] pos) X.env = (do
      let ov ← eval o X.env
      standAt apos.atName
      let (f, first) ← holding [ov] (getMethod ov m pl)
      callWith pos f first (backTo pos (starEach [] X.env)) (backToKw pos (keywordEach [] X.env))) := by rfl) :
    PE X (.Call (.Attribute o m apos) [] [] pos) (tMeth C m sp [] E0 ta tNil) := by
  obtain ⟨f, fd, M, F, b, G⟩ := O.ex
  exact pe_meth0 he c M G hr b .nil pass0 ht
/-- o.m(e, ..) that may raise: its exception is wished for by E -/
def tMethX (C : Addr) (m : Str) (sp : Sp) (E : L2.St → XK) (ta : TE) (t : TA) : TE := fun σ H Q => ta σ H fun x H1 => ∃ (a dx : Addr) (fs : List (Str × V)), x = .ref a ∧ H1 a = some (.ins C dx fs) ∧ fs.lookup m = none ∧ t σ H1 fun vs H2 => sp (x :: vs) H2 Q (E σ)
theorem pe_mX {pl : Sem Bool} (O : MOkX X.prog X.w X.K X.mg X.base k C m q st ps sp) (c : Cls X.K C) (hr : Room k X.A) (tkk : L2.Takes X W) (he : PE X o ta) (ha : PA X (e :: es) t)
    (hst : starEach (e :: es) X.env = (false, eval e X.env) :: starEach es X.env := by rfl) (hpl : (backTo pos (starEach es X.env)).any (·.1) = false := by rfl)
    (ht : eval (.Call (.Attribute o m apos) (e :: es) [] pos) X.env = (do
      let ov ← eval o X.env
      standAt apos.atName
      let (f, first) ← holding [ov] (getMethod ov m pl)
      callWith pos f first (backTo pos (starEach (e :: es) X.env)) (backToKw pos (keywordEach [] X.env))) := by rfl) :
    PE X (.Call (.Attribute o m apos) (e :: es) [] pos) (tMethX C m sp (WE W) ta t) := by
  obtain ⟨f, fd, M, F, b, G⟩ := O.ex
  refine ⟨fun pins s σ H Q I h => ?_⟩
  refine PySem.W.methodCall_KW (pl := pl) (thn (he.run pins s σ H _ I h) fun u s1 ⟨x, H1, I1, rx, a, dx, fs, ex, ea, l, q⟩ => ?_) ht
  subst ex
  obtain rfl : u = Value.ref a := rx
  refine getmeth_ok I1 ea c M l ?_
  refine PySem.W.callWith_K (first := [.ref a]) (h₀ := X.base) I.ok.mod.kin M.kp (thn (ha.run pos pins s1 σ H1 _ I1 q) fun us s2 ⟨vs, H2, I2, r, q2⟩ => ⟨I2.kIn, ?_⟩) hst hpl
  exact run_fnS (E := WE W) (us := .ref a :: us) (vs := .ref a :: vs) G hr b (passAt tkk σ) I2 (.cons rfl r) q2
/-- .. where it does not raise -/
theorem pe_mL {pl : Sem Bool} (O : MOkX X.prog X.w X.K X.mg X.base k C m q st ps sp) (c : Cls X.K C) (hr : Room k X.A) (he : PE X o ta) (ha : PA X (e :: es) t)
    (hst : starEach (e :: es) X.env = (false, eval e X.env) :: starEach es X.env := by rfl) (hpl : (backTo pos (starEach es X.env)).any (·.1) = false := by rfl)
    (ht : eval (.Call (.Attribute o m apos) (e :: es) [] pos) X.env = (do
      let ov ← eval o X.env
      standAt apos.atName
      let (f, first) ← holding [ov] (getMethod ov m pl)
      callWith pos f first (backTo pos (starEach (e :: es) X.env)) (backToKw pos (keywordEach [] X.env))) := by rfl) :
    PE X (.Call (.Attribute o m apos) (e :: es) [] pos) (tMeth C m sp [] E0 ta t) := by
  obtain ⟨f, fd, M, F, b, G⟩ := O.ex
  exact pe_meth he c M G hr b .nil passL ha hst hpl ht
/-- o.m(k = v, ..): the parameters are the places js of the object and all that is handed in -/
def tMethJ (C : Addr) (m : Str) (js : List Nat) (n : Nat) (sp : Sp) (E : L2.St → XK) (ta : TE) (tk : TA) : TE := fun σ H Q => ta σ H fun x H1 => ∃ (a dx : Addr) (fs : List (Str × V)), x = .ref a ∧ H1 a = some (.ins C dx fs) ∧ fs.lookup m = none ∧ tk σ H1 fun zs H2 => zs.length = n ∧ sp (pk js (x :: zs)) H2 Q (E σ)
theorem run_mJ {CX : CXT} {E : XK} {pins : List (Addr × Obj)} {σ : L2.St} {H : Hp} {s : Shared} {Q : VK} {us ws : List Value} {vs zs : List V} {js : List Nat} {f : Addr} {fd : FuncData} (F : Fun X.K m q st f fd) (G : FnOk X.prog X.w X.K X.mg X.base CX k f fd ps sp) (hr : Room k X.A) (hx : PassesAt CX X σ (fun c d H => E c d H))
    (hb : ∀ (kV doc pm : Value) (an : Option Addr) (cdv ct : Value), bindArgs (PySem.W.fnOf m q (defArgs st) (defBody st) (defScope st) .none kV doc pm an cdv ct) ⟨us, ks.zip ws⟩ = pure (ps.zip (pk js (us ++ ws))))
    (I : Inv X pins σ H s) (r : Vals vs us) (rz : Vals zs ws) (h : sp (pk js (vs ++ zs)) H Q E) : wpAny (model X.prog X.w) X.A (call (.ref f) us (ks.zip ws)) (EP X pins σ Q) X.xe s := by
  obtain ⟨oc, od, kV, doc, pm, an, cdv, ct, osl, rfl, lk, hcd⟩ := F.ex
  refine wpAny_call (codeAny_mono (G.run X.A X.stack s H ⟨us, ks.zip ws⟩ (pk js (us ++ ws)) (pk js (vs ++ zs)) Q E hr I.env0 (.of_eq (hb kV doc pm an cdv ct)) (vals_pk (vals_app r rz) js) h) fun r s' hq => ?_)
  rcases r with e | fl
  · exact hx pins H s e s' I hq
  · cases fl <;> first | exact I.after hq | exact False.elim hq
theorem pe_mJ_of {CX : CXT} {E : L2.St → XK} {pl : Sem Bool} {f : Addr} {fd : FuncData} (js : List Nat) (M : Meth X.K C m f) (F : Fun X.K m q st f fd) (G : FnOk X.prog X.w X.K X.mg X.base CX k f fd ps sp) (hx : ∀ σ, PassesAt CX X σ (E σ)) (c : Cls X.K C) (hr : Room k X.A)
    (hb : ∀ (kV doc pm : Value) (an : Option Addr) (cdv ct : Value) (self : Value) (ws : List Value), ws.length = ks.length → bindArgs (PySem.W.fnOf m q (defArgs st) (defBody st) (defScope st) .none kV doc pm an cdv ct) ⟨[self], ks.zip ws⟩ = pure (ps.zip (pk js (self :: ws))))
    (he : PE X o ta) (hkw : PK X kws tk) (hall : (backToKw pos (keywordEach kws X.env)).all (·.1.isSome) = true) (hks : (backToKw pos (keywordEach kws X.env)).filterMap (·.1) = ks)
    (hpl : ((backTo pos (starEach [] X.env)).any (·.1) || (backToKw pos (keywordEach kws X.env)).any (·.1.isNone)) = false)
    (ht : eval (.Call (.Attribute o m apos) [] kws pos) X.env = (do
      let ov ← eval o X.env
      standAt apos.atName
      let (f, first) ← holding [ov] (getMethod ov m pl)
      callWith pos f first (backTo pos (starEach [] X.env)) (backToKw pos (keywordEach kws X.env)))) :
    PE X (.Call (.Attribute o m apos) [] kws pos) (tMethJ C m js ks.length sp E ta tk) := by
  refine ⟨fun pins s σ H Q I h => ?_⟩
  refine PySem.W.methodCall_KW (pl := pl) (thn (he.run pins s σ H _ I h) fun u s1 ⟨x, H1, I1, rx, a, dx, fs, ex, ea, l, q⟩ => ?_) ht
  subst ex
  obtain rfl : u = Value.ref a := rx
  refine getmeth_ok I1 ea c M l ?_
  refine PySem.W.callWith_KW0 (first := [.ref a]) (h₀ := X.base) I.ok.mod.kin M.kp hall (thn (hkw.run pos pins s1 σ H1 _ I1 q) fun ws s2 ⟨zs, H2, I2, rz, l2, q2⟩ => ⟨I2.kIn, ?_⟩) hpl
  rw [hks]
  exact run_mJ (us := [.ref a]) (vs := [.ref a]) (js := js) F G hr (hx σ) (fun kV doc pm an cdv ct => hb kV doc pm an cdv ct (.ref a) ws (rz.length.symm.trans l2)) I2 (.cons rfl .nil) rz q2
theorem pe_mK {pl : Sem Bool} (js : List Nat) (O : MOk X.prog X.w X.K X.mg X.base k C m q st ps sp) (c : Cls X.K C) (hr : Room k X.A)
    (hb : ∀ (kV doc pm : Value) (an : Option Addr) (cdv ct : Value) (self : Value) (ws : List Value), ws.length = ks.length → bindArgs (PySem.W.fnOf m q (defArgs st) (defBody st) (defScope st) .none kV doc pm an cdv ct) ⟨[self], ks.zip ws⟩ = pure (ps.zip (pk js (self :: ws))))
    (he : PE X o ta) (hkw : PK X kws tk) (hall : (backToKw pos (keywordEach kws X.env)).all (·.1.isSome) = true := by rfl) (hks : (backToKw pos (keywordEach kws X.env)).filterMap (·.1) = ks := by rfl)
    (hpl : ((backTo pos (starEach [] X.env)).any (·.1) || (backToKw pos (keywordEach kws X.env)).any (·.1.isNone)) = false := by rfl)
    (ht : eval (.Call (.Attribute o m apos) [] kws pos) X.env = (do
      let ov ← eval o X.env
      standAt apos.atName
      let (f, first) ← holding [ov] (getMethod ov m pl)
      callWith pos f first (backTo pos (starEach [] X.env)) (backToKw pos (keywordEach kws X.env))) := by rfl) :
    PE X (.Call (.Attribute o m apos) [] kws pos) (tMethJ C m js ks.length sp (fun _ => E0) ta tk) := by
  obtain ⟨f, fd, M, F, b, G⟩ := O.ex
  exact pe_mJ_of js M F G (fun σ pins H s e s' I c => pass0 pins σ H s e s' I c) c hr hb he hkw hall hks hpl ht
theorem pe_mKX {pl : Sem Bool} (js : List Nat) (O : MOkX X.prog X.w X.K X.mg X.base k C m q st ps sp) (c : Cls X.K C) (hr : Room k X.A) (tkk : L2.Takes X W)
    (hb : ∀ (kV doc pm : Value) (an : Option Addr) (cdv ct : Value) (self : Value) (ws : List Value), ws.length = ks.length → bindArgs (PySem.W.fnOf m q (defArgs st) (defBody st) (defScope st) .none kV doc pm an cdv ct) ⟨[self], ks.zip ws⟩ = pure (ps.zip (pk js (self :: ws))))
    (he : PE X o ta) (hkw : PK X kws tk) (hall : (backToKw pos (keywordEach kws X.env)).all (·.1.isSome) = true := by rfl) (hks : (backToKw pos (keywordEach kws X.env)).filterMap (·.1) = ks := by rfl)
    (hpl : ((backTo pos (starEach [] X.env)).any (·.1) || (backToKw pos (keywordEach kws X.env)).any (·.1.isNone)) = false := by rfl)
    (ht : eval (.Call (.Attribute o m apos) [] kws pos) X.env = (do
      let ov ← eval o X.env
      standAt apos.atName
      let (f, first) ← holding [ov] (getMethod ov m pl)
      callWith pos f first (backTo pos (starEach [] X.env)) (backToKw pos (keywordEach kws X.env))) := by rfl) :
    PE X (.Call (.Attribute o m apos) [] kws pos) (tMethJ C m js ks.length sp (WE W) ta tk) := by
  obtain ⟨f, fd, M, F, b, G⟩ := O.ex
  exact pe_mJ_of js M F G (fun σ => passAt tkk σ) c hr hb he hkw hall hks hpl ht
theorem pe_mKL {pl : Sem Bool} (js : List Nat) (O : MOkX X.prog X.w X.K X.mg X.base k C m q st ps sp) (c : Cls X.K C) (hr : Room k X.A)
    (hb : ∀ (kV doc pm : Value) (an : Option Addr) (cdv ct : Value) (self : Value) (ws : List Value), ws.length = ks.length → bindArgs (PySem.W.fnOf m q (defArgs st) (defBody st) (defScope st) .none kV doc pm an cdv ct) ⟨[self], ks.zip ws⟩ = pure (ps.zip (pk js (self :: ws))))
    (he : PE X o ta) (hkw : PK X kws tk) (hall : (backToKw pos (keywordEach kws X.env)).all (·.1.isSome) = true := by rfl) (hks : (backToKw pos (keywordEach kws X.env)).filterMap (·.1) = ks := by rfl)
    (hpl : ((backTo pos (starEach [] X.env)).any (·.1) || (backToKw pos (keywordEach kws X.env)).any (·.1.isNone)) = false := by rfl)
    (ht : eval (.Call (.Attribute o m apos) [] kws pos) X.env = (do
      let ov ← eval o X.env
      standAt apos.atName
      let (f, first) ← holding [ov] (getMethod ov m pl)
      callWith pos f first (backTo pos (starEach [] X.env)) (backToKw pos (keywordEach kws X.env))) := by rfl) :
    PE X (.Call (.Attribute o m apos) [] kws pos) (tMethJ C m js ks.length sp (fun _ => E0) ta tk) := by
  obtain ⟨f, fd, M, F, b, G⟩ := O.ex
  exact pe_mJ_of js M F G (fun σ pins H s e s' I c => passL pins σ H s e s' I c) c hr hb he hkw hall hks hpl ht
/-- a method that python calls by itself, one unit deeper -/
theorem run_in1 {CX : CXT} {pins : List (Addr × Obj)} {σ : L2.St} {H : Hp} {s : Shared} {f a : Addr} {fd : FuncData} {Q : VK} (F : FnOk X.prog X.w X.K X.mg X.base CX k f fd ps sp) (b : Binds X.K fd ps []) (hr : Room (k + 1) X.A) (hx : Passes CX X E0) (I : Inv X pins σ H s) (h : sp [.ref a] H Q E0) :
    wpAny (model X.prog X.w) X.A.in1 (call (.ref f) [.ref a]) (fun v s' => EP X pins σ Q v s') X.xe s := by
  have e0 : Env0 X.prog X.w X.K X.mg X.base X.A.in1 X.stack s H := by
    have e := I.env0
    exact ⟨e.frames, e.mod, e.bs, e.bsz, e.funs, e.frf, e.hok, e.bare⟩
  have hl := F.len _ _ _ _ h
  have r2 : Vals [V.ref a] [Value.ref a] := .cons rfl .nil
  refine wpAny_call (codeAny_mono (F.run X.A.in1 X.stack s H ⟨[.ref a], []⟩ [.ref a] [.ref a] Q E0 hr.in1 e0 (by
    have := b s [.ref a] I.kIn (by simpa using hl)
    simpa using this) r2 h) fun r s' hq => ?_)
  rcases r with e | fl
  · exact hx pins σ H s e s' I hq
  · cases fl <;> first | exact I.after hq | exact False.elim hq
/-- len(x), x an instance with its own __len__ -/
def rLenO (C : Addr) (sp : Sp) : List V → Hp → VK → Prop := fun xs H Q => ∃ (a dx : Addr) (fs : List (Str × V)), xs = [.ref a] ∧ H a = some (.ins C dx fs) ∧ sp [.ref a] H (fun v H' => ∃ n : Nat, v = .int (n : Int) ∧ n ≤ 1000000 ∧ Q (.int (n : Int)) H') E0
theorem call_lenO (O : MOk X.prog X.w X.K X.mg X.base k C "__len__" q st ps sp) (hr : Room (k + 1) X.A) : CallR X (.builtin "len") (rLenO C sp) := by
  intro pins s σ H xs us Q I r h
  obtain ⟨a, dx, fs, rfl, ea, hsp⟩ := h
  obtain ⟨f, fd, M, F, b, G⟩ := O.ex
  rw [Vals.ref1 r]
  obtain ⟨mA, J, _⟩ := ins_get I.hok ea
  obtain ⟨od, J, _⟩ := J.look
  obtain ⟨m, hF⟩ := I.fr
  refine PySem.W.len_K hF I.ok.mod.kin J M.at_ M.fn (wpAny_mono (run_in1 G b hr pass0 I hsp) (fun v s' hv => ?_) fun _ _ z => z)
  obtain ⟨x, H', I', rx, n, ex, hn, hq⟩ := hv
  subst ex
  obtain ⟨t, rfl⟩ := (show ∃ t, v = Value.int (n : Int) t from rx)
  exact ⟨⟨by omega, by omega⟩, .int (n : Int), H', I'.tok _, ⟨_, rfl⟩, hq⟩
/-- repr(x), x an instance with its own __repr__ -/
def rReprO (C : Addr) (sp : Sp) : List V → Hp → VK → Prop := fun xs H Q => ∃ (a dx : Addr) (fs : List (Str × V)), xs = [.ref a] ∧ H a = some (.ins C dx fs) ∧ sp [.ref a] H (fun v H' => ∃ y : Str, v = .str y ∧ Q (.str y) H') E0
theorem call_reprO (O : MOk X.prog X.w X.K X.mg X.base k C "__repr__" q st ps sp) (hr : Room (k + 1) X.A) : CallR X (.builtin "repr") (rReprO C sp) := by
  intro pins s σ H xs us Q I r h
  obtain ⟨a, dx, fs, rfl, ea, hsp⟩ := h
  obtain ⟨f, fd, M, F, b, G⟩ := O.ex
  rw [Vals.ref1 r]
  obtain ⟨mA, J, _⟩ := ins_get I.hok ea
  obtain ⟨od, J, _⟩ := J.look
  obtain ⟨m, hF⟩ := I.fr
  refine PySem.W.repr_K (by have := hr.in1.units0; exact this) hF I.ok.mod.kin J M.at_ M.fn (wpAny_mono (run_in1 G b hr pass0 I hsp) (fun v s' hv => ?_) fun _ _ z => z)
  obtain ⟨x, H', I', rx, y, ex, hq⟩ := hv
  subst ex
  obtain ⟨t, rfl⟩ := (show ∃ t, v = Value.str y t from rx)
  exact ⟨.str y, H', I', ⟨_, rfl⟩, hq⟩
end
section
variable {X : Cx}
theorem pe_fldK (K : PySem.W.Frag) {e : Expr} {f : Str} {pos : Pos} {ta : TE} (he : PE X e ta) (hb : attributeBase e f X.env (eval e X.env) = eval e X.env) (hK : X.K = K := by rfl) : PE X (.Attribute e f pos) (tFld K ta f) := hK ▸ pe_fld he hb
theorem pe_bmH {T id : String} {name : Str} {r : V → List V → Hp → VK → Prop} {o e : Expr} {es : List Expr} {to : TE} {t : TA} {apos cpos : Pos} (K : PySem.W.Frag) (pa : PlainAttrs T) (slot : Slot T name id) (hty : typeOf (.builtin id) = pure (.type "method_descriptor")) (hm : MtR X id r) (ho : PE X o to) (ha : PA X (e :: es) t) (hK : X.K = K := by rfl)
    (hb : attributeBase o name X.env (eval o X.env) = eval o X.env := by rfl) (hf : ((backTo cpos (starEach (e :: es) X.env)).all (fun x => !x.1) && (backToKw cpos (keywordEach [] X.env)).all (fun x => x.1.isSome) && decide ((e :: es).length + ([] : List Keyword).length + (if ([] : List Keyword).isEmpty then 0 else 1) < 30)) = true := by rfl)
    (hln : (apos.endLine == cpos.line) = true := by rfl) (hst : starEach (e :: es) X.env = (false, eval e X.env) :: starEach es X.env := by rfl) (hpl : (backTo cpos (starEach es X.env)).any (·.1) = false := by rfl) : PE X (.Call (.Attribute o name apos) (e :: es) [] cpos) (tBM K T r to t) := hK ▸ pe_bm pa slot hty hm ho ha hb hf hln hst hpl
end
/-! ### finally -/
section
variable {X : Cx} {st0 f₀ : Stmt} {fs : List Stmt} {e : Expr} {rp pos : Pos} {t0 : WX → TS} {te : WX → TE} {tf tfs : TS} {Wout : WX}
/-- try: st / finally: .. -/
def tFin1 (t0 : WX → TS) (tf tfs : TS) (Wout : WX) : TS := fun D σ H => t0 (wFin tfs Wout) { nx := tf D, rt := fun _ _ => False } σ H
/-- try: st; return e / finally: .. -/
def tFinR (t0 : WX → TS) (te : WX → TE) (tf tfs : TS) (Wout : WX) : TS := fun D σ H => t0 (wFin tfs Wout) { nx := fun σ1 H1 => te (wFin tfs Wout) σ1 H1 fun v H2 => tf { D with nx := fun _ H3 => D.rt v H3 } σ1 H2, rt := fun _ _ => False } σ H
theorem ps_fin1 (hs : X.stack = X.env :: X.outer) (hf : X.env.frame = some X.env.locals) (hex : X.ex = []) (tk : L2.Takes X Wout)
    (h0 : ∀ (W : WX) (pn : List (Addr × Obj)) (xe : Value → Shared → Prop), L2.Takes (X.tr pn xe) W → PassesOwn (model X.prog X.w) X.A X.env xe → PS (X.tr pn xe) st0 (t0 W))
    (hfin : PSs X.nox (f₀ :: fs) tf) (hsu : ∀ (a : Addr) (pn : List (Addr × Obj)), PSs (X.suite a pn) (f₀ :: fs) tfs) : PS X (.Try [st0] [] [] (f₀ :: fs) pos) (tFin1 t0 tf tfs Wout) := by
  refine ⟨fun pins s σ H D I h => ?_⟩
  have ok := I.ok
  refine wpAny_Try_finally (wpAny_execs_cons ?_)
  refine wpAny_mono ((h0 (wFin tfs Wout) (X.pn ++ pins) (fun x s₁ => wpAny (model X.prog X.w) X.A (noteFrame x X.env) (fun _ s₂ => FinallyRaised X.prog X.w X.A X.xe X.env (f₀ :: fs) (SP X pins D) x s₂) (FinallyRaised X.prog X.w X.A X.xe X.env (f₀ :: fs) (SP X pins D)) s₁)
    (fun u s' xx => ?_) PassesOwn.looking).run [] s σ H _ (I.toTry _) h) (fun f s1 hsp => ?_) (fun x s1 hx => hx)
  · exact fin_exc hs hf hex ok tk hsu xx
  · cases f with
    | next =>
      obtain ⟨σ1, H1, J1, q1⟩ := hsp
      have I1 := J1.ofTry ok
      refine wpAny_execs_nil ?_
      show wpAny _ _ (execs [] X.env) _ _ _
      refine wpAny_execs_nil ?_
      refine wpAny_mono (hfin.run pins s1 σ1 H1 D (I1.wish _) q1) (fun g s2 q => ?_) fun _ _ z => False.elim z
      have q' : SP X pins D g s2 := q.unwish
      cases g <;> exact q'
    | ret u =>
      obtain ⟨_, _, _, _, _, q⟩ := hsp
      exact False.elim q
    | brk =>
      obtain ⟨_, _, _, q⟩ := hsp
      exact False.elim q
    | cont =>
      obtain ⟨_, _, _, q⟩ := hsp
      exact False.elim q
theorem ps_finR (hs : X.stack = X.env :: X.outer) (hf : X.env.frame = some X.env.locals) (hex : X.ex = []) (tk : L2.Takes X Wout)
    (h0 : ∀ (W : WX) (pn : List (Addr × Obj)) (xe : Value → Shared → Prop), L2.Takes (X.tr pn xe) W → PassesOwn (model X.prog X.w) X.A X.env xe → PS (X.tr pn xe) st0 (t0 W))
    (he : ∀ (W : WX) (pn : List (Addr × Obj)) (xe : Value → Shared → Prop), L2.Takes (X.tr pn xe) W → PassesOwn (model X.prog X.w) X.A X.env xe → PE (X.tr pn xe) e (te W))
    (hfin : PSs X.nox (f₀ :: fs) tf) (hsu : ∀ (a : Addr) (pn : List (Addr × Obj)), PSs (X.suite a pn) (f₀ :: fs) tfs) : PS X (.Try [st0, .Return (some e) rp] [] [] (f₀ :: fs) pos) (tFinR t0 te tf tfs Wout) := by
  refine ⟨fun pins s σ H D I h => ?_⟩
  have ok := I.ok
  refine wpAny_Try_finally (wpAny_execs_cons ?_)
  have tkk : L2.Takes (X.tr (X.pn ++ pins) (fun x s₁ => wpAny (model X.prog X.w) X.A (noteFrame x X.env) (fun _ s₂ => FinallyRaised X.prog X.w X.A X.xe X.env (f₀ :: fs) (SP X pins D) x s₂) (FinallyRaised X.prog X.w X.A X.xe X.env (f₀ :: fs) (SP X pins D)) s₁)) (wFin tfs Wout) := fun u s' xx => fin_exc hs hf hex ok tk hsu xx
  refine wpAny_mono ((h0 (wFin tfs Wout) (X.pn ++ pins) _ tkk PassesOwn.looking).run [] s σ H _ (I.toTry _) h) (fun f s1 hsp => ?_) (fun x s1 hx => hx)
  cases f with
  | next =>
    obtain ⟨σ1, H1, J1, q1⟩ := hsp
    refine wpAny_execs_cons (wpAny_Return_some ?_)
    refine wpAny_mono ((he (wFin tfs Wout) (X.pn ++ pins) _ tkk PassesOwn.looking).run [] s1 σ1 H1 _ J1 q1) (fun u s2 z => ?_) (fun x s2 hx => hx)
    obtain ⟨v, H2, I2, r2, q2⟩ := z
    exact fin_ret hfin (I2.ofTry ok) r2 q2
  | ret u =>
    obtain ⟨_, _, _, _, _, q⟩ := hsp
    exact False.elim q
  | brk =>
    obtain ⟨_, _, _, q⟩ := hsp
    exact False.elim q
  | cont =>
    obtain ⟨_, _, _, q⟩ := hsp
    exact False.elim q
end
end Sh

namespace Sh
open PySem PySem.Spec PyProof.Rows L2
/-! ### the text by places -/
def topS (i : Nat) : Stmt := PySem.Challenge.pw_shoalmates_k51_refused_at_a_harbour.main.body.getD i (.Pass ⟨0, 0, 0, 0⟩)
end Sh

namespace Sh
open PySem PySem.Spec PyProof.Rows L2
/-! ### the program's own exceptions -/
/-- the first def of a class -/
def clsIni (s : Stmt) : Stmt := match s with
  | .ClassDef _ _ _ (b :: _) _ _ _ _ _ _ _ => b
  | s => s
/-- what is known of a class with one field -/
structure Xc (K : PySem.W.Frag) (mg : Str → Option Value) (x q f : Str) (st : Stmt) (C : Addr) : Prop where
  g : mg x = some (.ref C)
  T : OexC K C
  ini : ∃ (fI : Addr) (fd : FuncData), PySem.W.findIn K (.ref C) "__init__" = some (some (.ref fI)) ∧ PySem.W.typeIn K (.ref fI) = some (.type "function") ∧ Fun K "__init__" q st fI fd
  no : PySem.W.findIn K (.ref C) f = some none
  e : ExcC K C
structure XB (K : PySem.W.Frag) (mg : Str → Option Value) : Prop where
  VE : mg "ValueError" = none
  vV : PySem.W.findCls K (.type "ValueError") (.type "type") "__init__" = some (.val (.builtin "ValueError.__init__"))
theorem with_xc {K : PySem.W.Frag} {mg : Str → Option Value} {R : Prop} {x q f : Str} {st : Stmt} {h : Heap} {C fI : Addr} {oc : Value} {od an : Option Addr} {sl : Array (Option Value)} {kV dc pm cd ct : Value} (X : K.In h) (G : h.Ns mainGlobals mg)
    (a : PySem.W.nsIn K mainGlobals x = some (some (.ref C))) (T : OexC K C) (i : PySem.W.findIn K (.ref C) "__init__" = some (some (.ref fI))) (ti : PySem.W.typeIn K (.ref fI) = some (.type "function"))
    (l : K.lookup fI = some ⟨oc, od, .func (PySem.W.fnOf "__init__" q (defArgs st) (defBody st) (defScope st) .none kV dc pm an cd ct), sl⟩) (c : PySem.W.codeIn K cd q = true) (k : PySem.W.keepIn K (.ref fI) = true) (no : PySem.W.findIn K (.ref C) f = some none) (e : ExcC K C)
    (r : Xc K mg x q f st C → R) : R := r ⟨PySem.W.mg_of X G a, T, ⟨fI, _, i, ti, fun_mk l c k⟩, no, e⟩
theorem with_xb {K : PySem.W.Frag} {mg : Str → Option Value} {R : Prop} {h : Heap} (G : h.Ns mainGlobals mg) (X : K.In h) (a : PySem.W.nsIn K mainGlobals "ValueError" = some none)
    (b : PySem.W.findCls K (.type "ValueError") (.type "type") "__init__" = some (.val (.builtin "ValueError.__init__"))) (r : XB K mg → R) : R := r ⟨PySem.W.mg_none_of X G a, b⟩
/-- a whole number that is written down -/
def okInt (v : V) : Prop := ∃ i : Int, v = .int i ∧ i.natAbs.log2 < 1920
theorem js_len {a b : Str} {n m : Nat} (h : a.length ≤ n) (h2 : b.length ≤ m) (z : n + m ≤ sizeLine) : (a ++ b).length ≤ sizeLine := by
  rw [PySem.Str.length_append]
  omega
theorem int_len {i : Int} (h : i.natAbs.log2 < 1920) : (toString i : Str).length ≤ 4000 := by
  have e := PySem.int_text_length_le (k := 1920) (by decide) h
  show (Str.ofString (toString i)).length ≤ 4000
  rw [PySem.ofString_length]
  omega
theorem js_at {a b : Str} {n m : Nat} (h : a.length ≤ n) (h2 : b.length ≤ m) : (a ++ b).length ≤ n + m := by
  rw [PySem.Str.length_append]
  omega
abbrev s_MayNot_init : Stmt := clsIni (topS 2)
theorem sc_MayNot_init : FnScope (["self", "ship"] : List Str) (["self", "ship"] : List Str) (defScope s_MayNot_init) := ⟨rfl, rfl, rfl, by decide +kernel, rfl, by decide +kernel, by decide +kernel⟩
theorem b_MayNot_init (kV doc pm : Value) (an : Option Addr) (cdv ct : Value) (us : List Value) (hl : us.length = (["self", "ship"] : List Str).length) : bindArgs (PySem.W.fnOf "__init__" "MayNot.__init__" (defArgs s_MayNot_init) (defBody s_MayNot_init) (defScope s_MayNot_init) .none kV doc pm an cdv ct) ⟨us, []⟩ = pure ((["self", "ship"] : List Str).zip us) :=
  match us, hl with | [_, _], _ => rfl
section
variable {P : Program} {w : World} {K : PySem.W.Frag} {mg : Str → Option Value} {base : Heap}
theorem ok_MayNot {k : Nat} {C : Addr} (B : XB K mg) (D : Xc K mg "MayNot" "MayNot.__init__" "ship" s_MayNot_init C) : ExcOk P w K mg base (k + 1) "MayNot" C "ship" okInt := by
  obtain ⟨fI, fd, fi, ti, F⟩ := D.ini
  refine ⟨D.g, D.T, fI, fd, ["self", "ship"], fi, ti, F.ok sc_MayNot_init (fun vs H Q E h => ?_) (fun cdv A outer s H vs Q E hr h => ?_), F.binds b_MayNot_init⟩
  · obtain ⟨a, v, rfl, _⟩ := h
    rfl
  · obtain ⟨a, v, rfl, ⟨i, rfl, hi⟩, ha, q⟩ := h
    refine ⟨_, pss_cons (ps_expr (pe_veinit (by rfl) B.VE B.vV (pa_cons (pv 0) (pa_cons (pe_joined (PJ.cons pe_str (PJ.cons (pe_fmt (pv 1)) (PJ.cons pe_str .nil)))) pa_nil)))) (pss_one (ps_ost (pv 0) (pv 1))), ?_⟩
    refine ⟨.ref a, rfl, ?_⟩
    have l1 : (Str.empty ++ Str.ofString "ship ").length ≤ 5 := by decide
    refine ⟨_, rfl, Nat.le_trans l1 (by decide), ?_⟩
    have l2 := js_at l1 (int_len hi)
    refine ⟨_, rfl, .inr ⟨i, rfl, hi, _, rfl, Nat.le_trans l2 (by decide), ?_⟩⟩
    refine ⟨_, rfl, Nat.le_trans (js_at l2 (show (Str.ofString " may not go over the bar").length ≤ 100 by decide)) (by decide), ?_⟩
    refine ⟨a, C, _, rfl, by simp, D.T, ha, ?_⟩
    exact ⟨_, rfl, _, rfl, a, C, rfl, D.T, D.no, .inl ⟨ha, q⟩⟩
end
end Sh

namespace Sh
open PySem PySem.Spec PyProof.Rows L2
/-! ### NoShip, under LookupError, and Full, under OverflowError -/
structure XcB (K : PySem.W.Frag) (mg : Str → Option Value) (x q f : Str) (st : Stmt) (C : Addr) (nw : String) (tl : List Value) : Prop where
  g : mg x = some (.ref C)
  T : OexB K nw tl C
  ini : ∃ (fI : Addr) (fd : FuncData), PySem.W.findIn K (.ref C) "__init__" = some (some (.ref fI)) ∧ PySem.W.typeIn K (.ref fI) = some (.type "function") ∧ Fun K "__init__" q st fI fd
  no : PySem.W.findIn K (.ref C) f = some none
  e : ExcC K C
structure XBn (K : PySem.W.Frag) (mg : Str → Option Value) (b : Str) (B ini : String) : Prop where
  VE : mg b = none
  vV : PySem.W.findCls K (.type B) (.type "type") "__init__" = some (.val (.builtin ini))
theorem with_xcn {K : PySem.W.Frag} {mg : Str → Option Value} {R : Prop} {x q f : Str} {st : Stmt} {nw : String} {tl : List Value} {h : Heap} {C fI : Addr} {oc : Value} {od an : Option Addr} {sl : Array (Option Value)} {kV dc pm cd ct : Value} (X : K.In h) (G : h.Ns mainGlobals mg)
    (a : PySem.W.nsIn K mainGlobals x = some (some (.ref C))) (T : OexB K nw tl C) (i : PySem.W.findIn K (.ref C) "__init__" = some (some (.ref fI))) (ti : PySem.W.typeIn K (.ref fI) = some (.type "function"))
    (l : K.lookup fI = some ⟨oc, od, .func (PySem.W.fnOf "__init__" q (defArgs st) (defBody st) (defScope st) .none kV dc pm an cd ct), sl⟩) (c : PySem.W.codeIn K cd q = true) (k : PySem.W.keepIn K (.ref fI) = true) (no : PySem.W.findIn K (.ref C) f = some none) (e : ExcC K C)
    (r : XcB K mg x q f st C nw tl → R) : R := r ⟨PySem.W.mg_of X G a, T, ⟨fI, _, i, ti, fun_mk l c k⟩, no, e⟩
theorem with_xbn {K : PySem.W.Frag} {mg : Str → Option Value} {R : Prop} {b : Str} {B ini : String} {h : Heap} (G : h.Ns mainGlobals mg) (X : K.In h) (a : PySem.W.nsIn K mainGlobals b = some none)
    (v : PySem.W.findCls K (.type B) (.type "type") "__init__" = some (.val (.builtin ini))) (r : XBn K mg b B ini → R) : R := r ⟨PySem.W.mg_none_of X G a, v⟩
abbrev s_NoShip_init : Stmt := clsIni (topS 6)
theorem sc_NoShip_init : FnScope (["self", "ship"] : List Str) (["self", "ship"] : List Str) (defScope s_NoShip_init) := ⟨rfl, rfl, rfl, by decide +kernel, rfl, by decide +kernel, by decide +kernel⟩
theorem b_NoShip_init (kV doc pm : Value) (an : Option Addr) (cdv ct : Value) (us : List Value) (hl : us.length = (["self", "ship"] : List Str).length) : bindArgs (PySem.W.fnOf "__init__" "NoShip.__init__" (defArgs s_NoShip_init) (defBody s_NoShip_init) (defScope s_NoShip_init) .none kV doc pm an cdv ct) ⟨us, []⟩ = pure ((["self", "ship"] : List Str).zip us) :=
  match us, hl with | [_, _], _ => rfl
abbrev s_Full_init : Stmt := clsIni (topS 8)
theorem sc_Full_init : FnScope (["self", "many"] : List Str) (["self", "many"] : List Str) (defScope s_Full_init) := ⟨rfl, rfl, rfl, by decide +kernel, rfl, by decide +kernel, by decide +kernel⟩
theorem b_Full_init (kV doc pm : Value) (an : Option Addr) (cdv ct : Value) (us : List Value) (hl : us.length = (["self", "many"] : List Str).length) : bindArgs (PySem.W.fnOf "__init__" "Full.__init__" (defArgs s_Full_init) (defBody s_Full_init) (defScope s_Full_init) .none kV doc pm an cdv ct) ⟨us, []⟩ = pure ((["self", "many"] : List Str).zip us) :=
  match us, hl with | [_, _], _ => rfl
section
variable {P : Program} {w : World} {K : PySem.W.Frag} {mg : Str → Option Value} {base : Heap}
theorem ok_NoShip {k : Nat} {C : Addr} (B : XBn K mg "LookupError" "LookupError" "LookupError.__init__") (D : XcB K mg "NoShip" "NoShip.__init__" "ship" s_NoShip_init C "LookupError.__new__" tlLE) : ExcOkB P w K mg base (k + 1) "NoShip" C "ship" okInt "LookupError.__new__" tlLE := by
  obtain ⟨fI, fd, fi, ti, F⟩ := D.ini
  refine ⟨D.g, D.T, fI, fd, ["self", "ship"], fi, ti, F.ok sc_NoShip_init (fun vs H Q E h => ?_) (fun cdv A outer s H vs Q E hr h => ?_), F.binds b_NoShip_init⟩
  · obtain ⟨a, v, rfl, _⟩ := h
    rfl
  · obtain ⟨a, v, rfl, ⟨i, rfl, hi⟩, ha, q⟩ := h
    refine ⟨_, pss_cons (ps_expr (pe_binit eb_LE (by rfl) B.VE (by decide +kernel) (by decide) (by decide) B.vV (pa_cons (pv 0) (pa_cons (pe_joined (PJ.cons pe_str (PJ.cons (pe_fmt (pv 1)) .nil))) pa_nil)))) (pss_one (ps_ostB eb_LE (pv 0) (pv 1))), ?_⟩
    refine ⟨.ref a, rfl, ?_⟩
    have l1 : (Str.empty ++ Str.ofString "there's no ship ").length ≤ 16 := by decide
    refine ⟨_, rfl, Nat.le_trans l1 (by decide), ?_⟩
    have l2 := js_at l1 (int_len hi)
    refine ⟨_, rfl, .inr ⟨i, rfl, hi, _, rfl, Nat.le_trans l2 (by decide), ?_⟩⟩
    refine ⟨a, C, _, rfl, by simp, D.T, ha, ?_⟩
    exact ⟨_, rfl, _, rfl, a, C, rfl, D.T, D.no, ha, q⟩
theorem ok_Full {k : Nat} {C : Addr} (B : XBn K mg "OverflowError" "OverflowError" "OverflowError.__init__") (D : XcB K mg "Full" "Full.__init__" "many" s_Full_init C "OverflowError.__new__" tlOE) : ExcOkB P w K mg base (k + 1) "Full" C "many" okInt "OverflowError.__new__" tlOE := by
  obtain ⟨fI, fd, fi, ti, F⟩ := D.ini
  refine ⟨D.g, D.T, fI, fd, ["self", "many"], fi, ti, F.ok sc_Full_init (fun vs H Q E h => ?_) (fun cdv A outer s H vs Q E hr h => ?_), F.binds b_Full_init⟩
  · obtain ⟨a, v, rfl, _⟩ := h
    rfl
  · obtain ⟨a, v, rfl, ⟨i, rfl, hi⟩, ha, q⟩ := h
    refine ⟨_, pss_cons (ps_expr (pe_binit eb_OE (by rfl) B.VE (by decide +kernel) (by decide) (by decide) B.vV (pa_cons (pv 0) (pa_cons (pe_joined (PJ.cons pe_str (PJ.cons (pe_fmt (pv 1)) (PJ.cons pe_str .nil)))) pa_nil)))) (pss_one (ps_ostB eb_OE (pv 0) (pv 1))), ?_⟩
    refine ⟨.ref a, rfl, ?_⟩
    have l1 : (Str.empty ++ Str.ofString "there are ").length ≤ 10 := by decide
    refine ⟨_, rfl, Nat.le_trans l1 (by decide), ?_⟩
    have l2 := js_at l1 (int_len hi)
    refine ⟨_, rfl, .inr ⟨i, rfl, hi, _, rfl, Nat.le_trans l2 (by decide), ?_⟩⟩
    refine ⟨_, rfl, Nat.le_trans (js_at l2 (show (Str.ofString " ships already").length ≤ 100 by decide)) (by decide), ?_⟩
    refine ⟨a, C, _, rfl, by simp, D.T, ha, ?_⟩
    exact ⟨_, rfl, _, rfl, a, C, rfl, D.T, D.no, ha, q⟩
end
end Sh

namespace Sh
open PySem PySem.Spec PyProof.Rows L2
/-! ### what is drawn from -/
def BoxOk (xs : List V) (n : Nat) : Prop := ∃ b0 b1 b2 : Int, xs = [.int b0, .int b1, .int b2] ∧ 0 ≤ b0 ∧ 0 ≤ b1 ∧ b1 < 4611686018427387904 ∧ 0 ≤ b2 ∧ b2 + (n : Int) ≤ 1099511627776
def BoxAt (H : Hp) (b : Addr) (n : Nat) : Prop := ∃ xs, H b = some (.lst xs) ∧ BoxOk xs n
theorem BoxOk.mono {xs : List V} {n m : Nat} (h : BoxOk xs n) (l : m ≤ n) : BoxOk xs m := by
  obtain ⟨b0, b1, b2, e, h0, h1, h2, h3, h4⟩ := h
  exact ⟨b0, b1, b2, e, h0, h1, h2, h3, by omega⟩
theorem BoxAt.mono {H : Hp} {b : Addr} {n m : Nat} (h : BoxAt H b n) (l : m ≤ n) : BoxAt H b m := let ⟨xs, e, k⟩ := h; ⟨xs, e, k.mono l⟩
theorem BoxAt.same {H H' : Hp} {b : Addr} {n : Nat} (h : BoxAt H b n) (s : Same H H') : BoxAt H' b n := let ⟨xs, e, k⟩ := h; ⟨xs, s _ _ e, k⟩
theorem BoxAt.some {H : Hp} {b : Addr} {n : Nat} (h : BoxAt H b n) : H b ≠ none := fun z => by
  obtain ⟨xs, e, _⟩ := h
  rw [e] at z
  cases z
/-- a new place is not the box -/
theorem BoxAt.ne {H : Hp} {b p : Addr} {n : Nat} (h : BoxAt H b n) (z : H p = none) : b ≠ p := let ⟨_, e, _⟩ := h; ne_of_none e z
def spTake : Sp := fun vs H Q _ => ∃ (b : Addr) (n : Nat) (span : Int), vs = [.ref b, .int span] ∧ 0 < span ∧ span < 1152921504606846976 ∧ BoxAt H b (n + 1) ∧ ∀ (v : Int) (xs : List V), 0 ≤ v → v < span → BoxOk xs n → Q (.int v) (upd H b (.lst xs))
abbrev s__law_take : Stmt := topS 34
theorem sc__law_take : FnScope (["_law_box_here", "_law_span", "_law_found", "_law_once", "_law_twice"] : List Str) (["_law_box_here", "_law_span"] : List Str) (defScope s__law_take) := ⟨rfl, rfl, rfl, by decide +kernel, rfl, by decide +kernel, by decide +kernel⟩
theorem b__law_take (kV doc pm : Value) (an : Option Addr) (cdv ct : Value) (us : List Value) (hl : us.length = (["_law_box_here", "_law_span"] : List Str).length) : bindArgs (PySem.W.fnOf "_law_take" "_law_take" (defArgs s__law_take) (defBody s__law_take) (defScope s__law_take) .none kV doc pm an cdv ct) ⟨us, []⟩ = pure ((["_law_box_here", "_law_span"] : List Str).zip us) :=
  match us, hl with | [_, _], _ => rfl
section
variable {P : Program} {w : World} {K : PySem.W.Frag} {mg : Str → Option Value} {base : Heap}
theorem ok_take {k : Nat} (D : Df K mg "_law_take" s__law_take) (T : Bt mg) : Ok P w K mg base (k + 1) "_law_take" s__law_take ["_law_box_here", "_law_span"] spTake := by
  refine D.ok sc__law_take b__law_take (fun vs H Q E h => ?_) (fun f cdv A outer s H vs Q E hr h => ?_)
  · obtain ⟨b, n, span, rfl, _⟩ := h
    rfl
  · obtain ⟨b, n, span, rfl, s0, s1, ⟨xs, hb, b0, b1, b2, rfl, h0, h1, h1', h2, h3⟩, q⟩ := h
    refine ⟨_, (pss_cons (ps_if (pt_cmpR op_gt (pe_ix ix_lt (pv 0) pe_int (fun _ _ => rfl)) pe_int (nomark _))
        (pss_cons (ps_set (i := 2) sc__law_take.nd rfl (.inl rfl) (pe_op op_mod (pe_ix ix_lt (pv 0) pe_int (fun _ _ => rfl)) (pv 1)))
          (pss_cons (ps_asg (pe_op op_fdivW (pe_ix ix_lt (pv 0) pe_int (fun _ _ => rfl)) (pv 1)) (pg_sub (pv 0) pe_int set_list))
          (pss_one (ps_ret (pv 2)))))
        pss_nil)
      (pss_cons (ps_asg (pe_op op_add (pe_ix ix_lt (pv 0) pe_int (fun _ _ => rfl)) pe_int) (pg_sub (pv 0) pe_int set_list))
      (pss_cons (ps_set (i := 3) sc__law_take.nd rfl (.inl rfl) (pe_op op_mod (pe_op op_mul (pe_op op_add (pe_ix ix_lt (pv 0) pe_int (fun _ _ => rfl)) (pe_op op_mul pe_int (pe_ix ix_lt (pv 0) pe_int (fun _ _ => rfl)))) (pe_op op_add pe_int (pe_ix ix_lt (pv 0) pe_int (fun _ _ => rfl)))) pe_int))
      (pss_cons (ps_set (i := 4) sc__law_take.nd rfl (.inl rfl) (pe_op op_mod (pe_op op_mul (pe_op op_add (pe_op op_add (pv 3) (pe_ix ix_lt (pv 0) pe_int (fun _ _ => rfl))) (pe_op op_fdiv (pe_ix ix_lt (pv 0) pe_int (fun _ _ => rfl)) pe_int)) (pe_op op_add (pe_op op_mod (pv 3) pe_int) pe_int)) pe_int))
      (pss_one (ps_ret (pe_op op_mod (pe_op op_fdiv (pe_op op_mod (pe_op op_add (pe_op op_mul (pv 4) pe_int) (pv 3)) pe_int) pe_int) (pv 1)))))))), ?_⟩
    have hq : SqA K H b [.int b0, .int b1, .int b2] := SqA.l hb
    refine ⟨_, rfl, b, _, 0, .int b0, rfl, rfl, hq, rfl, b0, 0, rfl, rfl, _, rfl, ite2 (fun c => ?_) (fun c => ?_)⟩
    · have c0 : 0 < b0 := of_decide_eq_true c
      refine ⟨_, rfl, b, _, 0, .int b0, rfl, rfl, hq, rfl, _, rfl, b0, span, rfl, rfl, s0, ?_⟩
      refine ⟨_, rfl, b, _, 0, .int b0, rfl, rfl, hq, rfl, _, rfl, b0, span, rfl, rfl, wide_div (b := 60) s0 (show span.natAbs < 1152921504606846976 by omega) (by decide) (by decide), ?_⟩
      refine ⟨_, rfl, b, _, 0, 0, rfl, rfl, hb, rfl, ?_⟩
      refine ⟨_, rfl, ?_⟩
      exact q _ _ (Int.emod_nonneg _ (by omega)) (Int.emod_lt_of_pos _ s0) ⟨b0 / span, b1, b2, rfl, Int.ediv_nonneg h0 (by omega), h1, h1', h2, by omega⟩
    · refine ⟨_, rfl, b, _, 2, .int b2, rfl, rfl, hq, rfl, b2, 1, rfl, rfl, ?_⟩
      refine ⟨_, rfl, b, _, 2, 2, rfl, rfl, hb, rfl, ?_⟩
      have hq2 : SqA K (upd H b (.lst [.int b0, .int b1, .int (b2 + 1)])) b [.int b0, .int b1, .int (b2 + 1)] := SqA.l upd_same
      have m1 : 0 ≤ (b1 + 48271 * (b2 + 1)) * (39373 + (b2 + 1)) % 2147483647 := Int.emod_nonneg _ (by decide)
      have m2 : (b1 + 48271 * (b2 + 1)) * (39373 + (b2 + 1)) % 2147483647 < 2147483647 := Int.emod_lt_of_pos _ (by decide)
      refine ⟨_, rfl, b, _, 1, .int b1, rfl, rfl, hq2, rfl, _, rfl, b, _, 2, .int (b2 + 1), rfl, rfl, hq2, rfl, 48271, b2 + 1, rfl, rfl, .inl ⟨by decide, by decide⟩, b1, _, rfl, rfl, ?_⟩
      refine ⟨_, rfl, b, _, 2, .int (b2 + 1), rfl, rfl, hq2, rfl, 39373, b2 + 1, rfl, rfl, _, _, rfl, rfl, .inr ⟨by omega, by omega⟩, _, 2147483647, rfl, rfl, (show (0 : Int) < 2147483647 by decide), ?_⟩
      dsimp only
      generalize (b1 + 48271 * (b2 + 1)) * (39373 + (b2 + 1)) % 2147483647 = once at m1 m2
      have o1 : 0 ≤ once % 40009 := Int.emod_nonneg _ (by decide)
      have o2 : once % 40009 < 40009 := Int.emod_lt_of_pos _ (by decide)
      refine ⟨_, rfl, _, rfl, b, _, 2, .int (b2 + 1), rfl, rfl, hq2, rfl, once, b2 + 1, rfl, rfl, _, rfl, b, _, 1, .int b1, rfl, rfl, hq2, rfl, b1, 1000003, rfl, rfl, ⟨by decide, by decide⟩, _, _, rfl, rfl, ?_⟩
      refine ⟨_, rfl, once, 40009, rfl, rfl, (show (0 : Int) < 40009 by decide), _, 7, rfl, rfl, _, _, rfl, rfl, .inr ⟨by omega, by omega⟩, _, 2147483629, rfl, rfl, (show (0 : Int) < 2147483629 by decide), ?_⟩
      dsimp only
      have t1 : 0 ≤ (once + (b2 + 1) + b1 / 1000003) * (once % 40009 + 7) % 2147483629 := Int.emod_nonneg _ (by decide)
      have t2 : (once + (b2 + 1) + b1 / 1000003) * (once % 40009 + 7) % 2147483629 < 2147483629 := Int.emod_lt_of_pos _ (by decide)
      generalize (once + (b2 + 1) + b1 / 1000003) * (once % 40009 + 7) % 2147483629 = twice at t1 t2
      refine ⟨_, rfl, twice, 48271, rfl, rfl, .inl ⟨by omega, by omega⟩, _, rfl, _, once, rfl, rfl, _, 2147483587, rfl, rfl, (show (0 : Int) < 2147483587 by decide), _, 64, rfl, rfl, ⟨by decide, by decide⟩, _, rfl, _, span, rfl, rfl, s0, ?_⟩
      exact q _ _ (Int.emod_nonneg _ (by omega)) (Int.emod_lt_of_pos _ s0) ⟨b0, b1, b2 + 1, rfl, h0, h1, h1', by omega, by omega⟩
end
end Sh

namespace Sh
open PySem PySem.Spec PyProof.Rows L2
theorem SqA.at {K : PySem.W.Frag} {H : Hp} {b l : Addr} {o : HO} {xs : List V} (n : l ≠ b) (h : SqA K H l xs) : SqA K (upd H b o) l xs := by
  rcases h with ((h | ⟨z, h⟩) | h) | ((h | ⟨z, h⟩) | h)
  · exact .inl (.inl (.inl (by rw [upd_ne n]; exact h)))
  · exact .inl (.inl (.inr ⟨z, by rw [upd_ne n]; exact h⟩))
  · exact .inl (.inr h)
  · exact .inr (.inl (.inl (by rw [upd_ne n]; exact h)))
  · exact .inr (.inl (.inr ⟨z, by rw [upd_ne n]; exact h⟩))
  · exact .inr (.inr h)
theorem at_nat {xs : List V} {i : Int} {j : Nat} {v : V} (e : i = (j : Int)) (h : xs[j]? = some v) : atI xs i = some v := L2.at_of e h
theorem b01 (c : Bool) : (0 : Int) ≤ if c = true then 1 else 0 := by cases c <;> decide
theorem b01' (c : Bool) : (-(2 ^ 64) : Int) < (if c = true then 1 else 0) ∧ (if c = true then 1 else 0) < (2 ^ 64 : Int) := by cases c <;> decide
/-- a cell of the script: some int -/
def spCellAt (K : PySem.W.Frag) : Sp := fun vs H Q _ => ∃ (l : Addr) (ns : List Int) (j : Nat), vs = [.ref l, .int (j : Int)] ∧ SqL K H l (ns.map V.int) ∧ ∀ z : Int, Q (.int z) H
abbrev s__law_cell_at : Stmt := topS 32
theorem sc__law_cell_at : FnScope (["_law_script", "_law_k"] : List Str) (["_law_script", "_law_k"] : List Str) (defScope s__law_cell_at) := ⟨rfl, rfl, rfl, by decide +kernel, rfl, by decide +kernel, by decide +kernel⟩
theorem b__law_cell_at (kV doc pm : Value) (an : Option Addr) (cdv ct : Value) (us : List Value) (hl : us.length = (["_law_script", "_law_k"] : List Str).length) : bindArgs (PySem.W.fnOf "_law_cell_at" "_law_cell_at" (defArgs s__law_cell_at) (defBody s__law_cell_at) (defScope s__law_cell_at) .none kV doc pm an cdv ct) ⟨us, []⟩ = pure ((["_law_script", "_law_k"] : List Str).zip us) :=
  match us, hl with | [_, _], _ => rfl
def spBox (K : PySem.W.Frag) : Sp := fun vs H Q _ => ∃ (l : Addr) (ns : List Int) (j : Nat), vs = [.ref l, .int (j : Int)] ∧ j ≤ 100 ∧ SqL K H l (ns.map V.int) ∧ ∀ (p : Addr) (xs : List V), H p = none → BoxOk xs 549755813888 → Q (.ref p) (upd H p (.lst xs))
abbrev s__law_box : Stmt := topS 33
theorem sc__law_box : FnScope (["_law_script", "_law_k", "_law_core"] : List Str) (["_law_script", "_law_k"] : List Str) (defScope s__law_box) := ⟨rfl, rfl, rfl, by decide +kernel, rfl, by decide +kernel, by decide +kernel⟩
theorem b__law_box (kV doc pm : Value) (an : Option Addr) (cdv ct : Value) (us : List Value) (hl : us.length = (["_law_script", "_law_k"] : List Str).length) : bindArgs (PySem.W.fnOf "_law_box" "_law_box" (defArgs s__law_box) (defBody s__law_box) (defScope s__law_box) .none kV doc pm an cdv ct) ⟨us, []⟩ = pure ((["_law_script", "_law_k"] : List Str).zip us) :=
  match us, hl with | [_, _], _ => rfl
section
variable {P : Program} {w : World} {K : PySem.W.Frag} {mg : Str → Option Value} {base : Heap}
theorem ok_cell_at {k : Nat} (D : Df K mg "_law_cell_at" s__law_cell_at) (T : Bt mg) : Ok P w K mg base (k + 1) "_law_cell_at" s__law_cell_at ["_law_script", "_law_k"] (spCellAt K) := by
  refine D.ok sc__law_cell_at b__law_cell_at (fun vs H Q E h => ?_) (fun f cdv A outer s H vs Q E hr h => ?_)
  · obtain ⟨l, ns, j, rfl, _⟩ := h
    rfl
  · obtain ⟨l, ns, j, rfl, hs, q⟩ := h
    refine ⟨_, (pss_cons (ps_if (pt_cmpR op_lt (pv 1) (pe_callB call_len_seq (by rfl) T.len_ PySem.boot_len (pa_cons (pv 0) pa_nil)) (nomark _))
        (pss_one (ps_ret (pe_ix ix_lt (pv 0) (pv 1) (fun _ _ => rfl))))
        pss_nil)
      (pss_one (ps_ret pe_int))), ?_⟩
    refine ⟨_, rfl, _, rfl, l, _, rfl, .inl hs, _, _, rfl, rfl, _, rfl, ite2 (fun c => ?_) (fun c => ?_)⟩
    · have c0 : (j : Int) < ((ns.map V.int).length : Int) := of_decide_eq_true c
      rw [List.length_map] at c0
      have c1 : j < ns.length := by omega
      refine ⟨_, rfl, _, rfl, l, _, _, .int ns[j], rfl, rfl, .inl hs, at_nat rfl (by simp [c1]), q _⟩
    · exact q 0
theorem ok_box {k : Nat} (D : Df K mg "_law_box" s__law_box) (T : Bt mg) (O__law_cell_at : Ok P w K mg base k "_law_cell_at" s__law_cell_at ["_law_script", "_law_k"] (spCellAt K)) : Ok P w K mg base (k + 1) "_law_box" s__law_box ["_law_script", "_law_k"] (spBox K) := by
  refine D.ok sc__law_box b__law_box (fun vs H Q E h => ?_) (fun f cdv A outer s H vs Q E hr h => ?_)
  · obtain ⟨l, ns, j, rfl, _⟩ := h
    rfl
  · obtain ⟨l, ns, j, rfl, hj, hs, q⟩ := h
    refine ⟨_, (pss_cons (ps_set (i := 2) sc__law_box.nd rfl (.inl rfl) (pe_fn O__law_cell_at (hr.mono (by omega)) (pa_cons (pv 0) (pa_cons (pv 1) pa_nil))))
      (pss_one (ps_ret (pe_lst (pa_cons (pe_op op_mul (pe_callB call_abs (by rfl) T.abs_ (by decide +kernel) (pa_cons (pv 2) pa_nil)) (pe_callTy call_int1 (by rfl) T.int_ (by decide +kernel) (pa_cons (pe_cmpR op_ge (pe_callB call_abs (by rfl) T.abs_ (by decide +kernel) (pa_cons (pv 2) pa_nil)) (pe_op (op_powC 1000000000000000000) pe_int pe_int) (nomark _)) pa_nil))) (pa_cons (pe_op op_add (pe_op op_add (pe_op op_mod (pv 2) pe_int) (pe_op op_mul pe_int (pv 1))) pe_int) (pa_cons pe_int pa_nil))))))), ?_⟩
    refine ⟨_, rfl, _, rfl, l, ns, j, rfl, hs, fun z => ?_⟩
    have z1 : 0 ≤ z % 2305843009213693951 := Int.emod_nonneg _ (by decide)
    have z2 : z % 2305843009213693951 < 2305843009213693951 := Int.emod_lt_of_pos _ (by decide)
    have za : 0 ≤ (if z < 0 then -z else z) := by split <;> omega
    refine ⟨_, rfl, z, rfl, _, rfl, z, rfl, 10, 18, rfl, rfl, ⟨⟨by decide, by decide, by decide⟩, by decide⟩, _, _, rfl, rfl, .inr ⟨_, rfl, ?_⟩⟩
    refine ⟨_, _, rfl, rfl, .inr (b01' _), ?_⟩
    refine ⟨_, rfl, z, _, rfl, rfl, (show (0 : Int) < 2305843009213693951 by decide), _, rfl, 39373, (j : Int), rfl, rfl, .inl ⟨by decide, by decide⟩, _, _, rfl, rfl, _, 17, rfl, rfl, ?_⟩
    refine ⟨(by show 3 ≤ sizeLine; decide), fun p np => ?_⟩
    refine q p _ np ⟨_, _, 0, rfl, ?_, by omega, by omega, by omega, by omega⟩
    exact Int.mul_nonneg za (b01 _)
end
/-! ### one of some -/
def spOf (K : PySem.W.Frag) : Sp := fun vs H Q _ => ∃ (b l : Addr) (n : Nat) (xs : List V), vs = [.ref b, .ref l] ∧ SqA K H l xs ∧ l ≠ b ∧ 0 < xs.length ∧ xs.length < 1000000 ∧ BoxAt H b (n + 1) ∧ ∀ (v : V) (ys : List V), v ∈ xs → BoxOk ys n → Q v (upd H b (.lst ys))
abbrev s__law_of : Stmt := topS 35
theorem sc__law_of : FnScope (["_law_box_here", "_law_some"] : List Str) (["_law_box_here", "_law_some"] : List Str) (defScope s__law_of) := ⟨rfl, rfl, rfl, by decide +kernel, rfl, by decide +kernel, by decide +kernel⟩
theorem b__law_of (kV doc pm : Value) (an : Option Addr) (cdv ct : Value) (us : List Value) (hl : us.length = (["_law_box_here", "_law_some"] : List Str).length) : bindArgs (PySem.W.fnOf "_law_of" "_law_of" (defArgs s__law_of) (defBody s__law_of) (defScope s__law_of) .none kV doc pm an cdv ct) ⟨us, []⟩ = pure ((["_law_box_here", "_law_some"] : List Str).zip us) :=
  match us, hl with | [_, _], _ => rfl
section
variable {P : Program} {w : World} {K : PySem.W.Frag} {mg : Str → Option Value} {base : Heap}
theorem ok_of {k : Nat} (D : Df K mg "_law_of" s__law_of) (T : Bt mg) (O__law_take : Ok P w K mg base k "_law_take" s__law_take ["_law_box_here", "_law_span"] spTake) : Ok P w K mg base (k + 1) "_law_of" s__law_of ["_law_box_here", "_law_some"] (spOf K) := by
  refine D.ok sc__law_of b__law_of (fun vs H Q E h => ?_) (fun f cdv A outer s H vs Q E hr h => ?_)
  · obtain ⟨b, l, n, xs, rfl, _⟩ := h
    rfl
  · obtain ⟨b, l, n, xs, rfl, hl, hne, l0, l1, hb, q⟩ := h
    refine ⟨_, (pss_one (ps_ret (pe_ix ix_lt (pv 1) (pe_fn O__law_take (hr.mono (by omega)) (pa_cons (pv 0) (pa_cons (pe_callB call_len_seq (by rfl) T.len_ PySem.boot_len (pa_cons (pv 1) pa_nil)) pa_nil))) (fun _ _ => rfl)))), ?_⟩
    refine ⟨_, rfl, _, rfl, _, rfl, l, xs, rfl, hl, b, n, _, rfl, by omega, by omega, hb, fun v ys v0 v1 hy => ?_⟩
    have hi : v.toNat < xs.length := by omega
    refine ⟨l, xs, v, xs[v.toNat], rfl, rfl, SqA.at hne hl, at_nat (j := v.toNat) (by omega) (by simp [hi]), ?_⟩
    exact q _ _ (List.getElem_mem hi) hy
end
end Sh

namespace Sh
open PySem PySem.Spec PyProof.Rows L2
/-! ### what is told is what is due -/
def tyS : PyData → String
  | .none => "NoneType" | .bool _ => "bool" | .int _ => "int" | .str _ => "str" | .list _ => "list" | .tuple _ => "tuple" | .dict _ => "dict"
/-- at most so deep, no longer than a hundred thousand -/
def Lv : Nat → PyData → Prop
  | 0, _ => False
  | _ + 1, .none => True
  | _ + 1, .bool _ => True
  | _ + 1, .int _ => True
  | _ + 1, .str _ => True
  | n + 1, .list ds => ds.length ≤ 100000 ∧ ∀ e ∈ ds, Lv n e
  | n + 1, .tuple ds => ds.length ≤ 100000 ∧ ∀ e ∈ ds, Lv n e
  | _ + 1, .dict _ => False
theorem lv_ints {n : Nat} (ns : List Int) (h : ns.length ≤ 100000) : Lv (n + 2) (.list (ns.map .int)) := ⟨by rw [List.length_map]; exact h, fun e he => by
  obtain ⟨i, _, rfl⟩ := List.mem_map.mp he
  exact trivial⟩
theorem lv_intsT {n : Nat} (ns : List Int) (h : ns.length ≤ 100000) : Lv (n + 2) (.tuple (ns.map .int)) := ⟨by rw [List.length_map]; exact h, fun e he => by
  obtain ⟨i, _, rfl⟩ := List.mem_map.mp he
  exact trivial⟩
section
variable {K : PySem.W.Frag} {H : Hp}
theorem ty_list {a : Addr} {xs : List V} (h : SqL K H a xs) : TyX K H (.ref a) (.type "list") := by
  rcases h with (h | ⟨o, h⟩) | ⟨o, its, n, h, c, _⟩
  · exact .base (.lst h)
  · exact .base (.frz h)
  · exact .kList h c
theorem ty_tup {a : Addr} {xs : List V} (h : SqT K H a xs) : TyX K H (.ref a) (.type "tuple") := by
  rcases h with (h | ⟨o, h⟩) | ⟨o, its, n, h, c, _⟩
  · exact .base (.tup h)
  · exact .fTuple h
  · exact .kTuple h c
theorem ty_of {v : V} {d : PyData} (h : Dp K H v d) : TyX K H v (.type (tyS d)) := by
  cases h with
  | non => exact .base .non
  | bl b => exact .base (.bl b)
  | int i => exact .base (.int i)
  | str x => exact .base (.str x)
  | lst h _ => exact ty_list h
  | tup h _ => exact ty_tup h
theorem kit2 {t a b : String} {r1 r2 r : Bool} (h1 : kitB t a = some r1) (h2 : kitB t b = some r2) (hr : (r1 || r2) = r) : PySem.W.kitAny K (.type t) [.type a, .type b] = some r := by
  refine kitAny_cons (b := r1) (kit_ty h1) (fun e => ?_) (fun e => ?_)
  · refine kitAny_cons (b := r2) (kit_ty h2) (fun e2 => ?_) (fun e2 => ?_)
    · rw [← hr, e, e2]
      exact kitAny_nil
    · rw [← hr, e, e2]
      all_goals rfl
  · rw [← hr, e]
    all_goals rfl
end
def spSame (K : PySem.W.Frag) (n : Nat) : Sp := fun vs H Q _ => ∃ (x y : V) (d : PyData), vs = [x, y] ∧ Dp K H x d ∧ Dp K H y d ∧ Lv n d ∧ ∀ H', Same H H' → Q (.bl true) H'
abbrev s__law_same : Stmt := topS 36
theorem sc__law_same : FnScope (["_law_found", "_law_due", "_law_a", "_law_b"] : List Str) (["_law_found", "_law_due"] : List Str) (defScope s__law_same) := ⟨rfl, rfl, rfl, by decide +kernel, rfl, by decide +kernel, by decide +kernel⟩
theorem b__law_same (kV doc pm : Value) (an : Option Addr) (cdv ct : Value) (us : List Value) (hl : us.length = (["_law_found", "_law_due"] : List Str).length) : bindArgs (PySem.W.fnOf "_law_same" "_law_same" (defArgs s__law_same) (defBody s__law_same) (defScope s__law_same) .none kV doc pm an cdv ct) ⟨us, []⟩ = pure ((["_law_found", "_law_due"] : List Str).zip us) :=
  match us, hl with | [_, _], _ => rfl
section
variable {P : Program} {w : World} {K : PySem.W.Frag} {mg : Str → Option Value} {base : Heap}
theorem same0 (D : Df K mg "_law_same" s__law_same) : Ok P w K mg base 0 "_law_same" s__law_same ["_law_found", "_law_due"] (spSame K 0) := by
  obtain ⟨f, fd, F, g⟩ := D.ex
  refine ⟨f, fd, F, g, F.binds b__law_same, ⟨fun vs H Q E h => ?_, fun A outer s H args us vs Q E hr he hb hv h => ?_⟩⟩
  · obtain ⟨x, y, d, _, _, _, lv, _⟩ := h
    cases d <;> exact lv.elim
  · obtain ⟨x, y, d, _, _, _, lv, _⟩ := h
    cases d <;> exact lv.elim
set_option maxHeartbeats 4000000 in
theorem same1 {m : Nat} (D : Df K mg "_law_same" s__law_same) (T : Bt mg) (O__law_same : Ok P w K mg base m "_law_same" s__law_same ["_law_found", "_law_due"] (spSame K m)) : Ok P w K mg base (m + 1) "_law_same" s__law_same ["_law_found", "_law_due"] (spSame K (m + 1)) := by
  refine D.ok sc__law_same b__law_same (fun vs H Q E h => ?_) (fun f cdv A outer s H vs Q E hr h => ?_)
  · obtain ⟨x, y, d, rfl, _⟩ := h
    rfl
  · obtain ⟨x, y, d, rfl, hx, hy, lv, q⟩ := h
    refine ⟨_, (pss_cons (ps_if (pt_val (pe_callB call_isiT (by rfl) T.isinstance_ (by decide +kernel) (pa_cons (pv 1) (pa_cons (pe_tup (pa_cons (pe_bltn (v := .ty "list") (by rfl) T.list_ (by decide +kernel) rfl) (pa_cons (pe_bltn (v := .ty "tuple") (by rfl) T.tuple_ (by decide +kernel) rfl) pa_nil))) pa_nil))))
        (pss_cons (ps_if (PW.pt (pw_or (pt_cmpR op_ne (pe_callB call_isi (by rfl) T.isinstance_ (by decide +kernel) (pa_cons (pv 0) (pa_cons (pe_bltn (v := .ty "list") (by rfl) T.list_ (by decide +kernel) rfl) pa_nil))) (pe_callB call_isi (by rfl) T.isinstance_ (by decide +kernel) (pa_cons (pv 1) (pa_cons (pe_bltn (v := .ty "list") (by rfl) T.list_ (by decide +kernel) rfl) pa_nil))) (nomark _)) (pw_or1 (pt_cmpR op_ne (pe_callB call_isi (by rfl) T.isinstance_ (by decide +kernel) (pa_cons (pv 0) (pa_cons (pe_bltn (v := .ty "tuple") (by rfl) T.tuple_ (by decide +kernel) rfl) pa_nil))) (pe_callB call_isi (by rfl) T.isinstance_ (by decide +kernel) (pa_cons (pv 1) (pa_cons (pe_bltn (v := .ty "tuple") (by rfl) T.tuple_ (by decide +kernel) rfl) pa_nil))) (nomark _)))))
            (pss_one (ps_ret pe_bl))
            pss_nil)
          (pss_one (ps_ret (pe_and (pe_cmpR op_eq (pe_callB call_len_seq (by rfl) T.len_ PySem.boot_len (pa_cons (pv 0) pa_nil)) (pe_callB call_len_seq (by rfl) T.len_ PySem.boot_len (pa_cons (pv 1) pa_nil)) (nomark _)) (pe_one (pe_callB (cr_all rfl) (by rfl) T.all_ (by decide +kernel) (pa_cons (pe_lc (own := [("_law_a", 2), ("_law_b", 3)]) (g := (gSeq K 2 (gCons (gName 2) (gCons (gName 3) gNil)))) (tt := tYes) (by rfl) sc__law_same.nd (RZ.pi_zipA (by rfl) T.zip_ (pa_cons (pv 0) (pa_cons (pv 1) pa_nil))) (blkOk_by (own := [("_law_a", 2), ("_law_b", 3)]) (N := (["_law_found", "_law_due", "_law_a", "_law_b"] : List Str)) (sc := defScope s__law_same) (by decide +kernel)) (fun _ _ _ _ _ => (pg_seq rfl (pgs_cons (pg_name (i := 2) sc__law_same.nd rfl (.inl rfl)) (pgs_cons (pg_name (i := 3) sc__law_same.nd rfl (.inl rfl)) pgs_nil)))) (fun _ _ _ _ _ => pts_nil) (fun _ _ _ _ _ => (pe_fn O__law_same (hr.mono (by omega)) (pa_cons (pv 2) (pa_cons (pv 3) pa_nil))))) pa_nil)))))))
        pss_nil)
      (pss_cons (ps_if (PW.pt (pw_or (pt_cmpR op_isN (pv 1) pe_non (nomark _)) (pw_or1 (pt_val (pe_callB call_isiT (by rfl) T.isinstance_ (by decide +kernel) (pa_cons (pv 1) (pa_cons (pe_tup (pa_cons (pe_bltn (v := .ty "bool") (by rfl) T.bool_ (by decide +kernel) rfl) (pa_cons (pe_bltn (v := .ty "str") (by rfl) T.str_ (by decide +kernel) rfl) pa_nil))) pa_nil)))))))
        (pss_one (ps_ret (pe_and (pe_cmpR op_eq (pv 0) (pv 1) (nomark _)) (pe_and (pe_cmpR op_eq (pe_callB call_isi (by rfl) T.isinstance_ (by decide +kernel) (pa_cons (pv 0) (pa_cons (pe_bltn (v := .ty "bool") (by rfl) T.bool_ (by decide +kernel) rfl) pa_nil))) (pe_callB call_isi (by rfl) T.isinstance_ (by decide +kernel) (pa_cons (pv 1) (pa_cons (pe_bltn (v := .ty "bool") (by rfl) T.bool_ (by decide +kernel) rfl) pa_nil))) (nomark _)) (pe_one (pe_cmpR op_eq (pe_cmpR op_isN (pv 0) pe_non (nomark _)) (pe_cmpR op_isN (pv 1) pe_non (nomark _)) (nomark _)))))))
        pss_nil)
      (pss_one (ps_ret (pe_and (pe_callB call_isi (by rfl) T.isinstance_ (by decide +kernel) (pa_cons (pv 0) (pa_cons (pe_bltn (v := .ty "int") (by rfl) T.int_ (by decide +kernel) rfl) pa_nil))) (pe_and (pe_not (pe_callB call_isi (by rfl) T.isinstance_ (by decide +kernel) (pa_cons (pv 0) (pa_cons (pe_bltn (v := .ty "bool") (by rfl) T.bool_ (by decide +kernel) rfl) pa_nil)))) (pe_one (pe_cmpR op_eq (pv 0) (pv 1) (nomark _))))))))), ?_⟩
    refine ⟨_, rfl, (by show 2 ≤ sizeLine; decide), fun tp ntp => ?_⟩
    have s1 : Same H (upd H tp (.tup [.ty "list", .ty "tuple"])) := same_new ntp
    generalize eH1 : upd H tp (.tup [.ty "list", .ty "tuple"]) = H1 at s1
    have htp : H1 tp = some (.tup [.ty "list", .ty "tuple"]) := by rw [← eH1, upd_same]
    clear eH1 ntp
    cases d with
    | dict kvs => exact lv.elim
    | list ds =>
      obtain ⟨a, xs, hsx, hax⟩ : ∃ a xs, SqL K H1 a xs ∧ DpAll K H1 xs ds ∧ x = .ref a := by cases hx with | lst h a => exact ⟨_, _, s1.seq h, DpAll.same s1 a, rfl⟩
      obtain ⟨b, ys, hsy, hay⟩ : ∃ a xs, SqL K H1 a xs ∧ DpAll K H1 xs ds ∧ y = .ref a := by cases hy with | lst h a => exact ⟨_, _, s1.seq h, DpAll.same s1 a, rfl⟩
      obtain ⟨hax, rfl⟩ := hax
      obtain ⟨hay, rfl⟩ := hay
      have lx : xs.length = ds.length := DpAll.len hax
      have ly : ys.length = ds.length := DpAll.len hay
      refine ⟨.ref b, tp, [.ty "list", .ty "tuple"], .type "list", [.type "list", .type "tuple"], true, rfl, htp, .cons (.ty _) (.cons (.ty _) .nil), ty_list hsy, kit2 (r1 := true) (r2 := false) (by decide +kernel) (by decide +kernel) rfl, _, rfl, iteT ?_⟩
      refine ⟨_, rfl, .ref a, .ty "list", .type "list", .type "list", true, rfl, .ty _, ty_list hsx, kit_ty (by decide +kernel), _, rfl, .ref b, .ty "list", .type "list", .type "list", true, rfl, .ty _, ty_list hsy, kit_ty (by decide +kernel), rfl, _, rfl, iteNS rfl ?_⟩
      refine ⟨_, rfl, .ref a, .ty "tuple", .type "list", .type "tuple", false, rfl, .ty _, ty_list hsx, kit_ty (by decide +kernel), _, rfl, .ref b, .ty "tuple", .type "list", .type "tuple", false, rfl, .ty _, ty_list hsy, kit_ty (by decide +kernel), rfl, _, rfl, iteNS rfl ?_⟩
      refine ⟨_, rfl, a, xs, rfl, .inl hsx, _, rfl, b, ys, rfl, .inl hsy, rfl, _, rfl, ?_⟩
      rw [if_pos (decide_eq_true (by rw [lx, ly]))]
      refine ⟨_, rfl, _, rfl, a, b, xs, ys, rfl, .inl ⟨hsx, hsy, fun C nC => ?_⟩⟩
      refine lc_it (walk_zip (n := ds.length) (by rw [lx, ly]; exact (Nat.min_self _).symm)) (fun i H' => Same H1 H' ∧ H' C = some (.lst ((List.replicate i true).map V.bl))) ⟨same_new nC, upd_same⟩ (fun i H' _ p => ⟨p.1.seq hsx, p.1.seq hsy⟩) ?_ ?_
      · rintro i z H2 H3 hi ⟨sm, hC⟩ ⟨t, u, v, rfl, nt, rfl, gu, gv⟩
        have sm2 : Same H1 (upd H2 t (.tup [u, v])) := sm.trans (same_new nt)
        obtain ⟨e, ge, he⟩ := DpAll.get (DpAll.same sm2 hax) gu
        obtain ⟨e', ge', he'⟩ := DpAll.get (DpAll.same sm2 hay) gv
        obtain rfl : e = e' := Option.some.inj (ge.symm.trans ge')
        refine ⟨t, [u, v], rfl, SqA.t upd_same, rfl, u, [v], rfl, v, [], rfl, rfl, rfl, tyes (iteT ?_)⟩
        refine ⟨_, rfl, _, rfl, u, v, e, rfl, he, he', lv.2 e (List.mem_of_getElem? ge), fun H4 s4 => ?_⟩
        refine ⟨_, s4 _ _ (by rw [upd_ne (ne_of_none hC nt)]; exact hC), ?_, fun p o ho => ?_, ?_⟩
        · have h1 := lv.1
          rw [List.length_map, List.length_replicate]
          exact Nat.lt_of_lt_of_le hi (Nat.le_trans h1 (by decide))
        · have np : p ≠ C := ne_of_none ho nC
          rw [upd_ne np]
          exact s4 _ _ (sm2 _ _ ho)
        · rw [upd_same, List.replicate_succ', List.map_append]
          rfl
      · rintro H2 ⟨sm, hC⟩
        refine ⟨C, _, rfl, SqL.of hC, ?_⟩
        have e : (List.replicate ds.length true).all id = true := by simp
        rw [e]
        exact q _ (s1.trans sm)
    | tuple ds =>
      obtain ⟨a, xs, hsx, hax⟩ : ∃ a xs, SqT K H1 a xs ∧ DpAll K H1 xs ds ∧ x = .ref a := by cases hx with | tup h a => exact ⟨_, _, Same.tup s1 h, DpAll.same s1 a, rfl⟩
      obtain ⟨b, ys, hsy, hay⟩ : ∃ a xs, SqT K H1 a xs ∧ DpAll K H1 xs ds ∧ y = .ref a := by cases hy with | tup h a => exact ⟨_, _, Same.tup s1 h, DpAll.same s1 a, rfl⟩
      obtain ⟨hax, rfl⟩ := hax
      obtain ⟨hay, rfl⟩ := hay
      have lx : xs.length = ds.length := DpAll.len hax
      have ly : ys.length = ds.length := DpAll.len hay
      refine ⟨.ref b, tp, [.ty "list", .ty "tuple"], .type "tuple", [.type "list", .type "tuple"], true, rfl, htp, .cons (.ty _) (.cons (.ty _) .nil), ty_tup hsy, kit2 (r1 := false) (r2 := true) (by decide +kernel) (by decide +kernel) rfl, _, rfl, iteT ?_⟩
      refine ⟨_, rfl, .ref a, .ty "list", .type "tuple", .type "list", false, rfl, .ty _, ty_tup hsx, kit_ty (by decide +kernel), _, rfl, .ref b, .ty "list", .type "tuple", .type "list", false, rfl, .ty _, ty_tup hsy, kit_ty (by decide +kernel), rfl, _, rfl, iteNS rfl ?_⟩
      refine ⟨_, rfl, .ref a, .ty "tuple", .type "tuple", .type "tuple", true, rfl, .ty _, ty_tup hsx, kit_ty (by decide +kernel), _, rfl, .ref b, .ty "tuple", .type "tuple", .type "tuple", true, rfl, .ty _, ty_tup hsy, kit_ty (by decide +kernel), rfl, _, rfl, iteNS rfl ?_⟩
      refine ⟨_, rfl, a, xs, rfl, .inr hsx, _, rfl, b, ys, rfl, .inr hsy, rfl, _, rfl, ?_⟩
      rw [if_pos (decide_eq_true (by rw [lx, ly]))]
      refine ⟨_, rfl, _, rfl, a, b, xs, ys, rfl, .inr ⟨hsx, hsy, fun C nC => ?_⟩⟩
      refine lc_it (walk_zipT (n := ds.length) (by rw [lx, ly]; exact (Nat.min_self _).symm)) (fun i H' => Same H1 H' ∧ H' C = some (.lst ((List.replicate i true).map V.bl))) ⟨same_new nC, upd_same⟩ (fun i H' _ p => ⟨Same.tup p.1 hsx, Same.tup p.1 hsy⟩) ?_ ?_
      · rintro i z H2 H3 hi ⟨sm, hC⟩ ⟨t, u, v, rfl, nt, rfl, gu, gv⟩
        have sm2 : Same H1 (upd H2 t (.tup [u, v])) := sm.trans (same_new nt)
        obtain ⟨e, ge, he⟩ := DpAll.get (DpAll.same sm2 hax) gu
        obtain ⟨e', ge', he'⟩ := DpAll.get (DpAll.same sm2 hay) gv
        obtain rfl : e = e' := Option.some.inj (ge.symm.trans ge')
        refine ⟨t, [u, v], rfl, SqA.t upd_same, rfl, u, [v], rfl, v, [], rfl, rfl, rfl, tyes (iteT ?_)⟩
        refine ⟨_, rfl, _, rfl, u, v, e, rfl, he, he', lv.2 e (List.mem_of_getElem? ge), fun H4 s4 => ?_⟩
        refine ⟨_, s4 _ _ (by rw [upd_ne (ne_of_none hC nt)]; exact hC), ?_, fun p o ho => ?_, ?_⟩
        · have h1 := lv.1
          rw [List.length_map, List.length_replicate]
          exact Nat.lt_of_lt_of_le hi (Nat.le_trans h1 (by decide))
        · have np : p ≠ C := ne_of_none ho nC
          rw [upd_ne np]
          exact s4 _ _ (sm2 _ _ ho)
        · rw [upd_same, List.replicate_succ', List.map_append]
          rfl
      · rintro H2 ⟨sm, hC⟩
        refine ⟨C, _, rfl, SqL.of hC, ?_⟩
        have e : (List.replicate ds.length true).all id = true := by simp
        rw [e]
        exact q _ (s1.trans sm)
    | int i =>
      cases hx; cases hy
      refine ⟨.int i, tp, [.ty "list", .ty "tuple"], .type "int", [.type "list", .type "tuple"], false, rfl, htp, .cons (.ty _) (.cons (.ty _) .nil), .base (.int i), kit2 (r1 := false) (r2 := false) (by decide +kernel) (by decide +kernel) rfl, _, rfl, iteF ?_⟩
      refine ⟨_, rfl, rfl, _, rfl, iteF ?_⟩
      refine ⟨_, rfl, (by show 2 ≤ sizeLine; decide), fun tq ntq => ?_⟩
      refine ⟨.int i, tq, [.ty "bool", .ty "str"], .type "int", [.type "bool", .type "str"], false, rfl, upd_same, .cons (.ty _) (.cons (.ty _) .nil), .base (.int i), kit2 (r1 := false) (r2 := false) (by decide +kernel) (by decide +kernel) rfl, _, rfl, iteF ?_⟩
      refine ⟨_, rfl, .int i, .ty "int", .type "int", .type "int", true, rfl, .ty _, .base (.int i), kit_ty (by decide +kernel), _, rfl, iteT ?_⟩
      refine ⟨_, rfl, .int i, .ty "bool", .type "int", .type "bool", false, rfl, .ty _, .base (.int i), kit_ty (by decide +kernel), _, rfl, _, rfl, iteT ?_⟩
      refine ⟨_, rfl, _, rfl, rfl, ?_⟩
      rw [decide_eq_true rfl]
      exact q _ (s1.trans (same_new ntq))
    | none =>
      cases hx; cases hy
      refine ⟨.non, tp, [.ty "list", .ty "tuple"], .type "NoneType", [.type "list", .type "tuple"], false, rfl, htp, .cons (.ty _) (.cons (.ty _) .nil), .base .non, kit2 (r1 := false) (r2 := false) (by decide +kernel) (by decide +kernel) rfl, _, rfl, iteF ?_⟩
      refine ⟨_, rfl, rfl, _, rfl, iteT (iteT ?_)⟩
      refine ⟨_, rfl, _, rfl, rfl, _, rfl, iteT ?_⟩
      refine ⟨_, rfl, .non, .ty "bool", .type "NoneType", .type "bool", false, rfl, .ty _, .base .non, kit_ty (by decide +kernel), _, rfl, .non, .ty "bool", .type "NoneType", .type "bool", false, rfl, .ty _, .base .non, kit_ty (by decide +kernel), rfl, _, rfl, iteT ?_⟩
      refine ⟨_, rfl, rfl, _, rfl, rfl, rfl, ?_⟩
      exact q _ s1
    | bool c =>
      cases hx; cases hy
      refine ⟨.bl c, tp, [.ty "list", .ty "tuple"], .type "bool", [.type "list", .type "tuple"], false, rfl, htp, .cons (.ty _) (.cons (.ty _) .nil), .base (.bl c), kit2 (r1 := false) (r2 := false) (by decide +kernel) (by decide +kernel) rfl, _, rfl, iteF ?_⟩
      refine ⟨_, rfl, rfl, _, rfl, iteF ?_⟩
      refine ⟨_, rfl, (by show 2 ≤ sizeLine; decide), fun tq ntq => ?_⟩
      refine ⟨.bl c, tq, [.ty "bool", .ty "str"], .type "bool", [.type "bool", .type "str"], true, rfl, upd_same, .cons (.ty _) (.cons (.ty _) .nil), .base (.bl c), kit2 (r1 := true) (r2 := false) (by decide +kernel) (by decide +kernel) rfl, _, rfl, iteT ?_⟩
      refine ⟨_, rfl, _, rfl, rfl, _, rfl, ?_⟩
      rw [if_pos (decide_eq_true rfl)]
      refine ⟨_, rfl, .bl c, .ty "bool", .type "bool", .type "bool", true, rfl, .ty _, .base (.bl c), kit_ty (by decide +kernel), _, rfl, .bl c, .ty "bool", .type "bool", .type "bool", true, rfl, .ty _, .base (.bl c), kit_ty (by decide +kernel), rfl, _, rfl, iteT ?_⟩
      refine ⟨_, rfl, rfl, _, rfl, rfl, rfl, ?_⟩
      exact q _ (s1.trans (same_new ntq))
    | str c =>
      cases hx; cases hy
      refine ⟨.str c, tp, [.ty "list", .ty "tuple"], .type "str", [.type "list", .type "tuple"], false, rfl, htp, .cons (.ty _) (.cons (.ty _) .nil), .base (.str c), kit2 (r1 := false) (r2 := false) (by decide +kernel) (by decide +kernel) rfl, _, rfl, iteF ?_⟩
      refine ⟨_, rfl, rfl, _, rfl, iteF ?_⟩
      refine ⟨_, rfl, (by show 2 ≤ sizeLine; decide), fun tq ntq => ?_⟩
      refine ⟨.str c, tq, [.ty "bool", .ty "str"], .type "str", [.type "bool", .type "str"], true, rfl, upd_same, .cons (.ty _) (.cons (.ty _) .nil), .base (.str c), kit2 (r1 := false) (r2 := true) (by decide +kernel) (by decide +kernel) rfl, _, rfl, iteT ?_⟩
      refine ⟨_, rfl, _, rfl, rfl, _, rfl, ?_⟩
      rw [if_pos (decide_eq_true rfl)]
      refine ⟨_, rfl, .str c, .ty "bool", .type "str", .type "bool", false, rfl, .ty _, .base (.str c), kit_ty (by decide +kernel), _, rfl, .str c, .ty "bool", .type "str", .type "bool", false, rfl, .ty _, .base (.str c), kit_ty (by decide +kernel), rfl, _, rfl, iteT ?_⟩
      refine ⟨_, rfl, rfl, _, rfl, rfl, rfl, ?_⟩
      exact q _ (s1.trans (same_new ntq))
theorem ok_same (D : Df K mg "_law_same" s__law_same) (T : Bt mg) : ∀ m : Nat, Ok P w K mg base m "_law_same" s__law_same ["_law_found", "_law_due"] (spSame K m)
  | 0 => same0 D
  | m + 1 => same1 D T (ok_same D T m)
end
end Sh

namespace Sh
open PySem PySem.Spec PyProof.Rows L2
/-! ### a drawn sea -/
theorem But.put {b p : Addr} {H H' : Hp} {o : HO} (h : But b H H') (n : H p = none) : But b H (upd H' p o) := fun a x na e => by
  rw [upd_ne (ne_of_none e n)]
  exact h a x na e
theorem But.box {b : Addr} {H H' : Hp} {o : HO} (h : But b H H') : But b H (upd H' b o) := fun a x na e => by
  rw [upd_ne na]
  exact h a x na e
theorem BoxAt.put {H : Hp} {b : Addr} {n : Nat} {xs : List V} (h : BoxOk xs n) : BoxAt (upd H b (.lst xs)) b n := ⟨xs, upd_same, h⟩
theorem BoxAt.at {H : Hp} {b p : Addr} {n : Nat} {o : HO} (h : BoxAt H b n) (ne : b ≠ p) : BoxAt (upd H p o) b n := let ⟨xs, e, k⟩ := h; ⟨xs, by rw [upd_ne ne]; exact e, k⟩
structure SeaOk (most : Nat) (h t : Int) (ds : List Int) : Prop where
  h0 : 0 ≤ h
  h1 : h ≤ 1000000000000
  t0 : 0 ≤ t
  t1 : t ≤ 1000000000000
  l0 : 0 < ds.length
  l1 : ds.length ≤ most
  d0 : ∀ d ∈ ds, 0 ≤ d ∧ d ≤ 1000000000000
def spSea : Sp := fun vs H Q _ => ∃ (b : Addr) (n most : Nat), vs = [.ref b, .int (most : Int)] ∧ 0 < most ∧ most ≤ 60 ∧ BoxAt H b (n + 200) ∧
  ∀ (H' : Hp) (p q : Addr) (h t : Int) (ds : List Int), But b H H' → BoxAt H' b n → H p = none → H q = none → H' p = some (.tup [.int h, .int t, .ref q]) → H' q = some (.tup (ds.map V.int)) → SeaOk most h t ds → Q (.ref p) H'
section
variable {P : Program} {w : World} {K : PySem.W.Frag} {mg : Str → Option Value} {base : Heap}
/-- a new object, a draw: what stands, stands -/
theorem al {b p : Addr} {H Hc : Hp} {n : Nat} {o : HO} (u : But b H Hc) (x : BoxAt Hc b n) (np : Hc p = none) : But b H (upd Hc p o) ∧ BoxAt (upd Hc p o) b n ∧ upd Hc p o p = some o ∧ p ≠ b :=
  ⟨fun a z na e => by rw [upd_ne (ne_of_none (u a z na e) np)]; exact u a z na e, x.at (x.ne np), upd_same, (x.ne np).symm⟩
theorem tk {b : Addr} {H Hc : Hp} {n : Nat} {ys : List V} (u : But b H Hc) (y : BoxOk ys n) : But b H (upd Hc b (.lst ys)) ∧ BoxAt (upd Hc b (.lst ys)) b n := ⟨u.box, .put y⟩
theorem But.free {b p : Addr} {H H' : Hp} (u : But b H H') (n : p ≠ b) (h : H' p = none) : H p = none := by
  cases e : H p with
  | none => rfl
  | some o =>
    rw [u p o n e] at h
    cases h
theorem two_of {ns : List Int} (h : ns.length = 2) : ∃ a b, ns = [a, b] := by
  match ns, h with
  | [a, b], _ => exact ⟨a, b, rfl⟩
theorem ints_mem {v : V} {ns : List Int} (h : v ∈ ns.map V.int) : ∃ i ∈ ns, v = .int i := by
  obtain ⟨i, hi, e⟩ := List.mem_map.mp h
  exact ⟨i, hi, e.symm⟩
theorem ne_box {H : Hp} {b p : Addr} {n : Nat} (h : BoxAt H b n) (z : H p = none) : p ≠ b := (h.ne z).symm
end
end Sh

namespace Sh
open PySem PySem.Spec PyProof.Rows L2
/-! ### what many laws ask -/
/-- a sea (list or tuple) is handed in -/
def SeaA (K : PySem.W.Frag) (H : Hp) (v : V) (h t : Int) (ds : List Int) : Prop := ∃ p q, v = .ref p ∧ SqA K H p [.int h, .int t, .ref q] ∧ SqA K H q (ds.map V.int)
theorem SeaA.same {K : PySem.W.Frag} {H H' : Hp} {v : V} {h t : Int} {ds : List Int} (s : SeaA K H v h t ds) (e : Same H H') : SeaA K H' v h t ds := let ⟨p, q, a, b, c⟩ := s; ⟨p, q, a, Same.sqA e b, Same.sqA e c⟩
theorem lay_ints : ∀ ns : List Int, PyData.canLayAll0 (ns.map .int) = true ∧ PyData.depthAll (ns.map .int) = 0
  | [] => ⟨rfl, rfl⟩
  | n :: ns => by
    obtain ⟨a, b⟩ := lay_ints ns
    constructor
    · show (PyData.canLay0 (.int n) && PyData.canLayAll0 (ns.map .int)) = true
      rw [a]
      rfl
    · show max (PyData.depth (.int n)) (PyData.depthAll (ns.map .int)) = 0
      rw [b]
      rfl
theorem shaped_ints (ns : List Int) : SeqAt.shaped (.list (ns.map .int)) = true := by
  obtain ⟨a, b⟩ := lay_ints ns
  unfold SeqAt.shaped
  rw [show PyData.canLay0 (.list (ns.map .int)) = PyData.canLayAll0 (ns.map .int) from rfl, show PyData.depth (.list (ns.map .int)) = PyData.depthAll (ns.map .int) + 1 from rfl, a, b]
  rfl
theorem flat_ints (ns : List Int) : (ns.map V.int).all flatV = true := by
  rw [List.all_map]
  exact List.all_eq_true.mpr fun _ _ => rfl
theorem same_over {H H1 : Hp} {p : Addr} {o : HO} (s : Same H H1) (n : H p = none) : Same H (upd H1 p o) := fun a x e => by
  rw [upd_ne (ne_of_none e n)]
  exact s _ _ e
end Sh

namespace Sh
open PySem PySem.Spec PyProof.Rows L2
/-! ### standings as lists of ships -/
def ni (L : List Nat) : List V := L.map fun (i : Nat) => V.int (i : Int)
theorem ni_len (L : List Nat) : (ni L).length = L.length := by unfold ni; simp
theorem ni_get {L : List Nat} {i : Nat} (h : i < L.length) : (ni L)[i]? = some (.int ((L[i] : Nat) : Int)) := by unfold ni; simp [h]
theorem ni_app (L M : List Nat) : ni (L ++ M) = ni L ++ ni M := by unfold ni; simp
theorem ni_ints (L : List Nat) : ni L = (L.map fun (i : Nat) => (i : Int)).map V.int := by unfold ni; simp
theorem ni_flat (L : List Nat) : (ni L).all flatV = true := by unfold ni; rw [List.all_map]; exact List.all_eq_true.mpr fun _ _ => rfl
/-- a rising lot of ships below c -/
structure Lot (c : Nat) (L : List Nat) : Prop where
  up : L.Pairwise (· < ·)
  lt : ∀ i ∈ L, i < c
theorem up_len : ∀ {L : List Nat} {lo c : Nat}, L.Pairwise (· < ·) → (∀ i ∈ L, lo ≤ i ∧ i < c) → L.length ≤ c - lo
  | [], _, _, _, _ => Nat.zero_le _
  | a :: r, lo, c, h, hb => by
    obtain ⟨h1, h2⟩ := List.pairwise_cons.mp h
    have ha := hb a List.mem_cons_self
    have := up_len (lo := a + 1) (c := c) h2 fun i hi => ⟨h1 i hi, (hb i (List.mem_cons_of_mem _ hi)).2⟩
    rw [List.length_cons]
    omega
theorem Lot.len {c : Nat} {L : List Nat} (h : Lot c L) : L.length ≤ c := up_len (lo := 0) h.up fun i hi => ⟨Nat.zero_le _, h.lt i hi⟩
theorem Lot.nil (c : Nat) : Lot c [] := ⟨.nil, fun _ h => by cases h⟩
theorem Lot.all (c : Nat) : Lot c (List.range c) := ⟨List.pairwise_lt_range, fun _ h => List.mem_range.mp h⟩
theorem Lot.filter {c : Nat} {L : List Nat} (h : Lot c L) (p : Nat → Bool) : Lot c (L.filter p) := ⟨h.up.filter p, fun i hi => h.lt i (List.mem_filter.mp hi).1⟩
theorem rgV_ni (n : Nat) : rgV 0 (n : Int) = ni (List.range n) := by
  unfold rgV ni
  rw [show ((n : Int) - 0).toNat = n by omega]
  refine List.map_congr_left fun i _ => ?_
  rw [Int.zero_add]
theorem dp_ni {K : PySem.W.Frag} {H : Hp} {a : Addr} {L : List Nat} (h : H a = some (.lst (ni L))) : Dp K H (.ref a) (.list ((L.map fun (i : Nat) => (i : Int)).map .int)) := by
  rw [ni_ints] at h
  exact .lst (SqL.of h) (DpAll.ints _)
end Sh

namespace Sh
open PySem PySem.Spec PyProof.Rows L2
/-! ### who may go -/
/-- how many others lie here -/
def near (L : List Nat) (i : Nat) : Nat := (L.filter fun j => !decide (j = i)).length
def mayB (h t : Int) (ds : List Int) (L : List Nat) (i : Nat) : Bool := decide (ds.getD i 0 ≤ h + (near L i : Int)) && decide (ds.getD i 0 ≤ t + (ds.length : Int) - 1 - (near L i : Int))
def lets (h t : Int) (ds : List Int) (L : List Nat) (n : Nat) : List Nat := (List.range n).filter (mayB h t ds L)
theorem filter_succ (p : Nat → Bool) (n : Nat) : (List.range (n + 1)).filter p = (List.range n).filter p ++ (if p n = true then [n] else []) := by
  rw [List.range_succ, List.filter_append]
  congr 1
  by_cases h : p n = true
  · rw [if_pos h, List.filter_cons_of_pos h]
    rfl
  · rw [if_neg h, List.filter_cons_of_neg h]
    rfl
theorem filter_len (p : Nat → Bool) (n : Nat) : ((List.range n).filter p).length ≤ n := Nat.le_trans (List.length_filter_le _ _) (by simp)
theorem take_succ_get {α : Type} {L : List α} {i : Nat} (h : i < L.length) : L.take (i + 1) = L.take i ++ [L[i]] := by rw [List.take_add_one, List.getElem?_eq_getElem h]; rfl
/-- a standing is handed in -/
def LotA (K : PySem.W.Frag) (H : Hp) (v : V) (L : List Nat) : Prop := ∃ p, v = .ref p ∧ SqA K H p (ni L)
theorem LotA.same {K : PySem.W.Frag} {H H' : Hp} {v : V} {L : List Nat} (s : LotA K H v L) (e : Same H H') : LotA K H' v L := let ⟨p, a, b⟩ := s; ⟨p, a, Same.sqA e b⟩
end Sh

namespace Sh
open PySem PySem.Spec PyProof.Rows L2
def spLets (K : PySem.W.Frag) : Sp := fun vs H Q _ => ∃ (v l : V) (h t : Int) (ds : List Int) (L : List Nat), vs = [v, l] ∧ SeaA K H v h t ds ∧ LotA K H l L ∧ ds.length ≤ 1000 ∧ L.length ≤ 1000 ∧
  ∀ (H' : Hp) (p : Addr), Same H H' → H p = none → H' p = some (.lst (ni (lets h t ds L ds.length))) → Q (.ref p) H'
abbrev s__law_lets : Stmt := topS 37
theorem sc__law_lets : FnScope (["_law_sea_here", "_law_lot", "_law_depth", "_law_other_depth", "_law_draughts", "_law_found", "_law_whom", "_law_deep", "_law_near", "_law_mate"] : List Str) (["_law_sea_here", "_law_lot"] : List Str) (defScope s__law_lets) := ⟨rfl, rfl, rfl, by decide +kernel, rfl, by decide +kernel, by decide +kernel⟩
theorem b__law_lets (kV doc pm : Value) (an : Option Addr) (cdv ct : Value) (us : List Value) (hl : us.length = (["_law_sea_here", "_law_lot"] : List Str).length) : bindArgs (PySem.W.fnOf "_law_lets" "_law_lets" (defArgs s__law_lets) (defBody s__law_lets) (defScope s__law_lets) .none kV doc pm an cdv ct) ⟨us, []⟩ = pure ((["_law_sea_here", "_law_lot"] : List Str).zip us) :=
  match us, hl with | [_, _], _ => rfl
section
variable {P : Program} {w : World} {K : PySem.W.Frag} {mg : Str → Option Value} {base : Heap}
theorem ok_lets {k : Nat} (D : Df K mg "_law_lets" s__law_lets) (T : Bt mg) : Ok P w K mg base (k + 1) "_law_lets" s__law_lets ["_law_sea_here", "_law_lot"] (spLets K) := by
  refine D.ok sc__law_lets b__law_lets (fun vs H Q E h => ?_) (fun f cdv A outer s H vs Q E hr h => ?_)
  · obtain ⟨v, l, h, t, ds, L, rfl, _⟩ := h
    rfl
  · obtain ⟨v, l, h, t, ds, L, rfl, ⟨p, q, rfl, hp, hq⟩, ⟨pl, rfl, hl⟩, d1, l1, k⟩ := h
    refine ⟨_, (pss_cons (ps_asg (pv 0) (pg_seq rfl (pgs_cons (pg_name (i := 2) sc__law_lets.nd rfl (.inl rfl)) (pgs_cons (pg_name (i := 3) sc__law_lets.nd rfl (.inl rfl)) (pgs_cons (pg_name (i := 4) sc__law_lets.nd rfl (.inl rfl)) pgs_nil)))))
      (pss_cons (ps_set (i := 5) sc__law_lets.nd rfl (.inl rfl) (pe_lst pa_nil))
      (pss_cons (ps_for PassesOwn.never rfl (pi_enumA (by rfl) T.enumerate_ (pa_cons (pv 4) pa_nil)) (pg_seq rfl (pgs_cons (pg_name (i := 6) sc__law_lets.nd rfl (.inr rfl)) (pgs_cons (pg_name (i := 7) sc__law_lets.nd rfl (.inl rfl)) pgs_nil)))
        (pss_cons (ps_set (i := 8) sc__law_lets.nd rfl (.inl rfl) (pe_callB call_len_seq (by rfl) T.len_ PySem.boot_len (pa_cons (pe_lc (own := [("_law_mate", 9)]) (g := (gName 9)) (by rfl) sc__law_lets.nd (pi_seq (pv 1)) (blkOk_by (own := [("_law_mate", 9)]) (N := (["_law_sea_here", "_law_lot", "_law_depth", "_law_other_depth", "_law_draughts", "_law_found", "_law_whom", "_law_deep", "_law_near", "_law_mate"] : List Str)) (sc := defScope s__law_lets) (by decide +kernel)) (fun _ _ _ _ _ => (pg_name (i := 9) sc__law_lets.nd rfl (.inl rfl))) (fun _ _ _ _ _ => (pts_one (pt_cmpR op_ne (pv 9) (pv 6) (nomark _)))) (fun _ _ _ _ _ => (pv 9))) pa_nil)))
          (pss_one (ps_if (PW.pt (pw_and (pt_cmpR op_le (pv 7) (pe_op op_add (pv 2) (pv 8)) (nomark _)) (pw_and1 (pt_cmpR op_le (pv 7) (pe_op op_sub (pe_op op_sub (pe_op op_add (pv 3) (pe_callB call_len_seq (by rfl) T.len_ PySem.boot_len (pa_cons (pv 4) pa_nil))) pe_int) (pv 8)) (nomark _)))))
            (pss_one (ps_expr (pe_bm PySem.F.plainAttrs_list PySem.F.slot_list_append PySem.F.type_list_append mt_append (pv 5) (pa_cons (pv 6) pa_nil))))
            pss_nil))))
      (pss_one (ps_ret (pv 5)))))), ?_⟩
    refine ⟨_, rfl, p, _, rfl, hp, rfl, _, _, rfl, _, _, rfl, _, _, rfl, rfl, ?_⟩
    refine ⟨Nat.zero_le _, fun F nF => ?_⟩
    have s1 : Same H (upd H F (.lst [])) := same_new nF
    refine ⟨_, rfl, q, _, H, rfl, hq, .ofS s1, fun J hJ => ?_⟩
    obtain ⟨G, g, W⟩ := hJ.walk
    refine for_it W (fun i σ H' => ∃ y6 y7 y8 y9 : Option V, σ = [some (.ref p), some (.ref pl), some (.int h), some (.int t), some (.ref q), some (.ref F), y6, y7, y8, y9] ∧ Same H H' ∧ H' F = some (.lst (ni (lets h t ds L i))))
      ⟨none, none, none, none, rfl, s1, upd_same⟩ (fun i σ H' _ ⟨_, _, _, _, _, z, _⟩ => g H' (.ofS z)) ?_ ?_
    · rintro i x σ H1 H2 hi ⟨y6, y7, y8, y9, rfl, sm, hF⟩ ⟨u, x1, x2, rfl, nu, rfl, g1, g2⟩
      rw [List.length_map] at hi
      obtain rfl : .int (i : Nat) = x1 := Option.some.inj g1
      obtain rfl : .int ds[i] = x2 := by
        have g3 : (ds.map V.int)[i]? = some (.int ds[i]) := by simp [hi]
        exact Option.some.inj (g3.symm.trans g2)
      have ed : ds.getD i 0 = ds[i] := by simp [hi]
      have s2 : Same H1 (upd H1 u (.tup [.int (i : Nat), .int ds[i]])) := same_new nu
      refine ⟨u, _, rfl, SqA.t upd_same, rfl, _, _, rfl, _, _, rfl, rfl, ?_⟩
      have sm2 := sm.trans s2
      have hF2 := s2 _ _ hF
      generalize upd H1 u (.tup [.int (i : Nat), .int ds[i]]) = H2 at sm2 hF2
      -- near
      refine ⟨_, rfl, pl, _, H, rfl, hl, .ofS sm2, fun J2 hJ2 C nC => ?_⟩
      obtain ⟨G2, gg, W2⟩ := hJ2.walk
      refine lc_it W2 (fun j H' => Same H2 H' ∧ H' C = some (.lst (ni ((L.take j).filter fun m => !decide (m = i))))) ⟨same_new nC, upd_same⟩ (fun j H' _ z => gg H' (.ofS (sm2.trans z.1))) ?_ ?_
      · rintro j x H3 H4 hj ⟨s3, hC⟩ ⟨rfl, gx⟩
        rw [ni_len] at hj
        obtain rfl : .int ((L[j] : Nat) : Int) = x := Option.some.inj ((ni_get hj).symm.trans gx)
        refine ⟨rfl, ?_⟩
        refine ⟨_, rfl, _, rfl, rfl, _, rfl, ite2 (fun c => ?_) (fun c => ?_)⟩
        · have c0 : ¬ L[j] = i := fun e => by
            rw [e] at c
            simp at c
          refine ⟨_, rfl, _, hC, ?_, same_over s3 nC, ?_⟩
          · rw [ni_len]
            have h1 := List.length_filter_le (fun m => !decide (m = i)) (L.take j)
            rw [List.length_take] at h1
            exact small1000 (by omega)
          · rw [upd_same, take_succ_get hj, List.filter_append, ni_app, List.filter_cons_of_pos (by simpa using c0)]
            rfl
        · have c0 : L[j] = i := by
            have c1 : ¬ (!decide (V.int ((L[j] : Nat) : Int) = V.int (i : Nat))) = true := c
            have c2 : decide (V.int ((L[j] : Nat) : Int) = V.int (i : Nat)) = true := by
              cases e : decide (V.int ((L[j] : Nat) : Int) = V.int (i : Nat)) with
              | true => rfl
              | false => rw [e] at c1; exact absurd rfl c1
            have c3 := V.int.inj (of_decide_eq_true c2)
            omega
          refine ⟨s3, ?_⟩
          rw [hC, take_succ_get hj, List.filter_append, List.filter_cons_of_neg (by simpa using c0)]
          simp
      rintro H3 ⟨s3, hC⟩
      rw [ni_len, List.take_length] at hC
      refine ⟨C, _, rfl, .inl (SqL.of hC), ?_⟩
      rw [ni_len]
      have sm3 := sm2.trans s3
      have hF3 := s3 _ _ hF2
      -- the test
      have fin : ∀ bb : Bool, mayB h t ds L i = bb → (if bb = true then H3 F = some (.lst (ni (lets h t ds L i))) else H3 F = some (.lst (ni (lets h t ds L (i + 1))))) := fun bb e => by
        cases bb with
        | true => rw [if_pos rfl]; exact hF3
        | false =>
          rw [if_neg Bool.false_ne_true, hF3]
          unfold lets
          rw [filter_succ, e]
          simp
      refine ⟨_, rfl, _, rfl, _, rfl, h, _, rfl, rfl, ds[i], _, rfl, rfl, _, rfl, ite2 (fun c => ?_) (fun c => ?_)⟩
      · have c0 : ds[i] ≤ h + (near L i : Int) := of_decide_eq_true c
        refine ⟨_, rfl, _, rfl, _, rfl, q, _, rfl, Same.sqA sm3 hq, t, _, rfl, rfl, _, 1, rfl, rfl, _, rfl, _, _, rfl, rfl, ds[i], _, rfl, rfl, _, rfl, ite2 (fun c => ?_) (fun c => ?_)⟩
        · have c1 : ds[i] ≤ t + (ds.length : Int) - 1 - (near L i : Int) := by
            have z := of_decide_eq_true c
            rw [List.length_map] at z
            exact z
          have e : mayB h t ds L i = true := by
            unfold mayB
            rw [ed, decide_eq_true c0, decide_eq_true c1]
            rfl
          refine ⟨_, rfl, .inl ⟨rfl, _, SqL.of hF3⟩, _, rfl, F, _, _, rfl, rfl, hF3, ?_, _, _, _, _, rfl, same_over sm3 nF, ?_⟩
          · rw [ni_len]
            exact Nat.lt_of_le_of_lt (filter_len _ _) (small1000 (by omega))
          · rw [upd_same]
            unfold lets
            rw [filter_succ, if_pos e, ni_app]
            rfl
        · have c1 : ¬ ds[i] ≤ t + (ds.length : Int) - 1 - (near L i : Int) := fun z => c (decide_eq_true (by rw [List.length_map]; exact z))
          have e : mayB h t ds L i = false := by
            unfold mayB
            rw [ed, decide_eq_false c1, Bool.and_false]
          exact ⟨_, _, _, _, rfl, sm3, fin false e⟩
      · have c0 : ¬ ds[i] ≤ h + (near L i : Int) := fun z => c (decide_eq_true z)
        have e : mayB h t ds L i = false := by
          unfold mayB
          rw [ed, decide_eq_false c0, Bool.false_and]
        exact iteF ⟨_, _, _, _, rfl, sm3, fin false e⟩
    · rintro σ H1 ⟨y6, y7, y8, y9, rfl, sm, hF⟩
      rw [List.length_map] at hF
      exact ⟨_, rfl, k H1 F sm nF hF⟩
end
end Sh

namespace Sh
open PySem PySem.Spec PyProof.Rows L2
/-! ### who is afloat -/
theorem Lot.mem_eq {c : Nat} {L : List Nat} (h : Lot c L) : L = (List.range c).filter fun j => decide (j ∈ L) := by
  have h2 : Lot c ((List.range c).filter fun j => decide (j ∈ L)) := (Lot.all c).filter _
  refine List.Perm.eq_of_pairwise (le := (· < ·)) (fun a b _ _ h1 h2 => absurd (Nat.lt_trans h1 h2) (Nat.lt_irrefl _)) h.up h2.up ?_
  refine (List.perm_ext_iff_of_nodup (h.up.imp Nat.ne_of_lt) (h2.up.imp Nat.ne_of_lt)).mpr fun a => ?_
  rw [List.mem_filter, List.mem_range, decide_eq_true_eq]
  exact ⟨fun q => ⟨h.lt a q, q⟩, fun q => q.2⟩
theorem filter_filter_len (p q : Nat → Bool) : ∀ l : List Nat, (l.filter p).length = (l.filter fun j => p j && q j).length + (l.filter fun j => p j && !q j).length
  | [] => rfl
  | a :: l => by
    have ih := filter_filter_len p q l
    cases hp : p a <;> cases hq : q a <;> simp [List.filter_cons, hp, hq, ih] <;> omega
/-- how many mates: here, or there -/
def mates (c : Nat) (L : List Nat) (i : Nat) : List Nat := (List.range c).filter fun j => !decide (j = i) && (decide (j ∈ L) == decide (i ∈ L))
theorem near_in {c : Nat} {L : List Nat} (h : Lot c L) (i : Nat) : near L i = ((List.range c).filter fun j => decide (j ∈ L) && !decide (j = i)).length := by
  unfold near
  conv => lhs; rw [h.mem_eq]
  rw [List.filter_filter]
  congr 1
  refine List.filter_congr fun a _ => ?_
  cases decide (a ∈ L) <;> cases decide (a = i) <;> rfl
theorem mates_here {c : Nat} {L : List Nat} (h : Lot c L) {i : Nat} (hi : i ∈ L) : (mates c L i).length = near L i := by
  rw [near_in h, mates]
  congr 1
  refine List.filter_congr fun a _ => ?_
  rw [decide_eq_true hi]
  cases decide (a ∈ L) <;> cases decide (a = i) <;> rfl
theorem one_of {c i : Nat} (hi : i < c) : ((List.range c).filter fun j => decide (j = i)).length = 1 := by
  have e : ((List.range c).filter fun j => decide (j = i)) = [i] := by
    refine List.Perm.eq_of_pairwise (le := (· < ·)) (fun a b _ _ h1 h2 => absurd (Nat.lt_trans h1 h2) (Nat.lt_irrefl _)) (List.pairwise_lt_range.filter _) (List.pairwise_singleton _ _) ?_
    refine (List.perm_ext_iff_of_nodup ((List.pairwise_lt_range.filter _).imp Nat.ne_of_lt) (by simp)).mpr fun a => ?_
    rw [List.mem_filter, List.mem_range, decide_eq_true_eq, List.mem_singleton]
    exact ⟨fun q => q.2, fun q => ⟨q ▸ hi, q⟩⟩
  rw [e]
  rfl
theorem mates_there {c : Nat} {L : List Nat} (h : Lot c L) {i : Nat} (hc : i < c) (hi : i ∉ L) : ((mates c L i).length : Int) = (c : Int) - 1 - (near L i : Int) := by
  have e1 := filter_filter_len (fun j => !decide (j = i)) (fun j => decide (j ∈ L)) (List.range c)
  have e2 := filter_filter_len (fun _ => true) (fun j => decide (j = i)) (List.range c)
  have e3 : ((List.range c).filter fun j => true && decide (j = i)).length = 1 := one_of hc
  have e4 : ((List.range c).filter fun _ => true).length = c := by rw [List.filter_eq_self.mpr fun _ _ => rfl, List.length_range]
  have e5 : ((List.range c).filter fun j => !decide (j = i) && decide (j ∈ L)).length = near L i := by
    rw [near_in h]
    congr 1
    exact List.filter_congr fun a _ => Bool.and_comm _ _
  have e6 : ((List.range c).filter fun j => !decide (j = i) && !decide (j ∈ L)).length = (mates c L i).length := by
    unfold mates
    congr 1
    refine List.filter_congr fun a _ => ?_
    rw [decide_eq_false hi]
    cases decide (a ∈ L) <;> cases decide (a = i) <;> rfl
  have e7 : ((List.range c).filter fun j => true && !decide (j = i)).length = ((List.range c).filter fun j => !decide (j = i)).length := rfl
  rw [e5, e6] at e1
  rw [e3, e4, e7] at e2
  omega
/-- afloat where it lies -/
def aflB (h t : Int) (ds : List Int) (L : List Nat) (i : Nat) : Bool := if i ∈ L then decide (ds.getD i 0 ≤ h + (near L i : Int)) else decide (ds.getD i 0 ≤ t + ((ds.length : Int) - 1 - (near L i : Int)))
def afl (h t : Int) (ds : List Int) (L : List Nat) (n : Nat) : List Nat := (List.range n).filter (aflB h t ds L)
theorem aflB_mates {h t : Int} {ds : List Int} {L : List Nat} {i : Nat} (hL : Lot ds.length L) (hi : i < ds.length) :
    aflB h t ds L i = decide (ds.getD i 0 ≤ (if i ∈ L then h else t) + ((mates ds.length L i).length : Int)) := by
  unfold aflB
  by_cases z : i ∈ L
  · rw [if_pos z, if_pos z, mates_here hL z]
  · rw [if_neg z, if_neg z, mates_there hL hi z]
theorem in_ni {i : Nat} {L : List Nat} : inV (.int (i : Int)) (ni L) = decide (i ∈ L) := by
  unfold inV ni
  rw [List.any_map, Bool.eq_iff_iff, List.any_eq_true, decide_eq_true_eq]
  constructor
  · rintro ⟨x, hx, e⟩
    have e' : ((x : Int) == (i : Int)) = true := e
    have : x = i := by have := beq_iff_eq.mp e'; omega
    rw [← this]
    exact hx
  · intro hx
    exact ⟨i, hx, beq_self_eq_true (i : Int)⟩
def spAfl (K : PySem.W.Frag) : Sp := fun vs H Q _ => ∃ (v l : V) (h t : Int) (ds : List Int) (L : List Nat), vs = [v, l] ∧ SeaA K H v h t ds ∧ LotA K H l L ∧ ds.length ≤ 1000 ∧ Lot ds.length L ∧
  ∀ (H' : Hp) (p : Addr), Same H H' → H p = none → H' p = some (.lst (ni (afl h t ds L ds.length))) → Q (.ref p) H'
/-- the same of who may go: of a standing -/
def spMay (K : PySem.W.Frag) : Sp := fun vs H Q _ => ∃ (v l : V) (h t : Int) (ds : List Int) (L : List Nat), vs = [v, l] ∧ SeaA K H v h t ds ∧ LotA K H l L ∧ ds.length ≤ 1000 ∧ Lot ds.length L ∧
  ∀ (H' : Hp) (p : Addr), Same H H' → H p = none → H' p = some (.lst (ni (lets h t ds L ds.length))) → Q (.ref p) H'
end Sh

namespace Sh
open PySem PySem.Spec PyProof.Rows L2
theorem eqv_nil (ns : List Int) : PyData.eqv (.list (ns.map .int)) (.list []) = ns.isEmpty := by cases ns <;> rfl
end Sh

namespace Sh
open PySem PySem.Spec PyProof.Rows L2
/-! ### the program: steps -/
def mk (h t : Int) (k : Nat) (s : Int) : Int := if t + ((k : Int) - 1 - s) < h + s then t + ((k : Int) - 1 - s) else h + s
def gs (m : Int) (ds : List Int) (n : Nat) : List Nat := (List.range n).filter fun i => decide (ds.getD i 0 ≤ m)
def topI (h t : Int) (k : Nat) : Int := if (if (t + ((k : Int) - 1) - h) / 2 < (k : Int) - 1 then (t + ((k : Int) - 1) - h) / 2 else (k : Int) - 1) > 0 then (if (t + ((k : Int) - 1) - h) / 2 < (k : Int) - 1 then (t + ((k : Int) - 1) - h) / 2 else (k : Int) - 1) else 0
def lowI (h d : Int) : Int := if d - h > 0 then d - h else 0
def highI (t : Int) (k : Nat) (d : Int) : Int := if t + ((k : Int) - 1) - d < (k : Int) - 1 then t + ((k : Int) - 1) - d else (k : Int) - 1
def spMark (K : PySem.W.Frag) : Sp := fun vs H Q _ => ∃ (v : V) (h t s : Int) (ds : List Int), vs = [v, .int s] ∧ SeaA K H v h t ds ∧ Q (.int (mk h t ds.length s)) H
def spGoers (K : PySem.W.Frag) : Sp := fun vs H Q _ => ∃ (v : V) (h t s : Int) (ds : List Int), vs = [v, .int s] ∧ SeaA K H v h t ds ∧ ds.length ≤ 1000 ∧
  ∀ (H' : Hp) (p : Addr), Same H H' → H p = none → H' p = some (.lst (((gs (mk h t ds.length s) ds ds.length).map fun (i : Nat) => (i : Int)).map V.int)) → Q (.ref p) H'
def spTop (K : PySem.W.Frag) : Sp := fun vs H Q _ => ∃ (v : V) (h t : Int) (ds : List Int), vs = [v] ∧ SeaA K H v h t ds ∧ Q (.int (topI h t ds.length)) H
def spWindow (K : PySem.W.Frag) : Sp := fun vs H Q _ => ∃ (v : V) (h t d : Int) (j : Nat) (ds : List Int), vs = [v, .int (j : Int)] ∧ SeaA K H v h t ds ∧ ds[j]? = some d ∧
  (lowI h d > highI t ds.length d → Q .non H) ∧ (¬ lowI h d > highI t ds.length d → ∀ p, H p = none → Q (.ref p) (upd H p (.tup [.int (lowI h d), .int (highI t ds.length d)])))
theorem gs_succ {m : Int} {ds : List Int} {n : Nat} : gs m ds (n + 1) = gs m ds n ++ (if ds.getD n 0 ≤ m then [n] else []) := by
  unfold gs
  rw [List.range_succ, List.filter_append]
  congr 1
  by_cases h : ds.getD n 0 ≤ m
  · rw [if_pos h, List.filter_cons_of_pos (by simpa using h)]
    rfl
  · rw [if_neg h, List.filter_cons_of_neg (by simpa using h)]
    rfl
theorem gs_len {m : Int} {ds : List Int} {n : Nat} : (gs m ds n).length ≤ n := by
  unfold gs
  exact Nat.le_trans (List.length_filter_le _ _) (by simp)
theorem mk_alt (h t : Int) (k : Nat) (s : Int) : (if t + (k : Int) - 1 - s < h + s then t + (k : Int) - 1 - s else h + s) = mk h t k s := by
  unfold mk
  rw [show t + (k : Int) - 1 - s = t + ((k : Int) - 1 - s) by omega]
end Sh

namespace Sh
open PySem PySem.Spec PyProof.Rows L2
/-! ### steps: the mathematics -/
def ml (h t : Int) (k n : Nat) : List Int := (List.range n).map fun (i : Nat) => mk h t k (i : Int)
theorem ml_succ (h t : Int) (k n : Nat) : ml h t k (n + 1) = ml h t k n ++ [mk h t k (n : Int)] := by
  unfold ml
  rw [List.range_succ, List.map_append]
  rfl
theorem ml_len (h t : Int) (k n : Nat) : (ml h t k n).length = n := by
  unfold ml
  simp
theorem ml_get {h t : Int} {k n i : Nat} (hi : i < n) : (ml h t k n)[i]? = some (mk h t k (i : Int)) := by
  unfold ml
  simp [hi]
theorem top_lo (h t : Int) (k : Nat) : 0 ≤ topI h t k := by
  unfold topI
  split <;> omega
theorem top_hi (h t : Int) {k : Nat} (hk : 0 < k) : topI h t k < (k : Int) := by
  unfold topI
  repeat' split
  all_goals omega
theorem top_max (h t : Int) {k i : Nat} (hi : i < k) : mk h t k (i : Int) ≤ mk h t k (topI h t k) := by
  unfold mk topI
  repeat' split
  all_goals omega
theorem top_least (h t : Int) {k i : Nat} (hi : (i : Int) < topI h t k) : mk h t k (i : Int) < mk h t k (topI h t k) := by
  unfold mk topI at *
  repeat' split
  all_goals (repeat' split at hi)
  all_goals omega
theorem win_iff (h t d : Int) {k i : Nat} (hi : i < k) : d ≤ mk h t k (i : Int) ↔ lowI h d ≤ (i : Int) ∧ (i : Int) ≤ highI t k d := by
  unfold mk lowI highI
  constructor
  · intro z
    split at z <;> (constructor <;> split <;> omega)
  · intro z
    split <;> (obtain ⟨z1, z2⟩ := z; split at z1 <;> split at z2 <;> omega)
/-- the steps at which it may go -/
def fl (h t d : Int) (k n : Nat) : List Nat := (List.range n).filter fun (i : Nat) => decide (d ≤ mk h t k (i : Int))
theorem fl_succ {h t d : Int} {k n : Nat} : fl h t d k (n + 1) = fl h t d k n ++ (if d ≤ mk h t k (n : Int) then [n] else []) := by
  unfold fl
  rw [List.range_succ, List.filter_append]
  congr 1
  by_cases z : d ≤ mk h t k (n : Int)
  · rw [if_pos z, List.filter_cons_of_pos (by simpa using z)]
    rfl
  · rw [if_neg z, List.filter_cons_of_neg (by simpa using z)]
    rfl
theorem fl_len {h t d : Int} {k n : Nat} : (fl h t d k n).length ≤ n := by
  unfold fl
  exact Nat.le_trans (List.length_filter_le _ _) (by simp)
theorem fl_mem {h t d : Int} {k i : Nat} : i ∈ fl h t d k k ↔ i < k ∧ lowI h d ≤ (i : Int) ∧ (i : Int) ≤ highI t k d := by
  unfold fl
  rw [List.mem_filter, List.mem_range, decide_eq_true_eq]
  constructor
  · rintro ⟨a, b⟩
    exact ⟨a, (win_iff h t d a).mp b⟩
  · rintro ⟨a, b⟩
    exact ⟨a, (win_iff h t d a).mpr b⟩
theorem fl_sorted (h t d : Int) (k : Nat) : (fl h t d k k).Pairwise (· < ·) := by
  unfold fl
  exact List.Pairwise.filter _ List.pairwise_lt_range
theorem high_lt (t d : Int) {k : Nat} (hk : 0 < k) : highI t k d < (k : Int) := by
  unfold highI
  split <;> omega
theorem low_nn (h d : Int) : 0 ≤ lowI h d := by
  unfold lowI
  split <;> omega
theorem fl_nil {h t d : Int} {k : Nat} (z : lowI h d > highI t k d) : fl h t d k k = [] := by
  cases e : fl h t d k k with
  | nil => rfl
  | cons x r =>
    have m : x ∈ fl h t d k k := by rw [e]; exact List.mem_cons_self
    obtain ⟨_, a, b⟩ := fl_mem.mp m
    omega
/-- a rising list has its least first, its greatest last -/
theorem fl_ends {h t d : Int} {k : Nat} (hk : 0 < k) (z : ¬ lowI h d > highI t k d) : ∃ (l : List Nat) (r : List Nat) (a b : Nat), fl h t d k k = a :: r ∧ fl h t d k k = l ++ [b] ∧ (a : Int) = lowI h d ∧ (b : Int) = highI t k d := by
  have hh := high_lt t d hk
  have hl := low_nn h d
  have ml' : (lowI h d).toNat ∈ fl h t d k k := fl_mem.mpr ⟨by omega, by omega, by omega⟩
  have mh : (highI t k d).toNat ∈ fl h t d k k := fl_mem.mpr ⟨by omega, by omega, by omega⟩
  have ne : fl h t d k k ≠ [] := List.ne_nil_of_mem ml'
  have st := fl_sorted h t d k
  obtain ⟨a, r, e1⟩ : ∃ a r, fl h t d k k = a :: r := by
    cases e : fl h t d k k with
    | nil => exact absurd e ne
    | cons x r => exact ⟨x, r, rfl⟩
  have e2 : fl h t d k k = (fl h t d k k).dropLast ++ [(fl h t d k k).getLast ne] := (List.dropLast_concat_getLast ne).symm
  refine ⟨_, r, a, _, e1, e2, ?_, ?_⟩
  · have ma : a ∈ fl h t d k k := by rw [e1]; exact List.mem_cons_self
    obtain ⟨_, g1, g2⟩ := fl_mem.mp ma
    have le : a ≤ (lowI h d).toNat := by
      rw [e1] at ml' st
      rcases List.mem_cons.mp ml' with q | q
      · omega
      · have := (List.pairwise_cons.mp st).1 _ q
        omega
    omega
  · have mb := List.getLast_mem ne
    obtain ⟨_, g1, g2⟩ := fl_mem.mp mb
    have le : (highI t k d).toNat ≤ (fl h t d k k).getLast ne := by
      have st2 := st
      rw [e2] at mh st2
      rcases List.mem_append.mp mh with q | q
      · have := (List.pairwise_append.mp st2).2.2 _ q _ List.mem_cons_self
        omega
      · have : (highI t k d).toNat = (fl h t d k k).getLast ne := by simpa using q
        omega
    omega
end Sh

namespace Sh
open PySem PySem.Spec PyProof.Rows L2
/-! ### sorted lists of ships -/
theorem nat_list {c : Nat} : ∀ {ns : List Int}, (∀ z ∈ ns, 0 ≤ z ∧ z < (c : Int)) → ∃ L : List Nat, ns = L.map (fun (i : Nat) => (i : Int)) ∧ ∀ i ∈ L, i < c
  | [], _ => ⟨[], rfl, fun _ h => by cases h⟩
  | z :: ns, h => by
    obtain ⟨L, e, hL⟩ := nat_list (ns := ns) fun y hy => h y (List.mem_cons_of_mem _ hy)
    have hz := h z List.mem_cons_self
    refine ⟨z.toNat :: L, ?_, fun i hi => ?_⟩
    · rw [List.map_cons, ← e]
      congr 1
      omega
    · rcases List.mem_cons.mp hi with q | q
      · omega
      · exact hL i q
theorem map_inj {L M : List Nat} (h : (L.map fun (i : Nat) => (i : Int)).Perm (M.map fun (i : Nat) => (i : Int))) : L.Perm M := by
  have h2 := h.map Int.toNat
  rw [List.map_map, List.map_map] at h2
  have e : (Int.toNat ∘ fun (i : Nat) => (i : Int)) = id := by
    funext i
    exact Int.toNat_natCast i
  rw [e, List.map_id, List.map_id] at h2
  exact h2
/-- sorted ints that are a rearrangement of different ships: a lot -/
theorem lot_sorted {c : Nat} {ns : List Int} {M : List Nat} (pm : ns.Perm (M.map fun (i : Nat) => (i : Int))) (up : ns.Pairwise (· ≤ ·)) (nd : M.Nodup) (lt : ∀ i ∈ M, i < c) :
    ∃ L : List Nat, ns = L.map (fun (i : Nat) => (i : Int)) ∧ L.Perm M ∧ Lot c L := by
  obtain ⟨L, rfl, hL⟩ := nat_list (c := c) (ns := ns) fun z hz => by
    obtain ⟨i, hi, rfl⟩ := List.mem_map.mp (pm.mem_iff.mp hz)
    have := lt i hi
    omega
  have p2 := map_inj pm
  refine ⟨L, rfl, p2, ?_, hL⟩
  have ndL : L.Nodup := p2.nodup_iff.mpr nd
  have up2 : L.Pairwise (· ≤ ·) := by
    rw [List.pairwise_map] at up
    exact up.imp fun h => by omega
  exact (up2.and ndL).imp fun h => Nat.lt_of_le_of_ne h.1 h.2
theorem cut_take (xs : List V) (l : Nat) : cutV xs none (some (l : Int)) = xs.take l := by
  unfold cutV
  rw [HT.sIx_none, HT.sIx_nat]
  show (xs.drop 0).take (min l xs.length - 0) = xs.take l
  rw [List.drop_zero, Nat.sub_zero]
  by_cases h : l ≤ xs.length
  · rw [Nat.min_eq_left h]
  · rw [Nat.min_eq_right (by omega), List.take_length, List.take_of_length_le (by omega)]
theorem near_out {L : List Nat} {i : Nat} (h : i ∉ L) : near L i = L.length := by
  unfold near
  rw [List.filter_eq_self.mpr fun a ha => ?_]
  have : ¬ a = i := fun e => h (e ▸ ha)
  simpa using this
theorem near_perm {L M : List Nat} (i : Nat) (h : L.Perm M) : near L i = near M i := (h.filter _).length_eq
theorem near_add {L : List Nat} {i : Nat} (h : i ∉ L) : near (L ++ [i]) i = L.length := by
  rw [← near_out h]
  unfold near
  rw [List.filter_append]
  simp
end Sh

namespace Th
/-! ### counting ships below k -/
def cnt (k : Nat) (S : Nat → Bool) : Nat := (List.range k).countP S
theorem cnt_zero (S : Nat → Bool) : cnt 0 S = 0 := rfl
theorem cnt_succ (k : Nat) (S : Nat → Bool) : cnt (k + 1) S = cnt k S + (if S k = true then 1 else 0) := by
  unfold cnt
  rw [List.range_succ, List.countP_append]
  congr 1
  cases h : S k <;> simp [h]
theorem cnt_le (k : Nat) (S : Nat → Bool) : cnt k S ≤ k := by
  induction k with
  | zero => exact Nat.le_refl _
  | succ k ih => rw [cnt_succ]; split <;> omega
theorem cnt_congr {k : Nat} {S U : Nat → Bool} (h : ∀ i, i < k → S i = U i) : cnt k S = cnt k U := by
  induction k with
  | zero => rfl
  | succ k ih => rw [cnt_succ, cnt_succ, ih fun i hi => h i (by omega), h k (by omega)]
theorem cnt_mono {k : Nat} {S U : Nat → Bool} (h : ∀ i, i < k → S i = true → U i = true) : cnt k S ≤ cnt k U := by
  induction k with
  | zero => exact Nat.le_refl _
  | succ k ih =>
    have := ih fun i hi => h i (by omega)
    rw [cnt_succ, cnt_succ]
    by_cases e : S k = true
    · rw [if_pos e, if_pos (h k (by omega) e)]
      omega
    · rw [if_neg e]
      omega
/-- as many, and all of the one among the other: the same -/
theorem cnt_eq {k : Nat} {S U : Nat → Bool} (h : ∀ i, i < k → S i = true → U i = true) (e : cnt k U ≤ cnt k S) : ∀ i, i < k → U i = true → S i = true := by
  induction k with
  | zero => intro i hi; omega
  | succ k ih =>
    have hm := cnt_mono (k := k) fun i hi => h i (by omega)
    rw [cnt_succ, cnt_succ] at e
    intro i hi hu
    by_cases ek : S k = true
    · have uk := h k (by omega) ek
      rw [if_pos ek, if_pos uk] at e
      by_cases z : i = k
      · rw [z]; exact ek
      · exact ih (fun i hi => h i (by omega)) (by omega) i (by omega) hu
    · rw [if_neg ek] at e
      by_cases uk : U k = true
      · rw [if_pos uk] at e
        omega
      · rw [if_neg uk] at e
        by_cases z : i = k
        · rw [z] at hu; exact absurd hu uk
        · exact ih (fun i hi => h i (by omega)) (by omega) i (by omega) hu
theorem cnt_ex {k : Nat} {S U : Nat → Bool} (e : cnt k S < cnt k U) : ∃ i, i < k ∧ U i = true ∧ S i = false := by
  induction k with
  | zero => rw [cnt_zero, cnt_zero] at e; omega
  | succ k ih =>
    rw [cnt_succ, cnt_succ] at e
    by_cases uk : U k = true
    · by_cases sk : S k = true
      · rw [if_pos uk, if_pos sk] at e
        obtain ⟨i, h1, h2⟩ := ih (by omega)
        exact ⟨i, by omega, h2⟩
      · exact ⟨k, by omega, uk, by simpa using sk⟩
    · rw [if_neg uk] at e
      obtain ⟨i, h1, h2⟩ := ih (by omega)
      exact ⟨i, by omega, h2⟩
theorem cnt_pos_ex {k : Nat} {S : Nat → Bool} (e : 0 < cnt k S) : ∃ i, i < k ∧ S i = true := by
  induction k with
  | zero => rw [cnt_zero] at e; omega
  | succ k ih =>
    by_cases sk : S k = true
    · exact ⟨k, by omega, sk⟩
    · rw [cnt_succ, if_neg sk] at e
      obtain ⟨i, h1, h2⟩ := ih (by omega)
      exact ⟨i, by omega, h2⟩
def flip (S : Nat → Bool) (i : Nat) : Nat → Bool := fun j => if j = i then !S j else S j
theorem flip_self (S : Nat → Bool) (i : Nat) : flip S i i = !S i := by unfold flip; rw [if_pos rfl]
theorem flip_ne (S : Nat → Bool) {i j : Nat} (h : j ≠ i) : flip S i j = S j := by unfold flip; rw [if_neg h]
theorem flip_flip (S : Nat → Bool) (i : Nat) : flip (flip S i) i = S := by
  funext j
  by_cases h : j = i
  · subst h
    rw [flip_self, flip_self, Bool.not_not]
  · rw [flip_ne _ h, flip_ne _ h]
theorem cnt_flip_up {k : Nat} {S : Nat → Bool} {i : Nat} (hi : i < k) (h : S i = false) : cnt k (flip S i) = cnt k S + 1 := by
  induction k with
  | zero => omega
  | succ k ih =>
    rw [cnt_succ, cnt_succ]
    by_cases z : i = k
    · subst z
      rw [flip_self, h]
      rw [cnt_congr (k := i) (S := flip S i) (U := S) fun j hj => flip_ne S (by omega)]
      simp
    · rw [ih (by omega), flip_ne S (show k ≠ i by omega)]
      omega
theorem cnt_flip_dn {k : Nat} {S : Nat → Bool} {i : Nat} (hi : i < k) (h : S i = true) : cnt k (flip S i) + 1 = cnt k S := by
  have e : flip S i i = false := by rw [flip_self, h]; rfl
  have := cnt_flip_up hi e
  rw [flip_flip] at this
  omega
theorem cnt_pos {k : Nat} {S : Nat → Bool} {i : Nat} (hi : i < k) (h : S i = true) : 0 < cnt k S := by
  have := cnt_flip_dn hi h
  omega
theorem cnt_or_not {k : Nat} (S U : Nat → Bool) : cnt k (fun i => S i || U i) = cnt k S + cnt k (fun i => U i && !S i) := by
  induction k with
  | zero => rfl
  | succ k ih =>
    rw [cnt_succ, cnt_succ, cnt_succ, ih]
    cases S k <;> cases U k <;> simp <;> omega
theorem cnt_split {k : Nat} (S U : Nat → Bool) : cnt k S = cnt k (fun i => S i && U i) + cnt k (fun i => S i && !U i) := by
  induction k with
  | zero => rfl
  | succ k ih =>
    rw [cnt_succ, cnt_succ, cnt_succ, ih]
    cases S k <;> cases U k <;> simp <;> omega
theorem cnt_not {k : Nat} (S : Nat → Bool) : cnt k S + cnt k (fun i => !S i) = k := by
  induction k with
  | zero => rfl
  | succ k ih =>
    rw [cnt_succ, cnt_succ]
    cases S k <;> simp <;> omega

/-! ### crossings -/
section
variable (k : Nat) (G : Nat → Nat → Bool)
inductive Step : (Nat → Bool) → (Nat → Bool) → Prop
  | up {S : Nat → Bool} {i : Nat} (hi : i < k) (hs : S i = false) (hg : G (cnt k S) i = true) : Step S (flip S i)
  | dn {S : Nat → Bool} {i : Nat} (hi : i < k) (hs : S i = true) (hg : G (cnt k S - 1) i = true) : Step S (flip S i)
inductive Reach : (Nat → Bool) → (Nat → Bool) → Prop
  | refl (S : Nat → Bool) : Reach S S
  | step {S U W : Nat → Bool} : Reach S U → Step k G U W → Reach S W
end
section
variable {k : Nat} {G : Nat → Nat → Bool} {S U W : Nat → Bool}
theorem Step.symm (h : Step k G S U) : Step k G U S := by
  cases h with
  | @up i hi hs hg =>
    have e : Step k G (flip S i) (flip (flip S i) i) := .dn hi (by rw [flip_self, hs]; rfl) (by rw [cnt_flip_up hi hs, Nat.add_sub_cancel]; exact hg)
    rwa [flip_flip] at e
  | @dn i hi hs hg =>
    have e : Step k G (flip S i) (flip (flip S i) i) := .up hi (by rw [flip_self, hs]; rfl) (by have := cnt_flip_dn hi hs; rw [show cnt k (flip S i) = cnt k S - 1 by omega]; exact hg)
    rwa [flip_flip] at e
theorem Reach.trans (a : Reach k G S U) (b : Reach k G U W) : Reach k G S W := by
  induction b with
  | refl => exact a
  | step _ s ih => exact .step ih s
theorem Reach.one (s : Step k G S U) : Reach k G S U := .step (.refl _) s
theorem Reach.symm (a : Reach k G S U) : Reach k G U S := by
  induction a with
  | refl => exact .refl _
  | step _ s ih => exact (Reach.one s.symm).trans ih
/-- whatever every crossing keeps -/
theorem Reach.inv {P : (Nat → Bool) → Prop} (hp : ∀ S U, P S → Step k G S U → P U) (a : Reach k G S U) (h : P S) : P U := by
  induction a with
  | refl => exact h
  | step _ s ih => exact hp _ _ ih s
/-! ### filled from below -/
/-- between a and b goers grow -/
def Grow (G : Nat → Nat → Bool) (b : Nat) : Prop := ∀ s s' i, s ≤ s' → s' ≤ b → G s i = true → G s' i = true
/-- S can be filled to N, if at each number on the way somebody lacks -/
theorem fill {T : Nat} (gr : Grow G T) (N : Nat) (hN : N ≤ T + 1) (h0 : cnt k S ≤ N) (hl : ∀ n, cnt k S ≤ n → n < N → n < cnt k (fun i => S i || G n i)) :
    ∃ U, Reach k G S U ∧ cnt k U = N ∧ (∀ i, S i = true → U i = true) ∧ ∀ i, i < k → U i = true → S i = true ∨ (0 < N ∧ G (N - 1) i = true) := by
  induction N with
  | zero => exact ⟨S, .refl _, by omega, fun _ h => h, fun _ _ h => .inl h⟩
  | succ N ih =>
    by_cases e : cnt k S = N + 1
    · exact ⟨S, .refl _, e, fun _ h => h, fun _ _ h => .inl h⟩
    · obtain ⟨U, r, c, h1, h2⟩ := ih (by omega) (by omega) fun n a b => hl n a (by omega)
      have hlt := hl N (by omega) (by omega)
      obtain ⟨i, hi, g, u⟩ := cnt_ex (k := k) (S := U) (U := fun i => S i || G N i) (by omega)
      have gi : G N i = true := by
        cases hs : S i with
        | true => rw [h1 i hs] at u; cases u
        | false => rw [hs] at g; exact g
      refine ⟨flip U i, r.step (.up hi u (by rw [c]; exact gi)), by rw [cnt_flip_up hi u, c], fun j hj => ?_, fun j hj hf => ?_⟩
      · by_cases z : j = i
        · subst z
          rw [h1 j hj] at u
          cases u
        · rw [flip_ne _ z]
          exact h1 j hj
      · by_cases z : j = i
        · exact .inr ⟨by omega, by rw [z]; exact gi⟩
        · rw [flip_ne _ z] at hf
          rcases h2 j hj hf with q | ⟨q, g2⟩
          · exact .inl q
          · exact .inr ⟨by omega, gr _ _ _ (by omega) (by omega) g2⟩
/-- stuck at N: the fullest one is S with all goers at N -/
theorem stuck {T N : Nat} (gr : Grow G T) (hN : N ≤ T) (h0 : cnt k S ≤ N) (hl : ∀ n, cnt k S ≤ n → n < N → n < cnt k (fun i => S i || G n i)) (hs : cnt k (fun i => S i || G N i) ≤ N) :
    ∃ U, Reach k G S U ∧ cnt k U = N ∧ ∀ i, i < k → U i = (S i || G N i) := by
  obtain ⟨U, r, c, h1, h2⟩ := fill gr N (by omega) h0 hl
  have hm : ∀ i, i < k → U i = true → (S i || G N i) = true := fun i hi hu => by
    rcases h2 i hi hu with q | ⟨_, q⟩
    · rw [q]; rfl
    · rw [gr _ _ _ (by omega) hN q, Bool.or_true]
  have he := cnt_eq (k := k) (S := U) (U := fun i => S i || G N i) hm (by omega)
  refine ⟨U, r, c, fun i hi => ?_⟩
  cases hu : U i with
  | true => exact (hm i hi hu).symm
  | false =>
    cases hq : (S i || G N i) with
    | false => rfl
    | true => rw [he i hi hq] at hu; cases hu
/-- under a low bar at N nobody gets out -/
theorem low_inv {T N : Nat} (gr : Grow G T) (hN : N ≤ T) {F : Nat → Bool} (hF : cnt k F = N) (hG : ∀ i, i < k → G N i = true → F i = true) :
    ∀ S U, (cnt k S ≤ N ∧ ∀ i, i < k → (S i || G N i) = F i) → Step k G S U → (cnt k U ≤ N ∧ ∀ i, i < k → (U i || G N i) = F i) := by
  rintro S U ⟨c, h⟩ s
  have sub : ∀ i, i < k → S i = true → F i = true := fun i hi hs => by rw [← h i hi, hs]; rfl
  cases s with
  | @up i hi hs hg =>
    by_cases z : cnt k S = N
    · exfalso
      rw [z] at hg
      have := cnt_eq sub (by omega) i hi (hG i hi hg)
      rw [hs] at this
      cases this
    · refine ⟨by rw [cnt_flip_up hi hs]; omega, fun j hj => ?_⟩
      by_cases e : j = i
      · subst e
        have gN := gr _ _ _ (by omega) hN hg
        rw [gN, Bool.or_true, hG j hj gN]
      · rw [flip_ne _ e]
        exact h j hj
  | @dn i hi hs hg =>
    have := cnt_flip_dn hi hs
    refine ⟨by omega, fun j hj => ?_⟩
    by_cases e : j = i
    · subst e
      have gN := gr _ _ _ (by omega) hN hg
      rw [gN, Bool.or_true, hG j hj gN]
    · rw [flip_ne _ e]
      exact h j hj
end
end Th
namespace Th
section
variable {k : Nat} {G : Nat → Nat → Bool} {S U W : Nat → Bool}
/-! ### met from the other basin -/
def co (S : Nat → Bool) : Nat → Bool := fun i => !S i
def dual (k : Nat) (G : Nat → Nat → Bool) : Nat → Nat → Bool := fun s i => G (k - 1 - s) i
theorem co_co (S : Nat → Bool) : co (co S) = S := by funext i; exact Bool.not_not _
theorem cnt_co (k : Nat) (S : Nat → Bool) : cnt k S + cnt k (co S) = k := cnt_not S
theorem flip_co (S : Nat → Bool) (i : Nat) : flip (co S) i = co (flip S i) := by
  funext j
  unfold co flip
  split <;> rfl
theorem Step.dual (h : Step k G S U) : Step k (dual k G) (co S) (co U) := by
  cases h with
  | @up i hi hs hg =>
    rw [← flip_co]
    have c1 := cnt_co k S
    have c2 := cnt_le k (flip S i)
    rw [cnt_flip_up hi hs] at c2
    refine .dn hi (by unfold co; rw [hs]; rfl) ?_
    unfold Th.dual
    rw [show k - 1 - (cnt k (co S) - 1) = cnt k S by omega]
    exact hg
  | @dn i hi hs hg =>
    rw [← flip_co]
    have c1 := cnt_co k S
    have c2 := cnt_pos hi hs
    refine .up hi (by unfold co; rw [hs]; rfl) ?_
    unfold Th.dual
    rw [show k - 1 - cnt k (co S) = cnt k S - 1 by omega]
    exact hg
theorem dual_dual_at {s : Nat} (hs : s < k) (i : Nat) : Th.dual k (Th.dual k G) s i = G s i := by
  unfold Th.dual
  rw [show k - 1 - (k - 1 - s) = s by omega]
theorem Reach.dual (h : Reach k G S U) : Reach k (Th.dual k G) (co S) (co U) := by
  induction h with
  | refl => exact .refl _
  | step _ s ih => exact .step ih s.dual
theorem Step.congr {G' : Nat → Nat → Bool} (hg : ∀ s i, s < k → G s i = G' s i) (h : Step k G S U) : Step k G' S U := by
  cases h with
  | @up i hi hs g =>
    have := cnt_le k (flip S i)
    rw [cnt_flip_up hi hs] at this
    exact .up hi hs (by rw [← hg _ _ (by omega)]; exact g)
  | @dn i hi hs g =>
    have := cnt_le k S
    have := cnt_pos hi hs
    exact .dn hi hs (by rw [← hg _ _ (by omega)]; exact g)
theorem Reach.congr {G' : Nat → Nat → Bool} (hg : ∀ s i, s < k → G s i = G' s i) (h : Reach k G S U) : Reach k G' S U := by
  induction h with
  | refl => exact .refl _
  | step _ s ih => exact .step ih (s.congr hg)
theorem Reach.codual (h : Reach k (Th.dual k G) (co S) (co U)) : Reach k G S U := by
  have h2 := h.dual
  rw [co_co, co_co] at h2
  exact h2.congr fun s i hs => dual_dual_at hs i
/-! ### at the top -/
structure Top (k : Nat) (G : Nat → Nat → Bool) (T : Nat) : Prop where
  lt : T < k
  up : Grow G T
  dn : ∀ s s' i, T ≤ s → s ≤ s' → s' < k → G s' i = true → G s i = true
theorem Top.all {T : Nat} (t : Top k G T) {s i : Nat} (hs : s < k) (h : G s i = true) : G T i = true := by
  by_cases z : s ≤ T
  · exact t.up s T i z (Nat.le_refl _) h
  · exact t.dn T s i (Nat.le_refl _) (by omega) hs h
theorem Top.dual {T : Nat} (t : Top k G T) : Top k (Th.dual k G) (k - 1 - T) := by
  have := t.lt
  refine ⟨by omega, fun s s' i a b g => ?_, fun s s' i a b c g => ?_⟩
  · exact t.dn (k - 1 - s') (k - 1 - s) i (by omega) (by omega) (by omega) g
  · exact t.up (k - 1 - s') (k - 1 - s) i (by omega) (by omega) g
/-- who isn't a goer at the top never goes -/
theorem fast_inv {T : Nat} (t : Top k G T) (h : Reach k G S U) : ∀ i, i < k → G T i = false → U i = S i := by
  intro i hi hg
  refine Reach.inv (P := fun W => W i = S i) (fun A B e s => ?_) h rfl
  cases s with
  | @up j hj hs g =>
    have c := cnt_le k (flip A j)
    rw [cnt_flip_up hj hs] at c
    have : i ≠ j := fun z => by
      subst z
      rw [t.all (by omega) g] at hg
      cases hg
    rw [flip_ne _ this]
    exact e
  | @dn j hj hs g =>
    have c := cnt_le k A
    have c2 := cnt_pos hj hs
    have : i ≠ j := fun z => by
      subst z
      rw [t.all (by omega) g] at hg
      cases hg
    rw [flip_ne _ this]
    exact e
def diff (k : Nat) (S U : Nat → Bool) : Nat := cnt k (fun i => S i && !U i)
theorem reach_out (h : Reach k G S U) : ∀ i, ¬ i < k → U i = S i := by
  intro i hi
  refine Reach.inv (P := fun W => W i = S i) (fun A B e s => ?_) h rfl
  cases s with
  | @up j hj hs g =>
    rw [flip_ne _ (show i ≠ j by omega)]
    exact e
  | @dn j hj hs g =>
    rw [flip_ne _ (show i ≠ j by omega)]
    exact e
/-- at the top's own number goers can be exchanged -/
theorem swap {T : Nat} (t : Top k G T) : ∀ (n : Nat) (S U : Nat → Bool), diff k S U ≤ n → cnt k S = T → cnt k U = T → (∀ i, i < k → G T i = false → U i = S i) → (∀ i, ¬ i < k → U i = S i) → Reach k G S U := by
  intro n
  induction n with
  | zero =>
    intro S U hd cs cu hf ho
    have hsub : ∀ i, i < k → S i = true → U i = true := fun i hi hs => by
      cases hu : U i with
      | true => rfl
      | false =>
        have := cnt_pos (k := k) (S := fun i => S i && !U i) hi (by show (S i && !U i) = true; rw [hs, hu]; rfl)
        unfold diff at hd
        omega
    have heq := cnt_eq hsub (by omega)
    have : U = S := by
      funext i
      by_cases hi : i < k
      · cases hs : S i with
        | true => exact hsub i hi hs
        | false =>
          cases hu : U i with
          | false => rfl
          | true => rw [heq i hi hu] at hs; cases hs
      · exact ho i hi
    rw [this]
    exact .refl _
  | succ n ih =>
    intro S U hd cs cu hf ho
    by_cases z : diff k S U = 0
    · exact ih S U (by omega) cs cu hf ho
    · obtain ⟨i, hi, h1⟩ := cnt_pos_ex (k := k) (S := fun i => S i && !U i) (by unfold diff at z; omega)
      have si : S i = true := by revert h1; cases S i <;> simp
      have ui : U i = false := by revert h1; cases U i <;> simp
      have e1 := cnt_split (k := k) S U
      have e2 := cnt_split (k := k) U S
      have e3 : cnt k (fun i => S i && U i) = cnt k (fun i => U i && S i) := cnt_congr fun i _ => Bool.and_comm _ _
      obtain ⟨j, hj, h2⟩ := cnt_pos_ex (k := k) (S := fun i => U i && !S i) (by unfold diff at z; omega)
      have uj : U j = true := by revert h2; cases U j <;> simp
      have sj : S j = false := by revert h2; cases S j <;> simp
      have gi : G T i = true := by
        cases g : G T i with
        | true => rfl
        | false => rw [hf i hi g, si] at ui; cases ui
      have gj : G T j = true := by
        cases g : G T j with
        | true => rfl
        | false => rw [hf j hj g, sj] at uj; cases uj
      have ij : i ≠ j := fun e => by rw [e, sj] at si; cases si
      have s1 : Step k G S (flip S j) := .up hj sj (by rw [cs]; exact gj)
      have c1 : cnt k (flip S j) = T + 1 := by rw [cnt_flip_up hj sj, cs]
      have s2 : Step k G (flip S j) (flip (flip S j) i) := .dn hi (by rw [flip_ne _ ij]; exact si) (by rw [c1, Nat.add_sub_cancel]; exact gi)
      have c2 := cnt_flip_dn (k := k) (S := flip S j) hi (by rw [flip_ne _ ij]; exact si)
      refine ((Reach.one s1).trans (Reach.one s2)).trans (ih _ U ?_ (by omega) cu (fun l hl g => ?_) (fun l hl => ?_))
      · have e : (fun l => flip (flip S j) i l && !U l) = flip (fun l => S l && !U l) i := by
          funext l
          by_cases li : l = i
          · subst li
            rw [flip_self, flip_self, flip_ne _ ij, si, ui]
            rfl
          · rw [flip_ne _ li, flip_ne _ li]
            by_cases lj : l = j
            · subst lj
              rw [flip_self, sj, uj]
              rfl
            · rw [flip_ne _ lj]
        unfold diff
        rw [e]
        have := cnt_flip_dn (k := k) (S := fun l => S l && !U l) hi h1
        unfold diff at hd
        omega
      · have li : l ≠ i := fun e => by rw [e, gi] at g; cases g
        have lj : l ≠ j := fun e => by rw [e, gj] at g; cases g
        rw [flip_ne _ li, flip_ne _ lj]
        exact hf l hl g
      · rw [flip_ne _ (show l ≠ i by omega), flip_ne _ (show l ≠ j by omega)]
        exact ho l hl
/-! ### which lot a standing is in -/
/-- from below it gets to the top's number -/
def Rises (k : Nat) (G : Nat → Nat → Bool) (T : Nat) (S : Nat → Bool) : Prop := cnt k S ≤ T ∧ ∀ n, cnt k S ≤ n → n < T → n < cnt k (fun i => S i || G n i)
/-- from above -/
def Sinks (k : Nat) (G : Nat → Nat → Bool) (T : Nat) (S : Nat → Bool) : Prop := T < cnt k S ∧ ∀ s, T ≤ s → s < cnt k S → cnt k (fun i => S i && !G s i) ≤ s
theorem Rises.to {T : Nat} (t : Top k G T) (h : Rises k G T S) : ∃ U, Reach k G S U ∧ cnt k U = T := by
  obtain ⟨U, r, c, _⟩ := fill t.up T (by omega) h.1 h.2
  exact ⟨U, r, c⟩
theorem co_or (S : Nat → Bool) (f : Nat → Bool) : (fun i => co S i || f i) = co (fun i => S i && !f i) := by
  funext i
  show (!S i || f i) = !(S i && !f i)
  cases S i <;> cases f i <;> rfl
theorem Sinks.to {T : Nat} (t : Top k G T) (h : Sinks k G T S) : ∃ U, Reach k G S U ∧ cnt k U = T := by
  have tl := t.lt
  have c0 := cnt_co k S
  have cle := cnt_le k S
  obtain ⟨h1, h2⟩ := h
  obtain ⟨U, r, c, _⟩ := fill (k := k) (G := Th.dual k G) (S := co S) t.dual.up (k - 1 - T + 1) (by omega) (by omega) fun n a b => by
    have e : (fun i => co S i || Th.dual k G n i) = co (fun i => S i && !G (k - 1 - n) i) := co_or S _
    rw [e]
    have q := h2 (k - 1 - n) (by omega) (by omega)
    have c1 := cnt_co k (fun i => S i && !G (k - 1 - n) i)
    omega
  refine ⟨co U, ?_, ?_⟩
  · refine Reach.codual ?_
    rw [co_co]
    exact r
  · have := cnt_co k U
    omega
/-- two that get to the top's number and have the same fast ones here come to one another -/
theorem open_reach {T : Nat} (t : Top k G T) (hS : Rises k G T S ∨ Sinks k G T S) (hU : Rises k G T U ∨ Sinks k G T U) (hf : ∀ i, i < k → G T i = false → U i = S i) (ho : ∀ i, ¬ i < k → U i = S i) : Reach k G S U := by
  obtain ⟨S', rS, cS⟩ := hS.elim (fun h => h.to t) (fun h => h.to t)
  obtain ⟨U', rU, cU⟩ := hU.elim (fun h => h.to t) (fun h => h.to t)
  refine rS.trans (Reach.trans ?_ rU.symm)
  refine swap t _ S' U' (Nat.le_refl _) cS cU (fun i hi g => ?_) (fun i hi => ?_)
  · rw [fast_inv t rS i hi g, fast_inv t rU i hi g, hf i hi g]
  · rw [reach_out rS i hi, reach_out rU i hi, ho i hi]
/-- the first number at which filling is stuck -/
def StuckLow (k : Nat) (G : Nat → Nat → Bool) (N : Nat) (S : Nat → Bool) : Prop := cnt k S ≤ N ∧ (∀ n, cnt k S ≤ n → n < N → n < cnt k (fun i => S i || G n i)) ∧ cnt k (fun i => S i || G N i) ≤ N
theorem StuckLow.full {N : Nat} (h : StuckLow k G N S) {T : Nat} (t : Top k G T) (hN : N ≤ T) : ∃ U, Reach k G S U ∧ cnt k U = N ∧ ∀ i, i < k → U i = (S i || G N i) := stuck t.up hN h.1 h.2.1 h.2.2
theorem StuckLow.cnt_full {N : Nat} (h : StuckLow k G N S) {T : Nat} (t : Top k G T) (hN : N ≤ T) : cnt k (fun i => S i || G N i) = N := by
  obtain ⟨U, _, c, e⟩ := h.full t hN
  exact (cnt_congr e).symm.trans c
/-- nobody leaves the lot under it -/
theorem StuckLow.under {N T : Nat} (h : StuckLow k G N S) (t : Top k G T) (hN : N ≤ T) (r : Reach k G S U) : cnt k U ≤ N ∧ ∀ i, i < k → (U i || G N i) = (S i || G N i) := by
  refine Reach.inv (P := fun W => cnt k W ≤ N ∧ ∀ i, i < k → (W i || G N i) = (S i || G N i)) (low_inv t.up hN (h.cnt_full t hN) fun i _ g => by rw [g, Bool.or_true]) r ⟨h.1, fun _ _ => rfl⟩
/-- all of a lot are stuck alike -/
theorem StuckLow.same {N T : Nat} (h : StuckLow k G N S) (t : Top k G T) (hN : N ≤ T) (r : Reach k G S U) : StuckLow k G N U := by
  obtain ⟨c, e⟩ := h.under t hN r
  have ce : cnt k (fun i => U i || G N i) = N := by
    rw [cnt_congr e]
    exact h.cnt_full t hN
  refine ⟨c, fun n a b => ?_, by omega⟩
  -- stuck earlier it would never get to S's fullest one
  by_cases z : n < cnt k (fun i => U i || G n i)
  · exact z
  · exfalso
    -- the first such number
    have ex : ∃ m, cnt k U ≤ m ∧ m < N ∧ ¬ m < cnt k (fun i => U i || G m i) ∧ ∀ m', cnt k U ≤ m' → m' < m → m' < cnt k (fun i => U i || G m' i) := by
      clear ce e
      induction n using Nat.strongRecOn with
      | _ n ih =>
        by_cases q : ∀ m', cnt k U ≤ m' → m' < n → m' < cnt k (fun i => U i || G m' i)
        · exact ⟨n, a, b, z, q⟩
        · have : ∃ m', cnt k U ≤ m' ∧ m' < n ∧ ¬ m' < cnt k (fun i => U i || G m' i) := by
            refine Classical.byContradiction fun w => q fun m' x y => ?_
            refine Classical.byContradiction fun v => w ⟨m', x, y, v⟩
          obtain ⟨m', x, y, v⟩ := this
          exact ih m' y x (by omega) v
    obtain ⟨m, x, y, v, u⟩ := ex
    have sl : StuckLow k G m U := ⟨x, u, by omega⟩
    obtain ⟨F, rF, cF, _⟩ := h.full t hN
    have := (sl.under t (by omega) (r.symm.trans rF)).1
    omega
theorem StuckLow.iff {N T : Nat} (h : StuckLow k G N S) (t : Top k G T) (hN : N ≤ T) (ho : ∀ i, ¬ i < k → U i = S i) : Reach k G S U ↔ StuckLow k G N U ∧ ∀ i, i < k → (U i || G N i) = (S i || G N i) := by
  constructor
  · intro r
    exact ⟨h.same t hN r, (h.under t hN r).2⟩
  · rintro ⟨hu, e⟩
    obtain ⟨A, rA, _, eA⟩ := h.full t hN
    obtain ⟨B, rB, _, eB⟩ := hu.full t hN
    have : A = B := by
      funext i
      by_cases hi : i < k
      · rw [eA i hi, eB i hi, e i hi]
      · rw [reach_out rA i hi, reach_out rB i hi, ho i hi]
    rw [this] at rA
    exact rA.trans rB.symm
/-- each standing of no more than the top's number is stuck below it, or gets there -/
theorem low_or {T : Nat} (h : cnt k S ≤ T) : (∃ N, N < T ∧ StuckLow k G N S) ∨ Rises k G T S := by
  by_cases q : ∀ n, cnt k S ≤ n → n < T → n < cnt k (fun i => S i || G n i)
  · exact .inr ⟨h, q⟩
  · refine .inl ?_
    have : ∃ m, cnt k S ≤ m ∧ m < T ∧ ¬ m < cnt k (fun i => S i || G m i) := by
      refine Classical.byContradiction fun w => q fun m' x y => ?_
      refine Classical.byContradiction fun v => w ⟨m', x, y, v⟩
    obtain ⟨n, a, b, z⟩ := this
    clear q
    induction n using Nat.strongRecOn with
    | _ n ih =>
      by_cases q : ∀ m', cnt k S ≤ m' → m' < n → m' < cnt k (fun i => S i || G m' i)
      · exact ⟨n, b, a, q, by omega⟩
      · have : ∃ m', cnt k S ≤ m' ∧ m' < n ∧ ¬ m' < cnt k (fun i => S i || G m' i) := by
          refine Classical.byContradiction fun w => q fun m' x y => ?_
          refine Classical.byContradiction fun v => w ⟨m', x, y, v⟩
        obtain ⟨m', x, y, v⟩ := this
        exact ih m' y x (by omega) v
end
end Th
namespace Th
section
variable {k : Nat} {G : Nat → Nat → Bool} {S U W : Nat → Bool}
/-- i may go at U -/
def May (k : Nat) (G : Nat → Nat → Bool) (U : Nat → Bool) (i : Nat) : Prop := G (if U i = true then cnt k U - 1 else cnt k U) i = true
theorem May.step {i : Nat} (hi : i < k) (h : May k G U i) : Step k G U (flip U i) := by
  unfold May at h
  cases e : U i with
  | true => rw [e, if_pos rfl] at h; exact .dn hi e h
  | false => rw [e, if_neg Bool.false_ne_true] at h; exact .up hi e h
/-- ever goes -/
def Moves (k : Nat) (G : Nat → Nat → Bool) (S : Nat → Bool) (i : Nat) : Prop := ∃ U, Reach k G S U ∧ May k G U i
theorem moves_low {N T i : Nat} (h : StuckLow k G N S) (t : Top k G T) (hN : N ≤ T) (hi : i < k) : Moves k G S i ↔ 0 < N ∧ G (N - 1) i = true := by
  constructor
  · rintro ⟨U, r, m⟩
    obtain ⟨c, e⟩ := h.under t hN r
    unfold May at m
    cases u : U i with
    | true =>
      rw [u, if_pos rfl] at m
      have := cnt_pos hi u
      exact ⟨by omega, t.up _ _ _ (by omega) (by omega) m⟩
    | false =>
      rw [u, if_neg Bool.false_ne_true] at m
      by_cases z : cnt k U = N
      · exfalso
        rw [z] at m
        have cf := h.cnt_full t hN
        have hsub : ∀ j, j < k → U j = true → (S j || G N j) = true := fun j hj uj => by rw [← e j hj, uj]; rfl
        have := cnt_eq hsub (by omega) i hi (by rw [m, Bool.or_true])
        rw [u] at this
        cases this
      · exact ⟨by omega, t.up _ _ _ (by omega) (by omega) m⟩
  · rintro ⟨n0, g⟩
    obtain ⟨F, r, c, e⟩ := h.full t hN
    refine ⟨F, r, ?_⟩
    have fi : F i = true := by rw [e i hi, t.up _ _ _ (show N - 1 ≤ N by omega) hN g, Bool.or_true]
    unfold May
    rw [fi, if_pos rfl, c]
    exact g
/-- gets to the top's number, and there's somebody out who may go there -/
theorem moves_open {T i : Nat} (t : Top k G T) (hS : Rises k G T S ∨ Sinks k G T S) (hc : T < cnt k (fun i => S i || G T i)) (hi : i < k) : Moves k G S i ↔ G T i = true := by
  constructor
  · rintro ⟨U, r, m⟩
    unfold May at m
    have := cnt_le k U
    by_cases u : U i = true
    · rw [if_pos u] at m
      have := cnt_pos hi u
      exact t.all (by omega) m
    · rw [if_neg u] at m
      have u' : U i = false := by simpa using u
      have c := cnt_le k (flip U i)
      rw [cnt_flip_up hi u'] at c
      exact t.all (by omega) m
  · intro g
    obtain ⟨U, r, c⟩ := hS.elim (fun h => h.to t) (fun h => h.to t)
    by_cases u : U i = true
    · -- somebody j is out: exchange them
      have hf := fast_inv t r
      have ce : cnt k (fun i => U i || G T i) = cnt k (fun i => S i || G T i) := cnt_congr fun j hj => by
        cases q : G T j with
        | true => rw [Bool.or_true, Bool.or_true]
        | false => rw [Bool.or_false, Bool.or_false, hf j hj q]
      obtain ⟨j, hj, h1, h2⟩ := cnt_ex (k := k) (S := U) (U := fun i => U i || G T i) (by omega)
      have gj : G T j = true := by rw [h2] at h1; exact h1
      have ij : i ≠ j := fun e => by rw [e, h2] at u; cases u
      have s1 : Step k G U (flip U j) := .up hj h2 (by rw [c]; exact gj)
      have c1 : cnt k (flip U j) = T + 1 := by rw [cnt_flip_up hj h2, c]
      refine ⟨flip U j, r.step s1, ?_⟩
      unfold May
      rw [flip_ne _ ij, u, if_pos rfl, c1, Nat.add_sub_cancel]
      exact g
    · refine ⟨U, r, ?_⟩
      unfold May
      rw [if_neg u, c]
      exact g
/-- stuck at some number up to N, or not before it -/
theorem stuck_or (N : Nat) : (∃ n, n < N ∧ StuckLow k G n S) ∨ ∀ n, cnt k S ≤ n → n < N → n < cnt k (fun i => S i || G n i) := by
  by_cases h : cnt k S ≤ N
  · rcases low_or (k := k) (G := G) (S := S) h with ⟨n, a, b⟩ | r
    · exact .inl ⟨n, a, b⟩
    · exact .inr r.2
  · exact .inr fun n a b => by omega
/-- the three sorts of lots -/
theorem sorts {T : Nat} (t : Top k G T) : (∃ N, N ≤ T ∧ StuckLow k G N S) ∨ (∃ N, N ≤ k - 1 - T ∧ StuckLow k (Th.dual k G) N (co S)) ∨ ((Rises k G T S ∨ Sinks k G T S) ∧ T < cnt k (fun i => S i || G T i)) := by
  have tl := t.lt
  by_cases h : cnt k S ≤ T
  · rcases stuck_or (k := k) (G := G) (S := S) (T + 1) with ⟨N, a, b⟩ | r
    · exact .inl ⟨N, by omega, b⟩
    · exact .inr (.inr ⟨.inl ⟨h, fun n a b => r n a (by omega)⟩, r T h (by omega)⟩)
  · have c0 := cnt_co k S
    rcases stuck_or (k := k) (G := Th.dual k G) (S := co S) (k - 1 - T + 1) with ⟨N, a, b⟩ | r
    · exact .inr (.inl ⟨N, by omega, b⟩)
    · refine .inr (.inr ⟨.inr ⟨by omega, fun s a b => ?_⟩, ?_⟩)
      · have cle := cnt_le k S
        have q := r (k - 1 - s) (by omega) (by omega)
        have e : (fun i => co S i || Th.dual k G (k - 1 - s) i) = co (fun i => S i && !G s i) := by
          rw [co_or]
          funext i
          show (!(S i && !Th.dual k G (k - 1 - s) i)) = !(S i && !G s i)
          have := dual_dual_at (G := G) (k := k) (s := s) (by omega) i
          unfold Th.dual at this ⊢
          rw [this]
        rw [e] at q
        have c1 := cnt_co k (fun i => S i && !G s i)
        omega
      · have := cnt_mono (k := k) (S := S) (U := fun i => S i || G T i) fun i _ hs => by show (S i || G T i) = true; rw [hs]; rfl
        omega
theorem may_co {i : Nat} (hi : i < k) : May k (Th.dual k G) (co U) i ↔ May k G U i := by
  have c0 := cnt_co k U
  have cl := cnt_le k U
  unfold May Th.dual
  cases u : U i with
  | true =>
    have := cnt_pos hi u
    have e : co U i = false := by unfold co; rw [u]; rfl
    rw [e, if_neg Bool.false_ne_true, if_pos rfl, show k - 1 - cnt k (co U) = cnt k U - 1 by omega]
  | false =>
    have e : co U i = true := by unfold co; rw [u]; rfl
    have := cnt_pos (S := co U) hi e
    rw [e, if_pos rfl, if_neg Bool.false_ne_true, show k - 1 - (cnt k (co U) - 1) = cnt k U by omega]
theorem moves_co {i : Nat} (hi : i < k) : Moves k (Th.dual k G) (co S) i ↔ Moves k G S i := by
  constructor
  · rintro ⟨U, r, m⟩
    refine ⟨co U, ?_, ?_⟩
    · refine Reach.codual ?_
      rw [co_co]
      exact r
    · rw [← may_co hi, co_co]
      exact m
  · rintro ⟨U, r, m⟩
    exact ⟨co U, r.dual, (may_co hi).mpr m⟩
/-- stuck from above at N (of the turned sea): who moves -/
theorem moves_high {N T i : Nat} (h : StuckLow k (Th.dual k G) N (co S)) (t : Top k G T) (hN : N ≤ k - 1 - T) (hi : i < k) : Moves k G S i ↔ 0 < N ∧ G (k - N) i = true := by
  have tl := t.lt
  rw [← moves_co hi, moves_low h t.dual hN hi]
  constructor
  · rintro ⟨a, b⟩
    refine ⟨a, ?_⟩
    unfold Th.dual at b
    rw [show k - N = k - 1 - (N - 1) by omega]
    exact b
  · rintro ⟨a, b⟩
    refine ⟨a, ?_⟩
    unfold Th.dual
    rw [show k - 1 - (N - 1) = k - N by omega]
    exact b
end
end Th
namespace Th
section
variable {k : Nat} {G : Nat → Nat → Bool} {S U W : Nat → Bool}
def Sub (k : Nat) (A B : Nat → Bool) : Prop := ∀ i, i < k → A i = true → B i = true
/-- so many of Z, such that each set of a nested family is among them or they among it -/
theorem chain (F : Nat → Nat → Bool) (P : Nat → Prop) (nest : ∀ s s', P s → P s' → Sub k (F s) (F s') ∨ Sub k (F s') (F s)) (Z : Nat → Bool) (inZ : ∀ s, P s → Sub k (F s) Z) :
    ∀ m, m ≤ cnt k Z → ∃ A : Nat → Bool, Sub k A Z ∧ cnt k A = m ∧ (∀ i, ¬ i < k → A i = false) ∧ ∀ s, P s → Sub k A (F s) ∨ Sub k (F s) A := by
  intro m
  induction m with
  | zero =>
    intro _
    have e : ∀ n, cnt n (fun _ => false) = 0 := fun n => by
      induction n with
      | zero => rfl
      | succ n ih => rw [cnt_succ, ih]; rfl
    exact ⟨fun _ => false, (fun _ _ h => by cases h), e k, (fun _ _ => rfl), fun s _ => .inl (fun _ _ h => by cases h)⟩
  | succ m ih =>
    intro hm
    obtain ⟨A, a1, a2, a3, a4⟩ := ih (by omega)
    -- a smallest set of the family that isn't among them, or Z
    have pick : ∃ i, i < k ∧ A i = false ∧ Z i = true ∧ ∀ s, P s → ¬ Sub k (F s) A → F s i = true := by
      -- by how many members
      have go : ∀ n, (∃ s, P s ∧ ¬ Sub k (F s) A ∧ cnt k (F s) ≤ n) → ∃ i, i < k ∧ A i = false ∧ Z i = true ∧ ∀ s, P s → ¬ Sub k (F s) A → F s i = true := by
        intro n
        induction n using Nat.strongRecOn with
        | _ n ih2 =>
          rintro ⟨s, ps, hs, hn⟩
          by_cases q : ∃ s', P s' ∧ ¬ Sub k (F s') A ∧ cnt k (F s') < cnt k (F s)
          · obtain ⟨s', ps', hs', hlt⟩ := q
            exact ih2 (cnt k (F s')) (by omega) ⟨s', ps', hs', Nat.le_refl _⟩
          · have : ∃ i, i < k ∧ F s i = true ∧ A i = false := by
              refine Classical.byContradiction fun w => hs fun i hi f => ?_
              cases e : A i with
              | true => rfl
              | false => exact absurd ⟨i, hi, f, e⟩ w
            obtain ⟨i, hi, f, e⟩ := this
            refine ⟨i, hi, e, inZ s ps i hi f, fun s' ps' hs' => ?_⟩
            rcases nest s s' ps ps' with w | w
            · exact w i hi f
            · have hge : cnt k (F s) ≤ cnt k (F s') := by
                refine Classical.byContradiction fun v => q ⟨s', ps', hs', by omega⟩
              exact cnt_eq w hge i hi f
      by_cases q : ∃ s, P s ∧ ¬ Sub k (F s) A
      · obtain ⟨s, ps, hs⟩ := q
        exact go _ ⟨s, ps, hs, Nat.le_refl _⟩
      · obtain ⟨i, hi, z, e⟩ := cnt_ex (k := k) (S := A) (U := Z) (by omega)
        exact ⟨i, hi, e, z, fun s ps hs => absurd ⟨s, ps, hs⟩ q⟩
    obtain ⟨i, hi, e, z, hp⟩ := pick
    refine ⟨flip A i, fun j hj h => ?_, by rw [cnt_flip_up hi e, a2], fun j hj => ?_, fun s ps => ?_⟩
    · by_cases q : j = i
      · rw [q]; exact z
      · rw [flip_ne _ q] at h
        exact a1 j hj h
    · rw [flip_ne _ (show j ≠ i by omega)]
      exact a3 j hj
    · by_cases q : Sub k (F s) A
      · refine .inr fun j hj h => ?_
        by_cases w : j = i
        · subst w
          have := q j hj h
          rw [e] at this
          cases this
        · rw [flip_ne _ w]
          exact q j hj h
      · rcases a4 s ps with w | w
        · refine .inl fun j hj h => ?_
          by_cases v : j = i
          · rw [v]; exact hp s ps q
          · rw [flip_ne _ v] at h
            exact w j hj h
        · exact absurd w q
theorem cnt_diff {A B : Nat → Bool} (h : Sub k B A) : cnt k (fun i => A i && !B i) + cnt k B = cnt k A := by
  have e := cnt_split (k := k) A B
  have e2 : cnt k (fun i => A i && B i) = cnt k B := cnt_congr fun i hi => by
    cases b : B i with
    | true => rw [h i hi b]; rfl
    | false => rw [Bool.and_false]
  omega
theorem cnt_none {A : Nat → Bool} (h : ∀ i, i < k → A i = false) : cnt k A = 0 := by
  have := cnt_congr (k := k) (S := A) (U := fun _ => false) h
  have e : ∀ n, cnt n (fun _ => false) = 0 := fun n => by
    induction n with
    | zero => rfl
    | succ n ih => rw [cnt_succ, ih]; rfl
  rw [this, e]
/-- how few can come to lie here, of a lot that is stuck at N -/
theorem low_counts {N T n : Nat} (h : StuckLow k G N S) (t : Top k G T) (hN : N ≤ T) (hn : n ≤ N) : (∃ U, Reach k G S U ∧ cnt k U = n) ↔ ∀ m, m < N → m + 1 ≤ n + cnt k (G m) := by
  constructor
  · rintro ⟨U, r, c⟩ m hm
    by_cases z : n ≤ m
    · have q := (h.same t hN r).2.1 m (by omega) hm
      have e := cnt_or_not (k := k) U (G m)
      have e2 := cnt_mono (k := k) (S := fun i => G m i && !U i) (U := G m) fun i _ hh => by revert hh; cases G m i <;> simp
      omega
    · omega
  · intro hc
    have cf := h.cnt_full t hN
    -- the goers at N, so many of them out: the shallowest ones
    have cR : cnt k (fun i => S i && !G N i) + cnt k (G N) = N := by
      have e := cnt_or_not (k := k) (G N) S
      have e1 : (fun i => G N i || S i) = (fun i => S i || G N i) := funext fun i => Bool.or_comm _ _
      rw [e1] at e
      omega
    have hle : N - n ≤ cnt k (G N) := by
      by_cases z : N = 0
      · omega
      · have q := hc (N - 1) (by omega)
        have := cnt_mono (k := k) (S := G (N - 1)) (U := G N) fun i _ g => t.up _ _ _ (by omega) hN g
        omega
    obtain ⟨A, a1, a2, a3, a4⟩ := chain (k := k) G (fun m => m ≤ N) (fun s s' hs hs' => by
      by_cases z : s ≤ s'
      · exact .inl fun i _ g => t.up _ _ _ z (by omega) g
      · exact .inr fun i _ g => t.up _ _ _ (by omega) (by omega) g) (G N) (fun s hs i _ g => t.up _ _ _ hs hN g) (N - n) hle
    -- all others of the fullest one
    have hout : ∀ i, ¬ i < k → (fun i => if i < k then (S i || G N i) && !A i else S i) i = S i := fun i hi => by show (if i < k then (S i || G N i) && !A i else S i) = S i; rw [if_neg hi]
    have hin : ∀ i, i < k → (fun i => if i < k then (S i || G N i) && !A i else S i) i = ((S i || G N i) && !A i) := fun i hi => by show (if i < k then (S i || G N i) && !A i else S i) = _; rw [if_pos hi]
    have subA : Sub k A (fun i => S i || G N i) := fun i hi q => by show (S i || G N i) = true; rw [a1 i hi q, Bool.or_true]
    have cU : cnt k (fun i => if i < k then (S i || G N i) && !A i else S i) = n := by
      rw [cnt_congr hin]
      have := cnt_diff subA
      omega
    have or_eq : ∀ i, i < k → ((fun i => if i < k then (S i || G N i) && !A i else S i) i || G N i) = (S i || G N i) := fun i hi => by
      rw [hin i hi]
      cases q : A i with
      | true =>
        have := a1 i hi q
        rw [this, Bool.or_true, Bool.or_true]
      | false => cases S i <;> cases G N i <;> rfl
    have sl : StuckLow k G N (fun i => if i < k then (S i || G N i) && !A i else S i) := by
      refine ⟨by omega, fun m x y => ?_, ?_⟩
      · have q := hc m y
        -- all of the fullest one but those of A that aren't goers at m
        have e1 : cnt k (fun i => (fun i => if i < k then (S i || G N i) && !A i else S i) i || G m i) = cnt k (fun i => (S i || G N i) && !(A i && !G m i)) := cnt_congr fun i hi => by
          rw [hin i hi]
          cases g : G m i with
          | true =>
            rw [t.up _ _ _ (show m ≤ N by omega) hN g]
            cases S i <;> cases A i <;> rfl
          | false => cases S i <;> cases G N i <;> cases A i <;> rfl
        have sub2 : Sub k (fun i => A i && !G m i) (fun i => S i || G N i) := fun i hi w => subA i hi (by have w' : (A i && !G m i) = true := w; revert w'; cases A i <;> simp)
        have e2 := cnt_diff sub2
        rw [e1]
        rcases a4 m (by omega) with w | w
        · have e3 : cnt k (fun i => A i && !G m i) = 0 := cnt_none fun i hi => by
            cases q : A i with
            | false => rfl
            | true => rw [w i hi q]; rfl
          omega
        · have e3 := cnt_diff w
          omega
      · rw [cnt_congr or_eq]
        omega
    exact ⟨_, (h.iff t hN hout).mpr ⟨sl, or_eq⟩, cU⟩
/-- how many can come to lie here, of a lot that gets to the top's number -/
theorem open_counts {T n : Nat} (t : Top k G T) (hS : Rises k G T S ∨ Sinks k G T S) (hn : T ≤ n) : (∃ U, Reach k G S U ∧ cnt k U = n) ↔ n ≤ cnt k (fun i => S i || G T i) ∧ ∀ s, T ≤ s → s < k → n ≤ s + cnt k (G s) := by
  obtain ⟨V, rV, cV⟩ := hS.elim (fun h => h.to t) (fun h => h.to t)
  have tl := t.lt
  constructor
  · rintro ⟨U, r, c⟩
    have sub : Sub k U (fun i => S i || G T i) := fun i hi u => by
      cases g : G T i with
      | true => show (S i || G T i) = true; rw [g, Bool.or_true]
      | false =>
        rw [fast_inv t r i hi g] at u
        show (S i || G T i) = true
        rw [u]; rfl
    refine ⟨by rw [← c]; exact cnt_mono sub, fun s hs hk => ?_⟩
    by_cases z : n ≤ s
    · omega
    · -- U isn't stuck from above
      have c0 := cnt_co k U
      have cle := cnt_le k U
      rcases stuck_or (k := k) (G := Th.dual k G) (S := co U) (k - 1 - T + 1) with ⟨N, a, b⟩ | q
      · exfalso
        have hr := (rV.symm.trans r).symm.dual
        have := (b.under t.dual (by omega) hr).1
        have c1 := cnt_co k V
        omega
      · have q2 := q (k - 1 - s) (by omega) (by omega)
        have e : (fun i => co U i || Th.dual k G (k - 1 - s) i) = co (fun i => U i && !G s i) := by
          rw [co_or]
          funext i
          show (!(U i && !Th.dual k G (k - 1 - s) i)) = !(U i && !G s i)
          have := dual_dual_at (G := G) (k := k) (s := s) hk i
          unfold Th.dual at this ⊢
          rw [this]
        rw [e] at q2
        have c1 := cnt_co k (fun i => U i && !G s i)
        have c2 := cnt_split (k := k) U (G s)
        have c3 := cnt_mono (k := k) (S := fun i => U i && G s i) (U := G s) fun i _ h => by revert h; cases U i <;> simp
        omega
  · rintro ⟨h1, h2⟩
    have cR : cnt k (fun i => S i && !G T i) + cnt k (G T) = cnt k (fun i => S i || G T i) := by
      have e := cnt_or_not (k := k) (G T) S
      have e1 : (fun i => G T i || S i) = (fun i => S i || G T i) := funext fun i => Bool.or_comm _ _
      rw [e1] at e
      omega
    have rT : cnt k (fun i => S i && !G T i) ≤ T := by
      refine Nat.le_trans (cnt_mono (U := V) fun i hi q => ?_) (Nat.le_of_eq cV)
      have q' : (S i && !G T i) = true := q
      have g : G T i = false := by revert q'; cases G T i <;> cases S i <;> simp
      have s : S i = true := by revert q'; cases G T i <;> cases S i <;> simp
      rw [fast_inv t rV i hi g]
      exact s
    obtain ⟨A, a1, a2, a3, a4⟩ := chain (k := k) G (fun s => T ≤ s ∧ s < k) (fun s s' hs hs' => by
      by_cases z : s ≤ s'
      · exact .inr fun i _ g => t.dn _ _ _ hs.1 z hs'.2 g
      · exact .inl fun i _ g => t.dn _ _ _ hs'.1 (by omega) hs.2 g) (G T) (fun s hs i _ g => t.dn _ _ _ (Nat.le_refl _) hs.1 hs.2 g) (n - cnt k (fun i => S i && !G T i)) (by omega)
    have hout : ∀ i, ¬ i < k → (fun i => if i < k then (S i && !G T i) || A i else S i) i = S i := fun i hi => by show (if i < k then (S i && !G T i) || A i else S i) = S i; rw [if_neg hi]
    have hin : ∀ i, i < k → (fun i => if i < k then (S i && !G T i) || A i else S i) i = ((S i && !G T i) || A i) := fun i hi => by show (if i < k then (S i && !G T i) || A i else S i) = _; rw [if_pos hi]
    have cU : cnt k (fun i => if i < k then (S i && !G T i) || A i else S i) = n := by
      rw [cnt_congr hin, cnt_or_not]
      have : cnt k (fun i => A i && !(S i && !G T i)) = cnt k A := cnt_congr fun i hi => by
        cases q : A i with
        | false => rfl
        | true => rw [a1 i hi q]; cases S i <;> rfl
      omega
    refine ⟨_, open_reach t hS ?_ (fun i hi g => ?_) hout, cU⟩
    · by_cases z : n = T
      · exact .inl ⟨by omega, fun m x y => by omega⟩
      · refine .inr ⟨by omega, fun s x y => ?_⟩
        rw [cU] at y
        have sk : s < k := by
          have := cnt_le k (fun i => if i < k then (S i && !G T i) || A i else S i)
          omega
        have q := h2 s x sk
        have e1 : cnt k (fun i => (fun i => if i < k then (S i && !G T i) || A i else S i) i && !G s i) ≤ cnt k (fun i => S i && !G T i) + cnt k (fun i => A i && !G s i) := by
          have e : cnt k (fun i => (fun i => if i < k then (S i && !G T i) || A i else S i) i && !G s i) ≤ cnt k (fun i => (S i && !G T i) || (A i && !G s i)) := cnt_mono fun i hi w => by
            rw [hin i hi] at w
            show ((S i && !G T i) || (A i && !G s i)) = true
            revert w
            cases S i <;> cases G T i <;> cases A i <;> cases G s i <;> simp
          have e2 := cnt_or_not (k := k) (fun i => S i && !G T i) (fun i => A i && !G s i)
          have e3 := cnt_mono (k := k) (S := fun i => (A i && !G s i) && !(S i && !G T i)) (U := fun i => A i && !G s i) fun i _ w => by revert w; cases (A i && !G s i) <;> simp
          omega
        rcases a4 s ⟨x, sk⟩ with w | w
        · have e3 : cnt k (fun i => A i && !G s i) = 0 := cnt_none fun i hi => by
            cases q : A i with
            | false => rfl
            | true => rw [w i hi q]; rfl
          omega
        · have e3 := cnt_diff w
          omega
    · show (if i < k then S i && !G T i || A i else S i) = S i
      rw [if_pos hi, g]
      cases q : A i with
      | true => rw [a1 i hi q] at g; cases g
      | false => cases S i <;> rfl
end
end Th

namespace Sh
open PySem PySem.Spec PyProof.Rows L2
def spRight : Sp := fun vs H Q _ => ∃ b : Addr, vs = [.ref b] ∧ BoxAt H b 100000 ∧ ∀ H', But b H H' → Q (.bl true) H'
end Sh

namespace Sh
open PySem PySem.Spec PyProof.Rows L2
theorem lv_ni {n : Nat} (L : List Nat) (h : L.length ≤ 100000) : Lv (n + 2) (.list ((L.map fun (i : Nat) => (i : Int)).map .int)) := lv_ints _ (by rw [List.length_map]; exact h)
theorem lv_two {n : Nat} {a b : PyData} (ha : Lv n a) (hb : Lv n b) : Lv (n + 1) (.list [a, b]) := ⟨by show 2 ≤ 100000; decide, fun e he => by
  rcases List.mem_cons.mp he with z | z
  · rw [z]; exact ha
  · rw [List.mem_singleton.mp z]; exact hb⟩
end Sh

namespace Sh
open PySem PySem.Spec PyProof.Rows L2
/-! ### windows, goers, seas beside the box -/
theorem may_mk {h t : Int} {ds : List Int} {L : List Nat} {i : Nat} : mayB h t ds L i = decide (ds.getD i 0 ≤ mk h t ds.length (near L i : Int)) := by
  unfold mayB mk
  rw [Bool.eq_iff_iff, Bool.and_eq_true, decide_eq_true_eq, decide_eq_true_eq, decide_eq_true_eq]
  constructor
  · rintro ⟨a, b⟩
    split <;> omega
  · intro a
    split at a <;> omega
theorem in_lets {h t : Int} {ds : List Int} {L : List Nat} {i : Nat} (hi : i < ds.length) : inV (.int (i : Int)) (ni (lets h t ds L ds.length)) = mayB h t ds L i := by
  rw [in_ni, Bool.eq_iff_iff, decide_eq_true_eq]
  unfold lets
  rw [List.mem_filter, List.mem_range]
  exact ⟨fun q => q.2, fun q => ⟨hi, q⟩⟩
theorem in_gs {m : Int} {ds : List Int} {i : Nat} (hi : i < ds.length) : inV (.int (i : Int)) (((gs m ds ds.length).map fun (i : Nat) => (i : Int)).map V.int) = decide (ds.getD i 0 ≤ m) := by
  rw [← ni_ints, in_ni, Bool.eq_iff_iff, decide_eq_true_eq, decide_eq_true_eq]
  unfold gs
  rw [List.mem_filter, List.mem_range, decide_eq_true_eq]
  exact ⟨fun q => q.2, fun q => ⟨hi, q⟩⟩
/-- a sea that is none of the box -/
def SeaB (K : PySem.W.Frag) (H : Hp) (b : Addr) (v : V) (h t : Int) (ds : List Int) : Prop := ∃ p q, v = .ref p ∧ SqA K H p [.int h, .int t, .ref q] ∧ SqA K H q (ds.map V.int) ∧ p ≠ b ∧ q ≠ b
theorem SeaB.but {K : PySem.W.Frag} {H H' : Hp} {b : Addr} {v : V} {h t : Int} {ds : List Int} (s : SeaB K H b v h t ds) (u : But b H H') : SeaB K H' b v h t ds := let ⟨p, q, e, hp, hq, pb, qb⟩ := s; ⟨p, q, e, (Kp.ofB u pb).sa hp, (Kp.ofB u qb).sa hq, pb, qb⟩
theorem SeaB.a {K : PySem.W.Frag} {H : Hp} {b : Addr} {v : V} {h t : Int} {ds : List Int} (s : SeaB K H b v h t ds) : SeaA K H v h t ds := let ⟨p, q, e, hp, hq, _, _⟩ := s; ⟨p, q, e, hp, hq⟩
/-- a window as it is told: None, or a new pair -/
def WinAt (H H' : Hp) (sp : V) (lo hi : Int) : Prop := (lo > hi ∧ sp = .non) ∨ (¬ lo > hi ∧ ∃ a, sp = .ref a ∧ H a = none ∧ H' a = some (.tup [.int lo, .int hi]))
def spWin (K : PySem.W.Frag) : Sp := fun vs H Q _ => ∃ (v : V) (h t d : Int) (j : Nat) (ds : List Int), vs = [v, .int (j : Int)] ∧ SeaA K H v h t ds ∧ ds[j]? = some d ∧ ∀ (sp : V) (H' : Hp), Same H H' → WinAt H H' sp (lowI h d) (highI t ds.length d) → Q sp H'
theorem win_imp {K : PySem.W.Frag} (vs : List V) (H : Hp) (Q : VK) (E : XK) (z : spWin K vs H Q E) : spWindow K vs H Q E := by
  obtain ⟨v, h, t, d, j, ds, rfl, hv, hj, q⟩ := z
  exact ⟨v, h, t, d, j, ds, rfl, hv, hj, fun c => q .non H (Same.refl _) (.inl ⟨c, rfl⟩), fun c p np => q (.ref p) _ (same_new np) (.inr ⟨c, p, rfl, np, upd_same⟩)⟩
end Sh

namespace Sh
open PySem PySem.Spec PyProof.Rows L2
/-! ### lots as sets, crossings of lots -/
def mem (L : List Nat) : Nat → Bool := fun i => decide (i ∈ L)
theorem cnt_mem {c : Nat} {L : List Nat} (h : Lot c L) : Th.cnt c (mem L) = L.length := by
  unfold Th.cnt mem
  rw [List.countP_eq_length_filter]
  exact congrArg List.length h.mem_eq.symm
theorem mem_out {c : Nat} {L : List Nat} (h : Lot c L) {i : Nat} (hi : ¬ i < c) : mem L i = false := decide_eq_false fun z => hi (h.lt i z)
theorem lot_ext {c : Nat} {L M : List Nat} (h : Lot c L) (h' : Lot c M) (e : ∀ i, i < c → mem L i = mem M i) : L = M := by
  rw [h.mem_eq, h'.mem_eq]
  exact List.filter_congr fun i hi => e i (List.mem_range.mp hi)
/-- who goes at a step -/
def Gof (h t : Int) (ds : List Int) : Nat → Nat → Bool := fun s i => decide (ds.getD i 0 ≤ mk h t ds.length (s : Int))
theorem near_cnt {c : Nat} {L : List Nat} (h : Lot c L) {i : Nat} (hi : i < c) : near L i = if i ∈ L then L.length - 1 else L.length := by
  by_cases z : i ∈ L
  · rw [if_pos z, near_in h]
    have e := filter_filter_len (fun j => decide (j ∈ L)) (fun j => decide (j = i)) (List.range c)
    have e1 : ((List.range c).filter fun j => decide (j ∈ L)).length = L.length := congrArg List.length h.mem_eq.symm
    have e2 : ((List.range c).filter fun j => decide (j ∈ L) && decide (j = i)).length = 1 := by
      rw [← one_of hi]
      congr 1
      refine List.filter_congr fun a _ => ?_
      by_cases q : a = i
      · subst q
        rw [decide_eq_true z]
        rfl
      · rw [decide_eq_false q, Bool.and_false]
    omega
  · rw [if_neg z]
    exact near_out z
theorem may_G {h t : Int} {ds : List Int} {L : List Nat} {i : Nat} : mayB h t ds L i = Gof h t ds (near L i) i := may_mk
/-- the standing behind i's going over -/
def gone (L : List Nat) (i : Nat) : List Nat := if i ∈ L then L.filter (fun j => !decide (j = i)) else L.filter (fun j => decide (j < i)) ++ i :: L.filter (fun j => decide (i < j))
theorem gone_lot {c : Nat} {L : List Nat} (h : Lot c L) {i : Nat} (hi : i < c) : Lot c (gone L i) := by
  unfold gone
  split
  · exact h.filter _
  · refine ⟨List.pairwise_append.mpr ⟨h.up.filter _, List.pairwise_cons.mpr ⟨fun a ha => ?_, h.up.filter _⟩, fun a ha b hb => ?_⟩, fun a ha => ?_⟩
    · simpa using (List.mem_filter.mp ha).2
    · have h1 : a < i := by simpa using (List.mem_filter.mp ha).2
      rcases List.mem_cons.mp hb with q | q
      · omega
      · have : i < b := by simpa using (List.mem_filter.mp q).2
        omega
    · rcases List.mem_append.mp ha with q | q
      · exact h.lt a (List.mem_filter.mp q).1
      · rcases List.mem_cons.mp q with q | q
        · omega
        · exact h.lt a (List.mem_filter.mp q).1
theorem gone_mem {L : List Nat} {i : Nat} : mem (gone L i) = Th.flip (mem L) i := by
  funext j
  unfold mem gone
  by_cases z : i ∈ L
  · rw [if_pos z]
    by_cases e : j = i
    · subst e
      rw [Th.flip_self]
      simp [z]
    · rw [Th.flip_ne _ e]
      simp [e]
  · rw [if_neg z]
    by_cases e : j = i
    · subst e
      rw [Th.flip_self]
      simp [z]
    · rw [Th.flip_ne _ e]
      by_cases q : j < i
      · simp [e, q]
        omega
      · have : i < j := by omega
        simp [e, q, this]
/-- one comes to the other -/
def Rl (h t : Int) (ds : List Int) (L M : List Nat) : Prop := Th.Reach ds.length (Gof h t ds) (mem L) (mem M)
theorem rl_one {h t : Int} {ds : List Int} {L : List Nat} {i : Nat} (hL : Lot ds.length L) (hi : i < ds.length) (m : mayB h t ds L i = true) : Rl h t ds L (gone L i) := by
  unfold Rl
  rw [gone_mem]
  rw [may_G, near_cnt hL hi] at m
  refine .one ?_
  by_cases z : i ∈ L
  · rw [if_pos z] at m
    exact .dn hi (decide_eq_true z) (by rw [cnt_mem hL]; exact m)
  · rw [if_neg z] at m
    exact .up hi (decide_eq_false z) (by rw [cnt_mem hL]; exact m)
/-- behind its going over it may go back -/
theorem may_back {h t : Int} {ds : List Int} {L : List Nat} {i : Nat} (hL : Lot ds.length L) (hi : i < ds.length) : near (gone L i) i = near L i := by
  rw [near_cnt (gone_lot hL hi) hi, near_cnt hL hi]
  have m : mem (gone L i) i = !mem L i := by rw [gone_mem, Th.flip_self]
  have c1 := cnt_mem hL
  have c2 := cnt_mem (gone_lot hL hi)
  rw [gone_mem] at c2
  by_cases z : i ∈ L
  · have z2 : ¬ i ∈ gone L i := fun q => by
      have : mem (gone L i) i = true := decide_eq_true q
      rw [m, show mem L i = true from decide_eq_true z] at this
      cases this
    have := Th.cnt_flip_dn (k := ds.length) (S := mem L) hi (decide_eq_true z)
    rw [if_pos z, if_neg z2]
    omega
  · have z2 : i ∈ gone L i := by
      have : mem (gone L i) i = true := by rw [m, show mem L i = false from decide_eq_false z]; rfl
      exact of_decide_eq_true this
    have := Th.cnt_flip_up (k := ds.length) (S := mem L) hi (decide_eq_false z)
    rw [if_neg z, if_pos z2]
    omega
theorem top_of (h t : Int) (ds : List Int) (hk : 0 < ds.length) : Th.Top ds.length (Gof h t ds) (topI h t ds.length).toNat := by
  have t0 := top_lo h t ds.length
  have t1 := top_hi h t hk
  refine ⟨by omega, fun s s' i a b g => ?_, fun s s' i a b c g => ?_⟩
  · have g' : ds.getD i 0 ≤ mk h t ds.length (s : Int) := of_decide_eq_true g
    refine decide_eq_true (Int.le_trans g' ?_)
    have b' : (s' : Int) ≤ topI h t ds.length := by omega
    clear g g' t0 t1
    unfold mk topI at *
    repeat' split
    all_goals (repeat' split at b')
    all_goals omega
  · have g' : ds.getD i 0 ≤ mk h t ds.length (s' : Int) := of_decide_eq_true g
    refine decide_eq_true (Int.le_trans g' ?_)
    have b' : topI h t ds.length ≤ (s : Int) := by omega
    clear g g' t0 t1
    unfold mk topI at *
    repeat' split
    all_goals (repeat' split at b')
    all_goals omega
/-! ### what is told of it -/
def IsMost (h t : Int) (ds : List Int) (L : List Nat) (m : Nat) : Prop := (∃ M, Lot ds.length M ∧ Rl h t ds L M ∧ M.length = m) ∧ ∀ M, Lot ds.length M → Rl h t ds L M → M.length ≤ m
def IsLeast (h t : Int) (ds : List Int) (L : List Nat) (m : Nat) : Prop := (∃ M, Lot ds.length M ∧ Rl h t ds L M ∧ M.length = m) ∧ ∀ M, Lot ds.length M → Rl h t ds L M → m ≤ M.length
def IsMovers (h t : Int) (ds : List Int) (L ms : List Nat) : Prop := Lot ds.length ms ∧ ∀ i, i < ds.length → (i ∈ ms ↔ ∃ M, Lot ds.length M ∧ Rl h t ds L M ∧ mayB h t ds M i = true)
theorem IsMost.uniq {h t : Int} {ds : List Int} {L L' : List Nat} {m m' : Nat} (r : Rl h t ds L L') (a : IsMost h t ds L m) (b : IsMost h t ds L' m') : m = m' := by
  obtain ⟨⟨M, l1, r1, e1⟩, h1⟩ := a
  obtain ⟨⟨M', l2, r2, e2⟩, h2⟩ := b
  have := h1 M' l2 (r.trans r2)
  have := h2 M l1 (r.symm.trans r1)
  omega
theorem IsLeast.uniq {h t : Int} {ds : List Int} {L L' : List Nat} {m m' : Nat} (r : Rl h t ds L L') (a : IsLeast h t ds L m) (b : IsLeast h t ds L' m') : m = m' := by
  obtain ⟨⟨M, l1, r1, e1⟩, h1⟩ := a
  obtain ⟨⟨M', l2, r2, e2⟩, h2⟩ := b
  have := h1 M' l2 (r.trans r2)
  have := h2 M l1 (r.symm.trans r1)
  omega
theorem IsMovers.uniq {h t : Int} {ds : List Int} {L L' ms ms' : List Nat} (r : Rl h t ds L L') (a : IsMovers h t ds L ms) (b : IsMovers h t ds L' ms') : ms = ms' := by
  refine lot_ext a.1 b.1 fun i hi => ?_
  unfold mem
  rw [decide_eq_decide, a.2 i hi, b.2 i hi]
  exact ⟨fun ⟨M, l, q, m⟩ => ⟨M, l, r.symm.trans q, m⟩, fun ⟨M, l, q, m⟩ => ⟨M, l, r.trans q, m⟩⟩
/-- a sea whose draughts are a tuple is handed in -/
def SeaD (K : PySem.W.Frag) (H : Hp) (v : V) (h t : Int) (ds : List Int) : Prop := ∃ p q, v = .ref p ∧ SqA K H p [.int h, .int t, .ref q] ∧ SqT K H q (ds.map V.int)
theorem SeaD.same {K : PySem.W.Frag} {H H' : Hp} {v : V} {h t : Int} {ds : List Int} (s : SeaD K H v h t ds) (e : Same H H') : SeaD K H' v h t ds := let ⟨p, q, a, b, c⟩ := s; ⟨p, q, a, Same.sqA e b, Same.tup e c⟩
theorem SeaD.a {K : PySem.W.Frag} {H : Hp} {v : V} {h t : Int} {ds : List Int} (s : SeaD K H v h t ds) : SeaA K H v h t ds := let ⟨p, q, a, b, c⟩ := s; ⟨p, q, a, b, .inr c⟩
def spMost (K : PySem.W.Frag) : Sp := fun vs H Q _ => ∃ (v l : V) (h t : Int) (ds : List Int) (L : List Nat), vs = [v, l] ∧ SeaD K H v h t ds ∧ LotA K H l L ∧ ds.length ≤ 60 ∧ 0 < ds.length ∧ Lot ds.length L ∧ ∀ (H' : Hp) (m : Nat), Same H H' → IsMost h t ds L m → Q (.int (m : Int)) H'
def spLeast (K : PySem.W.Frag) : Sp := fun vs H Q _ => ∃ (v l : V) (h t : Int) (ds : List Int) (L : List Nat), vs = [v, l] ∧ SeaD K H v h t ds ∧ LotA K H l L ∧ ds.length ≤ 60 ∧ 0 < ds.length ∧ Lot ds.length L ∧ ∀ (H' : Hp) (m : Nat), Same H H' → IsLeast h t ds L m → Q (.int (m : Int)) H'
def spMovers (K : PySem.W.Frag) : Sp := fun vs H Q _ => ∃ (v l : V) (h t : Int) (ds : List Int) (L : List Nat), vs = [v, l] ∧ SeaD K H v h t ds ∧ LotA K H l L ∧ ds.length ≤ 60 ∧ 0 < ds.length ∧ Lot ds.length L ∧
  ∀ (H' : Hp) (p : Addr) (ms : List Nat), Same H H' → H p = none → H' p = some (.lst (ni ms)) → IsMovers h t ds L ms → Q (.ref p) H'
def spComes (K : PySem.W.Frag) : Sp := fun vs H Q _ => ∃ (v l m : V) (h t : Int) (ds : List Int) (L M : List Nat), vs = [v, l, m] ∧ SeaD K H v h t ds ∧ LotA K H l L ∧ LotA K H m M ∧ ds.length ≤ 60 ∧ 0 < ds.length ∧ Lot ds.length L ∧ Lot ds.length M ∧
  ∀ (H' : Hp) (b : Bool), Same H H' → (b = true ↔ Rl h t ds L M) → Q (.bl b) H'
/-! ### turned about -/
def away (c : Nat) (L : List Nat) : List Nat := (List.range c).filter fun i => !decide (i ∈ L)
theorem away_lot (c : Nat) (L : List Nat) : Lot c (away c L) := (Lot.all c).filter _
theorem mk_turn {h t : Int} {k s : Nat} (hs : s < k) : mk t h k (s : Int) = mk h t k ((k - 1 - s : Nat) : Int) := by
  unfold mk
  split <;> split <;> omega
theorem mem_away {c : Nat} {L : List Nat} {i : Nat} (hi : i < c) : mem (away c L) i = !mem L i := by
  unfold mem away
  rw [Bool.eq_iff_iff, decide_eq_true_eq, List.mem_filter, List.mem_range]
  simp [hi]
end Sh

namespace Sh
/-! ### fleets: sums over sorts, and ships one by one -/
abbrev Srt := Int × Nat × Nat
def mny (ss : List Srt) : Nat := (ss.map fun x => x.2.1 + x.2.2).sum
theorem mny_cons (x : Srt) (l : List Srt) : mny (x :: l) = x.2.1 + x.2.2 + mny l := by
  unfold mny
  rw [List.map_cons, List.sum_cons]
theorem mny_snoc (l : List Srt) (x : Srt) : mny (l ++ [x]) = mny l + (x.2.1 + x.2.2) := by
  unfold mny
  rw [List.map_append, List.sum_append]
  simp
def ourn (ss : List Srt) : Nat := (ss.map fun x => x.2.1).sum
def gmF (ss : List Srt) (m : Int) : Nat := ((ss.filter fun x => decide (x.1 ≤ m)).map fun x => x.2.1 + x.2.2).sum
def filF (ss : List Srt) (m : Int) : Nat := (ss.map fun x => x.2.1 + if x.1 ≤ m then x.2.2 else 0).sum
def fxF (ss : List Srt) (m : Int) : List Nat := (ss.filter fun x => decide (x.1 > m)).map fun x => x.2.1
def turnF (ss : List Srt) : List Srt := ss.map fun x => (x.1, x.2.2, x.2.1)
theorem mny_turn (ss : List Srt) : mny (turnF ss) = mny ss := by
  unfold mny turnF
  rw [List.map_map]
  congr 1
  exact List.map_congr_left fun x _ => Nat.add_comm _ _
theorem turn_turn (ss : List Srt) : turnF (turnF ss) = ss := by
  unfold turnF
  rw [List.map_map]
  exact (List.map_congr_left fun x _ => rfl).trans (List.map_id ss)
/-- the ships of a fleet one by one -/
structure Rp (ss : List Srt) (k : Nat) (D : Nat → Int) (S : Nat → Bool) : Prop where
  here : ∀ P : Int → Bool, ((ss.filter fun x => P x.1).map fun x => x.2.1).sum = Th.cnt k (fun i => P (D i) && S i)
  there : ∀ P : Int → Bool, ((ss.filter fun x => P x.1).map fun x => x.2.2).sum = Th.cnt k (fun i => P (D i) && !S i)
theorem sum_two (f g : Srt → Nat) : ∀ l : List Srt, (l.map fun x => f x + g x).sum = (l.map f).sum + (l.map g).sum
  | [] => rfl
  | a :: l => by
    simp only [List.map_cons, List.sum_cons, sum_two f g l]
    omega
theorem sum_filter (P : Srt → Bool) (f : Srt → Nat) : ∀ l : List Srt, (l.map fun x => if P x = true then f x else 0).sum = ((l.filter P).map f).sum
  | [] => rfl
  | a :: l => by
    cases h : P a <;> simp [h, sum_filter P f l]
section
variable {ss : List Srt} {k : Nat} {D : Nat → Int} {S : Nat → Bool}
theorem Rp.gm (r : Rp ss k D S) (m : Int) : gmF ss m = Th.cnt k (fun i => decide (D i ≤ m)) := by
  unfold gmF
  rw [sum_two (fun x => x.2.1) (fun x => x.2.2), r.here fun d => decide (d ≤ m), r.there fun d => decide (d ≤ m)]
  exact (Th.cnt_split _ S).symm
theorem Rp.ourn (r : Rp ss k D S) : ourn ss = Th.cnt k S := by
  have e := r.here fun _ => true
  rw [List.filter_eq_self.mpr fun _ _ => rfl] at e
  exact e
theorem Rp.mny (r : Rp ss k D S) : mny ss = k := by
  have e := r.there fun _ => true
  rw [List.filter_eq_self.mpr fun _ _ => rfl] at e
  unfold Sh.mny
  rw [sum_two (fun x => x.2.1) (fun x => x.2.2), e]
  have e2 := r.ourn
  unfold Sh.ourn at e2
  rw [e2]
  exact Th.cnt_not S
theorem Rp.fil (r : Rp ss k D S) (m : Int) : filF ss m = Th.cnt k (fun i => S i || decide (D i ≤ m)) := by
  unfold filF
  rw [sum_two (fun x => x.2.1) (fun x => if x.1 ≤ m then x.2.2 else 0)]
  have e1 := r.ourn
  unfold Sh.ourn at e1
  have e2 : (ss.map fun x => if x.1 ≤ m then x.2.2 else 0).sum = Th.cnt k (fun i => decide (D i ≤ m) && !S i) := by
    rw [← r.there fun d => decide (d ≤ m), ← sum_filter]
    congr 1
    refine List.map_congr_left fun x _ => ?_
    by_cases z : x.1 ≤ m
    · rw [if_pos z, if_pos (decide_eq_true z)]
    · rw [if_neg z, if_neg (by simpa using z)]
  rw [e1, e2, Th.cnt_or_not]
theorem Rp.fx (r : Rp ss k D S) (m : Int) : (fxF ss m).sum = Th.cnt k (fun i => S i && !decide (D i ≤ m)) := by
  unfold fxF
  rw [r.here fun d => decide (d > m)]
  refine Th.cnt_congr fun i _ => ?_
  rw [Bool.and_comm]
  congr 1
  by_cases z : D i ≤ m
  · rw [decide_eq_true z, decide_eq_false (by omega)]; rfl
  · rw [decide_eq_false z, decide_eq_true (by omega)]; rfl
theorem Rp.turn (r : Rp ss k D S) : Rp (turnF ss) k D (Th.co S) := by
  refine ⟨fun P => ?_, fun P => ?_⟩
  · have e := r.there P
    unfold turnF
    rw [List.filter_map, List.map_map]
    exact e
  · have e := r.here P
    unfold turnF
    rw [List.filter_map, List.map_map]
    refine Eq.trans e ?_
    refine Th.cnt_congr fun i _ => ?_
    unfold Th.co
    rw [Bool.not_not]
end
/-- who goes at a step -/
def Gd (h t : Int) (k : Nat) (D : Nat → Int) : Nat → Nat → Bool := fun s i => decide (D i ≤ mk h t k (s : Int))
theorem top_lo' (h t : Int) (k : Nat) : 0 ≤ topI h t k := by
  unfold topI
  split <;> omega
theorem top_hi' (h t : Int) {k : Nat} (hk : 0 < k) : topI h t k < (k : Int) := by
  unfold topI
  repeat' split
  all_goals omega
theorem mk_le {h t : Int} {k : Nat} {s s' : Int} (s0 : 0 ≤ s) (a : s ≤ s') (b : s' ≤ topI h t k) : mk h t k s ≤ mk h t k s' := by
  unfold mk topI at *
  repeat' split
  all_goals (repeat' split at b)
  all_goals omega
theorem mk_dn {h t : Int} {k : Nat} {s s' : Int} (c : topI h t k ≤ s) (a : s ≤ s') (d : s' < (k : Int)) : mk h t k s' ≤ mk h t k s := by
  unfold mk topI at *
  repeat' split
  all_goals (repeat' split at c)
  all_goals omega
theorem mk_turn' {h t : Int} {k : Nat} {s : Int} : mk t h k s = mk h t k ((k : Int) - 1 - s) := by
  unfold mk
  split <;> split <;> omega
/-- up to the top the water here bounds -/
theorem mk_low {h t : Int} {k : Nat} {s : Int} (s0 : 0 ≤ s) (b : s < topI h t k) : mk h t k s = h + s := by
  unfold mk topI at *
  repeat' split at b
  all_goals split
  all_goals omega
theorem mk_high {h t : Int} {k : Nat} {s : Int} (s0 : 0 ≤ s) (b : s < (k : Int) - 1 - topI h t k) : mk t h k s = t + s := by
  unfold mk topI at *
  repeat' split at b
  all_goals split
  all_goals omega
theorem top_D (h t : Int) {k : Nat} (D : Nat → Int) (hk : 0 < k) : Th.Top k (Gd h t k D) (topI h t k).toNat := by
  have t0 := top_lo' h t k
  have t1 := top_hi' h t hk
  refine ⟨by omega, fun s s' i a b g => ?_, fun s s' i a b c g => ?_⟩
  · have g' : D i ≤ mk h t k (s : Int) := of_decide_eq_true g
    exact decide_eq_true (Int.le_trans g' (mk_le (by omega) (by omega) (by omega)))
  · have g' : D i ≤ mk h t k (s' : Int) := of_decide_eq_true g
    exact decide_eq_true (Int.le_trans g' (mk_dn (by omega) (by omega) (by omega)))
theorem Gd_turn {h t : Int} {k : Nat} {D : Nat → Int} {s i : Nat} (hs : s < k) : Gd t h k D s i = Th.dual k (Gd h t k D) s i := by
  unfold Gd Th.dual
  rw [mk_turn', show ((k : Int) - 1 - (s : Int)) = ((k - 1 - s : Nat) : Int) by omega]
/-! ### stuck, by sums -/
def StuckF (h t : Int) (ss : List Srt) (N : Nat) : Prop := ourn ss ≤ N ∧ (∀ n : Nat, ourn ss ≤ n → n < N → n < filF ss (mk h t (mny ss) (n : Int))) ∧ filF ss (mk h t (mny ss) (N : Int)) ≤ N
theorem Rp.stuck {ss : List Srt} {k : Nat} {D : Nat → Int} {S : Nat → Bool} (r : Rp ss k D S) (h t : Int) (N : Nat) : StuckF h t ss N ↔ Th.StuckLow k (Gd h t k D) N S := by
  unfold StuckF Th.StuckLow
  rw [r.ourn, r.mny, r.fil]
  have e : ∀ n : Nat, filF ss (Sh.mk h t k (n : Int)) = Th.cnt k (fun i => S i || Gd h t k D n i) := fun n => r.fil _
  simp only [e]
  exact Iff.rfl
end Sh
namespace Th
theorem StuckLow.congr {k : Nat} {G G' : Nat → Nat → Bool} {S : Nat → Bool} {N : Nat} (hN : N < k) (e : ∀ s i, s < k → G s i = G' s i) (h : StuckLow k G N S) : StuckLow k G' N S := by
  have e2 : ∀ n, n < k → cnt k (fun i => S i || G n i) = cnt k (fun i => S i || G' n i) := fun n hn => cnt_congr fun i _ => by rw [e n i hn]
  refine ⟨h.1, fun n a b => ?_, ?_⟩
  · rw [← e2 n (by omega)]
    exact h.2.1 n a b
  · rw [← e2 N hN]
    exact h.2.2
/-- gets to the top's number, and somebody may go there -/
def Open (k : Nat) (G : Nat → Nat → Bool) (T : Nat) (S : Nat → Bool) : Prop := (Rises k G T S ∨ Sinks k G T S) ∧ T < cnt k (fun i => S i || G T i)
theorem Open.congr {k : Nat} {G G' : Nat → Nat → Bool} {T : Nat} {S : Nat → Bool} (hT : T < k) (e : ∀ s i, s < k → G s i = G' s i) (h : Open k G T S) : Open k G' T S := by
  have e2 : ∀ n, n < k → cnt k (fun i => S i || G n i) = cnt k (fun i => S i || G' n i) := fun n hn => cnt_congr fun i _ => by rw [e n i hn]
  have e3 : ∀ n, n < k → cnt k (fun i => S i && !G n i) = cnt k (fun i => S i && !G' n i) := fun n hn => cnt_congr fun i _ => by rw [e n i hn]
  have cl := cnt_le k S
  refine ⟨h.1.imp (fun q => ⟨q.1, fun n a b => ?_⟩) (fun q => ⟨q.1, fun s a b => ?_⟩), ?_⟩
  · rw [← e2 n (by omega)]
    exact q.2 n a b
  · rw [← e3 s (by omega)]
    exact q.2 s a b
  · rw [← e2 T hT]
    exact h.2
theorem cnt_and_or {k : Nat} (S f : Nat → Bool) : cnt k (fun i => S i && !f i) + cnt k f = cnt k (fun i => S i || f i) := by
  have e := cnt_or_not (k := k) f S
  have e1 : (fun i => f i || S i) = (fun i => S i || f i) := funext fun i => Bool.or_comm _ _
  rw [e1] at e
  omega
theorem Open.dual {k : Nat} {G : Nat → Nat → Bool} {T : Nat} {S : Nat → Bool} (t : Top k G T) (h : Open k G T S) : Open k (Th.dual k G) (k - 1 - T) (co S) := by
  have tl := t.lt
  have c0 := cnt_co k S
  have cle := cnt_le k S
  have key : ∀ n, n < k → cnt k (fun i => co S i && !Th.dual k G (k - 1 - n) i) + cnt k (fun i => S i || G n i) = k := fun n hn => by
    have e : (fun i => co S i && !Th.dual k G (k - 1 - n) i) = co (fun i => S i || G n i) := by
      funext i
      have := dual_dual_at (G := G) (k := k) (s := n) hn i
      unfold Th.dual at this
      show (!S i && !G (k - 1 - (k - 1 - n)) i) = !(S i || G n i)
      rw [this]
      cases S i <;> cases G n i <;> rfl
    rw [e, Nat.add_comm]
    exact cnt_co k _
  have key2 : ∀ n, n < k → cnt k (fun i => co S i || Th.dual k G (k - 1 - n) i) + cnt k (fun i => S i && !G n i) = k := fun n hn => by
    have e : (fun i => co S i || Th.dual k G (k - 1 - n) i) = co (fun i => S i && !G n i) := by
      rw [co_or]
      funext i
      have := dual_dual_at (G := G) (k := k) (s := n) hn i
      unfold Th.dual at this
      show (!(S i && !G (k - 1 - (k - 1 - n)) i)) = !(S i && !G n i)
      rw [this]
    rw [e, Nat.add_comm]
    exact cnt_co k _
  obtain ⟨rs, hc⟩ := h
  have hf : cnt k (fun i => S i && !G T i) ≤ T := by
    rcases rs with q | q
    · exact Nat.le_trans (cnt_mono fun i _ w => by revert w; cases S i <;> simp) q.1
    · exact q.2 T (Nat.le_refl _) q.1
  refine ⟨?_, ?_⟩
  · rcases rs with ⟨q1, q2⟩ | ⟨q1, q2⟩
    · refine .inr ⟨by omega, fun s a b => ?_⟩
      have hk := key (k - 1 - s) (by omega)
      rw [show k - 1 - (k - 1 - s) = s by omega] at hk
      have : k - 1 - s < cnt k (fun i => S i || G (k - 1 - s) i) := by
        by_cases z : k - 1 - s = T
        · rw [z]; exact hc
        · exact q2 _ (by omega) (by omega)
      omega
    · refine .inl ⟨by omega, fun n a b => ?_⟩
      have hk := key2 (k - 1 - n) (by omega)
      rw [show k - 1 - (k - 1 - n) = n by omega] at hk
      have := q2 (k - 1 - n) (by omega) (by omega)
      omega
  · have hk := key2 T tl
    omega
/-- how few can come to lie here, of a lot that gets to the top's number -/
theorem open_counts_low {k : Nat} {G : Nat → Nat → Bool} {T n : Nat} {S : Nat → Bool} (t : Top k G T) (h : Open k G T S) (hn : n ≤ T + 1) : (∃ U, Reach k G S U ∧ cnt k U = n) ↔ cnt k (fun i => S i && !G T i) ≤ n ∧ ∀ m, m ≤ T → m + 1 ≤ n + cnt k (G m) := by
  have tl := t.lt
  have hd := h.dual t
  have oc := open_counts (n := k - n) t.dual hd.1 (by omega)
  have e1 : (∃ U, Reach k G S U ∧ cnt k U = n) ↔ ∃ U, Reach k (Th.dual k G) (co S) U ∧ cnt k U = k - n := by
    constructor
    · rintro ⟨U, r, c⟩
      refine ⟨co U, r.dual, ?_⟩
      have := cnt_co k U
      omega
    · rintro ⟨U, r, c⟩
      refine ⟨co U, ?_, ?_⟩
      · refine Reach.codual ?_
        rw [co_co]
        exact r
      · have := cnt_co k U
        omega
  have e2 : cnt k (fun i => co S i || Th.dual k G (k - 1 - T) i) + cnt k (fun i => S i && !G T i) = k := by
    have e : (fun i => co S i || Th.dual k G (k - 1 - T) i) = co (fun i => S i && !G T i) := by
      rw [co_or]
      funext i
      have := dual_dual_at (G := G) (k := k) (s := T) tl i
      unfold Th.dual at this
      show (!(S i && !G (k - 1 - (k - 1 - T)) i)) = !(S i && !G T i)
      rw [this]
    rw [e, Nat.add_comm]
    exact cnt_co k _
  rw [e1, oc]
  constructor
  · rintro ⟨a, b⟩
    refine ⟨by omega, fun m hm => ?_⟩
    have := b (k - 1 - m) (by omega) (by omega)
    unfold Th.dual at this
    rw [show k - 1 - (k - 1 - m) = m by omega] at this
    have this' : k - n ≤ k - 1 - m + cnt k (G m) := this
    omega
  · rintro ⟨a, b⟩
    refine ⟨by omega, fun s hs hk => ?_⟩
    have := b (k - 1 - s) (by omega)
    show k - n ≤ s + cnt k (G (k - 1 - s))
    omega
def IsMin (k : Nat) (G : Nat → Nat → Bool) (S : Nat → Bool) (n : Nat) : Prop := (∃ U, Reach k G S U ∧ cnt k U = n) ∧ ∀ U, Reach k G S U → n ≤ cnt k U
def IsMax (k : Nat) (G : Nat → Nat → Bool) (S : Nat → Bool) (n : Nat) : Prop := (∃ U, Reach k G S U ∧ cnt k U = n) ∧ ∀ U, Reach k G S U → cnt k U ≤ n
theorem IsMin.co {k : Nat} {G : Nat → Nat → Bool} {S : Nat → Bool} {n : Nat} (h : IsMin k (Th.dual k G) (co S) n) : n ≤ k ∧ IsMax k G S (k - n) := by
  obtain ⟨⟨U, r, c⟩, hm⟩ := h
  have cu := cnt_le k U
  refine ⟨by omega, ⟨Th.co U, ?_, ?_⟩, fun W rW => ?_⟩
  · refine Reach.codual ?_
    rw [co_co]
    exact r
  · have := cnt_co k U
    omega
  · have := hm _ rW.dual
    have := cnt_co k W
    omega
theorem IsMin.congr {k : Nat} {G G' : Nat → Nat → Bool} {S : Nat → Bool} {n : Nat} (e : ∀ s i, s < k → G s i = G' s i) (h : IsMin k G S n) : IsMin k G' S n := by
  obtain ⟨⟨U, r, c⟩, hm⟩ := h
  exact ⟨⟨U, r.congr e, c⟩, fun W rW => hm W (rW.congr fun s i hs => (e s i hs).symm)⟩
theorem stuck_min_high {k : Nat} {G : Nat → Nat → Bool} {T N : Nat} {S : Nat → Bool} (t : Top k G T) (hN : N ≤ T) (h : StuckLow k G N S) : IsMax k G S N := by
  obtain ⟨U, r, c, _⟩ := h.full t hN
  exact ⟨⟨U, r, c⟩, fun W rW => (h.under t hN rW).1⟩
end Th
namespace Sh
/-! ### the least number, as it's told -/
/-- m is the greatest of what least_in looks at -/
def LeastI (h t : Int) (ss : List Srt) (step : Int) (m : Int) : Prop :=
  (m = ((fxF ss (mk h t (mny ss) step)).sum : Int) ∨ ∃ e : Int, (e = step ∨ (∃ x ∈ ss, e = x.1 - h ∧ e < step)) ∧ 0 < e ∧ m = e - (gmF ss (mk h t (mny ss) (e - 1)) : Int)) ∧
  ((fxF ss (mk h t (mny ss) step)).sum : Int) ≤ m ∧ ∀ e : Int, (e = step ∨ (∃ x ∈ ss, e = x.1 - h ∧ e < step)) → 0 < e → e - (gmF ss (mk h t (mny ss) (e - 1)) : Int) ≤ m
/-- the ends are enough -/
theorem least_ends {h t : Int} {ss : List Srt} {N : Nat} {m0 : Int} (hm : ∀ m : Nat, m < N → mk h t (mny ss) (m : Int) = h + m)
    (ub : ∀ e : Int, (e = (N : Int) ∨ (∃ x ∈ ss, e = x.1 - h ∧ e < (N : Int))) → 0 < e → e - (gmF ss (mk h t (mny ss) (e - 1)) : Int) ≤ m0) :
    ∀ (j m : Nat), m < N → N - m = j → (m : Int) + 1 - (gmF ss (mk h t (mny ss) (m : Int)) : Int) ≤ m0 := by
  intro j
  induction j with
  | zero => intro m a b; omega
  | succ j ih =>
    intro m a b
    by_cases z : m + 1 = N
    · have := ub N (.inl rfl) (by omega)
      rw [show (N : Int) - 1 = (m : Int) by omega] at this
      omega
    · by_cases q : ∃ x ∈ ss, x.1 - h = (m : Int) + 1
      · obtain ⟨x, hx, e⟩ := q
        have := ub ((m : Int) + 1) (.inr ⟨x, hx, e.symm, by omega⟩) (by omega)
        rw [show (m : Int) + 1 - 1 = (m : Int) by omega] at this
        exact this
      · have i2 := ih (m + 1) (by omega) (by omega)
        rw [hm (m + 1) (by omega)] at i2
        rw [hm m a]
        have e : gmF ss (h + ((m + 1 : Nat) : Int)) = gmF ss (h + (m : Int)) := by
          unfold gmF
          congr 2
          refine List.filter_congr fun x hx => ?_
          rw [decide_eq_decide]
          have : ¬ x.1 - h = (m : Int) + 1 := fun w => q ⟨x, hx, w⟩
          omega
        rw [e] at i2
        omega
section
variable {ss : List Srt} {k : Nat} {D : Nat → Int} {S : Nat → Bool} {h t : Int}
theorem least_low (r : Rp ss k D S) {T N : Nat} (tp : Th.Top k (Gd h t k D) T) (hN : N ≤ T) (sl : Th.StuckLow k (Gd h t k D) N S) (hm : ∀ m : Nat, m < N → mk h t k (m : Int) = h + m) {m0 : Int} (L : LeastI h t ss (N : Int) m0) :
    ∃ n : Nat, m0 = (n : Int) ∧ Th.IsMin k (Gd h t k D) S n := by
  obtain ⟨l1, l2, l3⟩ := L
  have km := r.mny
  have hends := least_ends (h := h) (t := t) (ss := ss) (N := N) (by rw [km]; exact hm) l3
  have efx := r.fx (mk h t (mny ss) (N : Int))
  rw [km] at efx hends l1 l2 l3
  have gme : ∀ m : Nat, gmF ss (mk h t k (m : Int)) = Th.cnt k (Gd h t k D m) := fun m => r.gm _
  have fxle : (fxF ss (mk h t k (N : Int))).sum ≤ Th.cnt k S := by
    rw [efx]
    exact Th.cnt_mono fun i _ w => by revert w; cases S i <;> simp
  have m0N : m0 ≤ (N : Int) := by
    have := sl.1
    rcases l1 with e | ⟨e, he, e0, e1⟩
    · omega
    · rcases he with he | ⟨x, _, _, he⟩ <;> omega
  have cond : ∀ m, m < N → m + 1 ≤ m0.toNat + Th.cnt k (Gd h t k D m) := fun m a => by
    have := hends _ m a rfl
    rw [gme] at this
    omega
  refine ⟨m0.toNat, by omega, (Th.low_counts sl tp hN (by omega)).mpr cond, fun U rU => ?_⟩
  have ur := sl.under tp hN rU
  have lc := (Th.low_counts sl tp hN ur.1).mp ⟨U, rU, rfl⟩
  rcases l1 with e | ⟨e, he, e0, e1⟩
  · have : Th.cnt k (fun i => S i && !Gd h t k D N i) ≤ Th.cnt k U := Th.cnt_mono fun i hi w => by
      have := ur.2 i hi
      revert w this
      cases S i <;> cases U i <;> cases Gd h t k D N i <;> simp
    have e3 : (fxF ss (mk h t k (N : Int))).sum = Th.cnt k (fun i => S i && !Gd h t k D N i) := efx
    omega
  · have eN : e ≤ (N : Int) := by rcases he with he | ⟨x, _, _, he⟩ <;> omega
    have := lc (e - 1).toNat (by omega)
    rw [show e - 1 = (((e - 1).toNat : Nat) : Int) by omega, gme] at e1
    omega
theorem least_open (r : Rp ss k D S) {T : Nat} (tp : Th.Top k (Gd h t k D) T) (op : Th.Open k (Gd h t k D) T S) (hm : ∀ m : Nat, m < T → mk h t k (m : Int) = h + m) {m0 : Int} (L : LeastI h t ss (T : Int) m0) :
    ∃ n : Nat, m0 = (n : Int) ∧ Th.IsMin k (Gd h t k D) S n := by
  obtain ⟨l1, l2, l3⟩ := L
  have km := r.mny
  have hends := least_ends (h := h) (t := t) (ss := ss) (N := T) (by rw [km]; exact hm) l3
  have efx := r.fx (mk h t (mny ss) (T : Int))
  rw [km] at efx hends l1 l2 l3
  have e3 : (fxF ss (mk h t k (T : Int))).sum = Th.cnt k (fun i => S i && !Gd h t k D T i) := efx
  have gme : ∀ m : Nat, gmF ss (mk h t k (m : Int)) = Th.cnt k (Gd h t k D m) := fun m => r.gm _
  have fT : Th.cnt k (fun i => S i && !Gd h t k D T i) ≤ T := by
    rcases op.1 with q | q
    · exact Nat.le_trans (Th.cnt_mono fun i _ w => by revert w; cases S i <;> simp) q.1
    · exact q.2 T (Nat.le_refl _) q.1
  have m0N : m0 ≤ (T : Int) := by
    rcases l1 with e | ⟨e, he, e0, e1⟩
    · omega
    · rcases he with he | ⟨x, _, _, he⟩ <;> omega
  have ca := Th.cnt_and_or (k := k) S (Gd h t k D T)
  have opc := op.2
  refine ⟨m0.toNat, by omega, (Th.open_counts_low tp op (by omega)).mpr ⟨by omega, fun m a => ?_⟩, fun U rU => ?_⟩
  · by_cases z : m = T
    · subst z
      omega
    · have := hends _ m (by omega) rfl
      rw [gme] at this
      omega
  · by_cases z : Th.cnt k U ≤ T + 1
    · have lc := (Th.open_counts_low tp op z).mp ⟨U, rU, rfl⟩
      rcases l1 with e | ⟨e, he, e0, e1⟩
      · have := lc.1
        omega
      · have eN : e ≤ (T : Int) := by rcases he with he | ⟨x, _, _, he⟩ <;> omega
        have := lc.2 (e - 1).toNat (by omega)
        rw [show e - 1 = (((e - 1).toNat : Nat) : Int) by omega, gme] at e1
        omega
    · omega
end
end Sh

namespace Sh
open PySem PySem.Spec PyProof.Rows L2
theorem may_May {h t : Int} {ds : List Int} {L : List Nat} {i : Nat} (hL : Lot ds.length L) (hi : i < ds.length) : mayB h t ds L i = true ↔ Th.May ds.length (Gof h t ds) (mem L) i := by
  rw [may_G, near_cnt hL hi]
  unfold Th.May
  rw [cnt_mem hL]
  unfold mem
  by_cases z : i ∈ L
  · rw [if_pos z, decide_eq_true z, if_pos rfl]
  · rw [if_neg z, decide_eq_false z, if_neg Bool.false_ne_true]
/-- the lot of a set -/
def lotOf (c : Nat) (U : Nat → Bool) : List Nat := (List.range c).filter U
theorem lotOf_lot (c : Nat) (U : Nat → Bool) : Lot c (lotOf c U) := (Lot.all c).filter _
theorem lotOf_mem {c : Nat} {U : Nat → Bool} {i : Nat} (hi : i < c) : mem (lotOf c U) i = U i := by
  unfold mem lotOf
  rw [Bool.eq_iff_iff, decide_eq_true_eq, List.mem_filter, List.mem_range]
  exact ⟨fun q => q.2, fun q => ⟨hi, q⟩⟩
theorem lotOf_eq {h t : Int} {ds : List Int} {L : List Nat} {U : Nat → Bool} (hL : Lot ds.length L) (r : Th.Reach ds.length (Gof h t ds) (mem L) U) : mem (lotOf ds.length U) = U := by
  funext i
  by_cases hi : i < ds.length
  · exact lotOf_mem hi
  · rw [Th.reach_out r i hi, mem_out hL hi, mem_out (lotOf_lot _ _) hi]
/-- to be one of those that ever go, by lots or by sets -/
theorem ex_moves {h t : Int} {ds : List Int} {L : List Nat} (hL : Lot ds.length L) {i : Nat} (hi : i < ds.length) : (∃ M, Lot ds.length M ∧ Rl h t ds L M ∧ mayB h t ds M i = true) ↔ Th.Moves ds.length (Gof h t ds) (mem L) i := by
  constructor
  · rintro ⟨M, l, r, m⟩
    exact ⟨mem M, r, (may_May l hi).mp m⟩
  · rintro ⟨U, r, m⟩
    have e := lotOf_eq hL r
    refine ⟨lotOf ds.length U, lotOf_lot _ _, ?_, ?_⟩
    · unfold Rl
      rw [e]
      exact r
    · rw [may_May (lotOf_lot _ _) hi, e]
      exact m
theorem movers_moves {h t : Int} {ds : List Int} {L ms : List Nat} (hL : Lot ds.length L) (im : IsMovers h t ds L ms) {i : Nat} (hi : i < ds.length) : i ∈ ms ↔ Th.Moves ds.length (Gof h t ds) (mem L) i := by
  rw [im.2 i hi, ex_moves hL hi]
/-- the most, the least, by sets -/
theorem isMost_of {h t : Int} {ds : List Int} {L : List Nat} {n : Nat} (hL : Lot ds.length L) (q : Th.IsMax ds.length (Gof h t ds) (mem L) n) : IsMost h t ds L n := by
  obtain ⟨⟨U, r, c⟩, hm⟩ := q
  have e := lotOf_eq hL r
  refine ⟨⟨lotOf ds.length U, lotOf_lot _ _, ?_, ?_⟩, fun M l rM => ?_⟩
  · unfold Rl
    rw [e]
    exact r
  · rw [← cnt_mem (lotOf_lot _ _), e]
    exact c
  · rw [← cnt_mem l]
    exact hm _ rM
theorem isLeast_of {h t : Int} {ds : List Int} {L : List Nat} {n : Nat} (hL : Lot ds.length L) (q : Th.IsMin ds.length (Gof h t ds) (mem L) n) : IsLeast h t ds L n := by
  obtain ⟨⟨U, r, c⟩, hm⟩ := q
  have e := lotOf_eq hL r
  refine ⟨⟨lotOf ds.length U, lotOf_lot _ _, ?_, ?_⟩, fun M l rM => ?_⟩
  · unfold Rl
    rw [e]
    exact r
  · rw [← cnt_mem (lotOf_lot _ _), e]
    exact c
  · rw [← cnt_mem l]
    exact hm _ rM
end Sh

namespace Sh
open PySem PySem.Spec PyProof.Rows L2
def spGone (K : PySem.W.Frag) : Sp := fun vs H Q _ => ∃ (l : V) (L : List Nat) (c i : Nat), vs = [l, .int (i : Int)] ∧ LotA K H l L ∧ Lot c L ∧ c ≤ 1000 ∧ i < c ∧ ∀ (H' : Hp) (p : Addr), Same H H' → H p = none → H' p = some (.tup (ni (gone L i))) → Q (.ref p) H'
abbrev s__law_gone : Stmt := topS 38
theorem sc__law_gone : FnScope (["_law_lot", "_law_whom", "_law_mate"] : List Str) (["_law_lot", "_law_whom"] : List Str) (defScope s__law_gone) := ⟨rfl, rfl, rfl, by decide +kernel, rfl, by decide +kernel, by decide +kernel⟩
theorem b__law_gone (kV doc pm : Value) (an : Option Addr) (cdv ct : Value) (us : List Value) (hl : us.length = (["_law_lot", "_law_whom"] : List Str).length) : bindArgs (PySem.W.fnOf "_law_gone" "_law_gone" (defArgs s__law_gone) (defBody s__law_gone) (defScope s__law_gone) .none kV doc pm an cdv ct) ⟨us, []⟩ = pure ((["_law_lot", "_law_whom"] : List Str).zip us) :=
  match us, hl with | [_, _], _ => rfl
section
variable {P : Program} {w : World} {K : PySem.W.Frag} {mg : Str → Option Value} {base : Heap}
theorem ok_gone {k : Nat} (D : Df K mg "_law_gone" s__law_gone) (T : Bt mg) : Ok P w K mg base (k + 1) "_law_gone" s__law_gone ["_law_lot", "_law_whom"] (spGone K) := by
  refine D.ok sc__law_gone b__law_gone (fun vs H Q E h => ?_) (fun f cdv A outer s H vs Q E hr h => ?_)
  · obtain ⟨l, L, c, i, rfl, _⟩ := h
    rfl
  · obtain ⟨l, L, c, i, rfl, ⟨pl, rfl, hl⟩, hL, c1, hi, q⟩ := h
    have ll := hL.len
    refine ⟨_, (pss_cons (ps_if (pt_cmpR op_in_seq (pv 1) (pv 0) (by rfl))
        (pss_one (ps_ret (pe_callTy call_tuple_of (by rfl) T.tuple_ (by decide +kernel) (pa_cons (pe_lc (own := [("_law_mate", 2)]) (g := (gName 2)) (by rfl) sc__law_gone.nd (pi_seq (pv 0)) (blkOk_by (own := [("_law_mate", 2)]) (N := (["_law_lot", "_law_whom", "_law_mate"] : List Str)) (sc := defScope s__law_gone) (by decide +kernel)) (fun _ _ _ _ _ => (pg_name (i := 2) sc__law_gone.nd rfl (.inl rfl))) (fun _ _ _ _ _ => (pts_one (pt_cmpR op_ne (pv 2) (pv 1) (nomark _)))) (fun _ _ _ _ _ => (pv 2))) pa_nil))))
        pss_nil)
      (pss_one (ps_ret (pe_callTy call_tuple_of (by rfl) T.tuple_ (by decide +kernel) (pa_cons (pe_callB cr_sortedI (by rfl) T.sorted_ (by decide +kernel) (pa_cons (pe_op op_cat (pe_callTy call_list_of (by rfl) T.list_ (by decide +kernel) (pa_cons (pv 0) pa_nil)) (pe_lst (pa_cons (pv 1) pa_nil))) pa_nil)) pa_nil))))), ?_⟩
    refine ⟨_, rfl, _, rfl, pl, _, rfl, hl, rfl, ni_flat L, _, rfl, ?_⟩
    rw [if_neg Bool.false_ne_true, in_ni]
    by_cases z : i ∈ L
    · rw [decide_eq_true z]
      refine iteT ?_
      refine ⟨_, rfl, pl, _, H, rfl, hl, Kp.refl _ _, fun J hJ C nC => ?_⟩
      obtain ⟨G, g, W⟩ := hJ.walk
      refine lc_it W (fun j H' => Same H H' ∧ H' C = some (.lst (ni ((L.take j).filter fun m => !decide (m = i))))) ⟨same_new nC, upd_same⟩ (fun j H' _ z => g H' (.ofS z.1)) ?_ ?_
      · rintro j x H3 H4 hj ⟨s3, hC⟩ ⟨rfl, gx⟩
        rw [ni_len] at hj
        obtain rfl : .int ((L[j] : Nat) : Int) = x := Option.some.inj ((ni_get hj).symm.trans gx)
        refine ⟨rfl, ?_⟩
        refine ⟨_, rfl, _, rfl, rfl, _, rfl, ite2 (fun c => ?_) (fun c => ?_)⟩
        · have c0 : ¬ L[j] = i := fun e => by
            rw [e] at c
            simp at c
          refine ⟨_, rfl, _, hC, ?_, same_over s3 nC, ?_⟩
          · rw [ni_len]
            have h1 := List.length_filter_le (fun m => !decide (m = i)) (L.take j)
            rw [List.length_take] at h1
            exact small1000 (by omega)
          · rw [upd_same, take_succ_get hj, List.filter_append, ni_app, List.filter_cons_of_pos (by simpa using c0)]
            rfl
        · have c0 : L[j] = i := by
            by_cases e : L[j] = i
            · exact e
            · exfalso
              refine c ?_
              have z2 : ¬ V.int ((L[j] : Nat) : Int) = V.int (i : Int) := fun w => e (by have := V.int.inj w; omega)
              rw [decide_eq_false z2]
              rfl
          refine ⟨s3, ?_⟩
          rw [hC, take_succ_get hj, List.filter_append, List.filter_cons_of_neg (by simpa using c0)]
          simp
      rintro H3 ⟨s3, hC⟩
      rw [ni_len, List.take_length] at hC
      refine ⟨C, _, rfl, .inl ⟨SqL.of hC, fun p np => ?_⟩⟩
      refine q _ p (s3.trans (same_new np)) (s3.free np) ?_
      rw [upd_same, gone, if_pos z]
    · rw [decide_eq_false z]
      refine iteF ?_
      refine ⟨_, rfl, pl, _, rfl, hl, fun a na => ?_⟩
      have s1 : Same H (upd H a (.lst (ni L))) := same_new na
      have e1 : upd H a (.lst (ni L)) a = _ := upd_same
      generalize upd H a (.lst (ni L)) = H1 at s1 e1
      refine ⟨_, rfl, (by show 1 ≤ sizeLine; decide), fun o no => ?_⟩
      have s2 : Same H1 (upd H1 o (.lst [.int (i : Int)])) := same_new no
      have e2 : upd H1 o (.lst [.int (i : Int)]) o = _ := upd_same
      generalize upd H1 o (.lst [.int (i : Int)]) = H2 at s2 e2
      refine ⟨a, o, _, _, rfl, rfl, s2 _ _ e1, e2, ?_, fun ct nct => ?_⟩
      · rw [ni_len]
        show L.length + 1 ≤ sizeLine
        exact Nat.le_trans (show L.length + 1 ≤ 1001 by omega) (by decide)
      have s3 : Same H2 (upd H2 ct (.lst (ni L ++ [.int (i : Int)]))) := same_new nct
      have e3 : upd H2 ct (.lst (ni L ++ [.int (i : Int)])) ct = some (.lst (((L ++ [i]).map fun (i : Nat) => (i : Int)).map V.int)) := by
        rw [upd_same, ← ni_ints, ni_app]
        rfl
      generalize upd H2 ct (.lst (ni L ++ [.int (i : Int)])) = H3 at s3 e3
      refine ⟨ct, _, rfl, SqL.of e3, fun ns2 p2 pm2 up2 np2 => ?_⟩
      obtain ⟨L2, rfl, pL2, hL2⟩ := lot_sorted (c := c) pm2 up2 (List.nodup_append.mpr ⟨hL.up.imp Nat.ne_of_lt, by simp, fun a ha y hy => by rw [List.mem_singleton.mp hy]; exact fun e => z (e ▸ ha)⟩) fun j hj => by
        rcases List.mem_append.mp hj with y | y
        · exact hL.lt j y
        · rw [List.mem_singleton.mp y]
          exact hi
      have eg : L2 = gone L i := by
        refine lot_ext hL2 (gone_lot hL hi) fun j _ => ?_
        rw [gone_mem]
        unfold mem
        by_cases e : j = i
        · subst e
          rw [Th.flip_self]
          simp [z, pL2.mem_iff]
        · rw [Th.flip_ne _ e]
          simp [e, pL2.mem_iff]
      have s4 : Same H3 (upd H3 p2 (.lst ((L2.map fun (i : Nat) => (i : Int)).map V.int))) := same_new np2
      have e4 : upd H3 p2 (.lst ((L2.map fun (i : Nat) => (i : Int)).map V.int)) p2 = some (.lst (ni L2)) := by rw [upd_same, ni_ints]
      generalize upd H3 p2 (.lst ((L2.map fun (i : Nat) => (i : Int)).map V.int)) = H4 at s4 e4
      refine ⟨p2, _, rfl, .inl ⟨SqL.of e4, fun p np => ?_⟩⟩
      have s14 := s1.trans (s2.trans (s3.trans s4))
      refine q _ p (s14.trans (same_new np)) (s14.free np) ?_
      rw [upd_same, eg]
end
end Sh

/-! set(xs) of a list of ints, by the walk of the list -/
namespace Sh
open PySem PySem.Spec PyProof.Rows L2
section
variable {P : Program} {w : World} {A : Around} {E : Value → Shared → Prop} {s : Shared}
/-- a set as it is born -/
abbrev Bare (w : World) : Obj := { cls := .type "set", dict := none, data := .set #[] 0 (.fresh 0 0 (!w.params.followText "set-order")) }
/-- what is left: a set of the ints; all that stood stands -/
def Made (w : World) (s : Shared) (ns : List Int) (t : Shared) : Prop := ∃ (h' : Heap) (tk c : Nat), t = { s with heap := h', toks := tk } ∧ SetR w h' s.heap.objs.size (fun j => decide (j ∈ ns)) c ∧ c ≤ ns.length ∧ ∀ b o, s.heap.get? b = some o → h'.get? b = some o
/-- the ints of the list, one by one, into the set that was born at the end of the heap -/
theorem fill_lst {A3 : Around} {l : Addr} {items : Array Value} {ns : List Int} {R : Result → Shared → Prop} (hh : A3.in1.handled = none) (hl : s.heap.IsList l items) (hit : IntsAre items.toList ns) (hb : ns.length + 1 < scanBound)
    (hR : ∀ t, Made w s ns t → R (.ok (.ret .none)) t) :
    codeAny (model P w) A3 (.builtin "set.update.loop" ⟨[.ref s.heap.objs.size, .ref (s.heap.push (Bare w)).objs.size], []⟩) R { s with heap := (s.heap.push (Bare w)).push { cls := .type "list_iterator", data := .fields #[.ref l, .int 0 0] } } := by
  have n1 : items.size = ns.length := by rw [← Array.length_toList]; exact hit.length
  obtain ⟨ol, e1, e2, e3⟩ := id hl
  have l1 : l < s.heap.objs.size := Heap.lt_size e1
  have z1 : (s.heap.push (Bare w)).objs.size = s.heap.objs.size + 1 := Heap.size_push ..
  have l2 : l ≠ (s.heap.push (Bare w)).objs.size := by rw [z1]; exact Nat.ne_of_lt (Nat.lt_succ_of_lt l1)
  have vals : ∀ (i : Nat) (v : Value), items[i]? = some v → ∃ k t, ns[i]? = some k ∧ v = .int k t := by
    intro i v hv
    have hi : i < ns.length := n1 ▸ (Array.getElem?_eq_some_iff.mp hv).1
    obtain ⟨t, e⟩ := IntsAre.int_at hit i v (by rw [Array.getElem?_toList]; exact hv)
    exact ⟨ns[i], t, List.getElem?_eq_getElem hi, by rw [e, List.getD_eq_getElem?_getD, List.getElem?_eq_getElem hi]; rfl⟩
  have born : ((s.heap.push (Bare w)).push { cls := .type "list_iterator", data := .fields #[.ref l, .int 0 0] }).get? s.heap.objs.size = some (Bare w) := Heap.get?_push_of_some _ (Heap.get?_push_size _ rfl)
  refine set_update_ints ((Walks.list hh _ l l2 items).toS) s.heap.objs.size (by rw [z1]; simp only [List.mem_cons, List.not_mem_nil, or_false, not_or]; exact ⟨Nat.ne_of_lt (Nat.lt_succ_self _), Nat.ne_of_gt l1⟩) ns n1 hb vals (items.size - 0) 0 _ (by omega) (Nat.zero_le _) ⟨⟨_, Heap.get?_push_size _ rfl, rfl, rfl⟩, (hl.push _).push _⟩ ⟨0, Nat.le_refl 0, setR_new_at born⟩ ?_
  rintro ⟨h', g2, d', tk', os'⟩ c' mv hc' hS'
  obtain rfl : g2 = s.gens := mv.gens
  obtain rfl : d' = s.drawn := mv.drawn
  obtain rfl : os' = s.os := mv.os
  refine hR _ ⟨h', tk', c', rfl, hS', by omega, fun b o e => ?_⟩
  have b0 := Heap.lt_size e
  exact mv.heap b o (by rw [z1]; simp only [List.mem_cons, List.not_mem_nil, or_false, not_or]; exact ⟨Nat.ne_of_lt b0, Nat.ne_of_lt (Nat.lt_succ_of_lt b0)⟩) (Heap.get?_push_of_some _ (Heap.get?_push_of_some _ e))
set_option maxHeartbeats 4000000 in
/-- set(xs) -/
theorem call_set_lst {l : Addr} {items : Array Value} {ns : List Int} {Q : Value → Shared → Prop} (hh : A.handled = none) (hl : s.heap.IsList l items) (hit : IntsAre items.toList ns) (hb : ns.length + 1 < scanBound)
    (h : ∀ t, Made w s ns t → Q (.ref s.heap.objs.size) t) : wpAny (model P w) A (call (.type "set") [.ref l]) Q E s := by
  have ⟨_, _, m1⟩ := F.called_set.mro; have m2 := F.called_set.made; have m3 := F.called_set.sub; have m4 := F.called_set.notType; have m5 := F.called_set.canCreate; have m6 := F.typeCall_set_1 (.ref l)
  refine wpAny_call (codeAny_of_tree (show wpAny _ _ (callAny (.type "set") _) _ _ _ from wpAny_pure ⟨Code.quiet_builtin _ (by decide +kernel), codeAny_builtin F.entry_type_call ?_⟩))
  rw [Around.under_plain (weight_type_call_type "set" [.ref l] []) rfl]
  repeat (any_goals (first | assumption | wp_step))
  refine codeAny_mono (code_set_led1 (.ref l) (E := E) (Q₁ := fun x t => x = .ref s.heap.objs.size ∧ t = { s with heap := s.heap.push (Bare w) }) ⟨rfl, rfl⟩) fun r t hr => ?_
  rcases r with e | fl
  · exact hr
  · rcases fl with x | _ | _ | _
    all_goals try exact hr.elim
    obtain ⟨rfl, rfl⟩ := hr
    have born : (s.heap.push (Bare w)).get? s.heap.objs.size = some (Bare w) := Heap.get?_push_size _ rfl
    have ty : Shared.TypeIs { s with heap := s.heap.push (Bare w) } (.ref s.heap.objs.size) "set" := ⟨_, born, rfl⟩
    have i1 := F.called_set.init.lookup; have i2 := F.called_set.init.bind (.ref s.heap.objs.size)
    repeat (any_goals (first | assumption | wp_step))
    refine codeAny_mono (codeAny_call_builtin (R := wants (fun x t => x = .none ∧ Made w s ns t) E) F.called_set.init.plain F.entry_set_init (check_set_init_1 ty ?_)) fun r2 t2 hr2 => ?_
    · obtain ⟨⟨ocls, odict, odata, oslots⟩, e1, e2, nl, e3⟩ := id hl
      simp only at e2 e3
      subst e2 e3
      have l1 : (s.heap.push (Bare w)).IsList l items := hl.push _
      have e4 : (s.heap.push (Bare w)).get? l = some { cls := .type "list", dict := odict, data := .seq items nl, slots := oslots } := Heap.get?_push_of_some _ e1
      have f1 := F.sub_list_set; have f2 := F.sub_list_frozenset; have f3 : (Value.type "list" == Value.type "dict") = false := by decide
      unfold Builtin.«set.__init__» noKeywords Builtin.Frozenset.updateFrom
      generalize eI : pyIter = it; wp_walk; subst eI
      refine wpAny_pyIter_list l1 (wpAny_bind (wpAny_runValue (fill_lst (by simp [hh]) hl hit hb fun t m => ?_)))
      exact wpAny_pure (wpAny_pure ⟨rfl, m⟩)
    · rcases r2 with e | fl
      · exact hr2
      · rcases fl with x | _ | _ | _
        all_goals try exact hr2.elim
        obtain ⟨rfl, m⟩ := hr2
        repeat (any_goals (first | assumption | wp_step))
        exact h _ m
/-- the members, each once -/
theorem SetR.keys {h : Heap} {a : Addr} {ns : List Int} {c : Nat} (R : SetR w h a (fun j => decide (j ∈ ns)) c) : ∃ ks : List Int, ks.Nodup ∧ (∀ k, k ∈ ks ↔ k ∈ ns) ∧ c = ks.length := by
  obtain ⟨o, es, ep, t, _, _, _, _, nd, hm, _, _, hn, _⟩ := R
  refine ⟨es.toList.map keyOf, nd, fun k => ?_, ?_⟩
  · rw [← hm k, decide_eq_true_eq]
  · rw [List.length_map, Array.length_toList, hn]
/-- set(xs) of a list or a tuple of ints, as a thing that stands -/
def rSetA (K : PySem.W.Frag) (w : World) : List V → Hp → VK → Prop := fun xs H Q => ∃ (q : Addr) (ns : List Int), xs = [.ref q] ∧ SqA K H q (ns.map V.int) ∧ ns.length ≤ 1000 ∧ ∀ (a : Addr) (ks : List Int), H a = none → ks.Nodup → (∀ k, k ∈ ks ↔ k ∈ ns) → Q (.ref a) (upd H a (SetO w a (fun j => decide (j ∈ ns)) ks.length))
theorem cr_setA {X : Cx} (hc : X.calm = true) : CallR X (.type "set") (rSetA X.K X.w) := by
  intro pins s σ H xs us Q I r h
  obtain ⟨q, ns, rfl, hq | hq, hl, k⟩ := h
  · rw [Vals.ref1 r]
    obtain ⟨its, rv, pl, hz⟩ := I.list hq
    refine call_set_lst (ns := ns) (I.ok.hd hc) pl.isList (ints_of_vals rv) (by unfold scanBound; omega) ?_
    rintro t ⟨h', tk, c, rfl, R1, hcn, kk⟩
    obtain ⟨ks, k1, k2, rfl⟩ := SetR.keys R1
    exact ⟨.ref _, upd H s.heap.objs.size (SetO X.w s.heap.objs.size _ ks.length), I.laid (t' := tk) kk (Nat.le_refl _) (setO_new R1), rfl, k _ _ (I.hok.fresh (Nat.le_refl _)) k1 k2⟩
  · rw [Vals.ref1 r]
    obtain ⟨its, rv, pt, hz⟩ := I.tuple hq
    refine call_set_tupI ns (I.ok.hd hc) (show s.heap.IsTuple q its.toArray from pt) (ints_of_vals rv) (by unfold scanBound; omega) fun h' tk c R1 hcn kk => ?_
    obtain ⟨ks, k1, k2, rfl⟩ := SetR.keys R1
    exact ⟨.ref _, upd H s.heap.objs.size (SetO X.w s.heap.objs.size _ ks.length), I.laid (t' := tk) kk (Nat.le_refl _) (setO_new R1), rfl, k _ _ (I.hok.fresh (Nat.le_refl _)) k1 k2⟩
theorem cr_setAw {X : Cx} (w : World) (hc : X.calm = true) (hw : X.w = w := by rfl) : CallR X (.type "set") (rSetA X.K w) := hw ▸ cr_setA hc
end
end Sh

namespace Sh
open PySem PySem.Spec PyProof.Rows L2
/-! ### the program: water -/
def spMarkOf : Sp := fun vs H Q _ => ∃ (h t s : Int) (n : Nat), vs = [.int h, .int t, .int (n : Int), .int s] ∧ Q (.int (mk h t n s)) H
def spTopOf : Sp := fun vs H Q _ => ∃ (h t : Int) (n : Nat), vs = [.int h, .int t, .int (n : Int)] ∧ Q (.int (topI h t n)) H
abbrev s_mark_of : Stmt := topS 10
theorem sc_mark_of : FnScope (["here", "there", "many", "step"] : List Str) (["here", "there", "many", "step"] : List Str) (defScope s_mark_of) := ⟨rfl, rfl, rfl, by decide +kernel, rfl, by decide +kernel, by decide +kernel⟩
theorem b_mark_of (kV doc pm : Value) (an : Option Addr) (cdv ct : Value) (us : List Value) (hl : us.length = (["here", "there", "many", "step"] : List Str).length) : bindArgs (PySem.W.fnOf "mark_of" "mark_of" (defArgs s_mark_of) (defBody s_mark_of) (defScope s_mark_of) .none kV doc pm an cdv ct) ⟨us, []⟩ = pure ((["here", "there", "many", "step"] : List Str).zip us) :=
  match us, hl with | [_, _, _, _], _ => rfl
section
variable {P : Program} {w : World} {K : PySem.W.Frag} {mg : Str → Option Value} {base : Heap}
theorem ok_mark_of {k : Nat} (D : Df K mg "mark_of" s_mark_of) (T : Bt mg) : Ok P w K mg base (k + 1) "mark_of" s_mark_of ["here", "there", "many", "step"] spMarkOf := by
  refine D.ok sc_mark_of b_mark_of (fun vs H Q E h => ?_) (fun f cdv A outer s H vs Q E hr h => ?_)
  · obtain ⟨h, t, s, n, rfl, _⟩ := h
    rfl
  · obtain ⟨h, t, s, n, rfl, k⟩ := h
    refine ⟨_, (pss_one (ps_ret (pe_callB (call_min2 rfl) (by rfl) T.min_ (by decide +kernel) (pa_cons (pe_op op_add (pv 0) (pv 3)) (pa_cons (pe_op op_sub (pe_op op_sub (pe_op op_add (pv 1) (pv 2)) pe_int) (pv 3)) pa_nil))))), ?_⟩
    refine ⟨_, rfl, _, rfl, h, s, rfl, rfl, _, rfl, _, rfl, t, _, rfl, rfl, _, 1, rfl, rfl, _, rfl, _, s, rfl, rfl, _, _, rfl, ?_⟩
    rw [← mk_alt] at k
    exact k
end
end Sh

namespace Sh
open PySem PySem.Spec PyProof.Rows L2
/-! ### the program: steps -/
abbrev s_mark_at : Stmt := topS 12
theorem sc_mark_at : FnScope (["sea", "step", "here", "there", "draughts"] : List Str) (["sea", "step"] : List Str) (defScope s_mark_at) := ⟨rfl, rfl, rfl, by decide +kernel, rfl, by decide +kernel, by decide +kernel⟩
theorem b_mark_at (kV doc pm : Value) (an : Option Addr) (cdv ct : Value) (us : List Value) (hl : us.length = (["sea", "step"] : List Str).length) : bindArgs (PySem.W.fnOf "mark_at" "mark_at" (defArgs s_mark_at) (defBody s_mark_at) (defScope s_mark_at) .none kV doc pm an cdv ct) ⟨us, []⟩ = pure ((["sea", "step"] : List Str).zip us) :=
  match us, hl with | [_, _], _ => rfl
section
variable {P : Program} {w : World} {K : PySem.W.Frag} {mg : Str → Option Value} {base : Heap}
theorem ok_mark {k : Nat} (D : Df K mg "mark_at" s_mark_at) (T : Bt mg) (O_mark_of : Ok P w K mg base k "mark_of" s_mark_of ["here", "there", "many", "step"] spMarkOf) : Ok P w K mg base (k + 1) "mark_at" s_mark_at ["sea", "step"] (spMark K) := by
  refine D.ok sc_mark_at b_mark_at (fun vs H Q E h => ?_) (fun f cdv A outer s H vs Q E hr h => ?_)
  · obtain ⟨v, h, t, s, ds, rfl, _⟩ := h
    rfl
  · obtain ⟨v, h, t, s, ds, rfl, ⟨p, q, rfl, hp, hq⟩, k⟩ := h
    refine ⟨_, (pss_cons (ps_asg (pv 0) (pg_seq rfl (pgs_cons (pg_name (i := 2) sc_mark_at.nd rfl (.inl rfl)) (pgs_cons (pg_name (i := 3) sc_mark_at.nd rfl (.inl rfl)) (pgs_cons (pg_name (i := 4) sc_mark_at.nd rfl (.inl rfl)) pgs_nil)))))
      (pss_one (ps_ret (pe_fn O_mark_of (hr.mono (by omega)) (pa_cons (pv 2) (pa_cons (pv 3) (pa_cons (pe_callB call_len_seq (by rfl) T.len_ PySem.boot_len (pa_cons (pv 4) pa_nil)) (pa_cons (pv 1) pa_nil)))))))), ?_⟩
    refine ⟨_, rfl, p, _, rfl, hp, rfl, _, _, rfl, _, _, rfl, _, _, rfl, rfl, ?_⟩
    refine ⟨_, rfl, _, rfl, _, rfl, q, _, rfl, hq, _, rfl, h, t, s, ds.length, ?_, k⟩
    rw [List.length_map]
    rfl
end
end Sh

namespace Sh
open PySem PySem.Spec PyProof.Rows L2
/-! ### comprehensions in short -/
/-- [x for x in xs if test], xs ships: those of whom the test says p -/
theorem lc_filter {σ : L2.St} {H : Hp} {C : Addr} {vs : List Nat} {i : Nat} {tt : TT} {Qd : Hp → Prop} {X : List Nat} {J : It} {G : Hp → Prop} (p : Nat → Bool) (W : Walk J (ni X).length G (YAt (ni X))) (g : ∀ H', Same H H' → G H') (nC : H C = none) (lX : X.length ≤ 1000)
    (hw : ∀ v, wipe ((wipe σ vs).set i (some v)) vs = wipe σ vs) (hv : ∀ v : V, ((wipe σ vs).set i (some v))[i]? = some (some v))
    (ht : ∀ x ∈ X, ∀ H', Same H H' → ∀ Q : Bool → Hp → Prop, Q (p x) H' → tt ((wipe σ vs).set i (some (.int (x : Int)))) H' Q) (hd : ∀ H', Same H H' → H' C = some (.lst (ni (X.filter p))) → Qd H') :
    ∃ W : Nat → Nat → Hp → Prop, (∃ m, W 0 m (upd H C (.lst []))) ∧ ∀ j m H, W j m H →
      (J.stop j H ∧ Qd H) ∨ (J.go j H ∧ ∃ Nx : Hp → Prop, (∀ H', Nx H' → ∃ m', m' < m ∧ W (j + 1) m' H') ∧ ∀ x H', J.yld j H x H' → gName i x (wipe σ vs) H' fun σ2 H2 => wipe σ2 vs = wipe σ vs ∧ tt σ2 H2 fun b H3 =>
        if b = true then tVar i σ2 H3 fun y H4 => ∃ acc, H4 C = some (.lst acc) ∧ acc.length < sizeLine ∧ Nx (upd H4 C (.lst (acc ++ [y]))) else Nx H3) := by
  refine lc_it W (fun j H' => Same H H' ∧ H' C = some (.lst (ni ((X.take j).filter p)))) ⟨same_new nC, upd_same⟩ (fun j H' _ z => g H' z.1) ?_ ?_
  · rintro j x H3 H4 hj ⟨s3, hC⟩ ⟨rfl, gx⟩
    rw [ni_len] at hj
    obtain rfl : .int ((X[j] : Nat) : Int) = x := Option.some.inj ((ni_get hj).symm.trans gx)
    refine ⟨hw _, ht X[j] (List.getElem_mem hj) _ s3 _ ?_⟩
    cases e : p X[j] with
    | true =>
      rw [if_pos rfl]
      refine ⟨_, hv _, _, hC, ?_, same_over s3 nC, ?_⟩
      · rw [ni_len]
        have h1 := List.length_filter_le p (X.take j)
        rw [List.length_take] at h1
        exact small1000 (by omega)
      · rw [upd_same, take_succ_get hj, List.filter_append, ni_app, List.filter_cons_of_pos e]
        rfl
    | false =>
      rw [if_neg Bool.false_ne_true]
      refine ⟨s3, ?_⟩
      rw [hC, take_succ_get hj, List.filter_append, List.filter_cons_of_neg (by rw [e]; exact Bool.false_ne_true)]
      simp
  · rintro H3 ⟨s3, hC⟩
    rw [ni_len, List.take_length] at hC
    exact hd H3 s3 hC
/-- all ships below n, as range walks them -/
theorem walk_rg (n : Nat) : Walk (Itr 0 n) (ni (List.range n)).length (fun _ => True) (YAt (ni (List.range n))) := by
  have e : (ni (List.range n)).length = n := by rw [ni_len, List.length_range]
  rw [e]
  refine ⟨fun _ _ hi _ => hi, fun _ _ => Nat.le_refl _, fun i H x H' hi _ y => ⟨y.1, ?_⟩⟩
  rw [ni_get (by rw [List.length_range]; exact hi), y.2, List.getElem_range, Int.zero_add]
/-- truths, one a ship: all([..]) -/
theorem lc_truths {σ : L2.St} {H : Hp} {C : Addr} {vs : List Nat} {i : Nat} {te : TE} {Qd : Hp → Prop} {X : List Nat} {J : It} {G : Hp → Prop} (W : Walk J (ni X).length G (YAt (ni X))) (g : ∀ H', Same H H' → G H') (nC : H C = none) (lX : X.length ≤ 1000)
    (hw : ∀ v, wipe ((wipe σ vs).set i (some v)) vs = wipe σ vs)
    (ht : ∀ x ∈ X, ∀ H', Same H H' → ∀ Q : V → Hp → Prop, (∀ H2, Same H' H2 → Q (.bl true) H2) → te ((wipe σ vs).set i (some (.int (x : Int)))) H' Q) (hd : ∀ H', Same H H' → H' C = some (.lst ((List.replicate X.length true).map V.bl)) → Qd H') :
    ∃ W : Nat → Nat → Hp → Prop, (∃ m, W 0 m (upd H C (.lst []))) ∧ ∀ j m H, W j m H →
      (J.stop j H ∧ Qd H) ∨ (J.go j H ∧ ∃ Nx : Hp → Prop, (∀ H', Nx H' → ∃ m', m' < m ∧ W (j + 1) m' H') ∧ ∀ x H', J.yld j H x H' → gName i x (wipe σ vs) H' fun σ2 H2 => wipe σ2 vs = wipe σ vs ∧ tYes σ2 H2 fun b H3 =>
        if b = true then te σ2 H3 fun y H4 => ∃ acc, H4 C = some (.lst acc) ∧ acc.length < sizeLine ∧ Nx (upd H4 C (.lst (acc ++ [y]))) else Nx H3) := by
  refine lc_it W (fun j H' => Same H H' ∧ H' C = some (.lst ((List.replicate j true).map V.bl))) ⟨same_new nC, upd_same⟩ (fun j H' _ z => g H' z.1) ?_ ?_
  · rintro j x H3 H4 hj ⟨s3, hC⟩ ⟨rfl, gx⟩
    rw [ni_len] at hj
    obtain rfl : .int ((X[j] : Nat) : Int) = x := Option.some.inj ((ni_get hj).symm.trans gx)
    refine ⟨hw _, tyes (iteT (ht X[j] (List.getElem_mem hj) _ s3 _ fun H5 s5 => ?_))⟩
    refine ⟨_, s5 _ _ hC, ?_, same_over (s3.trans s5) nC, ?_⟩
    · rw [List.length_map, List.length_replicate]
      exact small1000 (by omega)
    · rw [upd_same, List.replicate_succ', List.map_append]
      rfl
  · rintro H3 ⟨s3, hC⟩
    rw [ni_len] at hC
    exact hd H3 s3 hC
theorem all_true (n : Nat) : (List.replicate n true).all id = true := by simp
end Sh

namespace Sh
open PySem PySem.Spec PyProof.Rows L2
/-! ### what is told: seas and standings -/
/-- a standing told: a tuple that is read -/
def LotT (K : PySem.W.Frag) (H : Hp) (v : V) (L : List Nat) : Prop := ∃ p, v = .ref p ∧ SqT K H p (ni L)
theorem LotT.a {K : PySem.W.Frag} {H : Hp} {v : V} {L : List Nat} (h : LotT K H v L) : LotA K H v L := let ⟨p, e, q⟩ := h; ⟨p, e, .inr q⟩
theorem LotT.same {K : PySem.W.Frag} {H H' : Hp} {v : V} {L : List Nat} (h : LotT K H v L) (s : Same H H') : LotT K H' v L := let ⟨p, e, q⟩ := h; ⟨p, e, Same.tup s q⟩
theorem tup_but {K : PySem.W.Frag} {H H' : Hp} {b p : Addr} {n : Nat} {xs : List V} (q : SqT K H p xs) (x : BoxAt H b n) (u : But b H H') : SqT K H' p xs := by
  obtain ⟨ys, hb, _⟩ := x
  rcases q with (q | ⟨o, q⟩) | q
  · exact .inl (.inl (u _ _ (ne_of q hb (by intro z; cases z)) q))
  · exact .inl (.inr ⟨o, u _ _ (ne_of q hb (by intro z; cases z)) q⟩)
  · exact .inr q
theorem LotT.but {K : PySem.W.Frag} {H H' : Hp} {b : Addr} {n : Nat} {v : V} {L : List Nat} (h : LotT K H v L) (x : BoxAt H b n) (u : But b H H') : LotT K H' v L := let ⟨p, e, q⟩ := h; ⟨p, e, tup_but q x u⟩
theorem LotT.dp {K : PySem.W.Frag} {H : Hp} {v : V} {L : List Nat} (h : LotT K H v L) : Dp K H v (.tuple ((L.map fun (i : Nat) => (i : Int)).map .int)) := by
  obtain ⟨p, e, q⟩ := h
  rw [e]
  rw [ni_ints] at q
  exact .tup q (DpAll.ints _)
/-- a sea told -/
def SeaT (K : PySem.W.Frag) (H : Hp) (v : V) (h t : Int) (ds : List Int) : Prop := ∃ p q, v = .ref p ∧ SqT K H p [.int h, .int t, .ref q] ∧ SqT K H q (ds.map V.int)
theorem SeaT.a {K : PySem.W.Frag} {H : Hp} {v : V} {h t : Int} {ds : List Int} (s : SeaT K H v h t ds) : SeaA K H v h t ds := let ⟨p, q, e, a, b⟩ := s; ⟨p, q, e, .inr a, .inr b⟩
theorem SeaT.same {K : PySem.W.Frag} {H H' : Hp} {v : V} {h t : Int} {ds : List Int} (s : SeaT K H v h t ds) (e : Same H H') : SeaT K H' v h t ds := let ⟨p, q, e1, a, b⟩ := s; ⟨p, q, e1, Same.tup e a, Same.tup e b⟩
theorem SeaT.but {K : PySem.W.Frag} {H H' : Hp} {b : Addr} {n : Nat} {v : V} {h t : Int} {ds : List Int} (s : SeaT K H v h t ds) (x : BoxAt H b n) (u : But b H H') : SeaT K H' v h t ds := let ⟨p, q, e1, a, c⟩ := s; ⟨p, q, e1, tup_but a x u, tup_but c x u⟩
theorem SeaT.dp {K : PySem.W.Frag} {H : Hp} {v : V} {h t : Int} {ds : List Int} (s : SeaT K H v h t ds) : Dp K H v (.tuple [.int h, .int t, .tuple (ds.map .int)]) := by
  obtain ⟨p, q, e, a, b⟩ := s
  rw [e]
  exact .tup a (.cons (.int _) (.cons (.int _) (.cons (.tup b (DpAll.ints _)) .nil)))
theorem lv_sea {n : Nat} {h t : Int} {ds : List Int} (l : ds.length ≤ 100000) : Lv (n + 3) (.tuple [.int h, .int t, .tuple (ds.map .int)]) := ⟨by show 3 ≤ 100000; decide, fun e he => by
  rcases List.mem_cons.mp he with z | z
  · rw [z]; exact trivial
  · rcases List.mem_cons.mp z with z | z
    · rw [z]; exact trivial
    · rw [List.mem_singleton.mp z]; exact lv_intsT _ l⟩
theorem lv_lot {n : Nat} {L : List Nat} (l : L.length ≤ 100000) : Lv (n + 2) (.tuple ((L.map fun (i : Nat) => (i : Int)).map .int)) := lv_intsT _ (by rw [List.length_map]; exact l)
end Sh

namespace Th
section
variable {k : Nat} {G : Nat → Nat → Bool} {S U : Nat → Bool}
/-- what lies beyond the ships doesn't matter -/
theorem Reach.ext (h : Reach k G S U) : ∀ {S' U' : Nat → Bool}, (∀ i, i < k → S' i = S i) → (∀ i, i < k → U' i = U i) → (∀ i, ¬ i < k → U' i = S' i) → Reach k G S' U' := by
  induction h with
  | refl =>
    intro S' U' a b c
    have : U' = S' := by
      funext i
      by_cases hi : i < k
      · rw [b i hi, a i hi]
      · exact c i hi
    rw [this]
    exact .refl _
  | @step B W r s ih =>
    intro S' U' a b c
    have r' := ih (S' := S') (U' := fun i => if i < k then B i else S' i) a (fun i hi => by show (if i < k then B i else S' i) = B i; rw [if_pos hi]) (fun i hi => by show (if i < k then B i else S' i) = S' i; rw [if_neg hi])
    refine r'.step ?_
    have cB : cnt k (fun i => if i < k then B i else S' i) = cnt k B := cnt_congr fun i hi => by show (if i < k then B i else S' i) = B i; rw [if_pos hi]
    have fl : ∀ i, i < k → W = flip B i → U' = flip (fun i => if i < k then B i else S' i) i := fun i hi e => by
      funext j
      by_cases hj : j < k
      · rw [b j hj, e]
        by_cases z : j = i
        · subst z
          rw [flip_self, flip_self]
          show _ = !(if j < k then B j else S' j)
          rw [if_pos hj]
        · rw [flip_ne _ z, flip_ne _ z]
          show _ = (if j < k then B j else S' j)
          rw [if_pos hj]
      · rw [c j hj, flip_ne _ (show j ≠ i by omega)]
        show _ = (if j < k then B j else S' j)
        rw [if_neg hj]
    cases s with
    | @up i hi hs hg =>
      rw [fl i hi rfl]
      exact .up hi (by show (if i < k then B i else S' i) = false; rw [if_pos hi]; exact hs) (by rw [cB]; exact hg)
    | @dn i hi hs hg =>
      rw [fl i hi rfl]
      exact .dn hi (by show (if i < k then B i else S' i) = true; rw [if_pos hi]; exact hs) (by rw [cB]; exact hg)
end
end Th
namespace Sh
open PySem PySem.Spec PyProof.Rows L2
theorem away_away {c : Nat} {L : List Nat} (h : Lot c L) : away c (away c L) = L := lot_ext (away_lot c _) h fun i hi => by rw [mem_away hi, mem_away hi, Bool.not_not]
theorem away_len {c : Nat} {L : List Nat} (h : Lot c L) : (away c L).length + L.length = c := by
  rw [← cnt_mem h, ← cnt_mem (away_lot c L), Th.cnt_congr (S := mem (away c L)) (U := Th.co (mem L)) fun i hi => mem_away hi]
  have := Th.cnt_co c (mem L)
  omega
theorem gof_turn {h t : Int} {ds : List Int} {s i : Nat} (hs : s < ds.length) : Th.dual ds.length (Gof h t ds) s i = Gof t h ds s i := by
  unfold Th.dual Gof
  rw [mk_turn hs]
theorem rl_turn {h t : Int} {ds : List Int} {L M : List Nat} (hL : Lot ds.length L) (hM : Lot ds.length M) (r : Rl h t ds L M) : Rl t h ds (away ds.length L) (away ds.length M) := by
  have r2 := (Th.Reach.dual r).congr (G' := Gof t h ds) fun s i hs => gof_turn hs
  exact r2.ext (fun i hi => mem_away hi) (fun i hi => mem_away hi) (fun i hi => by rw [mem_out (away_lot _ _) hi, mem_out (away_lot _ _) hi])
theorem near_away {c : Nat} {L : List Nat} (h : Lot c L) {i : Nat} (hi : i < c) : near (away c L) i = c - 1 - near L i := by
  have l1 := away_len h
  have l2 := h.len
  rw [near_cnt h hi, near_cnt (away_lot c L) hi]
  have m := mem_away (L := L) hi
  unfold mem at m
  by_cases z : i ∈ L
  · have z2 : ¬ i ∈ away c L := fun q => by rw [decide_eq_true q, decide_eq_true z] at m; cases m
    have lp : 0 < L.length := List.length_pos_iff.mpr (List.ne_nil_of_mem z)
    rw [if_pos z, if_neg z2]
    omega
  · have z2 : i ∈ away c L := by
      rw [decide_eq_false z] at m
      exact of_decide_eq_true m
    rw [if_neg z, if_pos z2]
    omega
theorem may_turn {h t : Int} {ds : List Int} {L : List Nat} (hL : Lot ds.length L) {i : Nat} (hi : i < ds.length) : mayB t h ds (away ds.length L) i = mayB h t ds L i := by
  rw [may_G, may_G, near_away hL hi]
  have hn : near L i < ds.length := by
    have l2 := hL.len
    rw [near_cnt hL hi]
    split
    · omega
    · rename_i z
      have : L.length ≠ ds.length := fun e => by
        have l1 := away_len hL
        have e0 : away ds.length L = [] := List.eq_nil_of_length_eq_zero (by omega)
        have m := mem_away (L := L) hi
        unfold mem at m
        rw [e0, decide_eq_false z] at m
        simp at m
      omega
  unfold Gof
  rw [mk_turn (h := h) (t := t) (by omega), show ds.length - 1 - (ds.length - 1 - near L i) = near L i by omega]
theorem most_turn {h t : Int} {ds : List Int} {L : List Nat} {m : Nat} (hL : Lot ds.length L) (a : IsLeast h t ds L m) : IsMost t h ds (away ds.length L) (ds.length - m) := by
  obtain ⟨⟨M, l1, r1, e1⟩, h1⟩ := a
  refine ⟨⟨away ds.length M, away_lot _ _, rl_turn hL l1 r1, ?_⟩, fun M' l2 r2 => ?_⟩
  · have := away_len l1
    omega
  · have r3 := rl_turn (away_lot _ _) l2 r2
    rw [away_away hL] at r3
    have := h1 _ (away_lot _ _) r3
    have := away_len l2
    omega
theorem least_turn {h t : Int} {ds : List Int} {L : List Nat} {m : Nat} (hL : Lot ds.length L) (a : IsMost h t ds L m) : IsLeast t h ds (away ds.length L) (ds.length - m) := by
  obtain ⟨⟨M, l1, r1, e1⟩, h1⟩ := a
  refine ⟨⟨away ds.length M, away_lot _ _, rl_turn hL l1 r1, ?_⟩, fun M' l2 r2 => ?_⟩
  · have := away_len l1
    omega
  · have r3 := rl_turn (away_lot _ _) l2 r2
    rw [away_away hL] at r3
    have := h1 _ (away_lot _ _) r3
    have := away_len l2
    omega
theorem movers_turn {h t : Int} {ds : List Int} {L ms : List Nat} (hL : Lot ds.length L) (a : IsMovers h t ds L ms) : IsMovers t h ds (away ds.length L) ms := by
  refine ⟨a.1, fun i hi => ?_⟩
  rw [a.2 i hi]
  constructor
  · rintro ⟨M, l, r, m⟩
    exact ⟨away ds.length M, away_lot _ _, rl_turn hL l r, by rw [may_turn l hi]; exact m⟩
  · rintro ⟨M, l, r, m⟩
    have r3 := rl_turn (away_lot _ _) l r
    rw [away_away hL] at r3
    exact ⟨away ds.length M, away_lot _ _, r3, by rw [may_turn l hi]; exact m⟩
/-! ### rows of crossings -/
def goes (h t : Int) (ds : List Int) : List Nat → List Nat → Option (List Nat)
  | L, [] => some L
  | L, i :: r => if i < ds.length ∧ mayB h t ds L i = true then goes h t ds (gone L i) r else none
theorem goes_app {h t : Int} {ds : List Int} : ∀ {r : List Nat} {L M : List Nat} (s : List Nat), goes h t ds L r = some M → goes h t ds L (r ++ s) = goes h t ds M s
  | [], L, M, s, e => by
    cases e
    rfl
  | i :: r, L, M, s, e => by
    unfold goes at e
    by_cases c : i < ds.length ∧ mayB h t ds L i = true
    · rw [if_pos c] at e
      show (if i < ds.length ∧ mayB h t ds L i = true then goes h t ds (gone L i) (r ++ s) else none) = _
      rw [if_pos c]
      exact goes_app s e
    · rw [if_neg c] at e
      cases e
theorem goes_rl {h t : Int} {ds : List Int} : ∀ {r : List Nat} {L M : List Nat}, Lot ds.length L → goes h t ds L r = some M → Lot ds.length M ∧ Rl h t ds L M
  | [], L, M, hL, e => by
    cases e
    exact ⟨hL, .refl _⟩
  | i :: r, L, M, hL, e => by
    unfold goes at e
    by_cases c : i < ds.length ∧ mayB h t ds L i = true
    · rw [if_pos c] at e
      obtain ⟨a, b⟩ := goes_rl (gone_lot hL c.1) e
      exact ⟨a, (rl_one hL c.1 c.2).trans b⟩
    · rw [if_neg c] at e
      cases e
theorem gone_gone {c : Nat} {L : List Nat} {i : Nat} (hL : Lot c L) (hi : i < c) : gone (gone L i) i = L := lot_ext (gone_lot (gone_lot hL hi) hi) hL fun j _ => by rw [gone_mem, gone_mem, Th.flip_flip]
theorem goes_back {h t : Int} {ds : List Int} : ∀ {r : List Nat} {L M : List Nat}, Lot ds.length L → goes h t ds L r = some M → goes h t ds M r.reverse = some L
  | [], L, M, hL, e => by
    cases e
    rfl
  | i :: r, L, M, hL, e => by
    unfold goes at e
    by_cases c : i < ds.length ∧ mayB h t ds L i = true
    · rw [if_pos c] at e
      have b := goes_back (gone_lot hL c.1) e
      rw [List.reverse_cons, goes_app [i] b]
      show (if i < ds.length ∧ mayB h t ds (gone L i) i = true then goes h t ds (gone (gone L i) i) [] else none) = _
      have m : mayB h t ds (gone L i) i = true := by rw [may_G, may_back (h := h) (t := t) hL c.1, ← may_G]; exact c.2
      rw [if_pos ⟨c.1, m⟩, gone_gone hL c.1]
      rfl
    · rw [if_neg c] at e
      cases e
theorem SeaT.d {K : PySem.W.Frag} {H : Hp} {v : V} {h t : Int} {ds : List Int} (s : SeaT K H v h t ds) : SeaD K H v h t ds := let ⟨p, q, e, a, b⟩ := s; ⟨p, q, e, .inr a, b⟩
def spOther (K : PySem.W.Frag) : Sp := fun vs H Q _ => ∃ (v l : V) (h t : Int) (ds : List Int) (L : List Nat), vs = [v, l] ∧ SeaA K H v h t ds ∧ LotA K H l L ∧ ds.length ≤ 100 ∧ Lot ds.length L ∧ ∀ (H' : Hp) (r : V), Same H H' → LotT K H' r (away ds.length L) → Q r H'
def spTurned (K : PySem.W.Frag) : Sp := fun vs H Q _ => ∃ (v : V) (h t : Int) (ds : List Int), vs = [v] ∧ SeaA K H v h t ds ∧ ds.length ≤ 100 ∧ ∀ (H' : Hp) (r : V), Same H H' → SeaT K H' r t h ds → Q r H'
/-- a row of ships is handed in: all may go -/
def spCrossedAll (K : PySem.W.Frag) : Sp := fun vs H Q _ => ∃ (v l r : V) (h t : Int) (ds : List Int) (L M row : List Nat), vs = [v, l, r] ∧ SeaA K H v h t ds ∧ LotA K H l L ∧ LotA K H r row ∧ ds.length ≤ 100 ∧ row.length ≤ 1000 ∧ Lot ds.length L ∧ goes h t ds L row = some M ∧
  ∀ (H' : Hp) (z : V), Same H H' → LotT K H' z M → Q z H'
end Sh

namespace Sh
open PySem PySem.Spec PyProof.Rows L2
theorem lets_mem {h t : Int} {ds : List Int} {L : List Nat} {i : Nat} : i ∈ lets h t ds L ds.length ↔ i < ds.length ∧ mayB h t ds L i = true := by
  unfold lets
  rw [List.mem_filter, List.mem_range]
theorem sqT_upd {K : PySem.W.Frag} {H : Hp} {p q : Addr} {xs ys : List V} {o : HO} (e : H p = some (.lst xs)) (h : SqT K H q ys) : SqT K (upd H p o) q ys := by
  rcases h with (h | ⟨u, h⟩) | h
  · exact .inl (.inl (by rw [upd_ne (ne_of h e (by intro z; cases z))]; exact h))
  · exact .inl (.inr ⟨u, by rw [upd_ne (ne_of h e (by intro z; cases z))]; exact h⟩)
  · exact .inr h
end Sh

namespace Sh
open PySem PySem.Spec PyProof.Rows L2
/-! ### drawn crossings -/
def spWalk (K : PySem.W.Frag) : Sp := fun vs H Q _ => ∃ (b : Addr) (n most : Nat) (v l : V) (h t : Int) (ds : List Int) (L : List Nat), vs = [.ref b, v, l, .int (most : Int)] ∧ most ≤ 1000 ∧ BoxAt H b (n + most) ∧ SeaT K H v h t ds ∧ LotT K H l L ∧ ds.length ≤ 60 ∧ Lot ds.length L ∧
  ∀ (H' : Hp) (p pw : Addr) (z : V) (M row : List Nat), But b H H' → BoxAt H' b n → H p = none → H' p = some (.tup [z, .ref pw]) → LotT K H' z M → H pw = none → H' pw = some (.lst (ni row)) → row.length ≤ most → goes h t ds L row = some M → ((z = l ∧ M = L) ∨ ∃ pz, z = .ref pz ∧ H pz = none ∧ H' pz = some (.tup (ni M))) → Q (.ref p) H'
abbrev s__law_walk : Stmt := topS 39
theorem sc__law_walk : FnScope (["_law_box_here", "_law_sea_here", "_law_lot", "_law_most", "_law_went", "_law_turn", "_law_some", "_law_whom"] : List Str) (["_law_box_here", "_law_sea_here", "_law_lot", "_law_most"] : List Str) (defScope s__law_walk) := ⟨rfl, rfl, rfl, by decide +kernel, rfl, by decide +kernel, by decide +kernel⟩
theorem b__law_walk (kV doc pm : Value) (an : Option Addr) (cdv ct : Value) (us : List Value) (hl : us.length = (["_law_box_here", "_law_sea_here", "_law_lot", "_law_most"] : List Str).length) : bindArgs (PySem.W.fnOf "_law_walk" "_law_walk" (defArgs s__law_walk) (defBody s__law_walk) (defScope s__law_walk) .none kV doc pm an cdv ct) ⟨us, []⟩ = pure ((["_law_box_here", "_law_sea_here", "_law_lot", "_law_most"] : List Str).zip us) :=
  match us, hl with | [_, _, _, _], _ => rfl
section
variable {P : Program} {w : World} {K : PySem.W.Frag} {mg : Str → Option Value} {base : Heap}
theorem ok_walk {k : Nat} (D : Df K mg "_law_walk" s__law_walk) (T : Bt mg) (O__law_lets : Ok P w K mg base k "_law_lets" s__law_lets ["_law_sea_here", "_law_lot"] (spLets K)) (O__law_of : Ok P w K mg base k "_law_of" s__law_of ["_law_box_here", "_law_some"] (spOf K))
    (O__law_gone : Ok P w K mg base k "_law_gone" s__law_gone ["_law_lot", "_law_whom"] (spGone K)) : Ok P w K mg base (k + 1) "_law_walk" s__law_walk ["_law_box_here", "_law_sea_here", "_law_lot", "_law_most"] (spWalk K) := by
  refine D.ok sc__law_walk b__law_walk (fun vs H Q E h => ?_) (fun f cdv A outer s H vs Q E hr h => ?_)
  · obtain ⟨b, n, most, v, l, h, t, ds, L, rfl, _⟩ := h
    rfl
  · obtain ⟨b, n, most, v, l, h, t, ds, L, rfl, m1, hb, hv, hl, d1, hL, q⟩ := h
    refine ⟨_, (pss_cons (ps_set (i := 4) sc__law_walk.nd rfl (.inl rfl) (pe_lst pa_nil))
      (pss_cons (ps_for PassesOwn.never rfl (pi_range1 (by rfl) T.range_ (pa_cons (pv 3) pa_nil)) (pg_name (i := 5) sc__law_walk.nd rfl (.inl rfl))
        (pss_cons (ps_set (i := 6) sc__law_walk.nd rfl (.inl rfl) (pe_fn O__law_lets (hr.mono (by omega)) (pa_cons (pv 1) (pa_cons (pv 2) pa_nil))))
          (pss_one (ps_if (pt_cmpR (op_neD hr.units) (pv 6) (pe_lst pa_nil) (nomark _))
            (pss_cons (ps_set (i := 7) sc__law_walk.nd rfl (.inl rfl) (pe_fn O__law_of (hr.mono (by omega)) (pa_cons (pv 0) (pa_cons (pv 6) pa_nil))))
              (pss_cons (ps_set (i := 2) sc__law_walk.nd rfl (.inl rfl) (pe_fn O__law_gone (hr.mono (by omega)) (pa_cons (pv 2) (pa_cons (pv 7) pa_nil))))
              (pss_one (ps_expr (pe_bm PySem.F.plainAttrs_list PySem.F.slot_list_append PySem.F.type_list_append mt_append (pv 4) (pa_cons (pv 7) pa_nil))))))
            pss_nil))))
      (pss_one (ps_ret (pe_tup (pa_cons (pv 2) (pa_cons (pv 4) pa_nil))))))), ?_⟩
    refine ⟨Nat.zero_le _, fun pw nw => ?_⟩
    have s1 : Same H (upd H pw (.lst [])) := same_new nw
    have e1 : upd H pw (.lst []) pw = some (.lst (ni [])) := upd_same
    have wb : pw ≠ b := (hb.ne nw).symm
    generalize upd H pw (.lst []) = H1 at s1 e1
    refine ⟨_, rfl, (most : Int), rfl, by omega, by omega, for_range (lo := 0) (n := most) (fun i σ H' => ∃ (z : V) (M row : List Nat) (y5 y6 y7 : Option V), σ = [some (.ref b), some v, some z, some (.int (most : Int)), some (.ref pw), y5, y6, y7] ∧ But b H H' ∧ BoxAt H' b (n + (most - i)) ∧ SeaT K H' v h t ds ∧ LotT K H' z M ∧ Lot ds.length M ∧ H' pw = some (.lst (ni row)) ∧ row.length ≤ i ∧ goes h t ds L row = some M ∧ ((z = l ∧ M = L) ∨ ∃ pz, z = .ref pz ∧ H pz = none ∧ H' pz = some (.tup (ni M))))
      ⟨l, L, [], none, none, none, rfl, Same.but s1, (hb.same s1).mono (by omega), hv.same s1, hl.same s1, hL, e1, Nat.zero_le _, rfl, .inl ⟨rfl, rfl⟩⟩ ?_ ?_⟩
    · rintro i σ Ha hi ⟨z, M, row, y5, y6, y7, rfl, ua, xa, sa, la, hM, ea, lr, go, zz⟩
      have hi2 : i < most := hi
      have lM := hM.len
      refine ⟨_, rfl, _, rfl, v, z, h, t, ds, M, rfl, sa.a, la.a, by omega, by omega, fun Hb ps sb nps eps => ?_⟩
      have ub := ua.trans (Same.but (b := b) sb)
      have xb := xa.same sb
      refine ⟨_, rfl, Nat.zero_le _, fun em nem => ?_⟩
      have sc : Same Hb (upd Hb em (.lst [])) := same_new nem
      have ec : upd Hb em (.lst []) em = some (.lst []) := upd_same
      generalize upd Hb em (.lst []) = Hc at sc ec
      have lls : (lets h t ds M ds.length).length ≤ 60 := by
        have := List.length_filter_le (mayB h t ds M) (List.range ds.length)
        rw [List.length_range] at this
        unfold lets
        omega
      have epc := sc _ _ eps
      rw [ni_ints] at epc
      refine ⟨.list (((lets h t ds M ds.length).map fun (i : Nat) => (i : Int)).map .int), .list [], .lst (SqL.of epc) (DpAll.ints _), .lst (SqL.of ec) .nil, shaped_ints _, rfl, _, rfl, ?_⟩
      rw [eqv_nil]
      have s_ac := sb.trans sc
      have uc := ua.trans (Same.but (b := b) s_ac)
      by_cases e0 : lets h t ds M ds.length = []
      · rw [e0]
        exact iteF ⟨z, M, row, _, _, _, rfl, uc, (xa.same s_ac).mono (by omega), sa.same s_ac, la.same s_ac, hM, s_ac _ _ ea, by omega, go, zz.imp id fun ⟨pz, a1, a2, a3⟩ => ⟨pz, a1, a2, s_ac _ _ a3⟩⟩
      have ie : (!((lets h t ds M ds.length).map fun (i : Nat) => (i : Int)).isEmpty) = true := by
        cases e : lets h t ds M ds.length with
        | nil => exact absurd e e0
        | cons => rfl
      rw [ie]
      refine iteT ?_
      have epsc := sc _ _ eps
      have pb : ps ≠ b := (xa.ne nps).symm
      refine ⟨_, rfl, _, rfl, b, ps, n + (most - (i + 1)), _, rfl, SqA.l epsc, pb, ?_, ?_, (xa.same s_ac).mono (by omega), fun x ys hx hy => ?_⟩
      · rw [ni_len]
        exact List.length_pos_iff.mpr e0
      · rw [ni_len]
        omega
      obtain ⟨g, hg, rfl⟩ : ∃ g ∈ lets h t ds M ds.length, x = .int (g : Int) := by
        obtain ⟨g, hg, e⟩ := List.mem_map.mp hx
        exact ⟨g, hg, e.symm⟩
      obtain ⟨hg1, hg2⟩ := lets_mem.mp hg
      have ud : But b Hc (upd Hc b (.lst ys)) := But.ups
      have xd : BoxAt (upd Hc b (.lst ys)) b (n + (most - (i + 1))) := .put hy
      have sad := sa.same s_ac
      have sd' := sad.but (xa.same s_ac) ud
      have ld' := (la.same s_ac).but (xa.same s_ac) ud
      have ed := ud _ _ wb (s_ac _ _ ea)
      generalize upd Hc b (.lst ys) = Hd at ud xd sd' ld' ed
      replace ud := uc.trans ud
      refine ⟨_, rfl, _, rfl, z, M, ds.length, g, rfl, ld'.a, hM, by omega, hg1, fun He pz se nz ez => ?_⟩
      refine ⟨_, rfl, .inl ⟨rfl, _, SqL.of (se _ _ ed)⟩, _, rfl, pw, _, _, rfl, rfl, se _ _ ed, ?_, ?_⟩
      · rw [ni_len]
        exact small1000 (by omega)
      have ne : pz ≠ pw := fun e => by rw [e, ed] at nz; cases nz
      have nw0 : H pw = none := nw
      have zb : pz ≠ b := (xd.ne nz).symm
      have gM := gone_lot hM hg1
      have nze : H pz = none := ud.free zb nz
      have ezw : upd He pw (.lst (ni row ++ [V.int (g : Int)])) pz = some (.tup (ni (gone M g))) := by
        rw [upd_ne ne]
        exact ez
      have vne : ∀ {q : Addr} {xs : List V}, He q = some (.tup xs) → q ≠ pw := fun e => ne_of e (se _ _ ed) (by intro w; cases w)
      refine ⟨.ref pz, gone M g, row ++ [g], _, _, _, rfl, (ud.trans (Same.but se)).put nw0, (xd.same se).at wb.symm, ?_, ⟨pz, rfl, SqT.of ezw⟩, gM, ?_, ?_, ?_, .inr ⟨pz, rfl, nze, ezw⟩⟩
      · obtain ⟨p1, q1, e3, e4, e5⟩ := sd'.same se
        refine ⟨p1, q1, e3, ?_, ?_⟩
        · exact sqT_upd (se _ _ ed) e4
        · exact sqT_upd (se _ _ ed) e5
      · rw [upd_same, ni_app]
        rfl
      · rw [List.length_append, List.length_singleton]
        omega
      · rw [goes_app [g] go]
        show (if g < ds.length ∧ mayB h t ds M g = true then goes h t ds (gone M g) [] else none) = _
        rw [if_pos ⟨hg1, hg2⟩]
        rfl
    · rintro σ Hz ⟨z, M, row, y5, y6, y7, rfl, uz, xz, sz, lz, hM, ez, lr, go, zz⟩
      refine ⟨_, rfl, _, rfl, (by show 2 ≤ sizeLine; decide), fun p np => ?_⟩
      have sp : Same Hz (upd Hz p (.tup [z, .ref pw])) := same_new np
      have pb : p ≠ b := (xz.ne np).symm
      exact q _ p pw z M row (uz.trans (Same.but sp)) ((xz.same sp).mono (by omega)) (uz.free pb np) upd_same (lz.same sp) nw (sp _ _ ez) lr go (zz.imp id fun ⟨pz, a1, a2, a3⟩ => ⟨pz, a1, a2, sp _ _ a3⟩)
end
end Sh

namespace Sh
open PySem PySem.Spec PyProof.Rows L2
/-! ### the program: crossing -/
theorem near_lt {c : Nat} {L : List Nat} (h : Lot c L) {i : Nat} (hi : i < c) : near L i < c := by
  have hm := mates_here h (i := i)
  by_cases z : i ∈ L
  · have := hm z
    rw [near_cnt h hi, if_pos z]
    have := h.len
    have : 0 < L.length := List.length_pos_iff.mpr (List.ne_nil_of_mem z)
    omega
  · have := mates_there h hi z
    omega
def spMayGo (K : PySem.W.Frag) : Sp := fun vs H Q _ => ∃ (v l : V) (h t : Int) (ds : List Int) (L : List Nat) (i : Nat), vs = [v, l, .int (i : Int)] ∧ SeaA K H v h t ds ∧ LotA K H l L ∧ Lot ds.length L ∧ i < ds.length ∧ Q (.bl (mayB h t ds L i)) H
abbrev s_may_go : Stmt := topS 14
theorem sc_may_go : FnScope (["sea", "standing", "ship", "draughts", "step"] : List Str) (["sea", "standing", "ship"] : List Str) (defScope s_may_go) := ⟨rfl, rfl, rfl, by decide +kernel, rfl, by decide +kernel, by decide +kernel⟩
theorem b_may_go (kV doc pm : Value) (an : Option Addr) (cdv ct : Value) (us : List Value) (hl : us.length = (["sea", "standing", "ship"] : List Str).length) : bindArgs (PySem.W.fnOf "may_go" "may_go" (defArgs s_may_go) (defBody s_may_go) (defScope s_may_go) .none kV doc pm an cdv ct) ⟨us, []⟩ = pure ((["sea", "standing", "ship"] : List Str).zip us) :=
  match us, hl with | [_, _, _], _ => rfl
section
variable {P : Program} {w : World} {K : PySem.W.Frag} {mg : Str → Option Value} {base : Heap}
theorem ok_may_go {k : Nat} (D : Df K mg "may_go" s_may_go) (T : Bt mg) (O_mark_at : Ok P w K mg base k "mark_at" s_mark_at ["sea", "step"] (spMark K)) : Ok P w K mg base (k + 1) "may_go" s_may_go ["sea", "standing", "ship"] (spMayGo K) := by
  refine D.ok sc_may_go b_may_go (fun vs H Q E h => ?_) (fun f cdv A outer s H vs Q E hr h => ?_)
  · obtain ⟨v, l, h, t, ds, L, i, rfl, _⟩ := h
    rfl
  · obtain ⟨v, l, h, t, ds, L, i, rfl, hv, ⟨pl, rfl, hl⟩, hL, hi, k⟩ := h
    obtain ⟨p, q, rfl, hp, hq⟩ := id hv
    have ed : ds.getD i 0 = ds[i] := by simp [hi]
    have hn := near_cnt hL hi
    rw [may_mk, ed] at k
    refine ⟨_, (pss_cons (ps_set (i := 3) sc_may_go.nd rfl (.inl rfl) (pe_ix ix_lt (pv 0) pe_int (fun _ _ => rfl)))
      (pss_cons (ps_set (i := 4) sc_may_go.nd rfl (.inl rfl) (pe_ifExp (pt_cmpR op_in_seq (pv 2) (pv 1) (by rfl)) (pe_op op_sub (pe_callB call_len_seq (by rfl) T.len_ PySem.boot_len (pa_cons (pv 1) pa_nil)) pe_int) (pe_callB call_len_seq (by rfl) T.len_ PySem.boot_len (pa_cons (pv 1) pa_nil))))
      (pss_one (ps_ret (pe_cmpR op_le (pe_ix ix_lt (pv 3) (pv 2) (fun _ _ => rfl)) (pe_fn O_mark_at (hr.mono (by omega)) (pa_cons (pv 0) (pa_cons (pv 4) pa_nil))) (nomark _)))))), ?_⟩
    refine ⟨_, rfl, p, _, 2, .ref q, rfl, rfl, hp, rfl, ?_⟩
    refine ⟨_, rfl, _, rfl, pl, _, rfl, hl, rfl, ni_flat L, _, rfl, ?_⟩
    rw [if_neg Bool.false_ne_true, in_ni]
    by_cases z : i ∈ L
    · rw [decide_eq_true z]
      refine iteT ?_
      have l1 : 0 < L.length := List.length_pos_iff.mpr (List.ne_nil_of_mem z)
      refine ⟨_, rfl, pl, _, rfl, hl, _, 1, rfl, rfl, ?_⟩
      rw [show (near L i : Int) = ((ni L).length : Int) - 1 by rw [hn, if_pos z, ni_len]; omega] at k
      refine ⟨_, rfl, _, rfl, q, _, _, .int ds[i], rfl, rfl, hq, at_nat rfl (by simp [hi]), ?_⟩
      exact ⟨_, rfl, _, rfl, .ref p, h, t, _, ds, rfl, hv, _, _, rfl, rfl, k⟩
    · rw [decide_eq_false z]
      refine iteF ?_
      refine ⟨_, rfl, pl, _, rfl, hl, ?_⟩
      rw [show (near L i : Int) = ((ni L).length : Int) by rw [hn, if_neg z, ni_len]] at k
      refine ⟨_, rfl, _, rfl, q, _, _, .int ds[i], rfl, rfl, hq, at_nat rfl (by simp [hi]), ?_⟩
      exact ⟨_, rfl, _, rfl, .ref p, h, t, _, ds, rfl, hv, _, _, rfl, rfl, k⟩
end
end Sh

namespace Sh
open PySem PySem.Spec PyProof.Rows L2
/-! ### the program: crossed, where one may go -/
def spCrossed (K : PySem.W.Frag) : Sp := fun vs H Q _ => ∃ (v l : V) (h t : Int) (ds : List Int) (L : List Nat) (i : Nat), vs = [v, l, .int (i : Int)] ∧ SeaA K H v h t ds ∧ LotA K H l L ∧ ds.length ≤ 100 ∧ Lot ds.length L ∧ i < ds.length ∧ mayB h t ds L i = true ∧ ∀ (H' : Hp) (z : V), Same H H' → LotT K H' z (gone L i) → Q z H'
abbrev s_crossed : Stmt := topS 15
theorem sc_crossed : FnScope (["sea", "standing", "ship", "mate"] : List Str) (["sea", "standing", "ship"] : List Str) (defScope s_crossed) := ⟨rfl, rfl, rfl, by decide +kernel, rfl, by decide +kernel, by decide +kernel⟩
theorem b_crossed (kV doc pm : Value) (an : Option Addr) (cdv ct : Value) (us : List Value) (hl : us.length = (["sea", "standing", "ship"] : List Str).length) : bindArgs (PySem.W.fnOf "crossed" "crossed" (defArgs s_crossed) (defBody s_crossed) (defScope s_crossed) .none kV doc pm an cdv ct) ⟨us, []⟩ = pure ((["sea", "standing", "ship"] : List Str).zip us) :=
  match us, hl with | [_, _, _], _ => rfl
section
variable {P : Program} {w : World} {K : PySem.W.Frag} {mg : Str → Option Value} {base : Heap}
theorem ok_crossed {k : Nat} (D : Df K mg "crossed" s_crossed) (T : Bt mg) (O_may_go : Ok P w K mg base k "may_go" s_may_go ["sea", "standing", "ship"] (spMayGo K)) : Ok P w K mg base (k + 1) "crossed" s_crossed ["sea", "standing", "ship"] (spCrossed K) := by
  refine D.ok sc_crossed b_crossed (fun vs H Q E h => ?_) (fun f cdv A outer s H vs Q E hr h => ?_)
  · obtain ⟨v, l, h, t, ds, L, i, rfl, _⟩ := h
    rfl
  · obtain ⟨v, l, h, t, ds, L, i, rfl, hv, hl0, d1, hL, hi, hm, q⟩ := h
    have ll := hL.len
    refine ⟨_, (pss_cons (ps_if (pt_not (pt_val (pe_fn O_may_go (hr.mono (by omega)) (pa_cons (pv 0) (pa_cons (pv 1) (pa_cons (pv 2) pa_nil))))))
        (pss_one ps_never)
        pss_nil)
      (pss_cons (ps_if (pt_cmpR op_in_seq (pv 2) (pv 1) (by rfl))
        (pss_one (ps_ret (pe_callTy call_tuple_of (by rfl) T.tuple_ (by decide +kernel) (pa_cons (pe_lc (own := [("mate", 3)]) (g := (gName 3)) (by rfl) sc_crossed.nd (pi_seq (pv 1)) (blkOk_by (own := [("mate", 3)]) (N := (["sea", "standing", "ship", "mate"] : List Str)) (sc := defScope s_crossed) (by decide +kernel)) (fun _ _ _ _ _ => (pg_name (i := 3) sc_crossed.nd rfl (.inl rfl))) (fun _ _ _ _ _ => (pts_one (pt_cmpR op_ne (pv 3) (pv 2) (nomark _)))) (fun _ _ _ _ _ => (pv 3))) pa_nil))))
        pss_nil)
      (pss_one (ps_ret (pe_callTy call_tuple_of (by rfl) T.tuple_ (by decide +kernel) (pa_cons (pe_callB cr_sortedI (by rfl) T.sorted_ (by decide +kernel) (pa_cons (pe_lst (StX.pa_star (pv 1) (pa_cons (pv 2) pa_nil))) pa_nil)) pa_nil)))))), ?_⟩
    refine ⟨_, rfl, _, rfl, _, rfl, v, l, h, t, ds, L, i, rfl, hv, hl0, hL, hi, _, rfl, ?_⟩
    rw [hm]
    refine iteF ?_
    obtain ⟨pl, rfl, hl⟩ := hl0
    refine ⟨_, rfl, _, rfl, pl, _, rfl, hl, rfl, ni_flat L, _, rfl, ?_⟩
    rw [if_neg Bool.false_ne_true, in_ni]
    by_cases z : i ∈ L
    · rw [decide_eq_true z]
      refine iteT ?_
      refine ⟨_, rfl, pl, _, H, rfl, hl, Kp.refl _ _, fun J hJ C nC => ?_⟩
      obtain ⟨G, g, W⟩ := hJ.walk
      refine lc_it W (fun j H' => Same H H' ∧ H' C = some (.lst (ni ((L.take j).filter fun m => !decide (m = i))))) ⟨same_new nC, upd_same⟩ (fun j H' _ z => g H' (.ofS z.1)) ?_ ?_
      · rintro j x H3 H4 hj ⟨s3, hC⟩ ⟨rfl, gx⟩
        rw [ni_len] at hj
        obtain rfl : .int ((L[j] : Nat) : Int) = x := Option.some.inj ((ni_get hj).symm.trans gx)
        refine ⟨rfl, ?_⟩
        refine ⟨_, rfl, _, rfl, rfl, _, rfl, ite2 (fun c => ?_) (fun c => ?_)⟩
        · have c0 : ¬ L[j] = i := fun e => by
            rw [e] at c
            simp at c
          refine ⟨_, rfl, _, hC, ?_, same_over s3 nC, ?_⟩
          · rw [ni_len]
            have h1 := List.length_filter_le (fun m => !decide (m = i)) (L.take j)
            rw [List.length_take] at h1
            exact small1000 (by omega)
          · rw [upd_same, take_succ_get hj, List.filter_append, ni_app, List.filter_cons_of_pos (by simpa using c0)]
            rfl
        · have c0 : L[j] = i := by
            by_cases e : L[j] = i
            · exact e
            · exfalso
              refine c ?_
              have z2 : ¬ V.int ((L[j] : Nat) : Int) = V.int (i : Int) := fun w => e (by have := V.int.inj w; omega)
              rw [decide_eq_false z2]
              rfl
          refine ⟨s3, ?_⟩
          rw [hC, take_succ_get hj, List.filter_append, List.filter_cons_of_neg (by simpa using c0)]
          simp
      rintro H3 ⟨s3, hC⟩
      rw [ni_len, List.take_length] at hC
      refine ⟨C, _, rfl, .inl ⟨SqL.of hC, fun p np => ?_⟩⟩
      refine q _ _ (s3.trans (same_new np)) ⟨p, rfl, SqT.of ?_⟩
      rw [upd_same, gone, if_pos z]
    · rw [decide_eq_false z]
      refine iteF ?_
      refine ⟨_, rfl, pl, _, rfl, hl.symm, _, rfl, ?_, fun ct nct => ?_⟩
      · rw [List.length_append, ni_len]
        show L.length + 1 ≤ sizeLine
        exact Nat.le_trans (show L.length + 1 ≤ 1001 by omega) (by decide)
      have s3 : Same H (upd H ct (.lst (ni L ++ [.int (i : Int)]))) := same_new nct
      have e3 : upd H ct (.lst (ni L ++ [.int (i : Int)])) ct = some (.lst (((L ++ [i]).map fun (i : Nat) => (i : Int)).map V.int)) := by
        rw [upd_same, ← ni_ints, ni_app]
        rfl
      generalize upd H ct (.lst (ni L ++ [.int (i : Int)])) = H3 at s3 e3
      refine ⟨ct, _, rfl, SqL.of e3, fun ns2 p2 pm2 up2 np2 => ?_⟩
      obtain ⟨L2, rfl, pL2, hL2⟩ := lot_sorted (c := ds.length) pm2 up2 (List.nodup_append.mpr ⟨hL.up.imp Nat.ne_of_lt, by simp, fun a ha y hy => by rw [List.mem_singleton.mp hy]; exact fun e => z (e ▸ ha)⟩) fun j hj => by
        rcases List.mem_append.mp hj with y | y
        · exact hL.lt j y
        · rw [List.mem_singleton.mp y]
          exact hi
      have eg : L2 = gone L i := by
        refine lot_ext hL2 (gone_lot hL hi) fun j _ => ?_
        rw [gone_mem]
        unfold mem
        by_cases e : j = i
        · subst e
          rw [Th.flip_self]
          simp [z, pL2.mem_iff]
        · rw [Th.flip_ne _ e]
          simp [e, pL2.mem_iff]
      have s4 : Same H3 (upd H3 p2 (.lst ((L2.map fun (i : Nat) => (i : Int)).map V.int))) := same_new np2
      have e4 : upd H3 p2 (.lst ((L2.map fun (i : Nat) => (i : Int)).map V.int)) p2 = some (.lst (ni L2)) := by rw [upd_same, ni_ints]
      generalize upd H3 p2 (.lst ((L2.map fun (i : Nat) => (i : Int)).map V.int)) = H4 at s4 e4
      refine ⟨p2, _, rfl, .inl ⟨SqL.of e4, fun p np => ?_⟩⟩
      have s14 := s3.trans s4
      refine q _ _ (s14.trans (same_new np)) ⟨p, rfl, SqT.of ?_⟩
      rw [upd_same, eg]
end
end Sh

namespace Sh
open PySem PySem.Spec PyProof.Rows L2
/-! ### the program: crossed, wherever it is asked -/
theorem log2_le {n m : Nat} (h : n ≤ m) : n.log2 ≤ m := Nat.le_trans (Nat.log2_le_self n) h
def spCrossedX (K : PySem.W.Frag) (C : Addr) : Sp := fun vs H Q E => ∃ (v l : V) (h t : Int) (ds : List Int) (L : List Nat) (i : Nat), vs = [v, l, .int (i : Int)] ∧ SeaA K H v h t ds ∧ LotA K H l L ∧ ds.length ≤ 100 ∧ Lot ds.length L ∧ i < ds.length ∧
  (mayB h t ds L i = true → ∀ (H' : Hp) (z : V), Same H H' → LotT K H' z (gone L i) → Q z H') ∧ (mayB h t ds L i = false → ∀ d, H d = none → E (.ref C) (some d) (upd H d (.xd [("ship", .int (i : Int))])))
/-- a row, gone as far as one may: where it ends, and who may not go on -/
def goesX (h t : Int) (ds : List Int) : List Nat → List Nat → List Nat × Option Nat
  | L, [] => (L, none)
  | L, i :: r => if i < ds.length ∧ mayB h t ds L i = true then goesX h t ds (gone L i) r else (L, some i)
theorem goesX_cons {h t : Int} {ds : List Int} {L r : List Nat} {i : Nat} : goesX h t ds L (i :: r) = if i < ds.length ∧ mayB h t ds L i = true then goesX h t ds (gone L i) r else (L, some i) := rfl
section
variable {P : Program} {w : World} {K : PySem.W.Frag} {mg : Str → Option Value} {base : Heap}
theorem ok_crossedX {k : Nat} {C : Addr} (D : Df K mg "crossed" s_crossed) (T : Bt mg) (O_may_go : Ok P w K mg base (k + 1) "may_go" s_may_go ["sea", "standing", "ship"] (spMayGo K)) (XM : ExcOk P w K mg base k "MayNot" C "ship" okInt) : OkX P w K mg base (k + 2) "crossed" s_crossed ["sea", "standing", "ship"] (spCrossedX K C) := by
  refine D.okX sc_crossed b_crossed (fun vs H Q E h => ?_) (fun f cdv A outer s H vs Q E hr h => ?_)
  · obtain ⟨v, l, h, t, ds, L, i, rfl, _⟩ := h
    rfl
  · obtain ⟨v, l, h, t, ds, L, i, rfl, hv, hl0, d1, hL, hi, q, qx⟩ := h
    have ll := hL.len
    refine ⟨_, (pss_cons (ps_if (pt_not (pt_val (pe_fn O_may_go (hr.mono (by omega)) (pa_cons (pv 0) (pa_cons (pv 1) (pa_cons (pv 2) pa_nil))))))
        (pss_one (ps_raise1 rfl XM (hr.mono (by omega)) (takes_of rfl rfl rfl rfl) (pa_cons (pv 2) pa_nil)))
        pss_nil)
      (pss_cons (ps_if (pt_cmpR op_in_seq (pv 2) (pv 1) (by rfl))
        (pss_one (ps_ret (pe_callTy call_tuple_of (by rfl) T.tuple_ (by decide +kernel) (pa_cons (pe_lc (own := [("mate", 3)]) (g := (gName 3)) (by rfl) sc_crossed.nd (pi_seq (pv 1)) (blkOk_by (own := [("mate", 3)]) (N := (["sea", "standing", "ship", "mate"] : List Str)) (sc := defScope s_crossed) (by decide +kernel)) (fun _ _ _ _ _ => (pg_name (i := 3) sc_crossed.nd rfl (.inl rfl))) (fun _ _ _ _ _ => (pts_one (pt_cmpR op_ne (pv 3) (pv 2) (nomark _)))) (fun _ _ _ _ _ => (pv 3))) pa_nil))))
        pss_nil)
      (pss_one (ps_ret (pe_callTy call_tuple_of (by rfl) T.tuple_ (by decide +kernel) (pa_cons (pe_callB cr_sortedI (by rfl) T.sorted_ (by decide +kernel) (pa_cons (pe_lst (StX.pa_star (pv 1) (pa_cons (pv 2) pa_nil))) pa_nil)) pa_nil)))))), ?_⟩
    refine ⟨_, rfl, _, rfl, _, rfl, v, l, h, t, ds, L, i, rfl, hv, hl0, hL, hi, _, rfl, ?_⟩
    cases hm : mayB h t ds L i with
    | false =>
      refine iteT ?_
      exact ⟨_, rfl, _, rfl, ⟨(i : Int), rfl, Nat.lt_of_le_of_lt (log2_le (by omega : ((i : Int)).natAbs ≤ 100)) (by decide)⟩, fun d nd => qx hm d nd⟩
    | true =>
    replace q := q hm
    refine iteF ?_
    obtain ⟨pl, rfl, hl⟩ := hl0
    refine ⟨_, rfl, _, rfl, pl, _, rfl, hl, rfl, ni_flat L, _, rfl, ?_⟩
    rw [if_neg Bool.false_ne_true, in_ni]
    by_cases z : i ∈ L
    · rw [decide_eq_true z]
      refine iteT ?_
      refine ⟨_, rfl, pl, _, H, rfl, hl, Kp.refl _ _, fun J hJ C nC => ?_⟩
      obtain ⟨G, g, W⟩ := hJ.walk
      refine lc_it W (fun j H' => Same H H' ∧ H' C = some (.lst (ni ((L.take j).filter fun m => !decide (m = i))))) ⟨same_new nC, upd_same⟩ (fun j H' _ z => g H' (.ofS z.1)) ?_ ?_
      · rintro j x H3 H4 hj ⟨s3, hC⟩ ⟨rfl, gx⟩
        rw [ni_len] at hj
        obtain rfl : .int ((L[j] : Nat) : Int) = x := Option.some.inj ((ni_get hj).symm.trans gx)
        refine ⟨rfl, ?_⟩
        refine ⟨_, rfl, _, rfl, rfl, _, rfl, ite2 (fun c => ?_) (fun c => ?_)⟩
        · have c0 : ¬ L[j] = i := fun e => by
            rw [e] at c
            simp at c
          refine ⟨_, rfl, _, hC, ?_, same_over s3 nC, ?_⟩
          · rw [ni_len]
            have h1 := List.length_filter_le (fun m => !decide (m = i)) (L.take j)
            rw [List.length_take] at h1
            exact small1000 (by omega)
          · rw [upd_same, take_succ_get hj, List.filter_append, ni_app, List.filter_cons_of_pos (by simpa using c0)]
            rfl
        · have c0 : L[j] = i := by
            by_cases e : L[j] = i
            · exact e
            · exfalso
              refine c ?_
              have z2 : ¬ V.int ((L[j] : Nat) : Int) = V.int (i : Int) := fun w => e (by have := V.int.inj w; omega)
              rw [decide_eq_false z2]
              rfl
          refine ⟨s3, ?_⟩
          rw [hC, take_succ_get hj, List.filter_append, List.filter_cons_of_neg (by simpa using c0)]
          simp
      rintro H3 ⟨s3, hC⟩
      rw [ni_len, List.take_length] at hC
      refine ⟨C, _, rfl, .inl ⟨SqL.of hC, fun p np => ?_⟩⟩
      refine q _ _ (s3.trans (same_new np)) ⟨p, rfl, SqT.of ?_⟩
      rw [upd_same, gone, if_pos z]
    · rw [decide_eq_false z]
      refine iteF ?_
      refine ⟨_, rfl, pl, _, rfl, hl.symm, _, rfl, ?_, fun ct nct => ?_⟩
      · rw [List.length_append, ni_len]
        show L.length + 1 ≤ sizeLine
        exact Nat.le_trans (show L.length + 1 ≤ 1001 by omega) (by decide)
      have s3 : Same H (upd H ct (.lst (ni L ++ [.int (i : Int)]))) := same_new nct
      have e3 : upd H ct (.lst (ni L ++ [.int (i : Int)])) ct = some (.lst (((L ++ [i]).map fun (i : Nat) => (i : Int)).map V.int)) := by
        rw [upd_same, ← ni_ints, ni_app]
        rfl
      generalize upd H ct (.lst (ni L ++ [.int (i : Int)])) = H3 at s3 e3
      refine ⟨ct, _, rfl, SqL.of e3, fun ns2 p2 pm2 up2 np2 => ?_⟩
      obtain ⟨L2, rfl, pL2, hL2⟩ := lot_sorted (c := ds.length) pm2 up2 (List.nodup_append.mpr ⟨hL.up.imp Nat.ne_of_lt, by simp, fun a ha y hy => by rw [List.mem_singleton.mp hy]; exact fun e => z (e ▸ ha)⟩) fun j hj => by
        rcases List.mem_append.mp hj with y | y
        · exact hL.lt j y
        · rw [List.mem_singleton.mp y]
          exact hi
      have eg : L2 = gone L i := by
        refine lot_ext hL2 (gone_lot hL hi) fun j _ => ?_
        rw [gone_mem]
        unfold mem
        by_cases e : j = i
        · subst e
          rw [Th.flip_self]
          simp [z, pL2.mem_iff]
        · rw [Th.flip_ne _ e]
          simp [e, pL2.mem_iff]
      have s4 : Same H3 (upd H3 p2 (.lst ((L2.map fun (i : Nat) => (i : Int)).map V.int))) := same_new np2
      have e4 : upd H3 p2 (.lst ((L2.map fun (i : Nat) => (i : Int)).map V.int)) p2 = some (.lst (ni L2)) := by rw [upd_same, ni_ints]
      generalize upd H3 p2 (.lst ((L2.map fun (i : Nat) => (i : Int)).map V.int)) = H4 at s4 e4
      refine ⟨p2, _, rfl, .inl ⟨SqL.of e4, fun p np => ?_⟩⟩
      have s14 := s3.trans s4
      refine q _ _ (s14.trans (same_new np)) ⟨p, rfl, SqT.of ?_⟩
      rw [upd_same, eg]
end
end Sh

namespace Sh
open PySem PySem.Spec PyProof.Rows L2
/-! ### the program: seas told otherwise -/
/-- the draughts of those ships, as they come -/
def pickD (ds : List Int) (os : List Nat) : List Int := os.map fun o => ds.getD o 0
/-- the places of an order at which one of the lot stands -/
def renS (os L : List Nat) : List Nat := (List.range os.length).filter fun j => decide (os.getD j 0 ∈ L)
theorem renS_lot (os L : List Nat) : Lot os.length (renS os L) := (Lot.all os.length).filter _
def spRenum (K : PySem.W.Frag) : Sp := fun vs H Q _ => ∃ (v l : V) (h t : Int) (ds : List Int) (os : List Nat), vs = [v, l] ∧ SeaA K H v h t ds ∧ LotA K H l os ∧ os.length ≤ 100 ∧ (∀ o ∈ os, o < ds.length) ∧ ∀ (H' : Hp) (r : V), Same H H' → SeaT K H' r h t (pickD ds os) → Q r H'
def spRenumS (K : PySem.W.Frag) : Sp := fun vs H Q _ => ∃ (l m : V) (os L : List Nat), vs = [l, m] ∧ LotA K H l os ∧ LotA K H m L ∧ os.length ≤ 100 ∧ ∀ (H' : Hp) (r : V), Same H H' → LotT K H' r (renS os L) → Q r H'
theorem map_take {α β : Type} (f : α → β) {xs : List α} {i : Nat} (hi : i < xs.length) : (xs.take (i + 1)).map f = (xs.take i).map f ++ [f xs[i]] := by rw [take_succ_get hi, List.map_append]; rfl
abbrev s_renumbered : Stmt := topS 20
theorem sc_renumbered : FnScope (["sea", "order", "here", "there", "draughts", "ship"] : List Str) (["sea", "order"] : List Str) (defScope s_renumbered) := ⟨rfl, rfl, rfl, by decide +kernel, rfl, by decide +kernel, by decide +kernel⟩
theorem b_renumbered (kV doc pm : Value) (an : Option Addr) (cdv ct : Value) (us : List Value) (hl : us.length = (["sea", "order"] : List Str).length) : bindArgs (PySem.W.fnOf "renumbered" "renumbered" (defArgs s_renumbered) (defBody s_renumbered) (defScope s_renumbered) .none kV doc pm an cdv ct) ⟨us, []⟩ = pure ((["sea", "order"] : List Str).zip us) :=
  match us, hl with | [_, _], _ => rfl
abbrev s_renumbered_standing : Stmt := topS 21
theorem sc_renumbered_standing : FnScope (["order", "standing", "place", "ship"] : List Str) (["order", "standing"] : List Str) (defScope s_renumbered_standing) := ⟨rfl, rfl, rfl, by decide +kernel, rfl, by decide +kernel, by decide +kernel⟩
theorem b_renumbered_standing (kV doc pm : Value) (an : Option Addr) (cdv ct : Value) (us : List Value) (hl : us.length = (["order", "standing"] : List Str).length) : bindArgs (PySem.W.fnOf "renumbered_standing" "renumbered_standing" (defArgs s_renumbered_standing) (defBody s_renumbered_standing) (defScope s_renumbered_standing) .none kV doc pm an cdv ct) ⟨us, []⟩ = pure ((["order", "standing"] : List Str).zip us) :=
  match us, hl with | [_, _], _ => rfl
section
variable {P : Program} {w : World} {K : PySem.W.Frag} {mg : Str → Option Value} {base : Heap}
theorem ok_renum {k : Nat} (D : Df K mg "renumbered" s_renumbered) (T : Bt mg) : Ok P w K mg base (k + 1) "renumbered" s_renumbered ["sea", "order"] (spRenum K) := by
  refine D.ok sc_renumbered b_renumbered (fun vs H Q E h => ?_) (fun f cdv A outer s H vs Q E hr h => ?_)
  · obtain ⟨v, l, h, t, ds, os, rfl, _⟩ := h
    rfl
  · obtain ⟨v, l, h, t, ds, os, rfl, ⟨p, q, rfl, hp, hq⟩, ⟨pl, rfl, hl⟩, o1, o2, k⟩ := h
    refine ⟨_, (pss_cons (ps_asg (pv 0) (pg_seq rfl (pgs_cons (pg_name (i := 2) sc_renumbered.nd rfl (.inl rfl)) (pgs_cons (pg_name (i := 3) sc_renumbered.nd rfl (.inl rfl)) (pgs_cons (pg_name (i := 4) sc_renumbered.nd rfl (.inr rfl)) pgs_nil)))))
      (pss_one (ps_ret (pe_tup (pa_cons (pv 2) (pa_cons (pv 3) (pa_cons (pe_callTy call_tuple_of (by rfl) T.tuple_ (by decide +kernel) (pa_cons (pe_lc (own := [("ship", 5)]) (g := (gName 5)) (tt := tYes) (by rfl) sc_renumbered.nd (pi_seq (pv 1)) (blkOk_by (own := [("ship", 5)]) (N := (["sea", "order", "here", "there", "draughts", "ship"] : List Str)) (sc := defScope s_renumbered) (by decide +kernel)) (fun _ _ _ _ _ => (pg_name (i := 5) sc_renumbered.nd rfl (.inl rfl))) (fun _ _ _ _ _ => pts_nil) (fun _ _ _ _ _ => (pe_ix (ix_ltK K) (pv 4) (pv 5) (fun _ _ => rfl)))) pa_nil)) pa_nil))))))), ?_⟩
    refine ⟨_, rfl, p, _, rfl, hp, rfl, _, _, rfl, _, _, rfl, _, _, rfl, rfl, ?_⟩
    refine ⟨_, rfl, _, rfl, _, rfl, pl, _, H, rfl, hl, Kp.refl _ _, fun J hJ C nC => ?_⟩
    obtain ⟨G, g, W⟩ := hJ.walk
    refine lc_it W (fun i H' => Same H H' ∧ H' C = some (.lst ((pickD ds (os.take i)).map V.int))) ⟨same_new nC, upd_same⟩ (fun i H' _ z => g H' (.ofS z.1)) ?_ ?_
    · rintro i x Ha Hb hi ⟨sm, hC⟩ ⟨rfl, gx⟩
      rw [ni_len] at hi
      obtain rfl : .int ((os[i] : Nat) : Int) = x := Option.some.inj ((ni_get hi).symm.trans gx)
      have ho := o2 os[i] (List.getElem_mem hi)
      refine ⟨rfl, tyes (iteT ?_)⟩
      refine ⟨_, rfl, _, rfl, q, _, _, .int ds[os[i]], rfl, rfl, Same.sqA sm hq, at_nat (j := os[i]) rfl (by simp [ho]), _, hC, ?_, same_over sm nC, ?_⟩
      · unfold pickD
        rw [List.length_map, List.length_map, List.length_take]
        exact small1000 (by omega)
      · rw [upd_same]
        unfold pickD
        rw [map_take _ hi, List.map_append, List.getD_eq_getElem?_getD, List.getElem?_eq_getElem ho]
        rfl
    · rintro H1 ⟨sm, hC⟩
      rw [ni_len, List.take_length] at hC
      refine ⟨C, _, rfl, .inl ⟨SqL.of hC, fun a na => ⟨(by show 3 ≤ sizeLine; decide), fun b nb => ?_⟩⟩⟩
      have s1 : Same H1 (upd H1 a (.tup ((pickD ds os).map V.int))) := same_new na
      exact k _ _ (sm.trans (s1.trans (same_new nb))) ⟨b, a, rfl, SqT.of upd_same, SqT.of (same_new nb _ _ upd_same)⟩
theorem ok_renumS {k : Nat} (D : Df K mg "renumbered_standing" s_renumbered_standing) (T : Bt mg) : Ok P w K mg base (k + 1) "renumbered_standing" s_renumbered_standing ["order", "standing"] (spRenumS K) := by
  refine D.ok sc_renumbered_standing b_renumbered_standing (fun vs H Q E h => ?_) (fun f cdv A outer s H vs Q E hr h => ?_)
  · obtain ⟨l, m, os, L, rfl, _⟩ := h
    rfl
  · obtain ⟨l, m, os, L, rfl, ⟨pl, rfl, hl⟩, ⟨pm, rfl, hm⟩, o1, k⟩ := h
    refine ⟨_, (pss_one (ps_ret (pe_callTy call_tuple_of (by rfl) T.tuple_ (by decide +kernel) (pa_cons (pe_lc (own := [("place", 2), ("ship", 3)]) (g := (gSeq K 2 (gCons (gName 2) (gCons (gName 3) gNil)))) (by rfl) sc_renumbered_standing.nd (pi_enumA (by rfl) T.enumerate_ (pa_cons (pv 0) pa_nil)) (blkOk_by (own := [("place", 2), ("ship", 3)]) (N := (["order", "standing", "place", "ship"] : List Str)) (sc := defScope s_renumbered_standing) (by decide +kernel)) (fun _ _ _ _ _ => (pg_seq rfl (pgs_cons (pg_name (i := 2) sc_renumbered_standing.nd rfl (.inl rfl)) (pgs_cons (pg_name (i := 3) sc_renumbered_standing.nd rfl (.inl rfl)) pgs_nil)))) (fun _ _ _ _ _ => (pts_one (pt_cmpR (op_inK K) (pv 3) (pv 1) (by rfl)))) (fun _ _ _ _ _ => (pv 2))) pa_nil)))), ?_⟩
    refine ⟨_, rfl, pl, _, H, rfl, hl, Kp.refl _ _, fun J hJ C nC => ?_⟩
    obtain ⟨G, g, W⟩ := hJ.walk
    refine lc_it W (fun i H' => Same H H' ∧ H' C = some (.lst (ni ((List.range i).filter fun j => decide (os.getD j 0 ∈ L))))) ⟨same_new nC, upd_same⟩ (fun i H' _ z => g H' (.ofS z.1)) ?_ ?_
    · rintro i x Ha Hb hi ⟨sm, hC⟩ ⟨t, x1, x2, rfl, nt, rfl, g1, g2⟩
      rw [ni_len] at hi
      obtain rfl : .int (i : Int) = x1 := Option.some.inj g1
      obtain rfl : .int ((os[i] : Nat) : Int) = x2 := Option.some.inj ((ni_get hi).symm.trans g2)
      have smT : Same H (upd Ha t (.tup [.int (i : Int), .int ((os[i] : Nat) : Int)])) := sm.trans (same_new nt)
      have hCT : upd Ha t (.tup [.int (i : Int), .int ((os[i] : Nat) : Int)]) C = some (.lst (ni ((List.range i).filter fun j => decide (os.getD j 0 ∈ L)))) := by rw [upd_ne (ne_of_none hC nt)]; exact hC
      have etT : upd Ha t (.tup [.int (i : Int), .int ((os[i] : Nat) : Int)]) t = some (.tup [.int (i : Int), .int ((os[i] : Nat) : Int)]) := upd_same
      generalize upd Ha t (.tup [.int (i : Int), .int ((os[i] : Nat) : Int)]) = Ht at smT hCT etT
      refine ⟨t, _, rfl, SqA.t etT, rfl, _, _, rfl, _, _, rfl, rfl, rfl, ?_⟩
      refine ⟨_, rfl, _, rfl, pm, _, rfl, Same.sqA smT hm, rfl, ni_flat L, _, rfl, ?_⟩
      rw [in_ni]
      have eo : os.getD i 0 = os[i] := by rw [List.getD_eq_getElem?_getD, List.getElem?_eq_getElem hi]; rfl
      by_cases z : os[i] ∈ L
      · rw [decide_eq_true z]
        refine iteT ⟨_, rfl, _, hCT, ?_, same_over smT nC, ?_⟩
        · rw [ni_len]
          exact Nat.lt_of_le_of_lt (filter_len _ _) (small1000 (by omega))
        · rw [upd_same, filter_succ, if_pos (by rw [eo]; exact decide_eq_true z), ni_app]
          rfl
      · rw [decide_eq_false z]
        refine iteF ⟨smT, ?_⟩
        rw [hCT, filter_succ, if_neg (by rw [eo, decide_eq_false z]; exact Bool.false_ne_true), List.append_nil]
    · rintro H1 ⟨sm, hC⟩
      rw [ni_len] at hC
      refine ⟨C, _, rfl, .inl ⟨SqL.of hC, fun a na => ?_⟩⟩
      exact k _ _ (sm.trans (same_new na)) ⟨a, rfl, SqT.of upd_same⟩
end
end Sh

namespace Sh
open PySem PySem.Spec PyProof.Rows L2
/-! ### ships numbered anew -/
/-- all ships below c, in some order -/
structure OrdN (c : Nat) (os : List Nat) : Prop where
  len : os.length = c
  lt : ∀ o ∈ os, o < c
  all : ∀ j, j < c → j ∈ os
theorem perm_nat {ys : List Int} {c : Nat} (h : ys.Perm ((List.range c).map fun (i : Nat) => (i : Int))) : ∃ os : List Nat, ys = os.map (fun (i : Nat) => (i : Int)) ∧ OrdN c os := by
  have p : (ys.map Int.toNat).Perm (List.range c) := by
    have := h.map Int.toNat
    rw [List.map_map] at this
    have e : (Int.toNat ∘ fun (i : Nat) => (i : Int)) = id := by funext i; simp
    rw [e, List.map_id] at this
    exact this
  refine ⟨ys.map Int.toNat, ?_, ?_, fun o ho => ?_, fun j hj => ?_⟩
  · rw [List.map_map]
    have e : ∀ y ∈ ys, ((fun (i : Nat) => (i : Int)) ∘ Int.toNat) y = id y := fun y hy => by
      obtain ⟨i, _, rfl⟩ := List.mem_map.mp ((h.mem_iff).mp hy)
      simp
    rw [List.map_congr_left e, List.map_id]
  · rw [p.length_eq, List.length_range]
  · exact List.mem_range.mp (p.mem_iff.mp ho)
  · exact p.mem_iff.mpr (List.mem_range.mpr hj)
theorem mem_renS {os L : List Nat} {j : Nat} : j ∈ renS os L ↔ j < os.length ∧ os.getD j 0 ∈ L := by
  unfold renS
  rw [List.mem_filter, List.mem_range, decide_eq_true_eq]
theorem getD_at {α : Type} {l : List α} {d : α} {i : Nat} (h : i < l.length) : l.getD i d = l[i] := by
  rw [List.getD_eq_getElem?_getD, List.getElem?_eq_getElem h]
  rfl
/-- the place of each ship in an order -/
def backN (c : Nat) (os : List Nat) : List Nat := (List.range c).map fun j => os.idxOf j
theorem OrdN.idx {c : Nat} {os : List Nat} (O : OrdN c os) {j : Nat} (h : j < c) : ∃ hx : os.idxOf j < os.length, os[os.idxOf j] = j := by
  have hx : os.idxOf j < os.length := List.idxOf_lt_length_iff.mpr (O.all j h)
  exact ⟨hx, List.getElem_idxOf hx⟩
theorem OrdN.back_lt {c : Nat} {os : List Nat} (O : OrdN c os) : ∀ o ∈ backN c os, o < c := fun o ho => by
  obtain ⟨j, hj, rfl⟩ := List.mem_map.mp ho
  obtain ⟨hx, _⟩ := O.idx (List.mem_range.mp hj)
  rw [O.len] at hx
  exact hx
theorem backN_len (c : Nat) (os : List Nat) : (backN c os).length = c := by unfold backN; rw [List.length_map, List.length_range]
theorem backN_at {c : Nat} {os : List Nat} {j : Nat} (h : j < c) : (backN c os).getD j 0 = os.idxOf j := by
  rw [getD_at (by rw [backN_len]; exact h)]
  unfold backN
  rw [List.getElem_map, List.getElem_range]
theorem pickD_len (ds : List Int) (os : List Nat) : (pickD ds os).length = os.length := by unfold pickD; rw [List.length_map]
theorem pickD_at {ds : List Int} {os : List Nat} {i : Nat} (h : i < os.length) : (pickD ds os).getD i 0 = ds.getD os[i] 0 := by
  rw [getD_at (by rw [pickD_len]; exact h)]
  unfold pickD
  rw [List.getElem_map]
theorem pick_back {ds : List Int} {os : List Nat} (O : OrdN ds.length os) : pickD (pickD ds os) (backN ds.length os) = ds := by
  refine List.ext_getElem (by rw [pickD_len, backN_len]) fun i h1 h2 => ?_
  obtain ⟨hx, e⟩ := O.idx h2
  have h3 : i < (backN ds.length os).length := by rw [backN_len]; exact h2
  rw [← getD_at (d := 0) h1, pickD_at h3, ← getD_at (d := 0) h3, backN_at h2, pickD_at hx, e, getD_at h2]
theorem up_eq : ∀ {L M : List Nat}, L.Pairwise (· < ·) → M.Pairwise (· < ·) → (∀ i, i ∈ L ↔ i ∈ M) → L = M
  | [], [], _, _, _ => rfl
  | [], b :: M, _, _, h => absurd ((h b).mpr List.mem_cons_self) List.not_mem_nil
  | a :: L, [], _, _, h => absurd ((h a).mp List.mem_cons_self) List.not_mem_nil
  | a :: L, b :: M, hL, hM, h => by
    obtain ⟨a1, a2⟩ := List.pairwise_cons.mp hL
    obtain ⟨b1, b2⟩ := List.pairwise_cons.mp hM
    have e : a = b := by
      rcases List.mem_cons.mp ((h a).mp List.mem_cons_self) with z | z
      · exact z
      · rcases List.mem_cons.mp ((h b).mpr List.mem_cons_self) with y | y
        · exact y.symm
        · have := a1 b y
          have := b1 a z
          omega
    subst e
    rw [up_eq a2 b2 fun i => ⟨fun z => ?_, fun z => ?_⟩]
    · have := a1 i z
      rcases List.mem_cons.mp ((h i).mp (List.mem_cons_of_mem _ z)) with y | y
      · omega
      · exact y
    · have := b1 i z
      rcases List.mem_cons.mp ((h i).mpr (List.mem_cons_of_mem _ z)) with y | y
      · omega
      · exact y
theorem renS_up (os L : List Nat) : (renS os L).Pairwise (· < ·) := List.pairwise_lt_range.filter _
theorem renS_back {c : Nat} {os L : List Nat} (O : OrdN c os) (hL : Lot c L) : renS (backN c os) (renS os L) = L := by
  refine up_eq (renS_up _ _) hL.up fun j => ?_
  rw [mem_renS, backN_len]
  constructor
  · rintro ⟨h, m⟩
    obtain ⟨hx, e⟩ := O.idx h
    rw [backN_at h, mem_renS, getD_at hx, e] at m
    exact m.2
  · intro m
    have h := hL.lt j m
    obtain ⟨hx, e⟩ := O.idx h
    refine ⟨h, ?_⟩
    rw [backN_at h, mem_renS, getD_at hx, e]
    exact ⟨hx, m⟩
def pickN (os qs : List Nat) : List Nat := qs.map fun a => os.getD a 0
theorem pickN_len (os qs : List Nat) : (pickN os qs).length = qs.length := by unfold pickN; rw [List.length_map]
theorem pickN_lt {c : Nat} {os qs : List Nat} (O : OrdN c os) (h : ∀ a ∈ qs, a < c) : ∀ o ∈ pickN os qs, o < c := fun o ho => by
  obtain ⟨a, ha, rfl⟩ := List.mem_map.mp ho
  have := h a ha
  rw [getD_at (by rw [O.len]; exact this)]
  exact O.lt _ (List.getElem_mem _)
theorem pick_pick {ds : List Int} {os qs : List Nat} (h : ∀ a ∈ qs, a < os.length) : pickD (pickD ds os) qs = pickD ds (pickN os qs) := by
  show qs.map _ = (qs.map _).map _
  rw [List.map_map]
  refine List.map_congr_left fun a ha => ?_
  show (pickD ds os).getD a 0 = ds.getD (os.getD a 0) 0
  rw [pickD_at (h a ha), getD_at (h a ha)]
theorem renS_pick {os qs L : List Nat} (h : ∀ a ∈ qs, a < os.length) : renS qs (renS os L) = renS (pickN os qs) L := by
  unfold renS
  rw [pickN_len]
  refine List.filter_congr fun j hj => ?_
  have hj := List.mem_range.mp hj
  have e : (pickN os qs).getD j 0 = os.getD (qs.getD j 0) 0 := by
    rw [getD_at (by rw [pickN_len]; exact hj), getD_at hj]
    unfold pickN
    rw [List.getElem_map]
  have q := h _ (List.getElem_mem hj)
  rw [decide_eq_decide, ← show renS os L = (List.range os.length).filter (fun j => decide (os.getD j 0 ∈ L)) from rfl, mem_renS, e, getD_at hj]
  exact ⟨fun z => z.2, fun z => ⟨q, z⟩⟩
end Sh

namespace Sh
open PySem PySem.Spec PyProof.Rows L2
/-! ### one that is sunk -/
/-- the number of a ship once g is gone, and back -/
def dn (g w : Nat) : Nat := if w > g then w - 1 else w
def upN (g j : Nat) : Nat := if j < g then j else j + 1
theorem up_dn {g w : Nat} (h : w ≠ g) : upN g (dn g w) = w := by unfold upN dn; split <;> split <;> omega
theorem dn_up (g j : Nat) : dn g (upN g j) = j := by unfold upN dn; split <;> split <;> omega
theorem up_ne (g j : Nat) : upN g j ≠ g := by unfold upN; split <;> omega
theorem up_lt {g j c : Nat} (hg : g < c) : upN g j < c ↔ j < c - 1 := by unfold upN; split <;> omega
/-- those but g, numbered anew -/
def less (L : List Nat) (g : Nat) : List Nat := (L.filter fun w => !decide (w = g)).map (dn g)
theorem mem_less {L : List Nat} {g j : Nat} : j ∈ less L g ↔ upN g j ∈ L := by
  unfold less
  rw [List.mem_map]
  constructor
  · rintro ⟨w, hw, rfl⟩
    rw [List.mem_filter] at hw
    have ne : w ≠ g := by simpa using hw.2
    rw [up_dn ne]
    exact hw.1
  · intro h
    refine ⟨upN g j, List.mem_filter.mpr ⟨h, ?_⟩, dn_up g j⟩
    simpa using up_ne g j
theorem less_up {L : List Nat} (g : Nat) (h : L.Pairwise (· < ·)) : (less L g).Pairwise (· < ·) := by
  unfold less
  rw [List.pairwise_map]
  refine (h.filter _).imp_of_mem fun {a b} ha hb hl => ?_
  have na : a ≠ g := by simpa using (List.mem_filter.mp ha).2
  have nb : b ≠ g := by simpa using (List.mem_filter.mp hb).2
  unfold dn
  split <;> split <;> omega
theorem less_lot {c : Nat} {L : List Nat} {g : Nat} (hg : g < c) (h : Lot c L) : Lot (c - 1) (less L g) := ⟨less_up g h.up, fun j hj => (up_lt hg).mp (h.lt _ (mem_less.mp hj))⟩
/-- all but g -/
def butN (c g : Nat) : List Nat := (List.range c).filter fun w => !decide (w = g)
theorem butN_eq {c g : Nat} (hg : g < c) : butN c g = (List.range (c - 1)).map (upN g) := by
  refine up_eq (List.pairwise_lt_range.filter _) ?_ fun i => ?_
  · rw [List.pairwise_map]
    refine List.pairwise_lt_range.imp fun {a b} h => ?_
    unfold upN
    split <;> split <;> omega
  · unfold butN
    rw [List.mem_filter, List.mem_range, List.mem_map]
    constructor
    · rintro ⟨h, ne⟩
      have ne : i ≠ g := by simpa using ne
      refine ⟨dn g i, List.mem_range.mpr ((up_lt hg).mp ?_), up_dn ne⟩
      rw [up_dn ne]
      exact h
    · rintro ⟨j, hj, rfl⟩
      refine ⟨(up_lt hg).mpr (List.mem_range.mp hj), ?_⟩
      simpa using up_ne g j
theorem butN_len {c g : Nat} (hg : g < c) : (butN c g).length = c - 1 := by rw [butN_eq hg, List.length_map, List.length_range]
theorem butN_at {c g j : Nat} (hg : g < c) (hj : j < c - 1) : (butN c g).getD j 0 = upN g j := by
  rw [getD_at (by rw [butN_len hg]; exact hj)]
  have : ∀ (l : List Nat) (h : j < l.length), l = (List.range (c - 1)).map (upN g) → l[j] = upN g j := fun l h e => by
    subst e
    rw [List.getElem_map, List.getElem_range]
  exact this _ _ (butN_eq hg)
theorem butN_lt {c g : Nat} : ∀ o ∈ butN c g, o < c := fun o ho => List.mem_range.mp (List.mem_filter.mp ho).1
theorem renS_but {c g : Nat} {L : List Nat} (hg : g < c) (h : Lot c L) : renS (butN c g) L = less L g := by
  refine up_eq (renS_up _ _) (less_up g h.up) fun j => ?_
  rw [mem_renS, mem_less, butN_len hg]
  constructor
  · rintro ⟨a, b⟩
    rw [butN_at hg a] at b
    exact b
  · intro a
    have hj := (up_lt hg).mp (h.lt _ a)
    rw [butN_at hg hj]
    exact ⟨hj, a⟩
theorem pick_but {ds : List Int} {g : Nat} (hg : g < ds.length) : pickD ds (butN ds.length g) = ds.take g ++ ds.drop (g + 1) := by
  have e : (ds.take g).length = g := by rw [List.length_take]; omega
  refine List.ext_getElem ?_ fun i h1 h2 => ?_
  · rw [pickD_len, butN_len hg, List.length_append, List.length_take, List.length_drop]
    omega
  · have hi : i < ds.length - 1 := by rw [pickD_len, butN_len hg] at h1; exact h1
    have hb : i < (butN ds.length g).length := by rw [butN_len hg]; exact hi
    rw [← getD_at (d := 0) h1, pickD_at hb, ← getD_at (d := 0) hb, butN_at hg hi, getD_at ((up_lt hg).mpr hi)]
    by_cases c : i < g
    · rw [List.getElem_append_left (by omega), List.getElem_take]
      congr 1
      unfold upN
      rw [if_pos c]
    · rw [List.getElem_append_right (by omega), List.getElem_drop]
      congr 1
      unfold upN
      rw [if_neg c, e]
      omega
theorem one_in {g : Nat} : ∀ {L : List Nat}, L.Pairwise (· < ·) → (L.filter fun j => decide (j = g)).length = if g ∈ L then 1 else 0
  | [], _ => rfl
  | a :: L, h => by
    obtain ⟨h1, h2⟩ := List.pairwise_cons.mp h
    have ih := one_in (g := g) h2
    by_cases e : a = g
    · subst e
      have nm : a ∉ L := fun m => Nat.lt_irrefl _ (h1 a m)
      rw [if_neg nm] at ih
      rw [List.filter_cons_of_pos (by simp), List.length_cons, ih, if_pos List.mem_cons_self]
    · rw [List.filter_cons_of_neg (by simpa using e), ih]
      by_cases m : g ∈ L
      · rw [if_pos m, if_pos (List.mem_cons_of_mem _ m)]
      · rw [if_neg m, if_neg fun z => ?_]
        rcases List.mem_cons.mp z with y | y
        · exact e y.symm
        · exact m y
theorem near_less {L : List Nat} {g j : Nat} (h : L.Pairwise (· < ·)) : near L (upN g j) = near (less L g) j + if g ∈ L then 1 else 0 := by
  unfold near
  rw [filter_filter_len (fun x => !decide (x = upN g j)) (fun x => !decide (x = g)) L, ← one_in h]
  congr 1
  · unfold less
    rw [List.filter_map, List.length_map, List.filter_filter]
    congr 1
    refine List.filter_congr fun x _ => ?_
    by_cases c : x = g
    · simp [c]
    · have e : (dn g x = j) ↔ (x = upN g j) := ⟨fun z => by rw [← z, up_dn c], fun z => by rw [z, dn_up]⟩
      simp [c, e]
  · congr 1
    refine List.filter_congr fun x _ => ?_
    by_cases c : x = g
    · have := up_ne g j
      subst c
      simp [Ne.symm this]
    · simp [c]
/-- who may go, once one is sunk -/
theorem lets_less {h t : Int} {ds : List Int} {L : List Nat} {g : Nat} (hg : g < ds.length) (hL : Lot ds.length L) :
    lets (h + if g ∈ L then 1 else 0) (t + if g ∈ L then 0 else 1) (ds.take g ++ ds.drop (g + 1)) (less L g) (ds.take g ++ ds.drop (g + 1)).length = less (lets h t ds L ds.length) g := by
  have len : (ds.take g ++ ds.drop (g + 1)).length = ds.length - 1 := by
    rw [List.length_append, List.length_take, List.length_drop]
    omega
  refine up_eq (List.pairwise_lt_range.filter _) (less_up g (List.pairwise_lt_range.filter _)) fun j => ?_
  rw [mem_less]
  unfold lets
  rw [List.mem_filter, List.mem_range, List.mem_filter, List.mem_range, len, up_lt hg]
  refine and_congr_right fun hj => ?_
  have nl := near_less (g := g) (j := j) hL.up
  have dj : (ds.take g ++ ds.drop (g + 1)).getD j 0 = ds.getD (upN g j) 0 := by
    rw [← pick_but hg, pickD_at (by rw [butN_len hg]; exact hj), ← getD_at (d := 0), butN_at hg hj]
  unfold mayB
  rw [dj, len, nl]
  by_cases c : g ∈ L
  · rw [if_pos c, if_pos c, if_pos c]
    rw [show h + 1 + (near (less L g) j : Int) = h + ((near (less L g) j + 1 : Nat) : Int) by omega, show t + 0 + ((ds.length - 1 : Nat) : Int) - 1 - (near (less L g) j : Int) = t + (ds.length : Int) - 1 - ((near (less L g) j + 1 : Nat) : Int) by omega]
  · rw [if_neg c, if_neg c, if_neg c]
    rw [show h + 0 + (near (less L g) j : Int) = h + ((near (less L g) j + 0 : Nat) : Int) by omega, show t + 1 + ((ds.length - 1 : Nat) : Int) - 1 - (near (less L g) j : Int) = t + (ds.length : Int) - 1 - ((near (less L g) j + 0 : Nat) : Int) by omega]
end Sh

namespace Sh
open PySem PySem.Spec PyProof.Rows L2
/-! ### the program: without a ship (a text that has no sunk) -/
def spWithout (K : PySem.W.Frag) : Sp := fun vs H Q _ => ∃ (v l : V) (h t : Int) (ds : List Int) (L : List Nat) (g : Nat), vs = [v, l, .int (g : Int)] ∧ SeaA K H v h t ds ∧ LotA K H l L ∧ ds.length ≤ 100 ∧ Lot ds.length L ∧ g < ds.length ∧
  ∀ (H' : Hp) (p : Addr) (r1 r2 : V), Same H H' → H' p = some (.tup [r1, r2]) → SeaT K H' r1 h t (ds.take g ++ ds.drop (g + 1)) → LotT K H' r2 (less L g) → Q (.ref p) H'
abbrev s_without_ship : Stmt := topS 22
theorem sc_without_ship : FnScope (["sea", "standing", "ship", "draughts", "order", "mate"] : List Str) (["sea", "standing", "ship"] : List Str) (defScope s_without_ship) := ⟨rfl, rfl, rfl, by decide +kernel, rfl, by decide +kernel, by decide +kernel⟩
theorem b_without_ship (kV doc pm : Value) (an : Option Addr) (cdv ct : Value) (us : List Value) (hl : us.length = (["sea", "standing", "ship"] : List Str).length) : bindArgs (PySem.W.fnOf "without_ship" "without_ship" (defArgs s_without_ship) (defBody s_without_ship) (defScope s_without_ship) .none kV doc pm an cdv ct) ⟨us, []⟩ = pure ((["sea", "standing", "ship"] : List Str).zip us) :=
  match us, hl with | [_, _, _], _ => rfl
theorem dec_ne (w g : Nat) : (!decide (V.int (w : Int) = V.int (g : Int))) = !decide (w = g) := by
  by_cases z : w = g
  · subst z
    simp
  · have z2 : ¬ V.int (w : Int) = V.int (g : Int) := fun e => z (by have := V.int.inj e; omega)
    rw [decide_eq_false z, decide_eq_false z2]
section
variable {P : Program} {w : World} {K : PySem.W.Frag} {mg : Str → Option Value} {base : Heap}
theorem ok_without {k : Nat} (D : Df K mg "without_ship" s_without_ship) (T : Bt mg) (O_renumbered : Ok P w K mg base k "renumbered" s_renumbered ["sea", "order"] (spRenum K)) (O_renumbered_standing : Ok P w K mg base k "renumbered_standing" s_renumbered_standing ["order", "standing"] (spRenumS K)) :
    Ok P w K mg base (k + 1) "without_ship" s_without_ship ["sea", "standing", "ship"] (spWithout K) := by
  refine D.ok sc_without_ship b_without_ship (fun vs H Q E h => ?_) (fun f cdv A outer s H vs Q E hr h => ?_)
  · obtain ⟨v, l, h, t, ds, L, g, rfl, _⟩ := h
    rfl
  · obtain ⟨v, l, h, t, ds, L, g, rfl, sea, lot, d1, hL, hg, k⟩ := h
    obtain ⟨p, q, rfl, hp, hq⟩ := id sea
    obtain ⟨pl, rfl, hl⟩ := id lot
    refine ⟨_, (pss_cons (ps_set (i := 3) sc_without_ship.nd rfl (.inl rfl) (pe_ix ix_lt (pv 0) pe_int (fun _ _ => rfl)))
      (pss_cons (ps_setLc (i := 4) (own := [("mate", 5)]) (g := (gName 5)) (by rfl) sc_without_ship.nd rfl rfl (sw_true rfl rfl rfl (by decide +kernel)) (pi_range1 (by rfl) T.range_ (pa_cons (pe_callB call_len_seq (by rfl) T.len_ PySem.boot_len (pa_cons (pv 3) pa_nil)) pa_nil)) (blkOk_by (own := [("mate", 5)]) (N := (["sea", "standing", "ship", "draughts", "order", "mate"] : List Str)) (sc := defScope s_without_ship) (by decide +kernel)) (fun _ _ _ _ _ => (pg_name (i := 5) sc_without_ship.nd rfl (.inl rfl))) (fun _ _ _ _ _ => (pts_one (pt_cmpR op_ne (pv 5) (pv 2) (nomark _)))) (fun _ _ _ _ _ => (pv 5)))
      (pss_one (ps_ret (pe_tup (pa_cons (pe_fn O_renumbered (hr.mono (by omega)) (pa_cons (pv 0) (pa_cons (pv 4) pa_nil))) (pa_cons (pe_fn O_renumbered_standing (hr.mono (by omega)) (pa_cons (pv 4) (pa_cons (pv 1) pa_nil))) pa_nil))))))), ?_⟩
    refine ⟨_, rfl, p, _, 2, .ref q, rfl, rfl, hp, rfl, ?_⟩
    refine ⟨_, rfl, q, _, rfl, hq, _, rfl, by omega, by rw [List.length_map]; omega, fun C nC => ?_⟩
    rw [List.length_map, show ((ds.length : Int)).toNat = ds.length by omega]
    refine lc_filter (fun w => !decide (w = g)) (walk_rg ds.length) (fun _ _ => trivial) nC (by rw [List.length_range]; omega) (fun _ => rfl) (fun _ => rfl) (fun y hy H' s' Q' q' => ?_) (fun H1 s1 hC => ?_)
    · refine ⟨_, rfl, _, rfl, rfl, _, rfl, ?_⟩
      rw [dec_ne]
      exact q'
    change H1 C = some (.lst (ni (butN ds.length g))) at hC
    have bl := butN_len hg
    refine ⟨_, rfl, _, rfl, .ref p, .ref C, h, t, ds, butN ds.length g, rfl, sea.same s1, ⟨C, rfl, SqA.l hC⟩, by omega, butN_lt, fun H2 r1 s2 h1 => ?_⟩
    rw [pick_but hg] at h1
    refine ⟨_, rfl, _, rfl, .ref C, .ref pl, butN ds.length g, L, rfl, ⟨C, rfl, SqA.l (s2 _ _ hC)⟩, lot.same (s1.trans s2), by omega, fun H3 r2 s3 h2 => ?_⟩
    rw [renS_but hg hL] at h2
    refine ⟨(by show 2 ≤ sizeLine; decide), fun pr npr => ?_⟩
    have s4 : Same H3 (upd H3 pr (.tup [r1, r2])) := same_new npr
    exact k _ pr r1 r2 (s1.trans (s2.trans (s3.trans s4))) upd_same (h1.same (s3.trans s4)) (h2.same s4)
end
end Sh

namespace Sh
open PySem PySem.Spec PyProof.Rows L2
/-! ### the program: a basin deeper (a text that has HERE alone) -/
def ChH (mg : Str → Option Value) : Prop := ∃ t, mg "HERE" = some (.str "here" t)
theorem with_chH {K : PySem.W.Frag} {mg : Str → Option Value} {R : Prop} {h : Heap} {t1 : Tok} (X : K.In h) (G : h.Ns mainGlobals mg) (a : PySem.W.nsIn K mainGlobals "HERE" = some (some (.str "here" t1))) (r : ChH mg → R) : R :=
  r ⟨_, PySem.W.mg_of X G a⟩
def sideS (s : Bool) : Str := if s then "here" else "there"
theorem side_ne : decide (V.str "there" = V.str "here") = false := by decide +kernel
def spDeep (K : PySem.W.Frag) : Sp := fun vs H Q _ => ∃ (v : V) (h t m : Int) (ds : List Int) (s : Bool), vs = [v, .str (sideS s), .int m] ∧ SeaA K H v h t ds ∧ ds.length ≤ 100 ∧ ∀ (H' : Hp) (r : V), Same H H' → SeaT K H' r (if s then h + m else h) (if s then t else t + m) ds → Q r H'
abbrev s_deepened : Stmt := topS 18
theorem sc_deepened : FnScope (["sea", "side", "more", "here", "there", "draughts"] : List Str) (["sea", "side", "more"] : List Str) (defScope s_deepened) := ⟨rfl, rfl, rfl, by decide +kernel, rfl, by decide +kernel, by decide +kernel⟩
theorem b_deepened (kV doc pm : Value) (an : Option Addr) (cdv ct : Value) (us : List Value) (hl : us.length = (["sea", "side", "more"] : List Str).length) : bindArgs (PySem.W.fnOf "deepened" "deepened" (defArgs s_deepened) (defBody s_deepened) (defScope s_deepened) .none kV doc pm an cdv ct) ⟨us, []⟩ = pure ((["sea", "side", "more"] : List Str).zip us) :=
  match us, hl with | [_, _, _], _ => rfl
section
variable {P : Program} {w : World} {K : PySem.W.Frag} {mg : Str → Option Value} {base : Heap}
theorem ok_deep {k : Nat} (D : Df K mg "deepened" s_deepened) (T : Bt mg) (Ch : ChH mg) : Ok P w K mg base (k + 1) "deepened" s_deepened ["sea", "side", "more"] (spDeep K) := by
  obtain ⟨t1, g_HERE⟩ := Ch
  refine D.ok sc_deepened b_deepened (fun vs H Q E h => ?_) (fun f cdv A outer s H vs Q E hr h => ?_)
  · obtain ⟨v, h, t, m, ds, s, rfl, _⟩ := h
    rfl
  · obtain ⟨v, h, t, m, ds, sd, rfl, ⟨p, q, rfl, hp, hq⟩, d1, k⟩ := h
    refine ⟨_, (pss_cons (ps_asg (pv 0) (pg_seq rfl (pgs_cons (pg_name (i := 3) sc_deepened.nd rfl (.inl rfl)) (pgs_cons (pg_name (i := 4) sc_deepened.nd rfl (.inl rfl)) (pgs_cons (pg_name (i := 5) sc_deepened.nd rfl (.inl rfl)) pgs_nil)))))
      (pss_cons (ps_if (pt_cmpR op_eq (pv 1) (pe_glob (v := .str "here") (by rfl) g_HERE ⟨_, rfl⟩) (nomark _))
        (pss_one (ps_ret (pe_tup (pa_cons (pe_op op_add (pv 3) (pv 2)) (pa_cons (pv 4) (pa_cons (pe_callTy call_tuple_of (by rfl) T.tuple_ (by decide +kernel) (pa_cons (pv 5) pa_nil)) pa_nil))))))
        pss_nil)
      (pss_one (ps_ret (pe_tup (pa_cons (pv 3) (pa_cons (pe_op op_add (pv 4) (pv 2)) (pa_cons (pe_callTy call_tuple_of (by rfl) T.tuple_ (by decide +kernel) (pa_cons (pv 5) pa_nil)) pa_nil)))))))), ?_⟩
    refine ⟨_, rfl, p, _, rfl, hp, rfl, _, _, rfl, _, _, rfl, _, _, rfl, rfl, ?_⟩
    cases sd with
    | true =>
      refine ⟨_, rfl, rfl, _, rfl, ?_⟩
      rw [show sideS true = "here" from rfl, decide_eq_true rfl]
      refine iteT ?_
      refine ⟨_, rfl, _, rfl, h, m, rfl, rfl, _, rfl, _, rfl, q, ds.map V.int, rfl, ?_⟩
      rcases hq with hq | hq
      · refine .inl ⟨hq, fun a na => ⟨(by show 3 ≤ sizeLine; decide), fun b nb => ?_⟩⟩
        have s1 : Same H (upd H a (.tup (ds.map V.int))) := same_new na
        exact k _ _ (s1.trans (same_new nb)) ⟨b, a, rfl, SqT.of upd_same, SqT.of (same_new nb _ _ upd_same)⟩
      · refine .inr ⟨hq, (by show 3 ≤ sizeLine; decide), fun b nb => ?_⟩
        exact k _ _ (same_new nb) ⟨b, q, rfl, SqT.of upd_same, Same.tup (same_new nb) hq⟩
    | false =>
      refine ⟨_, rfl, rfl, _, rfl, ?_⟩
      rw [show sideS false = "there" from rfl, side_ne]
      refine iteF ?_
      refine ⟨_, rfl, _, rfl, _, rfl, t, m, rfl, rfl, _, rfl, q, ds.map V.int, rfl, ?_⟩
      rcases hq with hq | hq
      · refine .inl ⟨hq, fun a na => ⟨(by show 3 ≤ sizeLine; decide), fun b nb => ?_⟩⟩
        have s1 : Same H (upd H a (.tup (ds.map V.int))) := same_new na
        exact k _ _ (s1.trans (same_new nb)) ⟨b, a, rfl, SqT.of upd_same, SqT.of (same_new nb _ _ upd_same)⟩
      · refine .inr ⟨hq, (by show 3 ≤ sizeLine; decide), fun b nb => ?_⟩
        exact k _ _ (same_new nb) ⟨b, q, rfl, SqT.of upd_same, Same.tup (same_new nb) hq⟩
end
end Sh

namespace Sh
open PySem PySem.Spec PyProof.Rows L2
/-! ### a harbour's states -/
structure HS where
  h : Int
  t : Int
  ds : List Int
  L : List Nat
  c : Nat
structure HsOk (s : HS) : Prop where
  len : s.ds.length ≤ 24
  lot : Lot s.ds.length s.L
def StAt (K : PySem.W.Frag) (H : Hp) (v : V) (s : HS) : Prop := ∃ (p : Addr) (sv lv : V), v = .ref p ∧ SqT K H p [sv, lv, .int (s.c : Int)] ∧ SeaT K H sv s.h s.t s.ds ∧ LotT K H lv s.L
theorem StAt.same {K : PySem.W.Frag} {H H' : Hp} {v : V} {s : HS} (x : StAt K H v s) (e : Same H H') : StAt K H' v s := let ⟨p, sv, lv, a, b, c, d⟩ := x; ⟨p, sv, lv, a, Same.tup e b, c.same e, d.same e⟩
def moorS (s : HS) (d : Int) (b : Bool) : HS := ⟨s.h, s.t, s.ds ++ [d], if b then s.L ++ [s.ds.length] else s.L, s.c⟩
def leftS (s : HS) (g : Nat) : HS := ⟨s.h, s.t, s.ds.take g ++ s.ds.drop (g + 1), less s.L g, s.c⟩
def sailS (s : HS) (M : List Nat) (n : Nat) : HS := ⟨s.h, s.t, s.ds, M, s.c + n⟩
def dredS (s : HS) (b : Bool) (m : Int) : HS := ⟨if b then s.h + m else s.h, if b then s.t else s.t + m, s.ds, s.L, s.c⟩
theorem moor_ok {s : HS} {d : Int} {b : Bool} (x : HsOk s) (l : s.ds.length < 24) : HsOk (moorS s d b) := by
  refine ⟨by show (s.ds ++ [d]).length ≤ 24; rw [List.length_append]; exact l, ?_⟩
  show Lot (s.ds ++ [d]).length (if b then s.L ++ [s.ds.length] else s.L)
  rw [List.length_append, List.length_singleton]
  cases b with
  | false => exact ⟨x.lot.up, fun i hi => Nat.lt_succ_of_lt (x.lot.lt i hi)⟩
  | true =>
    refine ⟨List.pairwise_append.mpr ⟨x.lot.up, by simp, fun a ha y hy => ?_⟩, fun i hi => ?_⟩
    · rw [List.mem_singleton.mp hy]
      exact x.lot.lt a ha
    · rcases List.mem_append.mp hi with z | z
      · exact Nat.lt_succ_of_lt (x.lot.lt i z)
      · rw [List.mem_singleton.mp z]
        exact Nat.lt_succ_self _
theorem left_ok {s : HS} {g : Nat} (x : HsOk s) (hg : g < s.ds.length) : HsOk (leftS s g) := by
  have e : (s.ds.take g ++ s.ds.drop (g + 1)).length = s.ds.length - 1 := by
    rw [List.length_append, List.length_take, List.length_drop]
    omega
  refine ⟨?_, ?_⟩
  · show (s.ds.take g ++ s.ds.drop (g + 1)).length ≤ 24
    rw [e]
    have := x.len
    omega
  · show Lot (s.ds.take g ++ s.ds.drop (g + 1)).length (less s.L g)
    rw [e]
    exact less_lot hg x.lot
theorem sail_ok {s : HS} {M : List Nat} {n : Nat} (x : HsOk s) (hM : Lot s.ds.length M) : HsOk (sailS s M n) := ⟨x.len, hM⟩
theorem dred_ok {s : HS} {b : Bool} {m : Int} (x : HsOk s) : HsOk (dredS s b m) := ⟨x.len, x.lot⟩
/-! ### the program: what becomes of a state -/
def CnM (mg : Str → Option Value) : Prop := ∃ t, mg "MOST_SHIPS" = some (.int 24 t)
def spCheck (K : PySem.W.Frag) : Sp := fun vs H Q _ => ∃ (v : V) (h t : Int) (ds : List Int) (i : Nat), vs = [v, .int (i : Int)] ∧ SeaA K H v h t ds ∧ i < ds.length ∧ Q .non H
def spMoored (K : PySem.W.Frag) : Sp := fun vs H Q _ => ∃ (v : V) (s : HS) (d : Int) (b : Bool), vs = [v, .int d, .str (sideS b)] ∧ StAt K H v s ∧ s.ds.length < 24 ∧ s.L.length ≤ 24 ∧ ∀ (H' : Hp) (r : V), Same H H' → StAt K H' r (moorS s d b) → Q r H'
def spLeft (K : PySem.W.Frag) : Sp := fun vs H Q _ => ∃ (v : V) (s : HS) (g : Nat), vs = [v, .int (g : Int)] ∧ StAt K H v s ∧ HsOk s ∧ g < s.ds.length ∧ ∀ (H' : Hp) (r : V), Same H H' → StAt K H' r (leftS s g) → Q r H'
def spDredged (K : PySem.W.Frag) : Sp := fun vs H Q _ => ∃ (v : V) (s : HS) (m : Int) (b : Bool), vs = [v, .str (sideS b), .int m] ∧ StAt K H v s ∧ s.ds.length ≤ 24 ∧ ∀ (H' : Hp) (r : V), Same H H' → StAt K H' r (dredS s b m) → Q r H'
def spSailed (K : PySem.W.Frag) (C : Addr) : Sp := fun vs H Q E => ∃ (v r : V) (s : HS) (row : List Nat), vs = [v, r] ∧ StAt K H v s ∧ HsOk s ∧ LotA K H r row ∧ row.length ≤ 1000 ∧ (∀ i ∈ row, i < s.ds.length) ∧
  ((goesX s.h s.t s.ds s.L row).2 = none → ∀ (H' : Hp) (r : V), Same H H' → StAt K H' r (sailS s (goesX s.h s.t s.ds s.L row).1 row.length) → Q r H') ∧
  (∀ i, (goesX s.h s.t s.ds s.L row).2 = some i → ∀ (H' : Hp) (d : Addr), Same H H' → H' d = none → E (.ref C) (some d) (upd H' d (.xd [("ship", .int (i : Int))])))
abbrev s_check_ship : Stmt := topS 25
theorem sc_check_ship : FnScope (["sea", "ship"] : List Str) (["sea", "ship"] : List Str) (defScope s_check_ship) := ⟨rfl, rfl, rfl, by decide +kernel, rfl, by decide +kernel, by decide +kernel⟩
theorem b_check_ship (kV doc pm : Value) (an : Option Addr) (cdv ct : Value) (us : List Value) (hl : us.length = (["sea", "ship"] : List Str).length) : bindArgs (PySem.W.fnOf "check_ship" "check_ship" (defArgs s_check_ship) (defBody s_check_ship) (defScope s_check_ship) .none kV doc pm an cdv ct) ⟨us, []⟩ = pure ((["sea", "ship"] : List Str).zip us) :=
  match us, hl with | [_, _], _ => rfl
abbrev s_moored : Stmt := topS 26
theorem sc_moored : FnScope (["state", "draught", "side", "sea", "standing", "crossings", "here", "there", "draughts", "ship", "lying"] : List Str) (["state", "draught", "side"] : List Str) (defScope s_moored) := ⟨rfl, rfl, rfl, by decide +kernel, rfl, by decide +kernel, by decide +kernel⟩
theorem b_moored (kV doc pm : Value) (an : Option Addr) (cdv ct : Value) (us : List Value) (hl : us.length = (["state", "draught", "side"] : List Str).length) : bindArgs (PySem.W.fnOf "moored" "moored" (defArgs s_moored) (defBody s_moored) (defScope s_moored) .none kV doc pm an cdv ct) ⟨us, []⟩ = pure ((["state", "draught", "side"] : List Str).zip us) :=
  match us, hl with | [_, _, _], _ => rfl
abbrev s_left_by : Stmt := topS 27
theorem sc_left_by : FnScope (["state", "ship", "sea", "standing", "crossings", "remaining", "lying"] : List Str) (["state", "ship"] : List Str) (defScope s_left_by) := ⟨rfl, rfl, rfl, by decide +kernel, rfl, by decide +kernel, by decide +kernel⟩
theorem b_left_by (kV doc pm : Value) (an : Option Addr) (cdv ct : Value) (us : List Value) (hl : us.length = (["state", "ship"] : List Str).length) : bindArgs (PySem.W.fnOf "left_by" "left_by" (defArgs s_left_by) (defBody s_left_by) (defScope s_left_by) .none kV doc pm an cdv ct) ⟨us, []⟩ = pure ((["state", "ship"] : List Str).zip us) :=
  match us, hl with | [_, _], _ => rfl
abbrev s_sailed : Stmt := topS 28
theorem sc_sailed : FnScope (["state", "row", "sea", "standing", "crossings", "ship"] : List Str) (["state", "row"] : List Str) (defScope s_sailed) := ⟨rfl, rfl, rfl, by decide +kernel, rfl, by decide +kernel, by decide +kernel⟩
theorem b_sailed (kV doc pm : Value) (an : Option Addr) (cdv ct : Value) (us : List Value) (hl : us.length = (["state", "row"] : List Str).length) : bindArgs (PySem.W.fnOf "sailed" "sailed" (defArgs s_sailed) (defBody s_sailed) (defScope s_sailed) .none kV doc pm an cdv ct) ⟨us, []⟩ = pure ((["state", "row"] : List Str).zip us) :=
  match us, hl with | [_, _], _ => rfl
abbrev s_dredged : Stmt := topS 29
theorem sc_dredged : FnScope (["state", "side", "more", "sea", "standing", "crossings"] : List Str) (["state", "side", "more"] : List Str) (defScope s_dredged) := ⟨rfl, rfl, rfl, by decide +kernel, rfl, by decide +kernel, by decide +kernel⟩
theorem b_dredged (kV doc pm : Value) (an : Option Addr) (cdv ct : Value) (us : List Value) (hl : us.length = (["state", "side", "more"] : List Str).length) : bindArgs (PySem.W.fnOf "dredged" "dredged" (defArgs s_dredged) (defBody s_dredged) (defScope s_dredged) .none kV doc pm an cdv ct) ⟨us, []⟩ = pure ((["state", "side", "more"] : List Str).zip us) :=
  match us, hl with | [_, _, _], _ => rfl
section
variable {P : Program} {w : World} {K : PySem.W.Frag} {mg : Str → Option Value} {base : Heap}
theorem ok_check {k : Nat} (D : Df K mg "check_ship" s_check_ship) (T : Bt mg) : Ok P w K mg base (k + 1) "check_ship" s_check_ship ["sea", "ship"] (spCheck K) := by
  refine D.ok sc_check_ship b_check_ship (fun vs H Q E h => ?_) (fun f cdv A outer s H vs Q E hr h => ?_)
  · obtain ⟨v, h, t, ds, i, rfl, _⟩ := h
    rfl
  · obtain ⟨v, h, t, ds, i, rfl, hv, hi, q⟩ := h
    obtain ⟨p, pq, rfl, hp, hq⟩ := id hv
    refine ⟨_, (pss_one (ps_if (PW.pt (pw_or (pt_cmpR op_lt (pv 1) pe_int (nomark _)) (pw_or1 (pt_cmpR op_ge (pv 1) (pe_callB call_len_seq (by rfl) T.len_ PySem.boot_len (pa_cons (pe_ix ix_lt (pv 0) pe_int (fun _ _ => rfl)) pa_nil)) (nomark _)))))
        (pss_one ps_never)
        pss_nil)), ?_⟩
    refine ⟨_, rfl, _, _, rfl, rfl, _, rfl, ite2 (fun c => ?_) fun _ => ?_⟩
    · have := of_decide_eq_true c
      omega
    refine ⟨_, rfl, _, rfl, p, _, 2, .ref pq, rfl, rfl, hp, rfl, pq, _, rfl, hq, _, _, rfl, rfl, _, rfl, ite2 (fun c => ?_) fun _ => q⟩
    have := of_decide_eq_true c
    rw [List.length_map] at this
    omega
theorem ok_dredged {k : Nat} (D : Df K mg "dredged" s_dredged) (T : Bt mg) (O_deepened : Ok P w K mg base k "deepened" s_deepened ["sea", "side", "more"] (spDeep K)) : Ok P w K mg base (k + 1) "dredged" s_dredged ["state", "side", "more"] (spDredged K) := by
  refine D.ok sc_dredged b_dredged (fun vs H Q E h => ?_) (fun f cdv A outer s H vs Q E hr h => ?_)
  · obtain ⟨v, s, m, b, rfl, _⟩ := h
    rfl
  · obtain ⟨v, x, m, b, rfl, ⟨p, sv, lv, rfl, hp, hs, hl⟩, d1, q⟩ := h
    refine ⟨_, (pss_cons (ps_asg (pv 0) (pg_seq rfl (pgs_cons (pg_name (i := 3) sc_dredged.nd rfl (.inl rfl)) (pgs_cons (pg_name (i := 4) sc_dredged.nd rfl (.inl rfl)) (pgs_cons (pg_name (i := 5) sc_dredged.nd rfl (.inl rfl)) pgs_nil)))))
      (pss_one (ps_ret (pe_tup (pa_cons (pe_fn O_deepened (hr.mono (by omega)) (pa_cons (pv 3) (pa_cons (pv 1) (pa_cons (pv 2) pa_nil)))) (pa_cons (pv 4) (pa_cons (pv 5) pa_nil))))))), ?_⟩
    refine ⟨_, rfl, p, _, rfl, .inr hp, rfl, _, _, rfl, _, _, rfl, _, _, rfl, rfl, ?_⟩
    refine ⟨_, rfl, _, rfl, _, rfl, sv, x.h, x.t, m, x.ds, b, rfl, hs.a, by omega, fun H1 r s1 hr1 => ?_⟩
    refine ⟨_, rfl, _, rfl, (by show 3 ≤ sizeLine; decide), fun pr npr => ?_⟩
    have s2 : Same H1 (upd H1 pr (.tup [r, lv, .int (x.c : Int)])) := same_new npr
    exact q _ _ (s1.trans s2) ⟨pr, r, lv, rfl, SqT.of upd_same, hr1.same s2, hl.same (s1.trans s2)⟩
theorem ok_left {k : Nat} (D : Df K mg "left_by" s_left_by) (T : Bt mg) (O_check_ship : Ok P w K mg base k "check_ship" s_check_ship ["sea", "ship"] (spCheck K)) (O_without_ship : Ok P w K mg base k "without_ship" s_without_ship ["sea", "standing", "ship"] (spWithout K)) : Ok P w K mg base (k + 1) "left_by" s_left_by ["state", "ship"] (spLeft K) := by
  refine D.ok sc_left_by b_left_by (fun vs H Q E h => ?_) (fun f cdv A outer s H vs Q E hr h => ?_)
  · obtain ⟨v, s, g, rfl, _⟩ := h
    rfl
  · obtain ⟨v, x, g, rfl, ⟨p, sv, lv, rfl, hp, hs, hl⟩, ok, hg, q⟩ := h
    have d1 := ok.len
    refine ⟨_, (pss_cons (ps_asg (pv 0) (pg_seq rfl (pgs_cons (pg_name (i := 2) sc_left_by.nd rfl (.inl rfl)) (pgs_cons (pg_name (i := 3) sc_left_by.nd rfl (.inl rfl)) (pgs_cons (pg_name (i := 4) sc_left_by.nd rfl (.inl rfl)) pgs_nil)))))
      (pss_cons (ps_expr (pe_fn O_check_ship (hr.mono (by omega)) (pa_cons (pv 2) (pa_cons (pv 1) pa_nil))))
      (pss_cons (ps_asg (pe_fn O_without_ship (hr.mono (by omega)) (pa_cons (pv 2) (pa_cons (pv 3) (pa_cons (pv 1) pa_nil)))) (pg_seq rfl (pgs_cons (pg_name (i := 5) sc_left_by.nd rfl (.inl rfl)) (pgs_cons (pg_name (i := 6) sc_left_by.nd rfl (.inl rfl)) pgs_nil))))
      (pss_one (ps_ret (pe_tup (pa_cons (pv 5) (pa_cons (pv 6) (pa_cons (pv 4) pa_nil))))))))), ?_⟩
    refine ⟨_, rfl, p, _, rfl, .inr hp, rfl, _, _, rfl, _, _, rfl, _, _, rfl, rfl, ?_⟩
    refine ⟨_, rfl, _, rfl, sv, x.h, x.t, x.ds, g, rfl, hs.a, hg, ?_⟩
    refine ⟨_, rfl, _, rfl, _, rfl, sv, lv, x.h, x.t, x.ds, x.L, g, rfl, hs.a, hl.a, by omega, ok.lot, hg, fun H1 pp r1 r2 s1 hpp h1 h2 => ?_⟩
    refine ⟨pp, _, rfl, SqA.t hpp, rfl, _, _, rfl, _, _, rfl, rfl, ?_⟩
    refine ⟨_, rfl, _, rfl, _, rfl, (by show 3 ≤ sizeLine; decide), fun pr npr => ?_⟩
    have s2 : Same H1 (upd H1 pr (.tup [r1, r2, .int (x.c : Int)])) := same_new npr
    exact q _ _ (s1.trans s2) ⟨pr, r1, r2, rfl, SqT.of upd_same, h1.same s2, h2.same s2⟩
theorem ok_moored {k : Nat} (D : Df K mg "moored" s_moored) (T : Bt mg) (Ch : ChH mg) (Cm : CnM mg) : Ok P w K mg base (k + 1) "moored" s_moored ["state", "draught", "side"] (spMoored K) := by
  obtain ⟨t1, g_HERE⟩ := Ch
  obtain ⟨t2, g_MOST_SHIPS⟩ := Cm
  refine D.ok sc_moored b_moored (fun vs H Q E h => ?_) (fun f cdv A outer s H vs Q E hr h => ?_)
  · obtain ⟨v, s, d, b, rfl, _⟩ := h
    rfl
  · obtain ⟨v, x, d, b, rfl, ⟨p, sv, lv, rfl, hp, ⟨ps, pq, rfl, hs, hq⟩, ⟨pl, rfl, hl⟩⟩, l1, l2, q⟩ := h
    refine ⟨_, (pss_cons (ps_asg (pv 0) (pg_seq rfl (pgs_cons (pg_name (i := 3) sc_moored.nd rfl (.inl rfl)) (pgs_cons (pg_name (i := 4) sc_moored.nd rfl (.inl rfl)) (pgs_cons (pg_name (i := 5) sc_moored.nd rfl (.inl rfl)) pgs_nil)))))
      (pss_cons (ps_asg (pv 3) (pg_seq rfl (pgs_cons (pg_name (i := 6) sc_moored.nd rfl (.inl rfl)) (pgs_cons (pg_name (i := 7) sc_moored.nd rfl (.inl rfl)) (pgs_cons (pg_name (i := 8) sc_moored.nd rfl (.inl rfl)) pgs_nil)))))
      (pss_cons (ps_set (i := 9) sc_moored.nd rfl (.inl rfl) (pe_callB call_len_seq (by rfl) T.len_ PySem.boot_len (pa_cons (pv 8) pa_nil)))
      (pss_cons (ps_if (pt_cmpR op_ge (pv 9) (pe_glob (v := .int 24) (by rfl) g_MOST_SHIPS ⟨_, rfl⟩) (nomark _))
        (pss_one ps_never)
        pss_nil)
      (pss_cons (ps_set (i := 10) sc_moored.nd rfl (.inl rfl) (pe_ifExp (pt_cmpR op_eq (pv 2) (pe_glob (v := .str "here") (by rfl) g_HERE ⟨_, rfl⟩) (nomark _)) (pe_tup (StX.pa_star (pv 4) (pa_cons (pv 9) pa_nil))) (pv 4)))
      (pss_one (ps_ret (pe_tup (pa_cons (pe_tup (pa_cons (pv 6) (pa_cons (pv 7) (pa_cons (pe_tup (StX.pa_star (pv 8) (pa_cons (pv 1) pa_nil))) pa_nil)))) (pa_cons (pv 10) (pa_cons (pv 5) pa_nil))))))))))), ?_⟩
    refine ⟨_, rfl, p, _, rfl, .inr hp, rfl, _, _, rfl, _, _, rfl, _, _, rfl, rfl, ?_⟩
    refine ⟨_, rfl, ps, _, rfl, .inr hs, rfl, _, _, rfl, _, _, rfl, _, _, rfl, rfl, ?_⟩
    refine ⟨_, rfl, pq, _, rfl, .inr hq, ?_⟩
    rw [List.length_map]
    refine ⟨_, rfl, _, _, rfl, rfl, _, rfl, ite2 (fun c => ?_) fun _ => ?_⟩
    · have := of_decide_eq_true c
      omega
    cases b with
    | true =>
      refine ⟨_, rfl, rfl, _, rfl, ?_⟩
      rw [show sideS true = "here" from rfl, decide_eq_true rfl]
      refine iteT ?_
      refine ⟨_, rfl, pl, _, rfl, .inl hl, _, rfl, ?_, fun ly nly => ?_⟩
      · rw [List.length_append, ni_len]
        exact Nat.le_trans (show _ ≤ 100 by simp; omega) (by decide)
      have s1 : Same H (upd H ly (.tup (ni x.L ++ [.int (x.ds.length : Int)]))) := same_new nly
      have hlv : LotT K (upd H ly (.tup (ni x.L ++ [.int (x.ds.length : Int)]))) (.ref ly) (x.L ++ [x.ds.length]) := ⟨ly, rfl, SqT.of (by rw [upd_same, ni_app]; rfl)⟩
      generalize upd H ly (.tup (ni x.L ++ [.int (x.ds.length : Int)])) = H1 at s1 hlv
      refine ⟨_, rfl, _, rfl, _, rfl, pq, _, rfl, .inl (Same.tup s1 hq), _, rfl, ?_, fun dq ndq => ?_⟩
      · rw [List.length_append, List.length_map]
        exact Nat.le_trans (show _ ≤ 100 by simp; omega) (by decide)
      have s2 : Same H1 (upd H1 dq (.tup (x.ds.map V.int ++ [.int d]))) := same_new ndq
      have e2 : upd H1 dq (.tup (x.ds.map V.int ++ [.int d])) dq = some (.tup ((x.ds ++ [d]).map V.int)) := by
        rw [upd_same, List.map_append]
        rfl
      generalize upd H1 dq (.tup (x.ds.map V.int ++ [.int d])) = H2 at s2 e2
      refine ⟨(by show 3 ≤ sizeLine; decide), fun sq nsq => ?_⟩
      have s3 : Same H2 (upd H2 sq (.tup [.int x.h, .int x.t, .ref dq])) := same_new nsq
      have e3 : upd H2 sq (.tup [.int x.h, .int x.t, .ref dq]) sq = some (.tup [.int x.h, .int x.t, .ref dq]) := upd_same
      replace e2 := s3 _ _ e2
      generalize upd H2 sq (.tup [.int x.h, .int x.t, .ref dq]) = H3 at s3 e3 e2
      refine ⟨_, rfl, _, rfl, (by show 3 ≤ sizeLine; decide), fun st nst => ?_⟩
      have s4 : Same H3 (upd H3 st (.tup [.ref sq, V.ref ly, .int (x.c : Int)])) := same_new nst
      exact q _ _ (s1.trans (s2.trans (s3.trans s4))) ⟨st, .ref sq, V.ref ly, rfl, SqT.of upd_same, ⟨sq, dq, rfl, SqT.of (s4 _ _ e3), SqT.of (s4 _ _ e2)⟩, hlv.same (s2.trans (s3.trans s4))⟩
    | false =>
      refine ⟨_, rfl, rfl, _, rfl, ?_⟩
      rw [show sideS false = "there" from rfl, side_ne]
      refine iteF ?_
      refine ⟨_, rfl, ?_⟩
      have s1 : Same H H := Same.refl H
      have hlv : LotT K H (.ref pl) x.L := ⟨pl, rfl, hl⟩
      refine ⟨_, rfl, _, rfl, _, rfl, pq, _, rfl, .inl (Same.tup s1 hq), _, rfl, ?_, fun dq ndq => ?_⟩
      · rw [List.length_append, List.length_map]
        exact Nat.le_trans (show _ ≤ 100 by simp; omega) (by decide)
      have s2 : Same H (upd H dq (.tup (x.ds.map V.int ++ [.int d]))) := same_new ndq
      have e2 : upd H dq (.tup (x.ds.map V.int ++ [.int d])) dq = some (.tup ((x.ds ++ [d]).map V.int)) := by
        rw [upd_same, List.map_append]
        rfl
      generalize upd H dq (.tup (x.ds.map V.int ++ [.int d])) = H2 at s2 e2
      refine ⟨(by show 3 ≤ sizeLine; decide), fun sq nsq => ?_⟩
      have s3 : Same H2 (upd H2 sq (.tup [.int x.h, .int x.t, .ref dq])) := same_new nsq
      have e3 : upd H2 sq (.tup [.int x.h, .int x.t, .ref dq]) sq = some (.tup [.int x.h, .int x.t, .ref dq]) := upd_same
      replace e2 := s3 _ _ e2
      generalize upd H2 sq (.tup [.int x.h, .int x.t, .ref dq]) = H3 at s3 e3 e2
      refine ⟨_, rfl, _, rfl, (by show 3 ≤ sizeLine; decide), fun st nst => ?_⟩
      have s4 : Same H3 (upd H3 st (.tup [.ref sq, V.ref pl, .int (x.c : Int)])) := same_new nst
      exact q _ _ (s1.trans (s2.trans (s3.trans s4))) ⟨st, .ref sq, V.ref pl, rfl, SqT.of upd_same, ⟨sq, dq, rfl, SqT.of (s4 _ _ e3), SqT.of (s4 _ _ e2)⟩, hlv.same (s2.trans (s3.trans s4))⟩
theorem ok_sailed {k : Nat} {C : Addr} (D : Df K mg "sailed" s_sailed) (T : Bt mg) (O_check_ship : Ok P w K mg base k "check_ship" s_check_ship ["sea", "ship"] (spCheck K)) (O_crossed : OkX P w K mg base k "crossed" s_crossed ["sea", "standing", "ship"] (spCrossedX K C)) : OkX P w K mg base (k + 1) "sailed" s_sailed ["state", "row"] (spSailed K C) := by
  refine D.okX sc_sailed b_sailed (fun vs H Q E h => ?_) (fun f cdv A outer s H vs Q E hr h => ?_)
  · obtain ⟨v, r, s, row, rfl, _⟩ := h
    rfl
  · obtain ⟨v, r, x, row, rfl, ⟨p, sv, lv, rfl, hp, hs, hl⟩, ok, ⟨pr, rfl, hr'⟩, r1, rin, q, qx⟩ := h
    have d1 := ok.len
    refine ⟨_, (pss_cons (ps_asg (pv 0) (pg_seq rfl (pgs_cons (pg_name (i := 2) sc_sailed.nd rfl (.inl rfl)) (pgs_cons (pg_name (i := 3) sc_sailed.nd rfl (.inl rfl)) (pgs_cons (pg_name (i := 4) sc_sailed.nd rfl (.inl rfl)) pgs_nil)))))
      (pss_cons (ps_for (passes_of rfl) rfl (pi_seq (pv 1)) (pg_name (i := 5) sc_sailed.nd rfl (.inl rfl))
        (pss_cons (ps_expr (pe_fn O_check_ship (hr.mono (by omega)) (pa_cons (pv 2) (pa_cons (pv 5) pa_nil))))
          (pss_one (ps_set (i := 3) sc_sailed.nd rfl (.inl rfl) (pe_fnX O_crossed (hr.mono (by omega)) (takes_of rfl rfl rfl rfl) (pa_cons (pv 2) (pa_cons (pv 3) (pa_cons (pv 5) pa_nil))))))))
      (pss_one (ps_ret (pe_tup (pa_cons (pv 2) (pa_cons (pv 3) (pa_cons (pe_op op_add (pv 4) (pe_callB call_len_seq (by rfl) T.len_ PySem.boot_len (pa_cons (pv 1) pa_nil))) pa_nil)))))))), ?_⟩
    refine ⟨_, rfl, p, _, rfl, .inr hp, rfl, _, _, rfl, _, _, rfl, _, _, rfl, rfl, ?_⟩
    refine ⟨_, rfl, pr, _, H, rfl, hr', Kp.refl _ _, fun J hJ => ?_⟩
    obtain ⟨G, g, W⟩ := hJ.walk
    refine for_it W (fun i σ H' => ∃ (z : V) (y : Option V) (X : List Nat), σ = [some (.ref p), some (.ref pr), some sv, some z, some (.int (x.c : Int)), y] ∧ Same H H' ∧ LotT K H' z X ∧ Lot x.ds.length X ∧ goesX x.h x.t x.ds X (row.drop i) = goesX x.h x.t x.ds x.L row) ⟨lv, none, x.L, rfl, Same.refl _, hl, ok.lot, rfl⟩ (fun i σ H' _ ⟨_, _, _, _, z, _⟩ => g H' (.ofS z)) ?_ ?_
    · rintro i y σ H2 H3 hi ⟨z, y', X, rfl, s2, hX, lX, gX⟩ ⟨rfl, gx⟩
      rw [ni_len] at hi
      obtain rfl : .int ((row[i] : Nat) : Int) = y := Option.some.inj ((ni_get hi).symm.trans gx)
      rw [List.drop_eq_getElem_cons hi] at gX
      rw [goesX_cons] at gX
      have ix := rin _ (List.getElem_mem hi)
      refine ⟨_, rfl, _, rfl, sv, x.h, x.t, x.ds, row[i], rfl, hs.a.same s2, ix, ?_⟩
      refine ⟨_, rfl, _, rfl, _, rfl, sv, z, x.h, x.t, x.ds, X, row[i], rfl, hs.a.same s2, hX.a, by omega, lX, ix, fun c H4 z' s4 hz' => ?_, fun c d nd => ?_⟩
      · rw [if_pos ⟨ix, c⟩] at gX
        exact ⟨z', _, _, rfl, s2.trans s4, hz', gone_lot lX ix, gX⟩
      · rw [if_neg (fun y => by rw [c] at y; cases y.2)] at gX
        exact qx row[i] (by rw [← gX]) _ d s2 nd
    · rintro σ H2 ⟨z, y, X, rfl, s2, hX, lX, gX⟩
      rw [ni_len, List.drop_length] at gX
      refine ⟨_, rfl, _, rfl, _, rfl, _, rfl, pr, _, rfl, Same.sqA s2 hr', _, _, rfl, rfl, (by show 3 ≤ sizeLine; decide), fun pp npp => ?_⟩
      rw [ni_len]
      have s3 : Same H2 (upd H2 pp (.tup [sv, z, .int ((x.c : Int) + (row.length : Int))])) := same_new npp
      refine q (by rw [← gX]; rfl) _ _ (s2.trans s3) ⟨pp, sv, z, rfl, SqT.of upd_same, hs.same (s2.trans s3), ?_⟩
      rw [show (sailS x (goesX x.h x.t x.ds x.L row).1 row.length).L = X from by rw [← gX]; rfl]
      exact hX.same s3
end
end Sh

namespace Sh
open PySem PySem.Spec PyProof.Rows L2
/-! ### the class Harbour -/
def clsAt (s : Stmt) (j : Nat) : Stmt := match s with
  | .ClassDef _ _ _ body _ _ _ _ _ _ _ => body.getD j s
  | s => s
structure Hc (K : PySem.W.Frag) (mg : Str → Option Value) (C : Addr) : Prop where
  g : mg "Harbour" = some (.ref C)
  cl : Cls K C
  nS : NoAttr K C "states"
  nE : NoAttr K C "entries"
def ioS (b : Bool) : Str := if b then "in" else "out"
def EntAt (H : Hp) (v : V) (e : Bool × Str) : Prop := ∃ p : Addr, v = .ref p ∧ H p = some (.tup [.str (ioS e.1), .str e.2])
/-- the harbour at a, by all that it holds -/
structure HarX (K : PySem.W.Frag) (H : Hp) (C a dx ls le : Addr) (sts ens : List V) (ss : List HS) (log : List (Bool × Str)) : Prop where
  ins : H a = some (.ins C dx [("states", .ref ls), ("entries", .ref le)])
  hs : H ls = some (.lst sts)
  he : H le = some (.lst ens)
  ps : Paired (StAt K H) sts ss
  pe : Paired (EntAt H) ens log
  ne : ls ≠ le
def HarAt (K : PySem.W.Frag) (H : Hp) (C a ls le : Addr) (ss : List HS) (log : List (Bool × Str)) : Prop := ∃ (dx : Addr) (sts ens : List V), HarX K H C a dx ls le sts ens ss log
/-- all that was tracked stands but the two lists -/
def ButH (ls le : Addr) (H H' : Hp) : Prop := ∀ (b : Addr) (o : HO), b ≠ ls → b ≠ le → H b = some o → H' b = some o
theorem ButH.refl (ls le : Addr) (H : Hp) : ButH ls le H H := fun _ _ _ _ e => e
theorem ButH.trans {ls le : Addr} {H H1 H2 : Hp} (x : ButH ls le H H1) (y : ButH ls le H1 H2) : ButH ls le H H2 := fun b o n1 n2 e => y b o n1 n2 (x b o n1 n2 e)
theorem ButH.of {ls le : Addr} {H H' : Hp} (s : Same H H') : ButH ls le H H' := fun b o _ _ e => s b o e
theorem ButH.ls {ls le : Addr} {H : Hp} {o : HO} : ButH ls le H (upd H ls o) := fun b x n _ e => by rw [upd_ne n]; exact e
theorem ButH.le {ls le : Addr} {H : Hp} {o : HO} : ButH ls le H (upd H le o) := fun b x _ n e => by rw [upd_ne n]; exact e
theorem paired_imp {α β : Type} {r r' : α → β → Prop} (h : ∀ a b, r a b → r' a b) : ∀ {xs : List α} {ys : List β}, Paired r xs ys → Paired r' xs ys
  | _, _, .nil => .nil
  | _, _, .cons a t => .cons (h _ _ a) (paired_imp h t)
theorem paired_app {α β : Type} {r : α → β → Prop} : ∀ {xs xs' : List α} {ys ys' : List β}, Paired r xs ys → Paired r xs' ys' → Paired r (xs ++ xs') (ys ++ ys')
  | _, _, _, _, .nil, t => t
  | _, _, _, _, .cons a t, u => .cons a (paired_app t u)
theorem paired_last {α β : Type} {r : α → β → Prop} : ∀ {xs : List α} {ys : List β} {y : β}, Paired r xs (ys ++ [y]) → ∃ xs' x, xs = xs' ++ [x] ∧ Paired r xs' ys ∧ r x y
  | _, [], y, .cons a .nil => ⟨[], _, rfl, .nil, a⟩
  | _, z :: zs, y, .cons a t => by
    obtain ⟨xs', x, rfl, p, q⟩ := paired_last t
    exact ⟨_ :: xs', x, rfl, .cons a p, q⟩
section
variable {K : PySem.W.Frag} {H H' : Hp} {C a dx ls le e : Addr} {sts ens : List V} {ss : List HS} {log : List (Bool × Str)}
theorem lst_tup {H H' : Hp} {ls le p : Addr} {xs sts ens : List V} (hs : H ls = some (.lst sts)) (he : H le = some (.lst ens)) (u : ButH ls le H H') (q : SqT K H p xs) : SqT K H' p xs := by
  have ne : ∀ {o : HO}, H p = some o → (∀ l, o ≠ .lst l) → H' p = some o := fun {o} h n => u p o (fun z => by rw [z, hs] at h; exact n _ (Option.some.inj h).symm) (fun z => by rw [z, he] at h; exact n _ (Option.some.inj h).symm) h
  rcases q with (q | ⟨z, q⟩) | q
  · exact .inl (.inl (ne q fun l z => by cases z))
  · exact .inl (.inr ⟨z, ne q fun l z => by cases z⟩)
  · exact .inr q
theorem HarX.tup {p : Addr} {xs : List V} (x : HarX K H C a dx ls le sts ens ss log) (u : ButH ls le H H') (q : SqT K H p xs) : SqT K H' p xs := lst_tup x.hs x.he u q
theorem HarX.seaT {v : V} {h t : Int} {ds : List Int} (x : HarX K H C a dx ls le sts ens ss log) (u : ButH ls le H H') (s : SeaT K H v h t ds) : SeaT K H' v h t ds := let ⟨p, q, e, b, c⟩ := s; ⟨p, q, e, x.tup u b, x.tup u c⟩
theorem HarX.lotT {v : V} {L : List Nat} (x : HarX K H C a dx ls le sts ens ss log) (u : ButH ls le H H') (s : LotT K H v L) : LotT K H' v L := let ⟨p, e, b⟩ := s; ⟨p, e, x.tup u b⟩
theorem HarX.stAt {v : V} {s : HS} (x : HarX K H C a dx ls le sts ens ss log) (u : ButH ls le H H') (q : StAt K H v s) : StAt K H' v s := let ⟨p, sv, lv, e, b, c, d⟩ := q; ⟨p, sv, lv, e, x.tup u b, x.seaT u c, x.lotT u d⟩
theorem HarX.entAt {v : V} {s : Bool × Str} (x : HarX K H C a dx ls le sts ens ss log) (u : ButH ls le H H') (q : EntAt H v s) : EntAt H' v s := let ⟨p, e, b⟩ := q; ⟨p, e, u p _ (fun z => by rw [z, x.hs] at b; cases b) (fun z => by rw [z, x.he] at b; cases b) b⟩
theorem HarX.same (x : HarX K H C a dx ls le sts ens ss log) (s : Same H H') : HarX K H' C a dx ls le sts ens ss log :=
  ⟨s _ _ x.ins, s _ _ x.hs, s _ _ x.he, paired_imp (fun _ _ q => StAt.same q s) x.ps, paired_imp (fun _ _ q => x.entAt (.of s) q) x.pe, x.ne⟩
theorem HarX.ins' (x : HarX K H C a dx ls le sts ens ss log) (u : ButH ls le H H') : H' a = some (.ins C dx [("states", .ref ls), ("entries", .ref le)]) := u a _ (fun z => by have e := x.ins; rw [z, x.hs] at e; cases e) (fun z => by have e := x.ins; rw [z, x.he] at e; cases e) x.ins
theorem HarAt.same (x : HarAt K H C a ls le ss log) (s : Same H H') : HarAt K H' C a ls le ss log := let ⟨dx, sts, ens, h⟩ := x; ⟨dx, sts, ens, h.same s⟩
/-- a word more in the log -/
theorem HarX.entry (x : HarX K H C a dx ls le sts ens ss log) (n : H e = none) (b : Bool) (wd : Str) :
    ButH ls le H (upd (upd H e (.tup [.str (ioS b), .str wd])) le (.lst (ens ++ [.ref e]))) ∧ HarX K (upd (upd H e (.tup [.str (ioS b), .str wd])) le (.lst (ens ++ [.ref e]))) C a dx ls le sts (ens ++ [.ref e]) ss (log ++ [(b, wd)]) := by
  have s1 : Same H (upd H e (.tup [.str (ioS b), .str wd])) := same_new n
  have x1 := x.same s1
  have u1 : ButH ls le (upd H e (.tup [.str (ioS b), .str wd])) (upd (upd H e (.tup [.str (ioS b), .str wd])) le (.lst (ens ++ [.ref e]))) := .le
  have nel : e ≠ le := fun z => by rw [z, x.he] at n; cases n
  refine ⟨(ButH.of s1).trans u1, x1.ins' u1, by rw [upd_ne x.ne]; exact x1.hs, upd_same, paired_imp (fun _ _ q => x1.stAt u1 q) x1.ps, paired_app (paired_imp (fun _ _ q => x1.entAt u1 q) x1.pe) (.cons ⟨e, rfl, ?_⟩ .nil), x.ne⟩
  rw [upd_ne nel, upd_same]
/-- a state more -/
theorem HarX.state {r : V} {s : HS} (x : HarX K H C a dx ls le sts ens ss log) (q : StAt K H r s) : ButH ls le H (upd H ls (.lst (sts ++ [r]))) ∧ HarX K (upd H ls (.lst (sts ++ [r]))) C a dx ls le (sts ++ [r]) ens (ss ++ [s]) log := by
  have u1 : ButH ls le H (upd H ls (.lst (sts ++ [r]))) := .ls
  exact ⟨u1, x.ins' u1, upd_same, by rw [upd_ne x.ne.symm]; exact x.he, paired_app (paired_imp (fun _ _ q => x.stAt u1 q) x.ps) (.cons (x.stAt u1 q) .nil), paired_imp (fun _ _ q => x.entAt u1 q) x.pe, x.ne⟩
/-- the last one off -/
theorem HarX.pop {r : V} {s : HS} (x : HarX K H C a dx ls le (sts ++ [r]) ens (ss ++ [s]) log) : ButH ls le H (upd H ls (.lst sts)) ∧ HarX K (upd H ls (.lst sts)) C a dx ls le sts ens ss log := by
  have u1 : ButH ls le H (upd H ls (.lst sts)) := .ls
  obtain ⟨xs', y, e, p, _⟩ := paired_last x.ps
  obtain ⟨rfl, _⟩ := List.append_inj' e rfl
  exact ⟨u1, x.ins' u1, upd_same, by rw [upd_ne x.ne.symm]; exact x.he, paired_imp (fun _ _ q => x.stAt u1 q) p, paired_imp (fun _ _ q => x.entAt u1 q) x.pe, x.ne⟩
end
abbrev s_Harbour___init__ : Stmt := clsAt (topS 30) 0
theorem sc_Harbour___init__ : FnScope (["self", "here", "there"] : List Str) (["self", "here", "there"] : List Str) (defScope s_Harbour___init__) := ⟨rfl, rfl, rfl, by decide +kernel, rfl, by decide +kernel, by decide +kernel⟩
theorem b_Harbour___init__ (kV doc pm : Value) (an : Option Addr) (cdv ct : Value) (us : List Value) (hl : us.length = (["self", "here", "there"] : List Str).length) : bindArgs (PySem.W.fnOf "__init__" "Harbour.__init__" (defArgs s_Harbour___init__) (defBody s_Harbour___init__) (defScope s_Harbour___init__) .none kV doc pm an cdv ct) ⟨us, []⟩ = pure ((["self", "here", "there"] : List Str).zip us) :=
  match us, hl with | [_, _, _], _ => rfl
abbrev s_Harbour_moor : Stmt := clsAt (topS 30) 1
theorem sc_Harbour_moor : FnScope (["self", "draught", "side"] : List Str) (["self", "draught", "side"] : List Str) (defScope s_Harbour_moor) := ⟨rfl, rfl, rfl, by decide +kernel, rfl, by decide +kernel, by decide +kernel⟩
theorem b_Harbour_moor (kV doc pm : Value) (an : Option Addr) (cdv ct : Value) (us : List Value) (hl : us.length = (["self", "draught", "side"] : List Str).length) : bindArgs (PySem.W.fnOf "moor" "Harbour.moor" (defArgs s_Harbour_moor) (defBody s_Harbour_moor) (defScope s_Harbour_moor) .none kV doc pm an cdv ct) ⟨us, []⟩ = pure ((["self", "draught", "side"] : List Str).zip us) :=
  match us, hl with | [_, _, _], _ => rfl
abbrev s_Harbour_leave : Stmt := clsAt (topS 30) 2
theorem sc_Harbour_leave : FnScope (["self", "ship"] : List Str) (["self", "ship"] : List Str) (defScope s_Harbour_leave) := ⟨rfl, rfl, rfl, by decide +kernel, rfl, by decide +kernel, by decide +kernel⟩
theorem b_Harbour_leave (kV doc pm : Value) (an : Option Addr) (cdv ct : Value) (us : List Value) (hl : us.length = (["self", "ship"] : List Str).length) : bindArgs (PySem.W.fnOf "leave" "Harbour.leave" (defArgs s_Harbour_leave) (defBody s_Harbour_leave) (defScope s_Harbour_leave) .none kV doc pm an cdv ct) ⟨us, []⟩ = pure ((["self", "ship"] : List Str).zip us) :=
  match us, hl with | [_, _], _ => rfl
abbrev s_Harbour_cross : Stmt := clsAt (topS 30) 3
theorem sc_Harbour_cross : FnScope (["self", "ship"] : List Str) (["self", "ship"] : List Str) (defScope s_Harbour_cross) := ⟨rfl, rfl, rfl, by decide +kernel, rfl, by decide +kernel, by decide +kernel⟩
theorem b_Harbour_cross (kV doc pm : Value) (an : Option Addr) (cdv ct : Value) (us : List Value) (hl : us.length = (["self", "ship"] : List Str).length) : bindArgs (PySem.W.fnOf "cross" "Harbour.cross" (defArgs s_Harbour_cross) (defBody s_Harbour_cross) (defScope s_Harbour_cross) .none kV doc pm an cdv ct) ⟨us, []⟩ = pure ((["self", "ship"] : List Str).zip us) :=
  match us, hl with | [_, _], _ => rfl
abbrev s_Harbour_sail : Stmt := clsAt (topS 30) 4
theorem sc_Harbour_sail : FnScope (["self", "row"] : List Str) (["self", "row"] : List Str) (defScope s_Harbour_sail) := ⟨rfl, rfl, rfl, by decide +kernel, rfl, by decide +kernel, by decide +kernel⟩
theorem b_Harbour_sail (kV doc pm : Value) (an : Option Addr) (cdv ct : Value) (us : List Value) (hl : us.length = (["self", "row"] : List Str).length) : bindArgs (PySem.W.fnOf "sail" "Harbour.sail" (defArgs s_Harbour_sail) (defBody s_Harbour_sail) (defScope s_Harbour_sail) .none kV doc pm an cdv ct) ⟨us, []⟩ = pure ((["self", "row"] : List Str).zip us) :=
  match us, hl with | [_, _], _ => rfl
abbrev s_Harbour_dredge : Stmt := clsAt (topS 30) 5
theorem sc_Harbour_dredge : FnScope (["self", "side", "more"] : List Str) (["self", "side", "more"] : List Str) (defScope s_Harbour_dredge) := ⟨rfl, rfl, rfl, by decide +kernel, rfl, by decide +kernel, by decide +kernel⟩
theorem b_Harbour_dredge (kV doc pm : Value) (an : Option Addr) (cdv ct : Value) (us : List Value) (hl : us.length = (["self", "side", "more"] : List Str).length) : bindArgs (PySem.W.fnOf "dredge" "Harbour.dredge" (defArgs s_Harbour_dredge) (defBody s_Harbour_dredge) (defScope s_Harbour_dredge) .none kV doc pm an cdv ct) ⟨us, []⟩ = pure ((["self", "side", "more"] : List Str).zip us) :=
  match us, hl with | [_, _, _], _ => rfl
abbrev s_Harbour_undo : Stmt := clsAt (topS 30) 6
theorem sc_Harbour_undo : FnScope (["self", "undone"] : List Str) (["self"] : List Str) (defScope s_Harbour_undo) := ⟨rfl, rfl, rfl, by decide +kernel, rfl, by decide +kernel, by decide +kernel⟩
theorem b_Harbour_undo (kV doc pm : Value) (an : Option Addr) (cdv ct : Value) (us : List Value) (hl : us.length = (["self"] : List Str).length) : bindArgs (PySem.W.fnOf "undo" "Harbour.undo" (defArgs s_Harbour_undo) (defBody s_Harbour_undo) (defScope s_Harbour_undo) .none kV doc pm an cdv ct) ⟨us, []⟩ = pure ((["self"] : List Str).zip us) :=
  match us, hl with | [_], _ => rfl
abbrev s_Harbour_sea : Stmt := clsAt (topS 30) 7
theorem sc_Harbour_sea : FnScope (["self"] : List Str) (["self"] : List Str) (defScope s_Harbour_sea) := ⟨rfl, rfl, rfl, by decide +kernel, rfl, by decide +kernel, by decide +kernel⟩
theorem b_Harbour_sea (kV doc pm : Value) (an : Option Addr) (cdv ct : Value) (us : List Value) (hl : us.length = (["self"] : List Str).length) : bindArgs (PySem.W.fnOf "sea" "Harbour.sea" (defArgs s_Harbour_sea) (defBody s_Harbour_sea) (defScope s_Harbour_sea) .none kV doc pm an cdv ct) ⟨us, []⟩ = pure ((["self"] : List Str).zip us) :=
  match us, hl with | [_], _ => rfl
abbrev s_Harbour_standing : Stmt := clsAt (topS 30) 8
theorem sc_Harbour_standing : FnScope (["self"] : List Str) (["self"] : List Str) (defScope s_Harbour_standing) := ⟨rfl, rfl, rfl, by decide +kernel, rfl, by decide +kernel, by decide +kernel⟩
theorem b_Harbour_standing (kV doc pm : Value) (an : Option Addr) (cdv ct : Value) (us : List Value) (hl : us.length = (["self"] : List Str).length) : bindArgs (PySem.W.fnOf "standing" "Harbour.standing" (defArgs s_Harbour_standing) (defBody s_Harbour_standing) (defScope s_Harbour_standing) .none kV doc pm an cdv ct) ⟨us, []⟩ = pure ((["self"] : List Str).zip us) :=
  match us, hl with | [_], _ => rfl
abbrev s_Harbour_crossings : Stmt := clsAt (topS 30) 11
theorem sc_Harbour_crossings : FnScope (["self"] : List Str) (["self"] : List Str) (defScope s_Harbour_crossings) := ⟨rfl, rfl, rfl, by decide +kernel, rfl, by decide +kernel, by decide +kernel⟩
theorem b_Harbour_crossings (kV doc pm : Value) (an : Option Addr) (cdv ct : Value) (us : List Value) (hl : us.length = (["self"] : List Str).length) : bindArgs (PySem.W.fnOf "crossings" "Harbour.crossings" (defArgs s_Harbour_crossings) (defBody s_Harbour_crossings) (defScope s_Harbour_crossings) .none kV doc pm an cdv ct) ⟨us, []⟩ = pure ((["self"] : List Str).zip us) :=
  match us, hl with | [_], _ => rfl
abbrev s_Harbour_deeds : Stmt := clsAt (topS 30) 12
theorem sc_Harbour_deeds : FnScope (["self"] : List Str) (["self"] : List Str) (defScope s_Harbour_deeds) := ⟨rfl, rfl, rfl, by decide +kernel, rfl, by decide +kernel, by decide +kernel⟩
theorem b_Harbour_deeds (kV doc pm : Value) (an : Option Addr) (cdv ct : Value) (us : List Value) (hl : us.length = (["self"] : List Str).length) : bindArgs (PySem.W.fnOf "deeds" "Harbour.deeds" (defArgs s_Harbour_deeds) (defBody s_Harbour_deeds) (defScope s_Harbour_deeds) .none kV doc pm an cdv ct) ⟨us, []⟩ = pure ((["self"] : List Str).zip us) :=
  match us, hl with | [_], _ => rfl
abbrev s_Harbour_log : Stmt := clsAt (topS 30) 15
theorem sc_Harbour_log : FnScope (["self"] : List Str) (["self"] : List Str) (defScope s_Harbour_log) := ⟨rfl, rfl, rfl, by decide +kernel, rfl, by decide +kernel, by decide +kernel⟩
theorem b_Harbour_log (kV doc pm : Value) (an : Option Addr) (cdv ct : Value) (us : List Value) (hl : us.length = (["self"] : List Str).length) : bindArgs (PySem.W.fnOf "log" "Harbour.log" (defArgs s_Harbour_log) (defBody s_Harbour_log) (defScope s_Harbour_log) .none kV doc pm an cdv ct) ⟨us, []⟩ = pure ((["self"] : List Str).zip us) :=
  match us, hl with | [_], _ => rfl
abbrev s_Harbour___len__ : Stmt := clsAt (topS 30) 17
theorem sc_Harbour___len__ : FnScope (["self"] : List Str) (["self"] : List Str) (defScope s_Harbour___len__) := ⟨rfl, rfl, rfl, by decide +kernel, rfl, by decide +kernel, by decide +kernel⟩
theorem b_Harbour___len__ (kV doc pm : Value) (an : Option Addr) (cdv ct : Value) (us : List Value) (hl : us.length = (["self"] : List Str).length) : bindArgs (PySem.W.fnOf "__len__" "Harbour.__len__" (defArgs s_Harbour___len__) (defBody s_Harbour___len__) (defScope s_Harbour___len__) .none kV doc pm an cdv ct) ⟨us, []⟩ = pure ((["self"] : List Str).zip us) :=
  match us, hl with | [_], _ => rfl
abbrev s_Harbour___repr__ : Stmt := clsAt (topS 30) 18
theorem sc_Harbour___repr__ : FnScope (["self"] : List Str) (["self"] : List Str) (defScope s_Harbour___repr__) := ⟨rfl, rfl, rfl, by decide +kernel, rfl, by decide +kernel, by decide +kernel⟩
theorem b_Harbour___repr__ (kV doc pm : Value) (an : Option Addr) (cdv ct : Value) (us : List Value) (hl : us.length = (["self"] : List Str).length) : bindArgs (PySem.W.fnOf "__repr__" "Harbour.__repr__" (defArgs s_Harbour___repr__) (defBody s_Harbour___repr__) (defScope s_Harbour___repr__) .none kV doc pm an cdv ct) ⟨us, []⟩ = pure ((["self"] : List Str).zip us) :=
  match us, hl with | [_], _ => rfl
end Sh

namespace Sh
open PySem PySem.Spec PyProof.Rows L2
/-! ### the harbour asked -/
/-- what one deed writes -/
def io (wd : Str) : List (Bool × Str) := [(true, wd), (false, wd)]
theorem io_app (log : List (Bool × Str)) (wd : Str) : log ++ [(true, wd)] ++ [(false, wd)] = log ++ io wd := by rw [List.append_assoc]; rfl
def spHsea (K : PySem.W.Frag) (C : Addr) : Sp := fun vs H Q _ => ∃ (a ls le : Addr) (ss : List HS) (x : HS) (log : List (Bool × Str)), vs = [.ref a] ∧ HarAt K H C a ls le (ss ++ [x]) log ∧ ∀ v, SeaT K H v x.h x.t x.ds → Q v H
def spHlot (K : PySem.W.Frag) (C : Addr) : Sp := fun vs H Q _ => ∃ (a ls le : Addr) (ss : List HS) (x : HS) (log : List (Bool × Str)), vs = [.ref a] ∧ HarAt K H C a ls le (ss ++ [x]) log ∧ ∀ v, LotT K H v x.L → Q v H
def spHcr (K : PySem.W.Frag) (C : Addr) : Sp := fun vs H Q _ => ∃ (a ls le : Addr) (ss : List HS) (x : HS) (log : List (Bool × Str)), vs = [.ref a] ∧ HarAt K H C a ls le (ss ++ [x]) log ∧ Q (.int (x.c : Int)) H
def spHdeeds (K : PySem.W.Frag) (C : Addr) : Sp := fun vs H Q _ => ∃ (a ls le : Addr) (ss : List HS) (x : HS) (log : List (Bool × Str)), vs = [.ref a] ∧ HarAt K H C a ls le (ss ++ [x]) log ∧ Q (.int (ss.length : Int)) H
def spHlen (K : PySem.W.Frag) (C : Addr) : Sp := fun vs H Q _ => ∃ (a ls le : Addr) (ss : List HS) (x : HS) (log : List (Bool × Str)), vs = [.ref a] ∧ HarAt K H C a ls le (ss ++ [x]) log ∧ Q (.int (x.ds.length : Int)) H
/-- the log told: a list of its own -/
def spHlog (K : PySem.W.Frag) (C : Addr) : Sp := fun vs H Q _ => ∃ (a ls le : Addr) (ss : List HS) (log : List (Bool × Str)), vs = [.ref a] ∧ HarAt K H C a ls le ss log ∧ ∀ (H' : Hp) (p : Addr) (ens : List V), Same H H' → H p = none → H' p = some (.lst ens) → Paired (EntAt H') ens log → Q (.ref p) H'
def spHrepr (K : PySem.W.Frag) (C : Addr) : Sp := fun vs H Q _ => ∃ (a ls le : Addr) (ss : List HS) (x : HS) (log : List (Bool × Str)), vs = [.ref a] ∧ HarAt K H C a ls le (ss ++ [x]) log ∧ HsOk x ∧ Q (.str (Str.ofString "Harbour(" ++ Str.ofString (toString (x.ds.length : Int)) ++ Str.ofString " ships, " ++ Str.ofString (toString (x.L.length : Int)) ++ Str.ofString " here)")) H
def spHmay (K : PySem.W.Frag) (C : Addr) : Sp := fun vs H Q _ => ∃ (a ls le : Addr) (ss : List HS) (x : HS) (log : List (Bool × Str)), vs = [.ref a] ∧ HarAt K H C a ls le (ss ++ [x]) log ∧ HsOk x ∧ ∀ (H' : Hp) (p : Addr), Same H H' → H p = none → H' p = some (.lst (ni (lets x.h x.t x.ds x.L x.ds.length))) → Q (.ref p) H'
def spHmov (K : PySem.W.Frag) (C : Addr) : Sp := fun vs H Q _ => ∃ (a ls le : Addr) (ss : List HS) (x : HS) (log : List (Bool × Str)), vs = [.ref a] ∧ HarAt K H C a ls le (ss ++ [x]) log ∧ HsOk x ∧ ∀ (H' : Hp) (p : Addr) (ms : List Nat), Same H H' → H p = none → H' p = some (.lst (ni ms)) → (x.ds.length = 0 → ms = []) → (0 < x.ds.length → IsMovers x.h x.t x.ds x.L ms) → Q (.ref p) H'
def spHundo (K : PySem.W.Frag) (C : Addr) : Sp := fun vs H Q _ => ∃ (a ls le : Addr) (ss : List HS) (x : HS) (log : List (Bool × Str)), vs = [.ref a] ∧ HarAt K H C a ls le (ss ++ [x]) log ∧ log.length ≤ 100000 ∧
  (ss = [] → ∀ H', ButH ls le H H' → HarAt K H' C a ls le [x] (log ++ io "undo") → Q (.bl false) H') ∧
  (0 < ss.length → ∀ H', ButH ls le H H' → HarAt K H' C a ls le ss (log ++ io "undo") → Q (.bl true) H')
/-- what stands last -/
theorem HarX.top {K : PySem.W.Frag} {H : Hp} {C a dx ls le : Addr} {sts ens : List V} {ss : List HS} {x : HS} {log : List (Bool × Str)} (h : HarX K H C a dx ls le sts ens (ss ++ [x]) log) :
    ∃ (sts' : List V) (p : Addr) (sv lv : V), sts = sts' ++ [.ref p] ∧ SqT K H p [sv, lv, .int (x.c : Int)] ∧ SeaT K H sv x.h x.t x.ds ∧ LotT K H lv x.L ∧ sts'.length = ss.length := by
  obtain ⟨sts', r, e, pp, p, sv, lv, rfl, a, b, c⟩ := paired_last h.ps
  exact ⟨sts', p, sv, lv, e, a, b, c, Paired.length pp⟩
section
variable {P : Program} {w : World} {K : PySem.W.Frag} {mg : Str → Option Value} {base : Heap} {C : Addr}
theorem ok_hsea {k : Nat} (D : Md K C "sea" "Harbour.sea" s_Harbour_sea) (T : Bt mg) (hC : Hc K mg C) : MOk P w K mg base (k + 1) C "sea" "Harbour.sea" s_Harbour_sea ["self"] (spHsea K C) := by
  refine D.ok sc_Harbour_sea b_Harbour_sea (fun vs H Q E h => ?_) (fun f cdv A outer s H vs Q E hr h => ?_)
  · obtain ⟨a, ls, le, ss, x, log, rfl, _⟩ := h
    rfl
  · obtain ⟨a, ls, le, ss, x, log, rfl, ⟨dx, sts, ens, hx⟩, q⟩ := h
    obtain ⟨sts', p, sv, lv, rfl, h1, h2, h3, _⟩ := hx.top
    refine ⟨_, (pss_one (ps_ret (pe_ix ix_lt (pe_ix ix_lt (pe_fld (pv 0) (by rfl)) (pe_un un_neg pe_int) (fun _ _ => rfl)) pe_int (fun _ _ => rfl)))), ?_⟩
    exact ⟨_, rfl, a, C, dx, _, _, rfl, hx.ins, hC.cl, hC.nS, rfl, 1, rfl, ls, _, -1, .ref p, rfl, rfl, SqA.l hx.hs, atI_last _ _, p, _, 0, sv, rfl, rfl, .inr h1, rfl, q sv h2⟩
theorem ok_hlot {k : Nat} (D : Md K C "standing" "Harbour.standing" s_Harbour_standing) (T : Bt mg) (hC : Hc K mg C) : MOk P w K mg base (k + 1) C "standing" "Harbour.standing" s_Harbour_standing ["self"] (spHlot K C) := by
  refine D.ok sc_Harbour_standing b_Harbour_standing (fun vs H Q E h => ?_) (fun f cdv A outer s H vs Q E hr h => ?_)
  · obtain ⟨a, ls, le, ss, x, log, rfl, _⟩ := h
    rfl
  · obtain ⟨a, ls, le, ss, x, log, rfl, ⟨dx, sts, ens, hx⟩, q⟩ := h
    obtain ⟨sts', p, sv, lv, rfl, h1, h2, h3, _⟩ := hx.top
    refine ⟨_, (pss_one (ps_ret (pe_ix ix_lt (pe_ix ix_lt (pe_fld (pv 0) (by rfl)) (pe_un un_neg pe_int) (fun _ _ => rfl)) pe_int (fun _ _ => rfl)))), ?_⟩
    exact ⟨_, rfl, a, C, dx, _, _, rfl, hx.ins, hC.cl, hC.nS, rfl, 1, rfl, ls, _, -1, .ref p, rfl, rfl, SqA.l hx.hs, atI_last _ _, p, _, 1, lv, rfl, rfl, .inr h1, rfl, q lv h3⟩
theorem ok_hcr {k : Nat} (D : Md K C "crossings" "Harbour.crossings" s_Harbour_crossings) (T : Bt mg) (hC : Hc K mg C) : MOk P w K mg base (k + 1) C "crossings" "Harbour.crossings" s_Harbour_crossings ["self"] (spHcr K C) := by
  refine D.ok sc_Harbour_crossings b_Harbour_crossings (fun vs H Q E h => ?_) (fun f cdv A outer s H vs Q E hr h => ?_)
  · obtain ⟨a, ls, le, ss, x, log, rfl, _⟩ := h
    rfl
  · obtain ⟨a, ls, le, ss, x, log, rfl, ⟨dx, sts, ens, hx⟩, q⟩ := h
    obtain ⟨sts', p, sv, lv, rfl, h1, h2, h3, _⟩ := hx.top
    refine ⟨_, (pss_one (ps_ret (pe_ix ix_lt (pe_ix ix_lt (pe_fld (pv 0) (by rfl)) (pe_un un_neg pe_int) (fun _ _ => rfl)) pe_int (fun _ _ => rfl)))), ?_⟩
    exact ⟨_, rfl, a, C, dx, _, _, rfl, hx.ins, hC.cl, hC.nS, rfl, 1, rfl, ls, _, -1, .ref p, rfl, rfl, SqA.l hx.hs, atI_last _ _, p, _, 2, .int (x.c : Int), rfl, rfl, .inr h1, rfl, q⟩
theorem ok_hdeeds {k : Nat} (D : Md K C "deeds" "Harbour.deeds" s_Harbour_deeds) (T : Bt mg) (hC : Hc K mg C) : MOk P w K mg base (k + 1) C "deeds" "Harbour.deeds" s_Harbour_deeds ["self"] (spHdeeds K C) := by
  refine D.ok sc_Harbour_deeds b_Harbour_deeds (fun vs H Q E h => ?_) (fun f cdv A outer s H vs Q E hr h => ?_)
  · obtain ⟨a, ls, le, ss, x, log, rfl, _⟩ := h
    rfl
  · obtain ⟨a, ls, le, ss, x, log, rfl, ⟨dx, sts, ens, hx⟩, q⟩ := h
    obtain ⟨sts', p, sv, lv, rfl, h1, h2, h3, hl⟩ := hx.top
    refine ⟨_, (pss_one (ps_ret (pe_op op_sub (pe_callB call_len_seq (by rfl) T.len_ PySem.boot_len (pa_cons (pe_fld (pv 0) (by rfl)) pa_nil)) pe_int))), ?_⟩
    refine ⟨_, rfl, a, C, dx, _, _, rfl, hx.ins, hC.cl, hC.nS, rfl, ls, _, rfl, .inl (SqL.of hx.hs), _, 1, rfl, rfl, ?_⟩
    show Q (.int ((((sts' ++ [V.ref p]).length : Nat) : Int) - 1)) H
    rw [show (((sts' ++ [V.ref p]).length : Nat) : Int) - 1 = (ss.length : Int) by rw [List.length_append, hl, List.length_singleton]; omega]
    exact q
theorem ok_hlen {k : Nat} (D : Md K C "__len__" "Harbour.__len__" s_Harbour___len__) (T : Bt mg) (hC : Hc K mg C) (O_Harbour_sea : MOk P w K mg base k C "sea" "Harbour.sea" s_Harbour_sea ["self"] (spHsea K C)) : MOk P w K mg base (k + 1) C "__len__" "Harbour.__len__" s_Harbour___len__ ["self"] (spHlen K C) := by
  refine D.ok sc_Harbour___len__ b_Harbour___len__ (fun vs H Q E h => ?_) (fun f cdv A outer s H vs Q E hr h => ?_)
  · obtain ⟨a, ls, le, ss, x, log, rfl, _⟩ := h
    rfl
  · obtain ⟨a, ls, le, ss, x, log, rfl, ⟨dx, sts, ens, hx⟩, q⟩ := h
    refine ⟨_, (pss_one (ps_ret (pe_callB call_len_seq (by rfl) T.len_ PySem.boot_len (pa_cons (pe_ix ix_lt (pe_m0 O_Harbour_sea hC.cl (hr.mono (by omega)) (pv 0)) pe_int (fun _ _ => rfl)) pa_nil)))), ?_⟩
    refine ⟨_, rfl, a, dx, _, rfl, hx.ins, rfl, a, ls, le, ss, x, log, rfl, ⟨dx, sts, ens, hx⟩, fun v hv => ?_⟩
    obtain ⟨p, pq, rfl, hp, hq⟩ := hv
    refine ⟨p, _, 2, .ref pq, rfl, rfl, .inr hp, rfl, pq, _, rfl, .inr hq, ?_⟩
    rw [List.length_map]
    exact q
theorem ok_hlog {k : Nat} (D : Md K C "log" "Harbour.log" s_Harbour_log) (T : Bt mg) (hC : Hc K mg C) : MOk P w K mg base (k + 1) C "log" "Harbour.log" s_Harbour_log ["self"] (spHlog K C) := by
  refine D.ok sc_Harbour_log b_Harbour_log (fun vs H Q E h => ?_) (fun f cdv A outer s H vs Q E hr h => ?_)
  · obtain ⟨a, ls, le, ss, log, rfl, _⟩ := h
    rfl
  · obtain ⟨a, ls, le, ss, log, rfl, ⟨dx, sts, ens, hx⟩, q⟩ := h
    refine ⟨_, (pss_one (ps_ret (pe_callTy call_list_of (by rfl) T.list_ (by decide +kernel) (pa_cons (pe_fld (pv 0) (by rfl)) pa_nil)))), ?_⟩
    refine ⟨_, rfl, a, C, dx, _, _, rfl, hx.ins, hC.cl, hC.nE, rfl, le, ens, rfl, .inl (SqL.of hx.he), fun p np => ?_⟩
    have s1 : Same H (upd H p (.lst ens)) := same_new np
    exact q _ p ens s1 np upd_same (paired_imp (fun _ _ z => hx.entAt (.of s1) z) hx.pe)
theorem ok_hrepr {k : Nat} (D : Md K C "__repr__" "Harbour.__repr__" s_Harbour___repr__) (T : Bt mg) (hC : Hc K mg C) (O_Harbour___len__ : MOk P w K mg base k C "__len__" "Harbour.__len__" s_Harbour___len__ ["self"] (spHlen K C)) (O_Harbour_standing : MOk P w K mg base k C "standing" "Harbour.standing" s_Harbour_standing ["self"] (spHlot K C)) :
    MOk P w K mg base (k + 2) C "__repr__" "Harbour.__repr__" s_Harbour___repr__ ["self"] (spHrepr K C) := by
  refine D.ok sc_Harbour___repr__ b_Harbour___repr__ (fun vs H Q E h => ?_) (fun f cdv A outer s H vs Q E hr h => ?_)
  · obtain ⟨a, ls, le, ss, x, log, rfl, _⟩ := h
    rfl
  · obtain ⟨a, ls, le, ss, x, log, rfl, ⟨dx, sts, ens, hx⟩, ok, q⟩ := h
    have d1 := ok.len
    have d2 := ok.lot.len
    refine ⟨_, (pss_one (ps_ret (pe_joined (PJ.cons pe_str (PJ.cons (pe_fmt (pe_callB (call_lenO O_Harbour___len__ (hr.mono (by omega))) (by rfl) T.len_ (by decide +kernel) (pa_cons (pv 0) pa_nil))) (PJ.cons pe_str (PJ.cons (pe_fmt (pe_callB call_len_seq (by rfl) T.len_ PySem.boot_len (pa_cons (pe_m0 O_Harbour_standing hC.cl (hr.mono (by omega)) (pv 0)) pa_nil))) (PJ.cons pe_str .nil)))))))), ?_⟩
    have b1 : ((x.ds.length : Int)).natAbs.log2 < 1920 := Nat.lt_of_le_of_lt (log2_le (show ((x.ds.length : Int)).natAbs ≤ 24 by omega)) (by decide)
    have b2 : ((x.L.length : Int)).natAbs.log2 < 1920 := Nat.lt_of_le_of_lt (log2_le (show ((x.L.length : Int)).natAbs ≤ 24 by omega)) (by decide)
    have l1 : (Str.empty ++ Str.ofString "Harbour(").length ≤ 8 := by decide
    refine ⟨_, rfl, Nat.le_trans l1 (by decide), ?_⟩
    refine ⟨_, rfl, a, dx, _, rfl, hx.ins, a, ls, le, ss, x, log, rfl, ⟨dx, sts, ens, hx⟩, x.ds.length, rfl, by omega, .inr ⟨_, rfl, b1, ?_⟩⟩
    have l2 := js_at l1 (int_len b1)
    refine ⟨_, rfl, Nat.le_trans l2 (by decide), ?_⟩
    have l3 := js_at l2 (show (Str.ofString " ships, ").length ≤ 8 by decide)
    refine ⟨_, rfl, Nat.le_trans l3 (by decide), ?_⟩
    refine ⟨_, rfl, a, dx, _, rfl, hx.ins, rfl, a, ls, le, ss, x, log, rfl, ⟨dx, sts, ens, hx⟩, fun l hl => ?_⟩
    obtain ⟨pl, rfl, hl⟩ := hl
    refine ⟨pl, _, rfl, .inr hl, .inr ⟨_, rfl, ?_, ?_⟩⟩
    · rw [ni_len]
      exact b2
    rw [ni_len]
    have l4 := js_at l3 (int_len b2)
    refine ⟨_, rfl, Nat.le_trans l4 (by decide), ?_⟩
    refine ⟨_, rfl, Nat.le_trans (js_at l4 (show (Str.ofString " here)").length ≤ 8 by decide)) (by decide), ?_⟩
    exact q
theorem ok_hundo {k : Nat} (D : Md K C "undo" "Harbour.undo" s_Harbour_undo) (T : Bt mg) (hC : Hc K mg C) (O_Harbour_deeds : MOk P w K mg base k C "deeds" "Harbour.deeds" s_Harbour_deeds ["self"] (spHdeeds K C)) : MOk P w K mg base (k + 1) C "undo" "Harbour.undo" s_Harbour_undo ["self"] (spHundo K C) := by
  refine D.ok sc_Harbour_undo b_Harbour_undo (fun vs H Q E h => ?_) (fun f cdv A outer s H vs Q E hr h => ?_)
  · obtain ⟨a, ls, le, ss, x, log, rfl, _⟩ := h
    rfl
  · obtain ⟨a, ls, le, ss, x, log, rfl, ⟨dx, sts, ens, hx⟩, lg, q0, q1⟩ := h
    refine ⟨_, (pss_cons (ps_expr (pe_bm PySem.F.plainAttrs_list PySem.F.slot_list_append PySem.F.type_list_append mt_append (pe_fld (pv 0) (by rfl)) (pa_cons (pe_tup (pa_cons pe_str (pa_cons pe_str pa_nil))) pa_nil)))
      (pss_cons (ps_set (i := 1) sc_Harbour_undo.nd rfl (.inl rfl) (pe_cmpR op_gt (pe_m0 O_Harbour_deeds hC.cl (hr.mono (by omega)) (pv 0)) pe_int (nomark _)))
      (pss_cons (ps_if (pt_truth (pv 1) (by intro _; rfl))
        (pss_one (ps_expr (pe_bm0 PySem.F.plainAttrs_list PySem.F.slot_list_pop PySem.F.type_list_pop mt_pop (pe_fld (pv 0) (by rfl)))))
        pss_nil)
      (pss_cons (ps_expr (pe_bm PySem.F.plainAttrs_list PySem.F.slot_list_append PySem.F.type_list_append mt_append (pe_fld (pv 0) (by rfl)) (pa_cons (pe_tup (pa_cons pe_str (pa_cons pe_str pa_nil))) pa_nil)))
      (pss_one (ps_ret (pv 1))))))), ?_⟩
    refine ⟨_, rfl, a, C, dx, _, _, rfl, hx.ins, hC.cl, hC.nE, rfl, .inl ⟨rfl, _, SqL.of hx.he⟩, (by show 2 ≤ sizeLine; decide), fun e ne => ?_⟩
    obtain ⟨u1, x1⟩ := hx.entry ne true "undo"
    have lens : ens.length ≤ 100000 := by rw [Paired.length hx.pe]; exact lg
    refine ⟨le, ens, .ref e, rfl, rfl, same_new ne _ _ hx.he, Nat.lt_of_le_of_lt lens (by decide), ?_⟩
    rw [show ioS true = "in" from rfl] at u1 x1
    generalize upd (upd H e (.tup [.str "in", .str "undo"])) le (.lst (ens ++ [.ref e])) = H1 at u1 x1
    refine ⟨_, rfl, a, dx, _, rfl, x1.ins, rfl, a, ls, le, ss, x, _, rfl, ⟨dx, sts, _, x1⟩, _, _, rfl, rfl, ?_⟩
    refine ⟨_, rfl, _, rfl, ite2 (fun c => ?_) fun c => ?_⟩
    · have c0 : 0 < ss.length := by
        have := of_decide_eq_true c
        omega
      obtain ⟨sts', p, sv, lv, rfl, h1, h2, h3, hl⟩ := x1.top
      obtain ⟨u2, x2⟩ := x1.pop
      refine ⟨_, rfl, a, C, dx, _, _, rfl, x1.ins, hC.cl, hC.nS, rfl, .inl ⟨rfl, _, SqL.of x1.hs⟩, ls, _, .ref p, rfl, rfl, x1.hs, by simp, ?_⟩
      rw [List.dropLast_concat]
      generalize upd H1 ls (.lst sts') = H2 at u2 x2
      refine ⟨_, rfl, a, C, dx, _, _, rfl, x2.ins, hC.cl, hC.nE, rfl, .inl ⟨rfl, _, SqL.of x2.he⟩, (by show 2 ≤ sizeLine; decide), fun e3 ne3 => ?_⟩
      obtain ⟨u3, x3⟩ := x2.entry ne3 false "undo"
      refine ⟨le, _, .ref e3, rfl, rfl, same_new ne3 _ _ x2.he, Nat.lt_of_le_of_lt (show (ens ++ [V.ref e]).length ≤ 100001 by rw [List.length_append]; simp; omega) (by decide), ?_⟩
      rw [show ioS false = "out" from rfl] at u3 x3
      generalize upd (upd H2 e3 (.tup [.str "out", .str "undo"])) le (.lst ((ens ++ [.ref e]) ++ [.ref e3])) = H3 at u3 x3
      refine ⟨_, rfl, ?_⟩
      have := q1 c0 H3 (u1.trans (u2.trans u3)) ⟨dx, _, _, by rw [io_app] at x3; exact x3⟩
      show Q (.bl (decide ((0 : Int) < (ss.length : Int)))) H3
      rw [show decide ((0 : Int) < (ss.length : Int)) = true from c]
      exact this
    · have c0 : ss = [] := by
        by_cases z : ss = []
        · exact z
        · exact absurd (decide_eq_true (show (0 : Int) < (ss.length : Int) by have := List.length_pos_iff.mpr z; omega)) c
      subst c0
      refine ⟨_, rfl, a, C, dx, _, _, rfl, x1.ins, hC.cl, hC.nE, rfl, .inl ⟨rfl, _, SqL.of x1.he⟩, (by show 2 ≤ sizeLine; decide), fun e3 ne3 => ?_⟩
      obtain ⟨u3, x3⟩ := x1.entry ne3 false "undo"
      refine ⟨le, _, .ref e3, rfl, rfl, same_new ne3 _ _ x1.he, Nat.lt_of_le_of_lt (show (ens ++ [V.ref e]).length ≤ 100001 by rw [List.length_append]; simp; omega) (by decide), ?_⟩
      rw [show ioS false = "out" from rfl] at u3 x3
      generalize upd (upd H1 e3 (.tup [.str "out", .str "undo"])) le (.lst ((ens ++ [.ref e]) ++ [.ref e3])) = H3 at u3 x3
      refine ⟨_, rfl, ?_⟩
      exact q0 rfl H3 (u1.trans u3) ⟨dx, _, _, by rw [io_app] at x3; exact x3⟩
end
end Sh

namespace Sh
open PySem PySem.Spec PyProof.Rows L2
/-! ### deeds at the harbour -/
def spHmoor (K : PySem.W.Frag) (C : Addr) : Sp := fun vs H Q _ => ∃ (a ls le : Addr) (ss : List HS) (x : HS) (log : List (Bool × Str)) (d : Int) (b : Bool), vs = [.ref a, .int d, .str (sideS b)] ∧ HarAt K H C a ls le (ss ++ [x]) log ∧ HsOk x ∧ x.ds.length < 24 ∧ log.length ≤ 100000 ∧ ss.length ≤ 100000 ∧
  ∀ H', ButH ls le H H' → HarAt K H' C a ls le (ss ++ [x] ++ [moorS x d b]) (log ++ io "moor") → Q (.int (x.ds.length : Int)) H'
def spHleave (K : PySem.W.Frag) (C : Addr) : Sp := fun vs H Q _ => ∃ (a ls le : Addr) (ss : List HS) (x : HS) (log : List (Bool × Str)) (g : Nat), vs = [.ref a, .int (g : Int)] ∧ HarAt K H C a ls le (ss ++ [x]) log ∧ HsOk x ∧ g < x.ds.length ∧ log.length ≤ 100000 ∧ ss.length ≤ 100000 ∧
  ∀ H', ButH ls le H H' → HarAt K H' C a ls le (ss ++ [x] ++ [leftS x g]) (log ++ io "leave") → Q .non H'
def spHdredge (K : PySem.W.Frag) (C : Addr) : Sp := fun vs H Q _ => ∃ (a ls le : Addr) (ss : List HS) (x : HS) (log : List (Bool × Str)) (m : Int) (b : Bool), vs = [.ref a, .str (sideS b), .int m] ∧ HarAt K H C a ls le (ss ++ [x]) log ∧ HsOk x ∧ log.length ≤ 100000 ∧ ss.length ≤ 100000 ∧
  ∀ H', ButH ls le H H' → HarAt K H' C a ls le (ss ++ [x] ++ [dredS x b m]) (log ++ io "dredge") → Q .non H'
def spHcross (K : PySem.W.Frag) (C M : Addr) : Sp := fun vs H Q E => ∃ (a ls le : Addr) (ss : List HS) (x : HS) (log : List (Bool × Str)) (i : Nat), vs = [.ref a, .int (i : Int)] ∧ HarAt K H C a ls le (ss ++ [x]) log ∧ HsOk x ∧ i < x.ds.length ∧ log.length ≤ 100000 ∧ ss.length ≤ 100000 ∧
  (mayB x.h x.t x.ds x.L i = true → ∀ H', ButH ls le H H' → HarAt K H' C a ls le (ss ++ [x] ++ [sailS x (gone x.L i) 1]) (log ++ io "cross") → Q .non H') ∧
  (mayB x.h x.t x.ds x.L i = false → ∀ (H' : Hp) (d : Addr), H d = none → H' d = some (.xd [("ship", .int (i : Int))]) → ButH ls le H H' → HarAt K H' C a ls le (ss ++ [x]) (log ++ io "cross") → E (.ref M) (some d) H')
def spHsail (K : PySem.W.Frag) (C M : Addr) : Sp := fun vs H Q E => ∃ (a ls le : Addr) (ss : List HS) (x : HS) (log : List (Bool × Str)) (r : V) (row : List Nat), vs = [.ref a, r] ∧ HarAt K H C a ls le (ss ++ [x]) log ∧ HsOk x ∧ (∃ pr, r = .ref pr ∧ SqA K H pr (ni row) ∧ pr ≠ ls ∧ pr ≠ le) ∧ row.length ≤ 1000 ∧ (∀ i ∈ row, i < x.ds.length) ∧ log.length ≤ 100000 ∧ ss.length ≤ 100000 ∧
  ((goesX x.h x.t x.ds x.L row).2 = none → ∀ H', ButH ls le H H' → HarAt K H' C a ls le (ss ++ [x] ++ [sailS x (goesX x.h x.t x.ds x.L row).1 row.length]) (log ++ io "sail") → Q .non H') ∧
  (∀ i, (goesX x.h x.t x.ds x.L row).2 = some i → ∀ (H' : Hp) (d : Addr), H d = none → H' d = some (.xd [("ship", .int (i : Int))]) → ButH ls le H H' → HarAt K H' C a ls le (ss ++ [x]) (log ++ io "sail") → E (.ref M) (some d) H')

theorem sqA_butH {K : PySem.W.Frag} {H H' : Hp} {ls le p : Addr} {xs sts ens : List V} (hs : H ls = some (.lst sts)) (he : H le = some (.lst ens)) (u : ButH ls le H H') (q : SqA K H p xs) (n1 : p ≠ ls) (n2 : p ≠ le) : SqA K H' p xs := by
  rcases q with (q | q) | q
  · refine .inl (.inl ?_)
    rcases q with q | ⟨z, q⟩
    · exact .inl (u p _ n1 n2 q)
    · exact .inr ⟨z, u p _ n1 n2 q⟩
  · exact .inl (.inr q)
  · exact .inr (lst_tup hs he u q)
theorem hdn {H H1 H2 : Hp} {ls le d : Addr} {sts ens : List V} (hs : H1 ls = some (.lst sts)) (he : H1 le = some (.lst ens)) (s : Same H1 H2) (n : H2 d = none) (u : ButH ls le H H1) : H d = none := by
  cases e : H d with
  | none => rfl
  | some o =>
    by_cases z1 : d = ls
    · rw [z1, s _ _ hs] at n
      cases n
    by_cases z2 : d = le
    · rw [z2, s _ _ he] at n
      cases n
    rw [s _ _ (u d o z1 z2 e)] at n
    cases n
section
variable {P : Program} {w : World} {K : PySem.W.Frag} {mg : Str → Option Value} {base : Heap} {C M : Addr}
theorem ok_hdredge {k : Nat} (D : Md K C "dredge" "Harbour.dredge" s_Harbour_dredge) (T : Bt mg) (hC : Hc K mg C) (O_dredged : Ok P w K mg base k "dredged" s_dredged ["state", "side", "more"] (spDredged K)) : MOk P w K mg base (k + 1) C "dredge" "Harbour.dredge" s_Harbour_dredge ["self", "side", "more"] (spHdredge K C) := by
  refine D.ok sc_Harbour_dredge b_Harbour_dredge (fun vs H Q E h => ?_) (fun f cdv A outer s H vs Q E hr h => ?_)
  · obtain ⟨a, ls, le, ss, x, log, m, b, rfl, _⟩ := h
    rfl
  · obtain ⟨a, ls, le, ss, x, log, m, b, rfl, ⟨dx, sts, ens, hx⟩, ok, lg, sg, q⟩ := h
    refine ⟨_, (pss_cons (ps_expr (pe_bm PySem.F.plainAttrs_list PySem.F.slot_list_append PySem.F.type_list_append mt_append (pe_fld (pv 0) (by rfl)) (pa_cons (pe_tup (pa_cons pe_str (pa_cons pe_str pa_nil))) pa_nil)))
      (pss_cons (ps_expr (pe_bm PySem.F.plainAttrs_list PySem.F.slot_list_append PySem.F.type_list_append mt_append (pe_fld (pv 0) (by rfl)) (pa_cons (pe_fn O_dredged (hr.mono (by omega)) (pa_cons (pe_ix ix_lt (pe_fld (pv 0) (by rfl)) (pe_un un_neg pe_int) (fun _ _ => rfl)) (pa_cons (pv 1) (pa_cons (pv 2) pa_nil)))) pa_nil)))
      (pss_one (ps_expr (pe_bm PySem.F.plainAttrs_list PySem.F.slot_list_append PySem.F.type_list_append mt_append (pe_fld (pv 0) (by rfl)) (pa_cons (pe_tup (pa_cons pe_str (pa_cons pe_str pa_nil))) pa_nil)))))), ?_⟩
    refine ⟨_, rfl, a, C, dx, _, _, rfl, hx.ins, hC.cl, hC.nE, rfl, .inl ⟨rfl, _, SqL.of hx.he⟩, (by show 2 ≤ sizeLine; decide), fun e ne => ?_⟩
    obtain ⟨u1, x1⟩ := hx.entry ne true "dredge"
    refine ⟨le, _, .ref e, rfl, rfl, same_new ne _ _ hx.he, Nat.lt_of_le_of_lt (show ens.length ≤ 100000 by rw [Paired.length hx.pe]; exact lg) (by decide), ?_⟩
    rw [show ioS true = "in" from rfl] at u1 x1
    generalize upd (upd H e (.tup [.str "in", .str "dredge"])) le (.lst (ens ++ [.ref e])) = H1 at u1 x1
    obtain ⟨sts', p, sv, lv, rfl, h1, h2, h3, hl⟩ := x1.top
    refine ⟨_, rfl, a, C, dx, _, _, rfl, x1.ins, hC.cl, hC.nS, rfl, .inl ⟨rfl, _, SqL.of x1.hs⟩, _, rfl, a, C, dx, _, _, rfl, x1.ins, hC.cl, hC.nS, rfl, 1, rfl, ls, _, -1, .ref p, rfl, rfl, SqA.l x1.hs, atI_last _ _, _, rfl, _, rfl, .ref p, x, m, b, rfl, ⟨p, sv, lv, rfl, h1, h2, h3⟩, ok.len, fun H2 r s2 hr2 => ?_⟩
    have x2 := x1.same s2
    refine ⟨ls, _, r, rfl, rfl, x2.hs, Nat.lt_of_le_of_lt (show (sts' ++ [V.ref p]).length ≤ 100001 by rw [List.length_append, hl]; simp; omega) (by decide), ?_⟩
    obtain ⟨u3, x3⟩ := x2.state hr2
    generalize upd H2 ls (.lst ((sts' ++ [.ref p]) ++ [r])) = H3 at u3 x3
    refine ⟨_, rfl, a, C, dx, _, _, rfl, x3.ins, hC.cl, hC.nE, rfl, .inl ⟨rfl, _, SqL.of x3.he⟩, (by show 2 ≤ sizeLine; decide), fun e4 ne4 => ?_⟩
    obtain ⟨u4, x4⟩ := x3.entry ne4 false "dredge"
    refine ⟨le, _, .ref e4, rfl, rfl, same_new ne4 _ _ x3.he, Nat.lt_of_le_of_lt (show (ens ++ [V.ref e]).length ≤ 100001 by rw [List.length_append, Paired.length hx.pe]; simp; omega) (by decide), ?_⟩
    rw [show ioS false = "out" from rfl] at u4 x4
    generalize upd (upd H3 e4 (.tup [.str "out", .str "dredge"])) le (.lst ((ens ++ [.ref e]) ++ [.ref e4])) = H4 at u4 x4
    rw [io_app] at x4
    exact q H4 (u1.trans ((ButH.of s2).trans (u3.trans u4))) ⟨dx, _, _, x4⟩
theorem ok_hmoor {k : Nat} (D : Md K C "moor" "Harbour.moor" s_Harbour_moor) (T : Bt mg) (hC : Hc K mg C) (O_moored : Ok P w K mg base k "moored" s_moored ["state", "draught", "side"] (spMoored K)) (O_Harbour___len__ : MOk P w K mg base k C "__len__" "Harbour.__len__" s_Harbour___len__ ["self"] (spHlen K C)) : MOk P w K mg base (k + 2) C "moor" "Harbour.moor" s_Harbour_moor ["self", "draught", "side"] (spHmoor K C) := by
  refine D.ok sc_Harbour_moor b_Harbour_moor (fun vs H Q E h => ?_) (fun f cdv A outer s H vs Q E hr h => ?_)
  · obtain ⟨a, ls, le, ss, x, log, d, b, rfl, _⟩ := h
    rfl
  · obtain ⟨a, ls, le, ss, x, log, d, b, rfl, ⟨dx, sts, ens, hx⟩, ok, l24, lg, sg, q⟩ := h
    refine ⟨_, (pss_cons (ps_expr (pe_bm PySem.F.plainAttrs_list PySem.F.slot_list_append PySem.F.type_list_append mt_append (pe_fld (pv 0) (by rfl)) (pa_cons (pe_tup (pa_cons pe_str (pa_cons pe_str pa_nil))) pa_nil)))
      (pss_one (ps_finR rfl rfl rfl takes_none5
        (fun W pn xe tk po => (ps_expr (pe_bmH K PySem.F.plainAttrs_list PySem.F.slot_list_append PySem.F.type_list_append mt_append (pe_fldK K (pv 0) (by rfl)) (pa_cons (pe_fn O_moored (hr.mono (by omega)) (pa_cons (pe_ix (ix_ltK K) (pe_fldK K (pv 0) (by rfl)) (pe_un un_neg pe_int) (fun _ _ => rfl)) (pa_cons (pv 1) (pa_cons (pv 2) pa_nil)))) pa_nil))))
        (fun W pn xe tk po => (pe_op op_sub (pe_callB (call_lenO O_Harbour___len__ (hr.mono (by omega))) (by rfl) T.len_ (by decide +kernel) (pa_cons (pv 0) pa_nil)) pe_int))
        (pss_one (ps_expr (pe_bm PySem.F.plainAttrs_list PySem.F.slot_list_append PySem.F.type_list_append mt_append (pe_fld (pv 0) (by rfl)) (pa_cons (pe_tup (pa_cons pe_str (pa_cons pe_str pa_nil))) pa_nil))))
        (fun a pn => (pss_one (ps_expr (pe_bmH K PySem.F.plainAttrs_list PySem.F.slot_list_append PySem.F.type_list_append mt_append (pe_fldK K (pv 0) (by rfl)) (pa_cons (pe_tup (pa_cons pe_str (pa_cons pe_str pa_nil))) pa_nil)))))))), ?_⟩
    refine ⟨_, rfl, a, C, dx, _, _, rfl, hx.ins, hC.cl, hC.nE, rfl, .inl ⟨rfl, _, SqL.of hx.he⟩, (by show 2 ≤ sizeLine; decide), fun e ne => ?_⟩
    obtain ⟨u1, x1⟩ := hx.entry ne true "moor"
    refine ⟨le, _, .ref e, rfl, rfl, same_new ne _ _ hx.he, Nat.lt_of_le_of_lt (show ens.length ≤ 100000 by rw [Paired.length hx.pe]; exact lg) (by decide), ?_⟩
    rw [show ioS true = "in" from rfl] at u1 x1
    generalize upd (upd H e (.tup [.str "in", .str "moor"])) le (.lst (ens ++ [.ref e])) = H1 at u1 x1
    obtain ⟨sts', p, sv, lv, rfl, h1, h2, h3, hl⟩ := x1.top
    refine ⟨_, rfl, a, C, dx, _, _, rfl, x1.ins, hC.cl, hC.nS, rfl, .inl ⟨rfl, _, SqL.of x1.hs⟩, _, rfl, a, C, dx, _, _, rfl, x1.ins, hC.cl, hC.nS, rfl, 1, rfl, ls, _, -1, .ref p, rfl, rfl, SqA.l x1.hs, atI_last _ _, _, rfl, _, rfl, .ref p, x, d, b, rfl, ⟨p, sv, lv, rfl, h1, h2, h3⟩, l24, Nat.le_trans ok.lot.len ok.len, fun H2 r s2 hr2 => ?_⟩
    have x2 := x1.same s2
    refine ⟨ls, _, r, rfl, rfl, x2.hs, Nat.lt_of_le_of_lt (show (sts' ++ [V.ref p]).length ≤ 100001 by rw [List.length_append, hl]; simp; omega) (by decide), ?_⟩
    obtain ⟨u3, x3⟩ := x2.state hr2
    generalize upd H2 ls (.lst ((sts' ++ [.ref p]) ++ [r])) = H3 at u3 x3
    refine ⟨_, rfl, a, dx, _, rfl, x3.ins, a, ls, le, ss ++ [x], moorS x d b, _, rfl, ⟨dx, _, _, x3⟩, (moorS x d b).ds.length, rfl, ?_, _, 1, rfl, rfl, ?_⟩
    · show (x.ds ++ [d]).length ≤ 1000000
      rw [List.length_append, List.length_singleton]
      omega
    refine ⟨_, rfl, a, C, dx, _, _, rfl, x3.ins, hC.cl, hC.nE, rfl, .inl ⟨rfl, _, SqL.of x3.he⟩, (by show 2 ≤ sizeLine; decide), fun e4 ne4 => ?_⟩
    obtain ⟨u4, x4⟩ := x3.entry ne4 false "moor"
    refine ⟨le, _, .ref e4, rfl, rfl, same_new ne4 _ _ x3.he, Nat.lt_of_le_of_lt (show (ens ++ [V.ref e]).length ≤ 100001 by rw [List.length_append, Paired.length hx.pe]; simp; omega) (by decide), ?_⟩
    rw [show ioS false = "out" from rfl] at u4 x4
    generalize upd (upd H3 e4 (.tup [.str "out", .str "moor"])) le (.lst ((ens ++ [.ref e]) ++ [.ref e4])) = H4 at u4 x4
    rw [io_app] at x4
    have qq := q H4 (u1.trans ((ButH.of s2).trans (u3.trans u4))) ⟨dx, _, _, x4⟩
    show Q (.int ((((moorS x d b).ds.length : Nat) : Int) - 1)) H4
    rw [show (((moorS x d b).ds.length : Nat) : Int) - 1 = (x.ds.length : Int) by show ((((x.ds ++ [d]).length : Nat) : Int) - 1) = _; rw [List.length_append, List.length_singleton]; omega]
    exact qq
theorem ok_hleave {k : Nat} (D : Md K C "leave" "Harbour.leave" s_Harbour_leave) (T : Bt mg) (hC : Hc K mg C) (O_left_by : Ok P w K mg base k "left_by" s_left_by ["state", "ship"] (spLeft K)) : MOk P w K mg base (k + 1) C "leave" "Harbour.leave" s_Harbour_leave ["self", "ship"] (spHleave K C) := by
  refine D.ok sc_Harbour_leave b_Harbour_leave (fun vs H Q E h => ?_) (fun f cdv A outer s H vs Q E hr h => ?_)
  · obtain ⟨a, ls, le, ss, x, log, g, rfl, _⟩ := h
    rfl
  · obtain ⟨a, ls, le, ss, x, log, g, rfl, ⟨dx, sts, ens, hx⟩, ok, hg, lg, sg, q⟩ := h
    refine ⟨_, (pss_cons (ps_expr (pe_bm PySem.F.plainAttrs_list PySem.F.slot_list_append PySem.F.type_list_append mt_append (pe_fld (pv 0) (by rfl)) (pa_cons (pe_tup (pa_cons pe_str (pa_cons pe_str pa_nil))) pa_nil)))
      (pss_one (ps_fin1 rfl rfl rfl takes_none5
        (fun W pn xe tk po => (ps_expr (pe_bmH K PySem.F.plainAttrs_list PySem.F.slot_list_append PySem.F.type_list_append mt_append (pe_fldK K (pv 0) (by rfl)) (pa_cons (pe_fn O_left_by (hr.mono (by omega)) (pa_cons (pe_ix (ix_ltK K) (pe_fldK K (pv 0) (by rfl)) (pe_un un_neg pe_int) (fun _ _ => rfl)) (pa_cons (pv 1) pa_nil))) pa_nil))))
        (pss_one (ps_expr (pe_bm PySem.F.plainAttrs_list PySem.F.slot_list_append PySem.F.type_list_append mt_append (pe_fld (pv 0) (by rfl)) (pa_cons (pe_tup (pa_cons pe_str (pa_cons pe_str pa_nil))) pa_nil))))
        (fun a pn => (pss_one (ps_expr (pe_bmH K PySem.F.plainAttrs_list PySem.F.slot_list_append PySem.F.type_list_append mt_append (pe_fldK K (pv 0) (by rfl)) (pa_cons (pe_tup (pa_cons pe_str (pa_cons pe_str pa_nil))) pa_nil)))))))), ?_⟩
    refine ⟨_, rfl, a, C, dx, _, _, rfl, hx.ins, hC.cl, hC.nE, rfl, .inl ⟨rfl, _, SqL.of hx.he⟩, (by show 2 ≤ sizeLine; decide), fun e ne => ?_⟩
    obtain ⟨u1, x1⟩ := hx.entry ne true "leave"
    refine ⟨le, _, .ref e, rfl, rfl, same_new ne _ _ hx.he, Nat.lt_of_le_of_lt (show ens.length ≤ 100000 by rw [Paired.length hx.pe]; exact lg) (by decide), ?_⟩
    rw [show ioS true = "in" from rfl] at u1 x1
    generalize upd (upd H e (.tup [.str "in", .str "leave"])) le (.lst (ens ++ [.ref e])) = H1 at u1 x1
    obtain ⟨sts', p, sv, lv, rfl, h1, h2, h3, hl⟩ := x1.top
    refine ⟨_, rfl, a, C, dx, _, _, rfl, x1.ins, hC.cl, hC.nS, rfl, .inl ⟨rfl, _, SqL.of x1.hs⟩, _, rfl, a, C, dx, _, _, rfl, x1.ins, hC.cl, hC.nS, rfl, 1, rfl, ls, _, -1, .ref p, rfl, rfl, SqA.l x1.hs, atI_last _ _, _, rfl, .ref p, x, g, rfl, ⟨p, sv, lv, rfl, h1, h2, h3⟩, ok, hg, fun H2 r s2 hr2 => ?_⟩
    have x2 := x1.same s2
    refine ⟨ls, _, r, rfl, rfl, x2.hs, Nat.lt_of_le_of_lt (show (sts' ++ [V.ref p]).length ≤ 100001 by rw [List.length_append, hl]; simp; omega) (by decide), ?_⟩
    obtain ⟨u3, x3⟩ := x2.state hr2
    generalize upd H2 ls (.lst ((sts' ++ [.ref p]) ++ [r])) = H3 at u3 x3
    refine ⟨_, rfl, a, C, dx, _, _, rfl, x3.ins, hC.cl, hC.nE, rfl, .inl ⟨rfl, _, SqL.of x3.he⟩, (by show 2 ≤ sizeLine; decide), fun e4 ne4 => ?_⟩
    obtain ⟨u4, x4⟩ := x3.entry ne4 false "leave"
    refine ⟨le, _, .ref e4, rfl, rfl, same_new ne4 _ _ x3.he, Nat.lt_of_le_of_lt (show (ens ++ [V.ref e]).length ≤ 100001 by rw [List.length_append, Paired.length hx.pe]; simp; omega) (by decide), ?_⟩
    rw [show ioS false = "out" from rfl] at u4 x4
    generalize upd (upd H3 e4 (.tup [.str "out", .str "leave"])) le (.lst ((ens ++ [.ref e]) ++ [.ref e4])) = H4 at u4 x4
    rw [io_app] at x4
    exact q H4 (u1.trans ((ButH.of s2).trans (u3.trans u4))) ⟨dx, _, _, x4⟩
theorem ok_hcross {k : Nat} (D : Md K C "cross" "Harbour.cross" s_Harbour_cross) (T : Bt mg) (hC : Hc K mg C) (O_sailed : OkX P w K mg base k "sailed" s_sailed ["state", "row"] (spSailed K M)) : MOkX P w K mg base (k + 1) C "cross" "Harbour.cross" s_Harbour_cross ["self", "ship"] (spHcross K C M) := by
  refine D.okX sc_Harbour_cross b_Harbour_cross (fun vs H Q E h => ?_) (fun f cdv A outer s H vs Q E hr h => ?_)
  · obtain ⟨a, ls, le, ss, x, log, i, rfl, _⟩ := h
    rfl
  · obtain ⟨a, ls, le, ss, x, log, i, rfl, ⟨dx, sts, ens, hx⟩, ok, hi, lg, sg, q, qx⟩ := h
    refine ⟨_, (pss_cons (ps_expr (pe_bm PySem.F.plainAttrs_list PySem.F.slot_list_append PySem.F.type_list_append mt_append (pe_fld (pv 0) (by rfl)) (pa_cons (pe_tup (pa_cons pe_str (pa_cons pe_str pa_nil))) pa_nil)))
      (pss_one (ps_fin1 rfl rfl rfl (takes_of rfl rfl rfl rfl)
        (fun W pn xe tk po => (ps_expr (pe_bmH K PySem.F.plainAttrs_list PySem.F.slot_list_append PySem.F.type_list_append mt_append (pe_fldK K (pv 0) (by rfl)) (pa_cons (pe_fnX O_sailed (hr.mono (by omega)) tk (pa_cons (pe_ix (ix_ltK K) (pe_fldK K (pv 0) (by rfl)) (pe_un un_neg pe_int) (fun _ _ => rfl)) (pa_cons (pe_lst (pa_cons (pv 1) pa_nil)) pa_nil))) pa_nil))))
        (pss_one (ps_expr (pe_bm PySem.F.plainAttrs_list PySem.F.slot_list_append PySem.F.type_list_append mt_append (pe_fld (pv 0) (by rfl)) (pa_cons (pe_tup (pa_cons pe_str (pa_cons pe_str pa_nil))) pa_nil))))
        (fun a pn => (pss_one (ps_expr (pe_bmH K PySem.F.plainAttrs_list PySem.F.slot_list_append PySem.F.type_list_append mt_append (pe_fldK K (pv 0) (by rfl)) (pa_cons (pe_tup (pa_cons pe_str (pa_cons pe_str pa_nil))) pa_nil)))))))), ?_⟩
    refine ⟨_, rfl, a, C, dx, _, _, rfl, hx.ins, hC.cl, hC.nE, rfl, .inl ⟨rfl, _, SqL.of hx.he⟩, (by show 2 ≤ sizeLine; decide), fun e ne => ?_⟩
    obtain ⟨u1, x1⟩ := hx.entry ne true "cross"
    refine ⟨le, _, .ref e, rfl, rfl, same_new ne _ _ hx.he, Nat.lt_of_le_of_lt (show ens.length ≤ 100000 by rw [Paired.length hx.pe]; exact lg) (by decide), ?_⟩
    rw [show ioS true = "in" from rfl] at u1 x1
    generalize upd (upd H e (.tup [.str "in", .str "cross"])) le (.lst (ens ++ [.ref e])) = H1 at u1 x1
    obtain ⟨sts', p, sv, lv, rfl, h1, h2, h3, hl⟩ := x1.top
    refine ⟨_, rfl, a, C, dx, _, _, rfl, x1.ins, hC.cl, hC.nS, rfl, .inl ⟨rfl, _, SqL.of x1.hs⟩, _, rfl, a, C, dx, _, _, rfl, x1.ins, hC.cl, hC.nS, rfl, 1, rfl, ls, _, -1, .ref p, rfl, rfl, SqA.l x1.hs, atI_last _ _, _, rfl, (by show 1 ≤ sizeLine; decide), fun li nli => ?_⟩
    have sI : Same H1 (upd H1 li (.lst [.int (i : Int)])) := same_new nli
    have eI : upd H1 li (.lst [.int (i : Int)]) li = some (.lst (ni [i])) := upd_same
    generalize upd H1 li (.lst [.int (i : Int)]) = HI at sI eI
    replace x1 := x1.same sI
    replace u1 := u1.trans (ButH.of sI)
    have hp : StAt K HI (.ref p) x := StAt.same ⟨p, sv, lv, rfl, h1, h2, h3⟩ sI
    refine ⟨.ref p, .ref li, x, [i], rfl, hp, ok, ⟨li, rfl, SqA.l eI⟩, by show 1 ≤ 1000; decide, fun j hj => by rw [List.mem_singleton.mp hj]; exact hi, fun c H2 r s2 hr2 => ?_, fun j ej H2 d s2 nd => ?_⟩
    · have my : mayB x.h x.t x.ds x.L i = true := by
        rw [goesX_cons] at c
        by_cases z : i < x.ds.length ∧ mayB x.h x.t x.ds x.L i = true
        · exact z.2
        · rw [if_neg z] at c
          cases c
      have eg : (goesX x.h x.t x.ds x.L [i]).1 = gone x.L i := by
        rw [goesX_cons, if_pos ⟨hi, my⟩]
        rfl
      rw [eg] at hr2
      have x2 := x1.same s2
      refine ⟨ls, _, r, rfl, rfl, x2.hs, Nat.lt_of_le_of_lt (show (sts' ++ [V.ref p]).length ≤ 100001 by rw [List.length_append, hl]; simp; omega) (by decide), ?_⟩
      obtain ⟨u3, x3⟩ := x2.state hr2
      generalize upd H2 ls (.lst ((sts' ++ [.ref p]) ++ [r])) = H3 at u3 x3
      refine ⟨_, rfl, a, C, dx, _, _, rfl, x3.ins, hC.cl, hC.nE, rfl, .inl ⟨rfl, _, SqL.of x3.he⟩, (by show 2 ≤ sizeLine; decide), fun e4 ne4 => ?_⟩
      obtain ⟨u4, x4⟩ := x3.entry ne4 false "cross"
      refine ⟨le, _, .ref e4, rfl, rfl, same_new ne4 _ _ x3.he, Nat.lt_of_le_of_lt (show (ens ++ [V.ref e]).length ≤ 100001 by rw [List.length_append, Paired.length hx.pe]; simp; omega) (by decide), ?_⟩
      rw [show ioS false = "out" from rfl] at u4 x4
      generalize upd (upd H3 e4 (.tup [.str "out", .str "cross"])) le (.lst ((ens ++ [.ref e]) ++ [.ref e4])) = H4 at u4 x4
      rw [io_app] at x4
      exact q my H4 (u1.trans ((ButH.of s2).trans (u3.trans u4))) ⟨dx, _, _, x4⟩
    · have my : mayB x.h x.t x.ds x.L i = false ∧ i = j := by
        rw [goesX_cons] at ej
        by_cases z : i < x.ds.length ∧ mayB x.h x.t x.ds x.L i = true
        · rw [if_pos z] at ej
          cases ej
        · rw [if_neg z] at ej
          refine ⟨?_, Option.some.inj ej⟩
          cases c : mayB x.h x.t x.ds x.L i with
          | true => exact absurd ⟨hi, c⟩ z
          | false => rfl
      obtain ⟨my, rfl⟩ := my
      have sd : Same HI (upd H2 d (.xd [("ship", .int (i : Int))])) := s2.trans (same_new nd)
      have ed : upd H2 d (.xd [("ship", .int (i : Int))]) d = some (.xd [("ship", .int (i : Int))]) := upd_same
      have nd0 : H d = none := hdn x1.hs x1.he s2 nd u1
      generalize upd H2 d (.xd [("ship", .int (i : Int))]) = H3 at sd ed
      have x3 := x1.same sd
      refine ⟨_, rfl, a, C, dx, _, _, rfl, x3.ins, hC.cl, hC.nE, rfl, .inl ⟨rfl, _, SqL.of x3.he⟩, (by show 2 ≤ sizeLine; decide), fun e4 ne4 => ?_⟩
      obtain ⟨u4, x4⟩ := x3.entry ne4 false "cross"
      refine ⟨le, _, .ref e4, rfl, rfl, same_new ne4 _ _ x3.he, Nat.lt_of_le_of_lt (show (ens ++ [V.ref e]).length ≤ 100001 by rw [List.length_append, Paired.length hx.pe]; simp; omega) (by decide), ?_⟩
      rw [show ioS false = "out" from rfl] at u4 x4
      generalize upd (upd H3 e4 (.tup [.str "out", .str "cross"])) le (.lst ((ens ++ [.ref e]) ++ [.ref e4])) = H4 at u4 x4
      rw [io_app] at x4
      exact qx my H4 d nd0 (u4 d _ (at_ne x3.hs ed (by intro z; cases z)) (at_ne x3.he ed (by intro z; cases z)) ed) (u1.trans ((ButH.of sd).trans u4)) ⟨dx, _, _, x4⟩
theorem ok_hsail {k : Nat} (D : Md K C "sail" "Harbour.sail" s_Harbour_sail) (T : Bt mg) (hC : Hc K mg C) (O_sailed : OkX P w K mg base k "sailed" s_sailed ["state", "row"] (spSailed K M)) : MOkX P w K mg base (k + 1) C "sail" "Harbour.sail" s_Harbour_sail ["self", "row"] (spHsail K C M) := by
  refine D.okX sc_Harbour_sail b_Harbour_sail (fun vs H Q E h => ?_) (fun f cdv A outer s H vs Q E hr h => ?_)
  · obtain ⟨a, ls, le, ss, x, log, r, row, rfl, _⟩ := h
    rfl
  · obtain ⟨a, ls, le, ss, x, log, r, row, rfl, ⟨dx, sts, ens, hx⟩, ok, ⟨pr, rfl, hr', n1, n2⟩, r1, rin, lg, sg, q, qx⟩ := h
    refine ⟨_, (pss_cons (ps_expr (pe_bm PySem.F.plainAttrs_list PySem.F.slot_list_append PySem.F.type_list_append mt_append (pe_fld (pv 0) (by rfl)) (pa_cons (pe_tup (pa_cons pe_str (pa_cons pe_str pa_nil))) pa_nil)))
      (pss_one (ps_fin1 rfl rfl rfl (takes_of rfl rfl rfl rfl)
        (fun W pn xe tk po => (ps_expr (pe_bmH K PySem.F.plainAttrs_list PySem.F.slot_list_append PySem.F.type_list_append mt_append (pe_fldK K (pv 0) (by rfl)) (pa_cons (pe_fnX O_sailed (hr.mono (by omega)) tk (pa_cons (pe_ix (ix_ltK K) (pe_fldK K (pv 0) (by rfl)) (pe_un un_neg pe_int) (fun _ _ => rfl)) (pa_cons (pv 1) pa_nil))) pa_nil))))
        (pss_one (ps_expr (pe_bm PySem.F.plainAttrs_list PySem.F.slot_list_append PySem.F.type_list_append mt_append (pe_fld (pv 0) (by rfl)) (pa_cons (pe_tup (pa_cons pe_str (pa_cons pe_str pa_nil))) pa_nil))))
        (fun a pn => (pss_one (ps_expr (pe_bmH K PySem.F.plainAttrs_list PySem.F.slot_list_append PySem.F.type_list_append mt_append (pe_fldK K (pv 0) (by rfl)) (pa_cons (pe_tup (pa_cons pe_str (pa_cons pe_str pa_nil))) pa_nil)))))))), ?_⟩
    refine ⟨_, rfl, a, C, dx, _, _, rfl, hx.ins, hC.cl, hC.nE, rfl, .inl ⟨rfl, _, SqL.of hx.he⟩, (by show 2 ≤ sizeLine; decide), fun e ne => ?_⟩
    obtain ⟨u1, x1⟩ := hx.entry ne true "sail"
    refine ⟨le, _, .ref e, rfl, rfl, same_new ne _ _ hx.he, Nat.lt_of_le_of_lt (show ens.length ≤ 100000 by rw [Paired.length hx.pe]; exact lg) (by decide), ?_⟩
    rw [show ioS true = "in" from rfl] at u1 x1
    generalize upd (upd H e (.tup [.str "in", .str "sail"])) le (.lst (ens ++ [.ref e])) = H1 at u1 x1
    obtain ⟨sts', p, sv, lv, rfl, h1, h2, h3, hl⟩ := x1.top
    refine ⟨_, rfl, a, C, dx, _, _, rfl, x1.ins, hC.cl, hC.nS, rfl, .inl ⟨rfl, _, SqL.of x1.hs⟩, _, rfl, a, C, dx, _, _, rfl, x1.ins, hC.cl, hC.nS, rfl, 1, rfl, ls, _, -1, .ref p, rfl, rfl, SqA.l x1.hs, atI_last _ _, _, rfl, .ref p, .ref pr, x, row, rfl, ⟨p, sv, lv, rfl, h1, h2, h3⟩, ok, ⟨pr, rfl, sqA_butH hx.hs hx.he u1 hr' n1 n2⟩, r1, rin, fun c H2 r s2 hr2 => ?_, fun j ej H2 d s2 nd => ?_⟩
    · have x2 := x1.same s2
      refine ⟨ls, _, r, rfl, rfl, x2.hs, Nat.lt_of_le_of_lt (show (sts' ++ [V.ref p]).length ≤ 100001 by rw [List.length_append, hl]; simp; omega) (by decide), ?_⟩
      obtain ⟨u3, x3⟩ := x2.state hr2
      generalize upd H2 ls (.lst ((sts' ++ [.ref p]) ++ [r])) = H3 at u3 x3
      refine ⟨_, rfl, a, C, dx, _, _, rfl, x3.ins, hC.cl, hC.nE, rfl, .inl ⟨rfl, _, SqL.of x3.he⟩, (by show 2 ≤ sizeLine; decide), fun e4 ne4 => ?_⟩
      obtain ⟨u4, x4⟩ := x3.entry ne4 false "sail"
      refine ⟨le, _, .ref e4, rfl, rfl, same_new ne4 _ _ x3.he, Nat.lt_of_le_of_lt (show (ens ++ [V.ref e]).length ≤ 100001 by rw [List.length_append, Paired.length hx.pe]; simp; omega) (by decide), ?_⟩
      rw [show ioS false = "out" from rfl] at u4 x4
      generalize upd (upd H3 e4 (.tup [.str "out", .str "sail"])) le (.lst ((ens ++ [.ref e]) ++ [.ref e4])) = H4 at u4 x4
      rw [io_app] at x4
      exact q c H4 (u1.trans ((ButH.of s2).trans (u3.trans u4))) ⟨dx, _, _, x4⟩
    · have sd : Same H1 (upd H2 d (.xd [("ship", .int (j : Int))])) := s2.trans (same_new nd)
      have ed : upd H2 d (.xd [("ship", .int (j : Int))]) d = some (.xd [("ship", .int (j : Int))]) := upd_same
      have nd0 : H d = none := hdn x1.hs x1.he s2 nd u1
      generalize upd H2 d (.xd [("ship", .int (j : Int))]) = H3 at sd ed
      have x3 := x1.same sd
      refine ⟨_, rfl, a, C, dx, _, _, rfl, x3.ins, hC.cl, hC.nE, rfl, .inl ⟨rfl, _, SqL.of x3.he⟩, (by show 2 ≤ sizeLine; decide), fun e4 ne4 => ?_⟩
      obtain ⟨u4, x4⟩ := x3.entry ne4 false "sail"
      refine ⟨le, _, .ref e4, rfl, rfl, same_new ne4 _ _ x3.he, Nat.lt_of_le_of_lt (show (ens ++ [V.ref e]).length ≤ 100001 by rw [List.length_append, Paired.length hx.pe]; simp; omega) (by decide), ?_⟩
      rw [show ioS false = "out" from rfl] at u4 x4
      generalize upd (upd H3 e4 (.tup [.str "out", .str "sail"])) le (.lst ((ens ++ [.ref e]) ++ [.ref e4])) = H4 at u4 x4
      rw [io_app] at x4
      exact qx j ej H4 d nd0 (u4 d _ (at_ne x3.hs ed (by intro z; cases z)) (at_ne x3.he ed (by intro z; cases z)) ed) (u1.trans ((ButH.of sd).trans u4)) ⟨dx, _, _, x4⟩
end
end Sh

namespace Sh
open PySem PySem.Spec PyProof.Rows L2
/-! ### a harbour is made -/
def new0 (h t : Int) : HS := ⟨h, t, [], [], 0⟩
theorem new_ok (h t : Int) : HsOk (new0 h t) := ⟨Nat.zero_le _, Lot.nil _⟩
def spHinit (K : PySem.W.Frag) (C : Addr) : Sp := fun vs H Q _ => ∃ (a dx : Addr) (h t : Int), vs = [.ref a, .int h, .int t] ∧ H a = some (.ins C dx []) ∧
  ∀ (H' : Hp) (ls le : Addr), (∀ b o, b ≠ a → H b = some o → H' b = some o) → H ls = none → H le = none → HarAt K H' C a ls le [new0 h t] [] → Q .non H'
theorem StAt.ins {K : PySem.W.Frag} {H : Hp} {v : V} {s : HS} {a C dx : Addr} {fs gs : List (Str × V)} (x : StAt K H v s) (ha : H a = some (.ins C dx fs)) : StAt K (upd H a (.ins C dx gs)) v s := by
  have tp : ∀ {p : Addr} {xs : List V}, SqT K H p xs → SqT K (upd H a (.ins C dx gs)) p xs := fun {p xs} q => by
    have ne : ∀ {o : HO}, H p = some o → (∀ C d f, o ≠ .ins C d f) → upd H a (.ins C dx gs) p = some o := fun {o} h n => (upd_ne (fun z => by rw [z, ha] at h; exact n _ _ _ (Option.some.inj h).symm)).trans h
    rcases q with (q | ⟨z, q⟩) | q
    · exact .inl (.inl (ne q fun _ _ _ z => by cases z))
    · exact .inl (.inr ⟨z, ne q fun _ _ _ z => by cases z⟩)
    · exact .inr q
  obtain ⟨p, sv, lv, e, b, ⟨p1, q1, e1, b1, c1⟩, ⟨p2, e2, b2⟩⟩ := x
  exact ⟨p, sv, lv, e, tp b, ⟨p1, q1, e1, tp b1, tp c1⟩, ⟨p2, e2, tp b2⟩⟩
section
variable {P : Program} {w : World} {K : PySem.W.Frag} {mg : Str → Option Value} {base : Heap} {C : Addr}
/-- a harbour may be made -/
structure HMk (P : Program) (w : World) (K : PySem.W.Frag) (mg : Str → Option Value) (base : Heap) (k : Nat) (C : Addr) : Prop where
  ex : ∃ (f : Addr) (fd : FuncData), Mk K C f ∧ Fun K "__init__" "Harbour.__init__" s_Harbour___init__ f fd ∧ Binds K fd ["self", "here", "there"] [] ∧ FnOk P w K mg base CX0 k f fd ["self", "here", "there"] (spHinit K C)
theorem HMk.mono {j k : Nat} (O : HMk P w K mg base j C) (h : j ≤ k) : HMk P w K mg base k C := by
  obtain ⟨f, fd, M, F, b, G⟩ := O.ex
  exact ⟨f, fd, M, F, b, G.mono h⟩
structure Hini (K : PySem.W.Frag) (C : Addr) : Prop where
  ex : ∃ (f : Addr) (fd : FuncData), Mk K C f ∧ Fun K "__init__" "Harbour.__init__" s_Harbour___init__ f fd
theorem ok_hmk {k : Nat} (D : Hini K C) (T : Bt mg) (hC : Hc K mg C) : HMk P w K mg base (k + 1) C := by
  obtain ⟨f, fd, M, F⟩ := D.ex
  refine ⟨f, fd, M, F, F.binds b_Harbour___init__, F.ok sc_Harbour___init__ (fun vs H Q E h => ?_) (fun cdv A outer s H vs Q E hr h => ?_)⟩
  · obtain ⟨a, dx, h, t, rfl, _⟩ := h
    rfl
  · obtain ⟨a, dx, h, t, rfl, ha, q⟩ := h
    refine ⟨_, (pss_cons (ps_fld (pv 0) (pe_lst (pa_cons (pe_tup (pa_cons (pe_tup (pa_cons (pv 1) (pa_cons (pv 2) (pa_cons (pe_tup pa_nil) pa_nil)))) (pa_cons (pe_tup pa_nil) (pa_cons pe_int pa_nil)))) pa_nil)) (by rfl))
      (pss_one (ps_fld (pv 0) (pe_lst pa_nil) (by rfl)))), ?_⟩
    refine ⟨_, rfl, _, rfl, Nat.zero_le _, fun t1 n1 => ?_⟩
    have s1 : Same H (upd H t1 (.tup [])) := same_new n1
    have e1 : upd H t1 (.tup []) t1 = some (.tup (([] : List Int).map V.int)) := upd_same
    generalize upd H t1 (.tup []) = H1 at s1 e1
    refine ⟨(by show 3 ≤ sizeLine; decide), fun t2 n2 => ?_⟩
    have s2 : Same H1 (upd H1 t2 (.tup [.int h, .int t, .ref t1])) := same_new n2
    have e2 : upd H1 t2 (.tup [.int h, .int t, .ref t1]) t2 = some (.tup [.int h, .int t, .ref t1]) := upd_same
    replace e1 := s2 _ _ e1
    generalize upd H1 t2 (.tup [.int h, .int t, .ref t1]) = H2 at s2 e2 e1
    refine ⟨Nat.zero_le _, fun t3 n3 => ?_⟩
    have s3 : Same H2 (upd H2 t3 (.tup [])) := same_new n3
    have e3 : upd H2 t3 (.tup []) t3 = some (.tup (ni [])) := upd_same
    replace e1 := s3 _ _ e1
    replace e2 := s3 _ _ e2
    generalize upd H2 t3 (.tup []) = H3 at s3 e3 e2 e1
    refine ⟨(by show 3 ≤ sizeLine; decide), fun t4 n4 => ?_⟩
    have s4 : Same H3 (upd H3 t4 (.tup [.ref t2, .ref t3, .int 0])) := same_new n4
    have e4 : upd H3 t4 (.tup [.ref t2, .ref t3, .int 0]) t4 = some (.tup [.ref t2, .ref t3, .int ((0 : Nat) : Int)]) := upd_same
    replace e1 := s4 _ _ e1
    replace e2 := s4 _ _ e2
    replace e3 := s4 _ _ e3
    generalize upd H3 t4 (.tup [.ref t2, .ref t3, .int 0]) = H4 at s4 e4 e3 e2 e1
    refine ⟨(by show 1 ≤ sizeLine; decide), fun ls nls => ?_⟩
    have s5 : Same H4 (upd H4 ls (.lst [.ref t4])) := same_new nls
    have e5 : upd H4 ls (.lst [.ref t4]) ls = some (.lst [.ref t4]) := upd_same
    have st : StAt K (upd H4 ls (.lst [.ref t4])) (.ref t4) (new0 h t) := ⟨t4, .ref t2, .ref t3, rfl, SqT.of (s5 _ _ e4), ⟨t2, t1, rfl, SqT.of (s5 _ _ e2), SqT.of (s5 _ _ e1)⟩, ⟨t3, rfl, SqT.of (s5 _ _ e3)⟩⟩
    have s15 := s1.trans (s2.trans (s3.trans (s4.trans s5)))
    have nls0 : H ls = none := (s1.trans (s2.trans (s3.trans s4))).free nls
    generalize upd H4 ls (.lst [.ref t4]) = H5 at s5 e5 st s15
    have ha5 := s15 _ _ ha
    refine ⟨_, rfl, a, C, dx, [], rfl, ha5, hC.cl, hC.nS, by decide, ?_⟩
    have e50 : upd H5 a (.ins C dx (putF "states" (.ref ls) [])) = upd H5 a (.ins C dx [("states", .ref ls)]) := rfl
    have nal : ls ≠ a := fun z => by rw [z, ha5] at e5; cases e5
    have st6 : StAt K (upd H5 a (.ins C dx [("states", .ref ls)])) (.ref t4) (new0 h t) := st.ins ha5
    have e6 : upd H5 a (.ins C dx [("states", .ref ls)]) ls = some (.lst [.ref t4]) := (upd_ne nal).trans e5
    have a6 : upd H5 a (.ins C dx [("states", .ref ls)]) a = some (.ins C dx [("states", .ref ls)]) := upd_same
    have k6 : ∀ b o, b ≠ a → H b = some o → upd H5 a (.ins C dx [("states", .ref ls)]) b = some o := fun b o n e => (upd_ne n).trans (s15 b o e)
    rw [e50]
    generalize upd H5 a (.ins C dx [("states", .ref ls)]) = H6 at st6 e6 a6 k6
    refine ⟨Nat.zero_le _, fun le nle => ?_⟩
    have s7 : Same H6 (upd H6 le (.lst [])) := same_new nle
    have e7 : upd H6 le (.lst []) le = some (.lst []) := upd_same
    replace e6 := s7 _ _ e6
    have a7 := s7 _ _ a6
    have nel : le ≠ a := fun z => by rw [z, a6] at nle; cases nle
    have nll : ls ≠ le := fun z => by rw [z] at e6; rw [e7] at e6; cases e6
    have nle0 : H le = none := by
      cases e : H le with
      | none => rfl
      | some o =>
        rw [k6 le o nel e] at nle
        cases nle
    have k7 : ∀ b o, b ≠ a → H b = some o → upd H6 le (.lst []) b = some o := fun b o n e => s7 _ _ (k6 b o n e)
    have st7 := st6.same s7
    generalize upd H6 le (.lst []) = H7 at s7 e7 e6 a7 k7 st7
    refine ⟨_, rfl, a, C, dx, _, rfl, a7, hC.cl, hC.nE, (by show 1 < 1000; decide), ?_⟩
    exact q _ ls le (fun b o n e => (upd_ne n).trans (k7 b o n e)) nls0 nle0 ⟨dx, [.ref t4], [], upd_same, (upd_ne nal).trans e6, (upd_ne nel).trans e7, .cons (st7.ins a7) .nil, .nil, nll⟩
section
variable {X : Cx} {k : Nat} {C : Addr} {e : Expr} {es : List Expr} {kws : List Keyword} {ks : List Str} {t tk : TA} {p pos : Pos}
/-- Harbour(e1, e2) -/
def tHar (K : PySem.W.Frag) (C : Addr) (t : TA) : TE := fun σ H Q => t σ H fun vs H1 => ∃ (h u : Int), vs = [.int h, .int u] ∧ ∀ (H' : Hp) (a ls le : Addr), Same H1 H' → H1 a = none → H1 ls = none → H1 le = none → HarAt K H' C a ls le [new0 h u] [] → Q (.ref a) H'
theorem har_made {K : PySem.W.Frag} {H : Hp} {Q : VK} {h u : Int} (q : ∀ (H' : Hp) (a ls le : Addr), Same H H' → H a = none → H ls = none → H le = none → HarAt K H' C a ls le [new0 h u] [] → Q (.ref a) H') (x dx : Addr) (nx : H x = none) (nd : H dx = none) (ne : dx ≠ x) :
    spHinit K C [.ref x, .int h, .int u] (upd (upd H dx (.own x)) x (.ins C dx [])) (fun v H2 => v = .non ∧ Q (.ref x) H2) E0 := by
  have s1 : Same H (upd H dx (.own x)) := same_new nd
  have nx1 : upd H dx (.own x) x = none := (upd_ne ne.symm).trans nx
  have s2 : Same (upd H dx (.own x)) (upd (upd H dx (.own x)) x (.ins C dx [])) := same_new nx1
  refine ⟨x, dx, h, u, rfl, upd_same, fun H' ls le k nl ne' har => ⟨rfl, q H' x ls le (fun b o e => ?_) nx ?_ ?_ har⟩⟩
  · exact k b o (fun z => by rw [z, nx] at e; cases e) (s2 _ _ (s1 _ _ e))
  · exact (s1.trans s2).free nl
  · exact (s1.trans s2).free ne'
theorem pe_har (O : HMk X.prog X.w X.K X.mg X.base k C) (hC : Hc X.K X.mg C) (hr : Room (k + 1) X.A) (ha : PA X (e :: es) t) (hg : Gl X "Harbour" := by rfl)
    (he : starEach (e :: es) X.env = (false, eval e X.env) :: starEach es X.env := by rfl) (hpl : (backTo pos (starEach es X.env)).any (·.1) = false := by rfl) :
    PE X (.Call (.Name "Harbour" p) (e :: es) [] pos) (tHar X.K C t) := by
  obtain ⟨f, fd, M, F, b, G⟩ := O.ex
  have R := pe_make (p := p) (pos := pos) M G hr hg hC.g b .nil pass0 (PA.cl ha) (by decide) he hpl
  refine ⟨fun pins s σ H Q I q => R.run pins s σ H Q I ⟨_, q, fun vs H1 ⟨h, u, ev, q1⟩ => ?_⟩⟩
  subst ev
  exact fun x dx nx nd ne => har_made q1 x dx nx nd ne
end
end
/-! ### what the written part says of the class -/
section
variable {K : PySem.W.Frag} {mg : Str → Option Value} {R : Prop} {C f : Addr}
theorem with_hc {h : Heap} (X : K.In h) (G : h.Ns mainGlobals mg) (a : PySem.W.nsIn K mainGlobals "Harbour" = some (some (.ref C))) (p : PySem.W.plainGet K C Str.empty = true) (d : PySem.W.hasDictIn K C = true) (o : PySem.W.plainOver K C = true)
    (s : PySem.W.findIn K (.ref C) "__setattr__" = some (some (.builtin "object.__setattr__"))) (n1 : PySem.W.findIn K (.ref C) "states" = some none) (n2 : PySem.W.findIn K (.ref C) "entries" = some none) (r : Hc K mg C → R) : R := r ⟨PySem.W.mg_of X G a, ⟨p, d, o, s⟩, n1, n2⟩
theorem with_hini {oc : Value} {od an : Option Addr} {sl : Array (Option Value)} {kV dc pm cd ct : Value} (_ : Hc K mg C) (m : PySem.W.makesIn K C = true) (i : PySem.W.findIn K (.ref C) "__init__" = some (some (.ref f))) (fn : PySem.W.isFn K (.ref f) = true) (k : PySem.W.keepIn K (.ref C) = true ∧ PySem.W.keepIn K (.ref f) = true)
    (l : K.lookup f = some ⟨oc, od, .func (PySem.W.fnOf "__init__" "Harbour.__init__" (defArgs s_Harbour___init__) (defBody s_Harbour___init__) (defScope s_Harbour___init__) .none kV dc pm an cd ct), sl⟩) (c : PySem.W.codeIn K cd "Harbour.__init__" = true) (r : Hini K C → R) : R := r ⟨f, _, ⟨m, i, fn, k.1⟩, fun_mk l c k.2⟩
theorem with_md {m q : Str} {st : Stmt} {oc : Value} {od an : Option Addr} {sl : Array (Option Value)} {kV dc pm cd ct : Value} (_ : Hc K mg C) (i : PySem.W.findIn K (.ref C) m = some (some (.ref f))) (fn : PySem.W.isFn K (.ref f) = true) (k : PySem.W.keepIn K (.ref f) = true)
    (l : K.lookup f = some ⟨oc, od, .func (PySem.W.fnOf m q (defArgs st) (defBody st) (defScope st) .none kV dc pm an cd ct), sl⟩) (c : PySem.W.codeIn K cd q = true) (r : Md K C m q st → R) : R := r ⟨f, _, ⟨i, fn, k⟩, fun_mk l c k⟩
theorem with_cnm {h : Heap} {t : Tok} (X : K.In h) (G : h.Ns mainGlobals mg) (a : PySem.W.nsIn K mainGlobals "MOST_SHIPS" = some (some (.int 24 t))) (r : CnM mg → R) : R := r ⟨_, PySem.W.mg_of X G a⟩
end
end Sh

namespace Sh
open PySem PySem.Spec PyProof.Rows L2
/-! ### data that can be laid down, so deep -/
def Shp (n : Nat) (d : PyData) : Prop := PyData.canLay0 d = true ∧ PyData.depth d ≤ n
def ShpA (n : Nat) (ds : List PyData) : Prop := PyData.canLayAll0 ds = true ∧ PyData.depthAll ds ≤ n
theorem Shp.int {n : Nat} (i : Int) : Shp n (.int i) := ⟨rfl, Nat.zero_le _⟩
theorem Shp.bl {n : Nat} (b : Bool) : Shp n (.bool b) := ⟨rfl, Nat.zero_le _⟩
theorem Shp.non {n : Nat} : Shp n .none := ⟨rfl, Nat.zero_le _⟩
theorem Shp.str {n : Nat} {x : Str} (h : PyData.canLay0 (.str x) = true) : Shp n (.str x) := ⟨h, Nat.zero_le _⟩
theorem ShpA.nil {n : Nat} : ShpA n [] := ⟨rfl, Nat.zero_le _⟩
theorem ShpA.cons {n : Nat} {d : PyData} {ds : List PyData} (a : Shp n d) (b : ShpA n ds) : ShpA n (d :: ds) := by
  refine ⟨?_, ?_⟩
  · show (PyData.canLay0 d && PyData.canLayAll0 ds) = true
    rw [a.1, b.1]
    rfl
  · show max (PyData.depth d) (PyData.depthAll ds) ≤ n
    exact Nat.max_le.mpr ⟨a.2, b.2⟩
theorem ShpA.ints {n : Nat} : ∀ ns : List Int, ShpA n (ns.map .int)
  | [] => .nil
  | i :: ns => .cons (.int i) (ShpA.ints ns)
theorem Shp.tup {n : Nat} {ds : List PyData} (a : ShpA n ds) : Shp (n + 1) (.tuple ds) := ⟨a.1, Nat.succ_le_succ a.2⟩
theorem Shp.lst {n : Nat} {ds : List PyData} (a : ShpA n ds) : Shp (n + 1) (.list ds) := ⟨a.1, Nat.succ_le_succ a.2⟩
theorem Shp.ok {n : Nat} {d : PyData} (a : Shp n d) (h : n ≤ 64 := by decide) : SeqAt.shaped d = true := by
  unfold SeqAt.shaped
  rw [a.1, decide_eq_true (Nat.le_trans a.2 h)]
  rfl
theorem Shp.eqv {n : Nat} {d : PyData} (a : Shp n d) : PyData.eqv d d = true := PySem.SeqAt.eqv_refl d a.1
/-- a sea, a lot as data -/
def seaV (h t : Int) (ds : List Int) : PyData := .tuple [.int h, .int t, .tuple (ds.map .int)]
def lotV (L : List Nat) : PyData := .tuple ((L.map fun (i : Nat) => (i : Int)).map .int)
theorem Shp.sea (h t : Int) (ds : List Int) : Shp 2 (seaV h t ds) := .tup (.cons (.int _) (.cons (.int _) (.cons (.tup (.ints ds)) .nil)))
theorem Shp.lot (L : List Nat) : Shp 2 (lotV L) := ⟨(Shp.tup (n := 0) (.ints _)).1, Nat.le_trans (Shp.tup (n := 0) (.ints _)).2 (by decide)⟩
end Sh

namespace Sh
open PySem PySem.Spec PyProof.Rows L2
/-! ### refused deeds at the harbour -/
/-- a row of any numbers, gone as far as one may: the first that is refused, and how (true: there's no such ship) -/
def goesZ (h t : Int) (ds : List Int) : List Nat → List Int → Option (Bool × Int)
  | _, [] => none
  | L, z :: r => if 0 ≤ z ∧ z < (ds.length : Int) then (if mayB h t ds L z.toNat = true then goesZ h t ds (gone L z.toNat) r else some (false, z)) else some (true, z)
theorem goesZ_cons {h t : Int} {ds : List Int} {L : List Nat} {z : Int} {r : List Int} : goesZ h t ds L (z :: r) = if 0 ≤ z ∧ z < (ds.length : Int) then (if mayB h t ds L z.toNat = true then goesZ h t ds (gone L z.toNat) r else some (false, z)) else some (true, z) := rfl
def spCheckX (K : PySem.W.Frag) (N : Addr) : Sp := fun vs H Q E => ∃ (v : V) (h t : Int) (ds : List Int) (z : Int), vs = [v, .int z] ∧ SeaA K H v h t ds ∧ okInt (.int z) ∧ ((0 ≤ z ∧ z < (ds.length : Int)) → Q .non H) ∧ (¬(0 ≤ z ∧ z < (ds.length : Int)) → ∀ d, H d = none → E (.ref N) (some d) (upd H d (.xd [("ship", .int z)])))
def spLeftN (K : PySem.W.Frag) (N : Addr) : Sp := fun vs H _ E => ∃ (v : V) (s : HS) (z : Int), vs = [v, .int z] ∧ StAt K H v s ∧ okInt (.int z) ∧ ¬(0 ≤ z ∧ z < (s.ds.length : Int)) ∧ ∀ d, H d = none → E (.ref N) (some d) (upd H d (.xd [("ship", .int z)]))
def spMooredF (K : PySem.W.Frag) (F : Addr) : Sp := fun vs H _ E => ∃ (v : V) (s : HS) (d : Int) (b : Bool), vs = [v, .int d, .str (sideS b)] ∧ StAt K H v s ∧ s.ds.length = 24 ∧ ∀ d, H d = none → E (.ref F) (some d) (upd H d (.xd [("many", .int 24)]))
def clZ (M N : Addr) (b : Bool) : Addr := if b then N else M
def spSailedZ (K : PySem.W.Frag) (M N : Addr) : Sp := fun vs H _ E => ∃ (v : V) (pr : Addr) (s : HS) (zs : List Int) (b : Bool) (z : Int), vs = [v, .ref pr] ∧ StAt K H v s ∧ HsOk s ∧ SqA K H pr (zs.map V.int) ∧ zs.length ≤ 1000 ∧ (∀ y ∈ zs, okInt (.int y)) ∧ goesZ s.h s.t s.ds s.L zs = some (b, z) ∧
  ∀ (H' : Hp) (d : Addr), Same H H' → H' d = none → E (.ref (clZ M N b)) (some d) (upd H' d (.xd [("ship", .int z)]))
section
variable {P : Program} {w : World} {K : PySem.W.Frag} {mg : Str → Option Value} {base : Heap} {M N F : Addr}
theorem ok_checkX {k : Nat} (D : Df K mg "check_ship" s_check_ship) (T : Bt mg) (XN : ExcOkB P w K mg base k "NoShip" N "ship" okInt "LookupError.__new__" tlLE) : OkX P w K mg base (k + 2) "check_ship" s_check_ship ["sea", "ship"] (spCheckX K N) := by
  refine D.okX sc_check_ship b_check_ship (fun vs H Q E h => ?_) (fun f cdv A outer s H vs Q E hr h => ?_)
  · obtain ⟨v, h, t, ds, i, rfl, _⟩ := h
    rfl
  · obtain ⟨v, h, t, ds, z, rfl, hv, hz, q, qx⟩ := h
    obtain ⟨p, pq, rfl, hp, hq⟩ := id hv
    refine ⟨_, (pss_one (ps_if (PW.pt (pw_or (pt_cmpR op_lt (pv 1) pe_int (nomark _)) (pw_or1 (pt_cmpR op_ge (pv 1) (pe_callB call_len_seq (by rfl) T.len_ PySem.boot_len (pa_cons (pe_ix ix_lt (pv 0) pe_int (fun _ _ => rfl)) pa_nil)) (nomark _)))))
        (pss_one (ps_raiseB eb_LE rfl XN (hr.mono (by omega)) (takes_of rfl rfl rfl rfl) (pa_cons (pv 1) pa_nil)))
        pss_nil)), ?_⟩
    refine ⟨_, rfl, _, _, rfl, rfl, _, rfl, ite2 (fun c => ?_) fun c => ?_⟩
    · have c1 := of_decide_eq_true c
      refine iteT ?_
      exact ⟨_, rfl, _, rfl, hz, qx (by omega)⟩
    have c1 : ¬ z < 0 := fun y => c (decide_eq_true y)
    refine ⟨_, rfl, _, rfl, p, _, 2, .ref pq, rfl, rfl, hp, rfl, pq, _, rfl, hq, _, _, rfl, rfl, _, rfl, ite2 (fun c2 => ?_) fun c2 => ?_⟩
    · have c3 := of_decide_eq_true c2
      rw [List.length_map] at c3
      have c4 : ¬(0 ≤ z ∧ z < (ds.length : Int)) := by omega
      refine ⟨_, rfl, _, rfl, hz, qx c4⟩
    · rw [List.length_map] at c2
      have c3 : ¬ z ≥ (ds.length : Int) := fun y => c2 (decide_eq_true y)
      refine q ⟨by omega, by omega⟩
theorem ok_leftN {k : Nat} (D : Df K mg "left_by" s_left_by) (T : Bt mg) (O_check_ship : OkX P w K mg base k "check_ship" s_check_ship ["sea", "ship"] (spCheckX K N)) (O_without_ship : Ok P w K mg base k "without_ship" s_without_ship ["sea", "standing", "ship"] (spWithout K)) : OkX P w K mg base (k + 1) "left_by" s_left_by ["state", "ship"] (spLeftN K N) := by
  refine D.okX sc_left_by b_left_by (fun vs H Q E h => ?_) (fun f cdv A outer s H vs Q E hr h => ?_)
  · obtain ⟨v, s, g, rfl, _⟩ := h
    rfl
  · obtain ⟨v, x, z, rfl, ⟨p, sv, lv, rfl, hp, hs, hl⟩, hz, nz, q⟩ := h
    refine ⟨_, (pss_cons (ps_asg (pv 0) (pg_seq rfl (pgs_cons (pg_name (i := 2) sc_left_by.nd rfl (.inl rfl)) (pgs_cons (pg_name (i := 3) sc_left_by.nd rfl (.inl rfl)) (pgs_cons (pg_name (i := 4) sc_left_by.nd rfl (.inl rfl)) pgs_nil)))))
      (pss_cons (ps_expr (pe_fnX O_check_ship (hr.mono (by omega)) (takes_of rfl rfl rfl rfl) (pa_cons (pv 2) (pa_cons (pv 1) pa_nil))))
      (pss_cons (ps_asg (pe_fn O_without_ship (hr.mono (by omega)) (pa_cons (pv 2) (pa_cons (pv 3) (pa_cons (pv 1) pa_nil)))) (pg_seq rfl (pgs_cons (pg_name (i := 5) sc_left_by.nd rfl (.inl rfl)) (pgs_cons (pg_name (i := 6) sc_left_by.nd rfl (.inl rfl)) pgs_nil))))
      (pss_one (ps_ret (pe_tup (pa_cons (pv 5) (pa_cons (pv 6) (pa_cons (pv 4) pa_nil))))))))), ?_⟩
    refine ⟨_, rfl, p, _, rfl, .inr hp, rfl, _, _, rfl, _, _, rfl, _, _, rfl, rfl, ?_⟩
    exact ⟨_, rfl, _, rfl, sv, x.h, x.t, x.ds, z, rfl, hs.a, hz, fun y => absurd y nz, fun _ d nd => q d nd⟩
theorem ok_mooredF {k : Nat} (D : Df K mg "moored" s_moored) (T : Bt mg) (Ch : ChH mg) (Cm : CnM mg) (XF : ExcOkB P w K mg base k "Full" F "many" okInt "OverflowError.__new__" tlOE) : OkX P w K mg base (k + 2) "moored" s_moored ["state", "draught", "side"] (spMooredF K F) := by
  obtain ⟨t1, g_HERE⟩ := Ch
  obtain ⟨t2, g_MOST_SHIPS⟩ := Cm
  refine D.okX sc_moored b_moored (fun vs H Q E h => ?_) (fun f cdv A outer s H vs Q E hr h => ?_)
  · obtain ⟨v, s, d, b, rfl, _⟩ := h
    rfl
  · obtain ⟨v, x, d, b, rfl, ⟨p, sv, lv, rfl, hp, ⟨ps, pq, rfl, hs, hq⟩, ⟨pl, rfl, hl⟩⟩, l1, q⟩ := h
    refine ⟨_, (pss_cons (ps_asg (pv 0) (pg_seq rfl (pgs_cons (pg_name (i := 3) sc_moored.nd rfl (.inl rfl)) (pgs_cons (pg_name (i := 4) sc_moored.nd rfl (.inl rfl)) (pgs_cons (pg_name (i := 5) sc_moored.nd rfl (.inl rfl)) pgs_nil)))))
      (pss_cons (ps_asg (pv 3) (pg_seq rfl (pgs_cons (pg_name (i := 6) sc_moored.nd rfl (.inl rfl)) (pgs_cons (pg_name (i := 7) sc_moored.nd rfl (.inl rfl)) (pgs_cons (pg_name (i := 8) sc_moored.nd rfl (.inl rfl)) pgs_nil)))))
      (pss_cons (ps_set (i := 9) sc_moored.nd rfl (.inl rfl) (pe_callB call_len_seq (by rfl) T.len_ PySem.boot_len (pa_cons (pv 8) pa_nil)))
      (pss_cons (ps_if (pt_cmpR op_ge (pv 9) (pe_glob (v := .int 24) (by rfl) g_MOST_SHIPS ⟨_, rfl⟩) (nomark _))
        (pss_one (ps_raiseB eb_OE rfl XF (hr.mono (by omega)) (takes_of rfl rfl rfl rfl) (pa_cons (pe_glob (v := .int 24) (by rfl) g_MOST_SHIPS ⟨_, rfl⟩) pa_nil)))
        pss_nil)
      (pss_cons (ps_set (i := 10) sc_moored.nd rfl (.inl rfl) (pe_ifExp (pt_cmpR op_eq (pv 2) (pe_glob (v := .str "here") (by rfl) g_HERE ⟨_, rfl⟩) (nomark _)) (pe_tup (StX.pa_star (pv 4) (pa_cons (pv 9) pa_nil))) (pv 4)))
      (pss_one (ps_ret (pe_tup (pa_cons (pe_tup (pa_cons (pv 6) (pa_cons (pv 7) (pa_cons (pe_tup (StX.pa_star (pv 8) (pa_cons (pv 1) pa_nil))) pa_nil)))) (pa_cons (pv 10) (pa_cons (pv 5) pa_nil))))))))))), ?_⟩
    refine ⟨_, rfl, p, _, rfl, .inr hp, rfl, _, _, rfl, _, _, rfl, _, _, rfl, rfl, ?_⟩
    refine ⟨_, rfl, ps, _, rfl, .inr hs, rfl, _, _, rfl, _, _, rfl, _, _, rfl, rfl, ?_⟩
    refine ⟨_, rfl, pq, _, rfl, .inr hq, ?_⟩
    rw [List.length_map]
    refine ⟨_, rfl, _, _, rfl, rfl, _, rfl, ite2 (fun c => ?_) fun c => ?_⟩
    · exact ⟨_, rfl, ⟨24, rfl, by decide⟩, q⟩
    · exact absurd (decide_eq_true (by omega)) c
theorem ok_sailedZ {k : Nat} (D : Df K mg "sailed" s_sailed) (T : Bt mg) (O_check_ship : OkX P w K mg base k "check_ship" s_check_ship ["sea", "ship"] (spCheckX K N)) (O_crossed : OkX P w K mg base k "crossed" s_crossed ["sea", "standing", "ship"] (spCrossedX K M)) : OkX P w K mg base (k + 1) "sailed" s_sailed ["state", "row"] (spSailedZ K M N) := by
  refine D.okX sc_sailed b_sailed (fun vs H Q E h => ?_) (fun f cdv A outer s H vs Q E hr h => ?_)
  · obtain ⟨v, r, s, zs, b, z, rfl, _⟩ := h
    rfl
  · obtain ⟨v, pr, x, zs, bb, bz, rfl, ⟨p, sv, lv, rfl, hp, hs, hl⟩, ok, hr', r1, rin, gz, qx⟩ := h
    have d1 := ok.len
    refine ⟨_, (pss_cons (ps_asg (pv 0) (pg_seq rfl (pgs_cons (pg_name (i := 2) sc_sailed.nd rfl (.inl rfl)) (pgs_cons (pg_name (i := 3) sc_sailed.nd rfl (.inl rfl)) (pgs_cons (pg_name (i := 4) sc_sailed.nd rfl (.inl rfl)) pgs_nil)))))
      (pss_cons (ps_for (passes_of rfl) rfl (pi_seq (pv 1)) (pg_name (i := 5) sc_sailed.nd rfl (.inl rfl))
        (pss_cons (ps_expr (pe_fnX O_check_ship (hr.mono (by omega)) (takes_of rfl rfl rfl rfl) (pa_cons (pv 2) (pa_cons (pv 5) pa_nil))))
          (pss_one (ps_set (i := 3) sc_sailed.nd rfl (.inl rfl) (pe_fnX O_crossed (hr.mono (by omega)) (takes_of rfl rfl rfl rfl) (pa_cons (pv 2) (pa_cons (pv 3) (pa_cons (pv 5) pa_nil))))))))
      (pss_one (ps_ret (pe_tup (pa_cons (pv 2) (pa_cons (pv 3) (pa_cons (pe_op op_add (pv 4) (pe_callB call_len_seq (by rfl) T.len_ PySem.boot_len (pa_cons (pv 1) pa_nil))) pa_nil)))))))), ?_⟩
    refine ⟨_, rfl, p, _, rfl, .inr hp, rfl, _, _, rfl, _, _, rfl, _, _, rfl, rfl, ?_⟩
    refine ⟨_, rfl, pr, _, H, rfl, hr', Kp.refl _ _, fun J hJ => ?_⟩
    obtain ⟨G, g, W⟩ := hJ.walk
    refine for_it W (fun i σ H' => ∃ (z : V) (y : Option V) (X : List Nat), σ = [some (.ref p), some (.ref pr), some sv, some z, some (.int (x.c : Int)), y] ∧ Same H H' ∧ LotT K H' z X ∧ Lot x.ds.length X ∧ goesZ x.h x.t x.ds X (zs.drop i) = some (bb, bz)) ⟨lv, none, x.L, rfl, Same.refl _, hl, ok.lot, gz⟩ (fun i σ H' _ ⟨_, _, _, _, z, _⟩ => g H' (.ofS z)) ?_ ?_
    · rintro i y σ H2 H3 hi ⟨z, y', X, rfl, s2, hX, lX, gX⟩ ⟨rfl, gx⟩
      rw [List.length_map] at hi
      obtain rfl : .int zs[i] = y := by
        have g3 : (zs.map V.int)[i]? = some (.int zs[i]) := by simp [hi]
        exact Option.some.inj (g3.symm.trans gx)
      rw [List.drop_eq_getElem_cons hi, goesZ_cons] at gX
      have ix := rin _ (List.getElem_mem hi)
      refine ⟨_, rfl, _, rfl, sv, x.h, x.t, x.ds, zs[i], rfl, hs.a.same s2, ix, fun c => ?_, fun c d nd => ?_⟩
      · rw [if_pos c] at gX
        obtain ⟨m, em⟩ : ∃ m : Nat, zs[i] = (m : Int) := ⟨zs[i].toNat, by omega⟩
        rw [em] at gX c ⊢
        rw [Int.toNat_natCast] at gX
        have im : m < x.ds.length := by omega
        refine ⟨_, rfl, _, rfl, _, rfl, sv, z, x.h, x.t, x.ds, X, m, rfl, hs.a.same s2, hX.a, by omega, lX, im, fun c2 H4 z' s4 hz' => ?_, fun c2 d nd => ?_⟩
        · rw [if_pos c2] at gX
          exact ⟨z', _, _, rfl, s2.trans s4, hz', gone_lot lX im, gX⟩
        · rw [if_neg (fun y => by rw [c2] at y; cases y)] at gX
          obtain ⟨rfl, rfl⟩ := Prod.mk.inj (Option.some.inj gX)
          exact qx _ d s2 nd
      · rw [if_neg c] at gX
        obtain ⟨rfl, rfl⟩ := Prod.mk.inj (Option.some.inj gX)
        exact qx _ d s2 nd
    · rintro σ H2 ⟨z, y, X, rfl, s2, hX, lX, gX⟩
      rw [List.length_map, List.drop_length] at gX
      cases gX
end
end Sh

namespace Sh
open PySem PySem.Spec PyProof.Rows L2
/-! ### refused deeds: the harbour's methods -/
def spHleaveN (K : PySem.W.Frag) (C N : Addr) : Sp := fun vs H _ E => ∃ (a ls le : Addr) (ss : List HS) (x : HS) (log : List (Bool × Str)) (z : Int), vs = [.ref a, .int z] ∧ HarAt K H C a ls le (ss ++ [x]) log ∧ okInt (.int z) ∧ ¬(0 ≤ z ∧ z < (x.ds.length : Int)) ∧ log.length ≤ 100000 ∧
  ∀ (H' : Hp) (d : Addr), H d = none → H' d = some (.xd [("ship", .int z)]) → ButH ls le H H' → HarAt K H' C a ls le (ss ++ [x]) (log ++ io "leave") → E (.ref N) (some d) H'
def spHmoorF (K : PySem.W.Frag) (C F : Addr) : Sp := fun vs H _ E => ∃ (a ls le : Addr) (ss : List HS) (x : HS) (log : List (Bool × Str)) (dr : Int) (b : Bool), vs = [.ref a, .int dr, .str (sideS b)] ∧ HarAt K H C a ls le (ss ++ [x]) log ∧ x.ds.length = 24 ∧ log.length ≤ 100000 ∧
  ∀ (H' : Hp) (d : Addr), H d = none → H' d = some (.xd [("many", .int 24)]) → ButH ls le H H' → HarAt K H' C a ls le (ss ++ [x]) (log ++ io "moor") → E (.ref F) (some d) H'
def spHcrossZ (K : PySem.W.Frag) (C M N : Addr) : Sp := fun vs H _ E => ∃ (a ls le : Addr) (ss : List HS) (x : HS) (log : List (Bool × Str)) (y : Int) (b : Bool) (z : Int), vs = [.ref a, .int y] ∧ HarAt K H C a ls le (ss ++ [x]) log ∧ HsOk x ∧ okInt (.int y) ∧ goesZ x.h x.t x.ds x.L [y] = some (b, z) ∧ log.length ≤ 100000 ∧
  ∀ (H' : Hp) (d : Addr), H d = none → H' d = some (.xd [("ship", .int z)]) → ButH ls le H H' → HarAt K H' C a ls le (ss ++ [x]) (log ++ io "cross") → E (.ref (clZ M N b)) (some d) H'
def spHsailZ (K : PySem.W.Frag) (C M N : Addr) : Sp := fun vs H _ E => ∃ (a ls le : Addr) (ss : List HS) (x : HS) (log : List (Bool × Str)) (pr : Addr) (zs : List Int) (b : Bool) (z : Int), vs = [.ref a, .ref pr] ∧ HarAt K H C a ls le (ss ++ [x]) log ∧ HsOk x ∧ SqA K H pr (zs.map V.int) ∧ pr ≠ ls ∧ pr ≠ le ∧ zs.length ≤ 1000 ∧ (∀ y ∈ zs, okInt (.int y)) ∧ goesZ x.h x.t x.ds x.L zs = some (b, z) ∧ log.length ≤ 100000 ∧
  ∀ (H' : Hp) (d : Addr), H d = none → H' d = some (.xd [("ship", .int z)]) → ButH ls le H H' → HarAt K H' C a ls le (ss ++ [x]) (log ++ io "sail") → E (.ref (clZ M N b)) (some d) H'
section
variable {P : Program} {w : World} {K : PySem.W.Frag} {mg : Str → Option Value} {base : Heap} {C M N F : Addr}
theorem ok_hleaveN {k : Nat} (D : Md K C "leave" "Harbour.leave" s_Harbour_leave) (T : Bt mg) (hC : Hc K mg C) (O_left_by : OkX P w K mg base k "left_by" s_left_by ["state", "ship"] (spLeftN K N)) : MOkX P w K mg base (k + 1) C "leave" "Harbour.leave" s_Harbour_leave ["self", "ship"] (spHleaveN K C N) := by
  refine D.okX sc_Harbour_leave b_Harbour_leave (fun vs H Q E h => ?_) (fun f cdv A outer s H vs Q E hr h => ?_)
  · obtain ⟨a, ls, le, ss, x, log, z, rfl, _⟩ := h
    rfl
  · obtain ⟨a, ls, le, ss, x, log, z, rfl, ⟨dx, sts, ens, hx⟩, iz, nz, lg, q⟩ := h
    refine ⟨_, (pss_cons (ps_expr (pe_bm PySem.F.plainAttrs_list PySem.F.slot_list_append PySem.F.type_list_append mt_append (pe_fld (pv 0) (by rfl)) (pa_cons (pe_tup (pa_cons pe_str (pa_cons pe_str pa_nil))) pa_nil)))
      (pss_one (ps_fin1 rfl rfl rfl (takes_of rfl rfl rfl rfl)
        (fun W pn xe tk po => (ps_expr (pe_bmH K PySem.F.plainAttrs_list PySem.F.slot_list_append PySem.F.type_list_append mt_append (pe_fldK K (pv 0) (by rfl)) (pa_cons (pe_fnX O_left_by (hr.mono (by omega)) tk (pa_cons (pe_ix (ix_ltK K) (pe_fldK K (pv 0) (by rfl)) (pe_un un_neg pe_int) (fun _ _ => rfl)) (pa_cons (pv 1) pa_nil))) pa_nil))))
        (pss_one (ps_expr (pe_bm PySem.F.plainAttrs_list PySem.F.slot_list_append PySem.F.type_list_append mt_append (pe_fld (pv 0) (by rfl)) (pa_cons (pe_tup (pa_cons pe_str (pa_cons pe_str pa_nil))) pa_nil))))
        (fun a pn => (pss_one (ps_expr (pe_bmH K PySem.F.plainAttrs_list PySem.F.slot_list_append PySem.F.type_list_append mt_append (pe_fldK K (pv 0) (by rfl)) (pa_cons (pe_tup (pa_cons pe_str (pa_cons pe_str pa_nil))) pa_nil)))))))), ?_⟩
    refine ⟨_, rfl, a, C, dx, _, _, rfl, hx.ins, hC.cl, hC.nE, rfl, .inl ⟨rfl, _, SqL.of hx.he⟩, (by show 2 ≤ sizeLine; decide), fun e ne => ?_⟩
    obtain ⟨u1, x1⟩ := hx.entry ne true "leave"
    refine ⟨le, _, .ref e, rfl, rfl, same_new ne _ _ hx.he, Nat.lt_of_le_of_lt (show ens.length ≤ 100000 by rw [Paired.length hx.pe]; exact lg) (by decide), ?_⟩
    rw [show ioS true = "in" from rfl] at u1 x1
    generalize upd (upd H e (.tup [.str "in", .str "leave"])) le (.lst (ens ++ [.ref e])) = H1 at u1 x1
    obtain ⟨sts', p, sv, lv, rfl, h1, h2, h3, hl⟩ := x1.top
    refine ⟨_, rfl, a, C, dx, _, _, rfl, x1.ins, hC.cl, hC.nS, rfl, .inl ⟨rfl, _, SqL.of x1.hs⟩, _, rfl, a, C, dx, _, _, rfl, x1.ins, hC.cl, hC.nS, rfl, 1, rfl, ls, _, -1, .ref p, rfl, rfl, SqA.l x1.hs, atI_last _ _, _, rfl, .ref p, x, z, rfl, ⟨p, sv, lv, rfl, h1, h2, h3⟩, iz, nz, fun d nd => ?_⟩
    obtain ⟨H2, eH⟩ : ∃ H2, H2 = H1 := ⟨_, rfl⟩
    have s2 : Same H1 H2 := by rw [eH]; exact Same.refl _
    rw [← eH] at nd
    rw [show upd H1 d (.xd [("ship", .int z)]) = upd H2 d (.xd [("ship", .int z)]) by rw [eH]]
    have sd : Same H1 (upd H2 d (.xd [("ship", .int z)])) := s2.trans (same_new nd)
    have ed : upd H2 d (.xd [("ship", .int z)]) d = some (.xd [("ship", .int z)]) := upd_same
    have nd0 : H d = none := hdn x1.hs x1.he s2 nd u1
    generalize upd H2 d (.xd [("ship", .int z)]) = H3 at sd ed
    have x3 := x1.same sd
    refine ⟨_, rfl, a, C, dx, _, _, rfl, x3.ins, hC.cl, hC.nE, rfl, .inl ⟨rfl, _, SqL.of x3.he⟩, (by show 2 ≤ sizeLine; decide), fun e4 ne4 => ?_⟩
    obtain ⟨u4, x4⟩ := x3.entry ne4 false "leave"
    refine ⟨le, _, .ref e4, rfl, rfl, same_new ne4 _ _ x3.he, Nat.lt_of_le_of_lt (show (ens ++ [V.ref e]).length ≤ 100001 by rw [List.length_append, Paired.length hx.pe]; simp; omega) (by decide), ?_⟩
    rw [show ioS false = "out" from rfl] at u4 x4
    generalize upd (upd H3 e4 (.tup [.str "out", .str "leave"])) le (.lst ((ens ++ [.ref e]) ++ [.ref e4])) = H4 at u4 x4
    rw [io_app] at x4
    exact q H4 d nd0 (u4 d _ (at_ne x3.hs ed (by intro z; cases z)) (at_ne x3.he ed (by intro z; cases z)) ed) (u1.trans ((ButH.of sd).trans u4)) ⟨dx, _, _, x4⟩
theorem ok_hmoorF {k : Nat} (D : Md K C "moor" "Harbour.moor" s_Harbour_moor) (T : Bt mg) (hC : Hc K mg C) (O_moored : OkX P w K mg base k "moored" s_moored ["state", "draught", "side"] (spMooredF K F)) (O_Harbour___len__ : MOk P w K mg base k C "__len__" "Harbour.__len__" s_Harbour___len__ ["self"] (spHlen K C)) : MOkX P w K mg base (k + 2) C "moor" "Harbour.moor" s_Harbour_moor ["self", "draught", "side"] (spHmoorF K C F) := by
  refine D.okX sc_Harbour_moor b_Harbour_moor (fun vs H Q E h => ?_) (fun f cdv A outer s H vs Q E hr h => ?_)
  · obtain ⟨a, ls, le, ss, x, log, dr, b, rfl, _⟩ := h
    rfl
  · obtain ⟨a, ls, le, ss, x, log, dr, b, rfl, ⟨dx, sts, ens, hx⟩, l24, lg, q⟩ := h
    refine ⟨_, (pss_cons (ps_expr (pe_bm PySem.F.plainAttrs_list PySem.F.slot_list_append PySem.F.type_list_append mt_append (pe_fld (pv 0) (by rfl)) (pa_cons (pe_tup (pa_cons pe_str (pa_cons pe_str pa_nil))) pa_nil)))
      (pss_one (ps_finR rfl rfl rfl (takes_of rfl rfl rfl rfl)
        (fun W pn xe tk po => (ps_expr (pe_bmH K PySem.F.plainAttrs_list PySem.F.slot_list_append PySem.F.type_list_append mt_append (pe_fldK K (pv 0) (by rfl)) (pa_cons (pe_fnX O_moored (hr.mono (by omega)) tk (pa_cons (pe_ix (ix_ltK K) (pe_fldK K (pv 0) (by rfl)) (pe_un un_neg pe_int) (fun _ _ => rfl)) (pa_cons (pv 1) (pa_cons (pv 2) pa_nil)))) pa_nil))))
        (fun W pn xe tk po => (pe_op op_sub (pe_callB (call_lenO O_Harbour___len__ (hr.mono (by omega))) (by rfl) T.len_ (by decide +kernel) (pa_cons (pv 0) pa_nil)) pe_int))
        (pss_one (ps_expr (pe_bm PySem.F.plainAttrs_list PySem.F.slot_list_append PySem.F.type_list_append mt_append (pe_fld (pv 0) (by rfl)) (pa_cons (pe_tup (pa_cons pe_str (pa_cons pe_str pa_nil))) pa_nil))))
        (fun a pn => (pss_one (ps_expr (pe_bmH K PySem.F.plainAttrs_list PySem.F.slot_list_append PySem.F.type_list_append mt_append (pe_fldK K (pv 0) (by rfl)) (pa_cons (pe_tup (pa_cons pe_str (pa_cons pe_str pa_nil))) pa_nil)))))))), ?_⟩
    refine ⟨_, rfl, a, C, dx, _, _, rfl, hx.ins, hC.cl, hC.nE, rfl, .inl ⟨rfl, _, SqL.of hx.he⟩, (by show 2 ≤ sizeLine; decide), fun e ne => ?_⟩
    obtain ⟨u1, x1⟩ := hx.entry ne true "moor"
    refine ⟨le, _, .ref e, rfl, rfl, same_new ne _ _ hx.he, Nat.lt_of_le_of_lt (show ens.length ≤ 100000 by rw [Paired.length hx.pe]; exact lg) (by decide), ?_⟩
    rw [show ioS true = "in" from rfl] at u1 x1
    generalize upd (upd H e (.tup [.str "in", .str "moor"])) le (.lst (ens ++ [.ref e])) = H1 at u1 x1
    obtain ⟨sts', p, sv, lv, rfl, h1, h2, h3, hl⟩ := x1.top
    refine ⟨_, rfl, a, C, dx, _, _, rfl, x1.ins, hC.cl, hC.nS, rfl, .inl ⟨rfl, _, SqL.of x1.hs⟩, _, rfl, a, C, dx, _, _, rfl, x1.ins, hC.cl, hC.nS, rfl, 1, rfl, ls, _, -1, .ref p, rfl, rfl, SqA.l x1.hs, atI_last _ _, _, rfl, _, rfl, .ref p, x, dr, b, rfl, ⟨p, sv, lv, rfl, h1, h2, h3⟩, l24, fun d nd => ?_⟩
    obtain ⟨H2, eH⟩ : ∃ H2, H2 = H1 := ⟨_, rfl⟩
    have s2 : Same H1 H2 := by rw [eH]; exact Same.refl _
    rw [← eH] at nd
    rw [show upd H1 d (.xd [("many", .int 24)]) = upd H2 d (.xd [("many", .int 24)]) by rw [eH]]
    have sd : Same H1 (upd H2 d (.xd [("many", .int 24)])) := s2.trans (same_new nd)
    have ed : upd H2 d (.xd [("many", .int 24)]) d = some (.xd [("many", .int 24)]) := upd_same
    have nd0 : H d = none := hdn x1.hs x1.he s2 nd u1
    generalize upd H2 d (.xd [("many", .int 24)]) = H3 at sd ed
    have x3 := x1.same sd
    refine ⟨_, rfl, a, C, dx, _, _, rfl, x3.ins, hC.cl, hC.nE, rfl, .inl ⟨rfl, _, SqL.of x3.he⟩, (by show 2 ≤ sizeLine; decide), fun e4 ne4 => ?_⟩
    obtain ⟨u4, x4⟩ := x3.entry ne4 false "moor"
    refine ⟨le, _, .ref e4, rfl, rfl, same_new ne4 _ _ x3.he, Nat.lt_of_le_of_lt (show (ens ++ [V.ref e]).length ≤ 100001 by rw [List.length_append, Paired.length hx.pe]; simp; omega) (by decide), ?_⟩
    rw [show ioS false = "out" from rfl] at u4 x4
    generalize upd (upd H3 e4 (.tup [.str "out", .str "moor"])) le (.lst ((ens ++ [.ref e]) ++ [.ref e4])) = H4 at u4 x4
    rw [io_app] at x4
    exact q H4 d nd0 (u4 d _ (at_ne x3.hs ed (by intro z; cases z)) (at_ne x3.he ed (by intro z; cases z)) ed) (u1.trans ((ButH.of sd).trans u4)) ⟨dx, _, _, x4⟩
theorem ok_hcrossZ {k : Nat} (D : Md K C "cross" "Harbour.cross" s_Harbour_cross) (T : Bt mg) (hC : Hc K mg C) (O_sailed : OkX P w K mg base k "sailed" s_sailed ["state", "row"] (spSailedZ K M N)) : MOkX P w K mg base (k + 1) C "cross" "Harbour.cross" s_Harbour_cross ["self", "ship"] (spHcrossZ K C M N) := by
  refine D.okX sc_Harbour_cross b_Harbour_cross (fun vs H Q E h => ?_) (fun f cdv A outer s H vs Q E hr h => ?_)
  · obtain ⟨a, ls, le, ss, x, log, y, b, z, rfl, _⟩ := h
    rfl
  · obtain ⟨a, ls, le, ss, x, log, y, b, z, rfl, ⟨dx, sts, ens, hx⟩, ok, iz, gz, lg, q⟩ := h
    refine ⟨_, (pss_cons (ps_expr (pe_bm PySem.F.plainAttrs_list PySem.F.slot_list_append PySem.F.type_list_append mt_append (pe_fld (pv 0) (by rfl)) (pa_cons (pe_tup (pa_cons pe_str (pa_cons pe_str pa_nil))) pa_nil)))
      (pss_one (ps_fin1 rfl rfl rfl (takes_of rfl rfl rfl rfl)
        (fun W pn xe tk po => (ps_expr (pe_bmH K PySem.F.plainAttrs_list PySem.F.slot_list_append PySem.F.type_list_append mt_append (pe_fldK K (pv 0) (by rfl)) (pa_cons (pe_fnX O_sailed (hr.mono (by omega)) tk (pa_cons (pe_ix (ix_ltK K) (pe_fldK K (pv 0) (by rfl)) (pe_un un_neg pe_int) (fun _ _ => rfl)) (pa_cons (pe_lst (pa_cons (pv 1) pa_nil)) pa_nil))) pa_nil))))
        (pss_one (ps_expr (pe_bm PySem.F.plainAttrs_list PySem.F.slot_list_append PySem.F.type_list_append mt_append (pe_fld (pv 0) (by rfl)) (pa_cons (pe_tup (pa_cons pe_str (pa_cons pe_str pa_nil))) pa_nil))))
        (fun a pn => (pss_one (ps_expr (pe_bmH K PySem.F.plainAttrs_list PySem.F.slot_list_append PySem.F.type_list_append mt_append (pe_fldK K (pv 0) (by rfl)) (pa_cons (pe_tup (pa_cons pe_str (pa_cons pe_str pa_nil))) pa_nil)))))))), ?_⟩
    refine ⟨_, rfl, a, C, dx, _, _, rfl, hx.ins, hC.cl, hC.nE, rfl, .inl ⟨rfl, _, SqL.of hx.he⟩, (by show 2 ≤ sizeLine; decide), fun e ne => ?_⟩
    obtain ⟨u1, x1⟩ := hx.entry ne true "cross"
    refine ⟨le, _, .ref e, rfl, rfl, same_new ne _ _ hx.he, Nat.lt_of_le_of_lt (show ens.length ≤ 100000 by rw [Paired.length hx.pe]; exact lg) (by decide), ?_⟩
    rw [show ioS true = "in" from rfl] at u1 x1
    generalize upd (upd H e (.tup [.str "in", .str "cross"])) le (.lst (ens ++ [.ref e])) = H1 at u1 x1
    obtain ⟨sts', p, sv, lv, rfl, h1, h2, h3, hl⟩ := x1.top
    refine ⟨_, rfl, a, C, dx, _, _, rfl, x1.ins, hC.cl, hC.nS, rfl, .inl ⟨rfl, _, SqL.of x1.hs⟩, _, rfl, a, C, dx, _, _, rfl, x1.ins, hC.cl, hC.nS, rfl, 1, rfl, ls, _, -1, .ref p, rfl, rfl, SqA.l x1.hs, atI_last _ _, _, rfl, (by show 1 ≤ sizeLine; decide), fun li nli => ?_⟩
    have sI : Same H1 (upd H1 li (.lst [.int y])) := same_new nli
    have eI : upd H1 li (.lst [.int y]) li = some (.lst ([y].map V.int)) := upd_same
    generalize upd H1 li (.lst [.int y]) = HI at sI eI
    replace x1 := x1.same sI
    replace u1 := u1.trans (ButH.of sI)
    refine ⟨.ref p, li, x, [y], b, z, rfl, StAt.same ⟨p, sv, lv, rfl, h1, h2, h3⟩ sI, ok, SqA.l eI, by show 1 ≤ 1000; decide, fun j hj => by rw [List.mem_singleton.mp hj]; exact iz, gz, fun H2 d s2 nd => ?_⟩
    have sd : Same HI (upd H2 d (.xd [("ship", .int z)])) := s2.trans (same_new nd)
    have ed : upd H2 d (.xd [("ship", .int z)]) d = some (.xd [("ship", .int z)]) := upd_same
    have nd0 : H d = none := hdn x1.hs x1.he s2 nd u1
    generalize upd H2 d (.xd [("ship", .int z)]) = H3 at sd ed
    have x3 := x1.same sd
    refine ⟨_, rfl, a, C, dx, _, _, rfl, x3.ins, hC.cl, hC.nE, rfl, .inl ⟨rfl, _, SqL.of x3.he⟩, (by show 2 ≤ sizeLine; decide), fun e4 ne4 => ?_⟩
    obtain ⟨u4, x4⟩ := x3.entry ne4 false "cross"
    refine ⟨le, _, .ref e4, rfl, rfl, same_new ne4 _ _ x3.he, Nat.lt_of_le_of_lt (show (ens ++ [V.ref e]).length ≤ 100001 by rw [List.length_append, Paired.length hx.pe]; simp; omega) (by decide), ?_⟩
    rw [show ioS false = "out" from rfl] at u4 x4
    generalize upd (upd H3 e4 (.tup [.str "out", .str "cross"])) le (.lst ((ens ++ [.ref e]) ++ [.ref e4])) = H4 at u4 x4
    rw [io_app] at x4
    exact q H4 d nd0 (u4 d _ (at_ne x3.hs ed (by intro z; cases z)) (at_ne x3.he ed (by intro z; cases z)) ed) (u1.trans ((ButH.of sd).trans u4)) ⟨dx, _, _, x4⟩
theorem ok_hsailZ {k : Nat} (D : Md K C "sail" "Harbour.sail" s_Harbour_sail) (T : Bt mg) (hC : Hc K mg C) (O_sailed : OkX P w K mg base k "sailed" s_sailed ["state", "row"] (spSailedZ K M N)) : MOkX P w K mg base (k + 1) C "sail" "Harbour.sail" s_Harbour_sail ["self", "row"] (spHsailZ K C M N) := by
  refine D.okX sc_Harbour_sail b_Harbour_sail (fun vs H Q E h => ?_) (fun f cdv A outer s H vs Q E hr h => ?_)
  · obtain ⟨a, ls, le, ss, x, log, pr, zs, b, z, rfl, _⟩ := h
    rfl
  · obtain ⟨a, ls, le, ss, x, log, pr, zs, b, z, rfl, ⟨dx, sts, ens, hx⟩, ok, hr', n1, n2, r1, rin, gz, lg, q⟩ := h
    refine ⟨_, (pss_cons (ps_expr (pe_bm PySem.F.plainAttrs_list PySem.F.slot_list_append PySem.F.type_list_append mt_append (pe_fld (pv 0) (by rfl)) (pa_cons (pe_tup (pa_cons pe_str (pa_cons pe_str pa_nil))) pa_nil)))
      (pss_one (ps_fin1 rfl rfl rfl (takes_of rfl rfl rfl rfl)
        (fun W pn xe tk po => (ps_expr (pe_bmH K PySem.F.plainAttrs_list PySem.F.slot_list_append PySem.F.type_list_append mt_append (pe_fldK K (pv 0) (by rfl)) (pa_cons (pe_fnX O_sailed (hr.mono (by omega)) tk (pa_cons (pe_ix (ix_ltK K) (pe_fldK K (pv 0) (by rfl)) (pe_un un_neg pe_int) (fun _ _ => rfl)) (pa_cons (pv 1) pa_nil))) pa_nil))))
        (pss_one (ps_expr (pe_bm PySem.F.plainAttrs_list PySem.F.slot_list_append PySem.F.type_list_append mt_append (pe_fld (pv 0) (by rfl)) (pa_cons (pe_tup (pa_cons pe_str (pa_cons pe_str pa_nil))) pa_nil))))
        (fun a pn => (pss_one (ps_expr (pe_bmH K PySem.F.plainAttrs_list PySem.F.slot_list_append PySem.F.type_list_append mt_append (pe_fldK K (pv 0) (by rfl)) (pa_cons (pe_tup (pa_cons pe_str (pa_cons pe_str pa_nil))) pa_nil)))))))), ?_⟩
    refine ⟨_, rfl, a, C, dx, _, _, rfl, hx.ins, hC.cl, hC.nE, rfl, .inl ⟨rfl, _, SqL.of hx.he⟩, (by show 2 ≤ sizeLine; decide), fun e ne => ?_⟩
    obtain ⟨u1, x1⟩ := hx.entry ne true "sail"
    refine ⟨le, _, .ref e, rfl, rfl, same_new ne _ _ hx.he, Nat.lt_of_le_of_lt (show ens.length ≤ 100000 by rw [Paired.length hx.pe]; exact lg) (by decide), ?_⟩
    rw [show ioS true = "in" from rfl] at u1 x1
    generalize upd (upd H e (.tup [.str "in", .str "sail"])) le (.lst (ens ++ [.ref e])) = H1 at u1 x1
    obtain ⟨sts', p, sv, lv, rfl, h1, h2, h3, hl⟩ := x1.top
    refine ⟨_, rfl, a, C, dx, _, _, rfl, x1.ins, hC.cl, hC.nS, rfl, .inl ⟨rfl, _, SqL.of x1.hs⟩, _, rfl, a, C, dx, _, _, rfl, x1.ins, hC.cl, hC.nS, rfl, 1, rfl, ls, _, -1, .ref p, rfl, rfl, SqA.l x1.hs, atI_last _ _, _, rfl, .ref p, pr, x, zs, b, z, rfl, ⟨p, sv, lv, rfl, h1, h2, h3⟩, ok, sqA_butH hx.hs hx.he u1 hr' n1 n2, r1, rin, gz, fun H2 d s2 nd => ?_⟩
    have sd : Same H1 (upd H2 d (.xd [("ship", .int z)])) := s2.trans (same_new nd)
    have ed : upd H2 d (.xd [("ship", .int z)]) d = some (.xd [("ship", .int z)]) := upd_same
    have nd0 : H d = none := hdn x1.hs x1.he s2 nd u1
    generalize upd H2 d (.xd [("ship", .int z)]) = H3 at sd ed
    have x3 := x1.same sd
    refine ⟨_, rfl, a, C, dx, _, _, rfl, x3.ins, hC.cl, hC.nE, rfl, .inl ⟨rfl, _, SqL.of x3.he⟩, (by show 2 ≤ sizeLine; decide), fun e4 ne4 => ?_⟩
    obtain ⟨u4, x4⟩ := x3.entry ne4 false "sail"
    refine ⟨le, _, .ref e4, rfl, rfl, same_new ne4 _ _ x3.he, Nat.lt_of_le_of_lt (show (ens ++ [V.ref e]).length ≤ 100001 by rw [List.length_append, Paired.length hx.pe]; simp; omega) (by decide), ?_⟩
    rw [show ioS false = "out" from rfl] at u4 x4
    generalize upd (upd H3 e4 (.tup [.str "out", .str "sail"])) le (.lst ((ens ++ [.ref e]) ++ [.ref e4])) = H4 at u4 x4
    rw [io_app] at x4
    exact q H4 d nd0 (u4 d _ (at_ne x3.hs ed (by intro z; cases z)) (at_ne x3.he ed (by intro z; cases z)) ed) (u1.trans ((ButH.of sd).trans u4)) ⟨dx, _, _, x4⟩
end
end Sh

namespace Sh
open PySem PySem.Spec PyProof.Rows L2
/-! ### by what a deed is refused -/
/-- the seven classes -/
structure Z51 (K : PySem.W.Frag) (mg : Str → Option Value) (A R B F M D N : Addr) : Prop where
  gA : mg "Apart" = some (.ref A)
  gR : mg "BadRow" = some (.ref R)
  gB : mg "BadText" = some (.ref B)
  gF : mg "Full" = some (.ref F)
  gM : mg "MayNot" = some (.ref M)
  gD : mg "NoDeed" = some (.ref D)
  gN : mg "NoShip" = some (.ref N)
  bK : mg "KeyError" = none
  bI : mg "IndexError" = none
  bL : mg "LookupError" = none
  bV : mg "ValueError" = none
  bO : mg "OverflowError" = none
  e0 : ExcC K N
  e1 : ExcC K M
  e2 : ExcC K F
  n0 : PySem.W.findIn K (.ref N) "ship" = some none
  n1 : PySem.W.findIn K (.ref M) "ship" = some none
  n2 : PySem.W.findIn K (.ref F) "many" = some none
  x0 : PySem.W.exmAny K (.ref N) [.ref A, .ref R, .ref B, .ref F, .ref M, .ref D, .ref N] = some true
  x1 : PySem.W.exmAny K (.ref M) [.ref A, .ref R, .ref B, .ref F, .ref M, .ref D, .ref N] = some true
  x2 : PySem.W.exmAny K (.ref F) [.ref A, .ref R, .ref B, .ref F, .ref M, .ref D, .ref N] = some true
  w0 : PySem.W.kitAny K (.ref N) [.type "KeyError", .type "IndexError"] = some false
  w1 : PySem.W.kitAny K (.ref M) [.type "KeyError", .type "IndexError"] = some false
  w2 : PySem.W.kitAny K (.ref F) [.type "KeyError", .type "IndexError"] = some false
  i00 : PySem.W.kitOne K (.ref N) (.ref N) = some true
  i10 : PySem.W.kitOne K (.ref M) (.ref N) = some false
  i20 : PySem.W.kitOne K (.ref F) (.ref N) = some false
  i01 : PySem.W.kitOne K (.ref N) (.ref M) = some false
  i11 : PySem.W.kitOne K (.ref M) (.ref M) = some true
  i21 : PySem.W.kitOne K (.ref F) (.ref M) = some false
  i02 : PySem.W.kitOne K (.ref N) (.ref F) = some false
  i12 : PySem.W.kitOne K (.ref M) (.ref F) = some false
  i22 : PySem.W.kitOne K (.ref F) (.ref F) = some true
  b0 : PySem.W.kitOne K (.ref N) (.type "LookupError") = some true
  b1 : PySem.W.kitOne K (.ref M) (.type "ValueError") = some true
  b2 : PySem.W.kitOne K (.ref F) (.type "OverflowError") = some true
  o0 : PySem.W.kitAny K (.ref N) [.ref A, .ref R, .ref B, .ref D] = some false
  o1 : PySem.W.kitAny K (.ref M) [.ref A, .ref R, .ref B, .ref D] = some false
  o2 : PySem.W.kitAny K (.ref F) [.ref A, .ref R, .ref B, .ref D] = some false
theorem with_z51 {K : PySem.W.Frag} {mg : Str → Option Value} {Rr : Prop} {h : Heap} {A R B F M D N : Addr} {q1 q2 q3 : Str} {s1 s2 s3 : Stmt} (X : K.In h) (G : h.Ns mainGlobals mg) (DM : Xc K mg "MayNot" q1 "ship" s1 M) (DN : XcB K mg "NoShip" q2 "ship" s2 N "LookupError.__new__" tlLE) (DF : XcB K mg "Full" q3 "many" s3 F "OverflowError.__new__" tlOE)
    (a : PySem.W.nsIn K mainGlobals "Apart" = some (some (.ref A))) (b : PySem.W.nsIn K mainGlobals "BadRow" = some (some (.ref R))) (c : PySem.W.nsIn K mainGlobals "BadText" = some (some (.ref B))) (d : PySem.W.nsIn K mainGlobals "NoDeed" = some (some (.ref D))) (k1 : PySem.W.nsIn K mainGlobals "KeyError" = some none) (k2 : PySem.W.nsIn K mainGlobals "IndexError" = some none) (x0 : PySem.W.exmAny K (.ref N) [.ref A, .ref R, .ref B, .ref F, .ref M, .ref D, .ref N] = some true) (x1 : PySem.W.exmAny K (.ref M) [.ref A, .ref R, .ref B, .ref F, .ref M, .ref D, .ref N] = some true) (x2 : PySem.W.exmAny K (.ref F) [.ref A, .ref R, .ref B, .ref F, .ref M, .ref D, .ref N] = some true) (w0 : PySem.W.kitAny K (.ref N) [.type "KeyError", .type "IndexError"] = some false) (w1 : PySem.W.kitAny K (.ref M) [.type "KeyError", .type "IndexError"] = some false) (w2 : PySem.W.kitAny K (.ref F) [.type "KeyError", .type "IndexError"] = some false) (i00 : PySem.W.kitOne K (.ref N) (.ref N) = some true) (i10 : PySem.W.kitOne K (.ref M) (.ref N) = some false) (i20 : PySem.W.kitOne K (.ref F) (.ref N) = some false) (i01 : PySem.W.kitOne K (.ref N) (.ref M) = some false) (i11 : PySem.W.kitOne K (.ref M) (.ref M) = some true) (i21 : PySem.W.kitOne K (.ref F) (.ref M) = some false) (i02 : PySem.W.kitOne K (.ref N) (.ref F) = some false) (i12 : PySem.W.kitOne K (.ref M) (.ref F) = some false) (i22 : PySem.W.kitOne K (.ref F) (.ref F) = some true) (b0 : PySem.W.kitOne K (.ref N) (.type "LookupError") = some true) (b1 : PySem.W.kitOne K (.ref M) (.type "ValueError") = some true) (b2 : PySem.W.kitOne K (.ref F) (.type "OverflowError") = some true) (o0 : PySem.W.kitAny K (.ref N) [.ref A, .ref R, .ref B, .ref D] = some false) (o1 : PySem.W.kitAny K (.ref M) [.ref A, .ref R, .ref B, .ref D] = some false) (o2 : PySem.W.kitAny K (.ref F) [.ref A, .ref R, .ref B, .ref D] = some false) (XV : XB K mg) (XL : XBn K mg "LookupError" "LookupError" "LookupError.__init__") (XO : XBn K mg "OverflowError" "OverflowError" "OverflowError.__init__") (r : Z51 K mg A R B F M D N → Rr) : Rr :=
  r ⟨PySem.W.mg_of X G a, PySem.W.mg_of X G b, PySem.W.mg_of X G c, DF.g, DM.g, PySem.W.mg_of X G d, DN.g, PySem.W.mg_none_of X G k1, PySem.W.mg_none_of X G k2, XL.VE, XV.VE, XO.VE, DN.e, DM.e, DF.e, DN.no, DM.no, DF.no, x0, x1, x2, w0, w1, w2, i00, i10, i20, i01, i11, i21, i02, i12, i22, b0, b1, b2, o0, o1, o2⟩
def clK (F M N : Addr) : Nat → Addr
  | 0 => N
  | 1 => M
  | _ => F
def fdK : Nat → Str
  | 0 => "ship"
  | 1 => "ship"
  | _ => "many"
def nmK : Nat → Str
  | 0 => "NoShip"
  | 1 => "MayNot"
  | _ => "Full"
/-- a deed that is refused: with which class, with what number -/
inductive RefD (K : PySem.W.Frag) (H : Hp) (ls le : Addr) (x : HS) : Str → V → Nat → Int → Prop
  | leave {z : Int} (h : okInt (.int z)) (n : ¬(0 ≤ z ∧ z < (x.ds.length : Int))) : RefD K H ls le x "leave" (.int z) 0 z
  | cross {y z : Int} {b : Bool} (h : okInt (.int y)) (g : goesZ x.h x.t x.ds x.L [y] = some (b, z)) : RefD K H ls le x "cross" (.int y) (if b then 0 else 1) z
  | sail {pr : Addr} {zs : List Int} {z : Int} {b : Bool} (h : SqA K H pr (zs.map V.int)) (n1 : pr ≠ ls) (n2 : pr ≠ le) (l : zs.length ≤ 1000) (hz : ∀ y ∈ zs, okInt (.int y)) (g : goesZ x.h x.t x.ds x.L zs = some (b, z)) : RefD K H ls le x "sail" (.ref pr) (if b then 0 else 1) z
  | moor {d : Int} (h : x.ds.length = 24) : RefD K H ls le x "moor" (.int d) 2 24
def spRefused (K : PySem.W.Frag) (C : Addr) : Sp := fun vs H Q _ => ∃ (a ls le : Addr) (ss : List HS) (x : HS) (log : List (Bool × Str)) (wd : Str) (sm : V) (k : Nat) (z : Int), vs = [.ref a, .str wd, sm] ∧ HarAt K H C a ls le (ss ++ [x]) log ∧ HsOk x ∧ log.length ≤ 100000 ∧ RefD K H ls le x wd sm k z ∧ k < 3 ∧
  ∀ (H' : Hp) (p : Addr), ButH ls le H H' → H p = none → H' p = some (.tup [.str (nmK k), .int z]) → HarAt K H' C a ls le (ss ++ [x]) (log ++ io wd) → Q (.ref p) H'
abbrev s__law_refused : Stmt := topS 40
theorem sc__law_refused : FnScope (["_law_port_here", "_law_word", "_law_some", "_law_caught", "_law_told", "error", "_law_narrow"] : List Str) (["_law_port_here", "_law_word", "_law_some"] : List Str) (defScope s__law_refused) := ⟨rfl, rfl, rfl, by decide +kernel, rfl, by decide +kernel, by decide +kernel⟩
theorem b__law_refused (kV doc pm : Value) (an : Option Addr) (cdv ct : Value) (us : List Value) (hl : us.length = (["_law_port_here", "_law_word", "_law_some"] : List Str).length) : bindArgs (PySem.W.fnOf "_law_refused" "_law_refused" (defArgs s__law_refused) (defBody s__law_refused) (defScope s__law_refused) .none kV doc pm an cdv ct) ⟨us, []⟩ = pure ((["_law_port_here", "_law_word", "_law_some"] : List Str).zip us) :=
  match us, hl with | [_, _, _], _ => rfl
section
variable {P : Program} {w : World} {K : PySem.W.Frag} {mg : Str → Option Value} {base : Heap} {C : Addr}
set_option maxHeartbeats 4000000 in
theorem ok_refused {k : Nat} {A' R B F M D' N : Addr} (D : Df K mg "_law_refused" s__law_refused) (T : Bt mg) (hC : Hc K mg C) (Z : Z51 K mg A' R B F M D' N) (O_Harbour_leave : MOkX P w K mg base k C "leave" "Harbour.leave" s_Harbour_leave ["self", "ship"] (spHleaveN K C N)) (O_Harbour_cross : MOkX P w K mg base k C "cross" "Harbour.cross" s_Harbour_cross ["self", "ship"] (spHcrossZ K C M N))
    (O_Harbour_sail : MOkX P w K mg base k C "sail" "Harbour.sail" s_Harbour_sail ["self", "row"] (spHsailZ K C M N)) (O_Harbour_moor : MOkX P w K mg base k C "moor" "Harbour.moor" s_Harbour_moor ["self", "draught", "side"] (spHmoorF K C F)) : Ok P w K mg base (k + 1) "_law_refused" s__law_refused ["_law_port_here", "_law_word", "_law_some"] (spRefused K C) := by
  refine D.ok sc__law_refused b__law_refused (fun vs H Q E h => ?_) (fun f cdv A outer s H vs Q E hr h => ?_)
  · obtain ⟨a, ls, le, ss, x, log, wd, sm, k, z, rfl, _⟩ := h
    rfl
  · obtain ⟨a, ls, le, ss, x, log, wd, sm, kk, z, rfl, har, ok, lg, rd, k3, q⟩ := h
    refine ⟨_, (pss_cons (ps_asg (pe_tup (pa_cons pe_non (pa_cons pe_non pa_nil))) (pg_seq rfl (pgs_cons (pg_name (i := 3) sc__law_refused.nd rfl (.inl rfl)) (pgs_cons (pg_name (i := 4) sc__law_refused.nd rfl (.inl rfl)) pgs_nil))))
      (Evl.pss_cut (ps_try_keep (n := "error") (i := 5) rfl rfl rfl sc__law_refused.nd rfl rfl (.tup (.cons ⟨_, _, rfl, by rfl, by decide, .inl Z.gA⟩ (.cons ⟨_, _, rfl, by rfl, by decide, .inl Z.gR⟩ (.cons ⟨_, _, rfl, by rfl, by decide, .inl Z.gB⟩ (.cons ⟨_, _, rfl, by rfl, by decide, .inl Z.gF⟩ (.cons ⟨_, _, rfl, by rfl, by decide, .inl Z.gM⟩ (.cons ⟨_, _, rfl, by rfl, by decide, .inl Z.gD⟩ (.cons ⟨_, _, rfl, by rfl, by decide, .inl Z.gN⟩ .nil))))))) (by decide)) takes_none5 (fun W pn xe tk po =>
        (pss_one (ps_if (pt_cmpR op_eq (pv 1) pe_str (nomark _))
            (pss_one (ps_expr (pe_mKX (ks := ["ship"]) [0, 1] O_Harbour_leave hC.cl (hr.mono (by omega)) tk (fun _ _ _ _ _ _ _ ws hk => match ws, hk with | [_], _ => rfl) (pv 0) (pk_cons (pv 2) pk_nil))))
            (pss_one (ps_if (pt_cmpR op_eq (pv 1) pe_str (nomark _))
                (pss_one (ps_expr (pe_mKX (ks := ["ship"]) [0, 1] O_Harbour_cross hC.cl (hr.mono (by omega)) tk (fun _ _ _ _ _ _ _ ws hk => match ws, hk with | [_], _ => rfl) (pv 0) (pk_cons (pv 2) pk_nil))))
                (pss_one (ps_if (pt_cmpR op_eq (pv 1) pe_str (nomark _))
                    (pss_one (ps_expr (pe_mKX (ks := ["row"]) [0, 1] O_Harbour_sail hC.cl (hr.mono (by omega)) tk (fun _ _ _ _ _ _ _ ws hk => match ws, hk with | [_], _ => rfl) (pv 0) (pk_cons (pv 2) pk_nil))))
                    (pss_one (ps_expr (pe_mKX (ks := ["draught", "side"]) [0, 1, 2] O_Harbour_moor hC.cl (hr.mono (by omega)) tk (fun _ _ _ _ _ _ _ ws hk => match ws, hk with | [_, _], _ => rfl) (pv 0) (pk_cons (pv 2) (pk_cons pe_str pk_nil))))))))))))
        (fun a oe cls d pn hz hf => (pss_one (ps_set (i := 3) sc__law_refused.nd rfl (.inl rfl) (pv 5)))))
      (pss_cons (ps_set (i := 6) sc__law_refused.nd rfl (.inl rfl) (pe_callB call_isXT (by rfl) T.isinstance_ (by decide +kernel) (pa_cons (pv 3) (pa_cons (pe_tup (pa_cons (pe_bltn (v := .ty "KeyError") (by rfl) Z.bK (by decide +kernel) rfl) (pa_cons (pe_bltn (v := .ty "IndexError") (by rfl) Z.bI (by decide +kernel) rfl) pa_nil))) pa_nil))))
      (Evl.pss_cut (ps_if (PW.pt (pw_and (pt_val (pe_callB call_isX (by rfl) T.isinstance_ (by decide +kernel) (pa_cons (pv 3) (pa_cons (pe_glob (v := .ref N) (by rfl) Z.gN rfl) pa_nil)))) (pw_and (pt_val (pe_callB call_isX (by rfl) T.isinstance_ (by decide +kernel) (pa_cons (pv 3) (pa_cons (pe_bltn (v := .ty "LookupError") (by rfl) Z.bL (by decide +kernel) rfl) pa_nil)))) (pw_and1 (pt_not (pt_val (pv 6)))))))
        (pss_one (ps_set (i := 4) sc__law_refused.nd rfl (.inl rfl) (pe_tup (pa_cons pe_str (pa_cons (pe_xk (pv 3)) pa_nil)))))
        pss_nil)
      (Evl.pss_cut (ps_if (PW.pt (pw_and (pt_val (pe_callB call_isX (by rfl) T.isinstance_ (by decide +kernel) (pa_cons (pv 3) (pa_cons (pe_glob (v := .ref M) (by rfl) Z.gM rfl) pa_nil)))) (pw_and (pt_val (pe_callB call_isX (by rfl) T.isinstance_ (by decide +kernel) (pa_cons (pv 3) (pa_cons (pe_bltn (v := .ty "ValueError") (by rfl) Z.bV (by decide +kernel) rfl) pa_nil)))) (pw_and1 (pt_cmpR op_isN (pv 4) pe_non (nomark _))))))
        (pss_one (ps_set (i := 4) sc__law_refused.nd rfl (.inl rfl) (pe_tup (pa_cons pe_str (pa_cons (pe_xk (pv 3)) pa_nil)))))
        pss_nil)
      (Evl.pss_cut (ps_if (PW.pt (pw_and (pt_val (pe_callB call_isX (by rfl) T.isinstance_ (by decide +kernel) (pa_cons (pv 3) (pa_cons (pe_glob (v := .ref F) (by rfl) Z.gF rfl) pa_nil)))) (pw_and (pt_val (pe_callB call_isX (by rfl) T.isinstance_ (by decide +kernel) (pa_cons (pv 3) (pa_cons (pe_bltn (v := .ty "OverflowError") (by rfl) Z.bO (by decide +kernel) rfl) pa_nil)))) (pw_and1 (pt_cmpR op_isN (pv 4) pe_non (nomark _))))))
        (pss_one (ps_set (i := 4) sc__law_refused.nd rfl (.inl rfl) (pe_tup (pa_cons pe_str (pa_cons (pe_xk (pv 3)) pa_nil)))))
        pss_nil)
      (pss_one (ps_ret (pe_ifExp (pt_val (pe_callB call_isXT (by rfl) T.isinstance_ (by decide +kernel) (pa_cons (pv 3) (pa_cons (pe_tup (pa_cons (pe_glob (v := .ref A') (by rfl) Z.gA rfl) (pa_cons (pe_glob (v := .ref R) (by rfl) Z.gR rfl) (pa_cons (pe_glob (v := .ref B) (by rfl) Z.gB rfl) (pa_cons (pe_glob (v := .ref D') (by rfl) Z.gD rfl) pa_nil))))) pa_nil)))) pe_str (pv 4)))))))))), ?_⟩
    refine ⟨(by show 2 ≤ sizeLine; decide), fun pt nt => ?_⟩
    have s1 : Same H (upd H pt (.tup [.non, .non])) := same_new nt
    refine ⟨pt, _, rfl, SqA.t upd_same, rfl, _, _, rfl, _, _, rfl, rfl, ?_⟩
    generalize upd H pt (.tup [.non, .non]) = H1 at s1
    obtain ⟨dx, sts, ens, hx⟩ := har.same s1
    refine ⟨fun σ' H' => ∃ cx : Addr, σ' = [some (.ref a), some (.str wd), some sm, some (.ref cx), some .non, none, none] ∧ ExAt H' cx (clK F M N kk) (some [(fdK kk, .int z)]) ∧ ButH ls le H1 H' ∧ HarAt K H' C a ls le (ss ++ [x]) (log ++ io wd), ?_, ?_⟩
    · cases rd with
      | @leave _ h n =>
        refine ⟨_, rfl, rfl, _, rfl, ite2 (fun c => ?_) fun c => ?_⟩
        · refine ⟨_, rfl, a, dx, _, rfl, hx.ins, rfl, _, rfl, rfl, a, ls, le, ss, x, log, z, rfl, ⟨dx, sts, ens, hx⟩, h, n, lg, fun H2 d1 nd ed u2 h2 => ?_⟩
          refine ⟨true, Z.x0, fun _ b nb => ?_, fun z => nomatch z⟩
          refine ⟨_, rfl, ?_⟩
          have s2 : Same H2 (upd H2 b (exk b (.ref N) (some d1))) := same_new nb
          exact ⟨b, rfl, ⟨some d1, upd_same, d1, rfl, s2 _ _ ed⟩, u2.trans (.of s2), h2.same s2⟩
        · exact absurd (by decide) c
      | @cross y z b h g =>
        refine ⟨_, rfl, rfl, _, rfl, ite2 (fun c => ?_) fun c => ?_⟩
        · exact absurd c (by decide)
        refine ⟨_, rfl, rfl, _, rfl, ite2 (fun c => ?_) fun c => ?_⟩
        · refine ⟨_, rfl, a, dx, _, rfl, hx.ins, rfl, _, rfl, rfl, a, ls, le, ss, x, log, _, _, z, rfl, ⟨dx, sts, ens, hx⟩, ok, h, g, lg, fun H2 d1 nd ed u2 h2 => ?_⟩
          cases b with
          | true =>
            refine ⟨true, Z.x0, fun _ b nb => ?_, fun z => nomatch z⟩
            refine ⟨_, rfl, ?_⟩
            have s2 : Same H2 (upd H2 b (exk b (.ref N) (some d1))) := same_new nb
            exact ⟨b, rfl, ⟨some d1, upd_same, d1, rfl, s2 _ _ ed⟩, u2.trans (.of s2), h2.same s2⟩
          | false =>
            refine ⟨true, Z.x1, fun _ b nb => ?_, fun z => nomatch z⟩
            refine ⟨_, rfl, ?_⟩
            have s2 : Same H2 (upd H2 b (exk b (.ref M) (some d1))) := same_new nb
            exact ⟨b, rfl, ⟨some d1, upd_same, d1, rfl, s2 _ _ ed⟩, u2.trans (.of s2), h2.same s2⟩
        · exact absurd (by decide) c
      | @sail pr zs z b h n1 n2 l hz g =>
        refine ⟨_, rfl, rfl, _, rfl, ite2 (fun c => ?_) fun c => ?_⟩
        · exact absurd c (by decide)
        refine ⟨_, rfl, rfl, _, rfl, ite2 (fun c => ?_) fun c => ?_⟩
        · exact absurd c (by decide)
        refine ⟨_, rfl, rfl, _, rfl, ite2 (fun c => ?_) fun c => ?_⟩
        · refine ⟨_, rfl, a, dx, _, rfl, hx.ins, rfl, _, rfl, rfl, a, ls, le, ss, x, log, pr, zs, _, z, rfl, ⟨dx, sts, ens, hx⟩, ok, Same.sqA s1 h, n1, n2, l, hz, g, lg, fun H2 d1 nd ed u2 h2 => ?_⟩
          cases b with
          | true =>
            refine ⟨true, Z.x0, fun _ b nb => ?_, fun z => nomatch z⟩
            refine ⟨_, rfl, ?_⟩
            have s2 : Same H2 (upd H2 b (exk b (.ref N) (some d1))) := same_new nb
            exact ⟨b, rfl, ⟨some d1, upd_same, d1, rfl, s2 _ _ ed⟩, u2.trans (.of s2), h2.same s2⟩
          | false =>
            refine ⟨true, Z.x1, fun _ b nb => ?_, fun z => nomatch z⟩
            refine ⟨_, rfl, ?_⟩
            have s2 : Same H2 (upd H2 b (exk b (.ref M) (some d1))) := same_new nb
            exact ⟨b, rfl, ⟨some d1, upd_same, d1, rfl, s2 _ _ ed⟩, u2.trans (.of s2), h2.same s2⟩
        · exact absurd (by decide) c
      | @moor d h =>
        refine ⟨_, rfl, rfl, _, rfl, ite2 (fun c => ?_) fun c => ?_⟩
        · exact absurd c (by decide)
        refine ⟨_, rfl, rfl, _, rfl, ite2 (fun c => ?_) fun c => ?_⟩
        · exact absurd c (by decide)
        refine ⟨_, rfl, rfl, _, rfl, ite2 (fun c => ?_) fun c => ?_⟩
        · exact absurd c (by decide)
        refine ⟨_, rfl, a, dx, _, rfl, hx.ins, rfl, _, rfl, rfl, a, ls, le, ss, x, log, d, false, rfl, ⟨dx, sts, ens, hx⟩, h, lg, fun H2 d1 nd ed u2 h2 => ?_⟩
        refine ⟨true, Z.x2, fun _ b nb => ?_, fun z => nomatch z⟩
        refine ⟨_, rfl, ?_⟩
        have s2 : Same H2 (upd H2 b (exk b (.ref F) (some d1))) := same_new nb
        exact ⟨b, rfl, ⟨some d1, upd_same, d1, rfl, s2 _ _ ed⟩, u2.trans (.of s2), h2.same s2⟩
    · rintro σ2 H2 ⟨cx, rfl, xe, u2, h2⟩
      have nH : ∀ {p : Addr}, H2 p = none → H p = none := fun {p} np => by
        obtain ⟨dx2, sts2, ens2, hx2⟩ := h2
        exact s1.free (hdn hx2.hs hx2.he (Same.refl _) np u2)
      obtain rfl | rfl | rfl : kk = 0 ∨ kk = 1 ∨ kk = 2 := by omega
      · replace xe : ExAt H2 cx N (some [("ship", .int z)]) := xe
        refine ⟨_, rfl, (by show 2 ≤ sizeLine; decide), fun pc nc => ⟨cx, N, pc, _, _, _, false, rfl, upd_same, .cons (.ty _) (.cons (.ty _) .nil), xe.same (same_new nc), Z.e0, Z.w0, ?_⟩⟩
        have s3 : Same H2 (upd H2 pc (.tup [.ty "KeyError", .ty "IndexError"])) := same_new nc
        generalize upd H2 pc (.tup [.ty "KeyError", .ty "IndexError"]) = H3 at s3
        replace xe := xe.same s3
        refine ⟨fun σ' H' => ∃ tv : V, σ' = [some (.ref a), some (.str wd), some sm, some (.ref cx), some tv, none, some (.bl false)] ∧ Same H3 H' ∧ (∃ p : Addr, tv = .ref p ∧ H2 p = none ∧ H' p = some (.tup [.str "NoShip", .int z])), ?_, ?_⟩
        · refine ⟨_, rfl, cx, N, _, _, _, true, rfl, xe, Z.e0, .own N, Z.i00, _, rfl, iteT ⟨_, rfl, cx, N, _, _, _, true, rfl, xe, Z.e0, .ty "LookupError", Z.b0, _, rfl, iteT ?_⟩⟩
          refine ⟨_, rfl, _, rfl, iteT ?_⟩
          refine ⟨_, rfl, cx, N, _, _, rfl, xe, Z.e0, Z.n0, rfl, (by show 2 ≤ sizeLine; decide), fun pl nl => ?_⟩
          exact ⟨_, rfl, same_new nl, pl, rfl, s3.free (nl), upd_same⟩
        rintro σ5 H5 ⟨_, rfl, g1, p1, rfl, q1, r1⟩
        refine ⟨fun σ' H' => ∃ tv : V, σ' = [some (.ref a), some (.str wd), some sm, some (.ref cx), some tv, none, some (.bl false)] ∧ Same H3 H' ∧ (∃ p : Addr, tv = .ref p ∧ H2 p = none ∧ H' p = some (.tup [.str "NoShip", .int z])), ?_, ?_⟩
        · refine ⟨_, rfl, cx, N, _, _, _, false, rfl, xe.same g1, Z.e0, .own M, Z.i01, _, rfl, iteF ?_⟩
          exact ⟨_, rfl, g1, p1, rfl, q1, r1⟩
        rintro σ6 H6 ⟨_, rfl, g2, p2, rfl, q2, r2⟩
        refine ⟨fun σ' H' => ∃ tv : V, σ' = [some (.ref a), some (.str wd), some sm, some (.ref cx), some tv, none, some (.bl false)] ∧ Same H3 H' ∧ (∃ p : Addr, tv = .ref p ∧ H2 p = none ∧ H' p = some (.tup [.str "NoShip", .int z])), ?_, ?_⟩
        · refine ⟨_, rfl, cx, N, _, _, _, false, rfl, xe.same g2, Z.e0, .own F, Z.i02, _, rfl, iteF ?_⟩
          exact ⟨_, rfl, g2, p2, rfl, q2, r2⟩
        rintro σ7 H7 ⟨_, rfl, g3, p3, rfl, q3, r3⟩
        refine ⟨_, rfl, (by show 4 ≤ sizeLine; decide), fun po no => ⟨cx, N, po, _, _, _, false, rfl, upd_same, .cons (.own _) (.cons (.own _) (.cons (.own _) (.cons (.own _) .nil))), (xe.same g3).same (same_new no), Z.e0, Z.o0, _, rfl, iteF ?_⟩⟩
        have g4 := s3.trans (g3.trans (same_new (o := .tup [.ref A', .ref R, .ref B, .ref D']) no))
        refine ⟨_, rfl, ?_⟩
        exact q _ p3 ((ButH.of s1).trans (u2.trans (.of g4))) (nH q3) (same_new no _ _ r3) (h2.same g4)
      · replace xe : ExAt H2 cx M (some [("ship", .int z)]) := xe
        refine ⟨_, rfl, (by show 2 ≤ sizeLine; decide), fun pc nc => ⟨cx, M, pc, _, _, _, false, rfl, upd_same, .cons (.ty _) (.cons (.ty _) .nil), xe.same (same_new nc), Z.e1, Z.w1, ?_⟩⟩
        have s3 : Same H2 (upd H2 pc (.tup [.ty "KeyError", .ty "IndexError"])) := same_new nc
        generalize upd H2 pc (.tup [.ty "KeyError", .ty "IndexError"]) = H3 at s3
        replace xe := xe.same s3
        refine ⟨fun σ' H' => ∃ tv : V, σ' = [some (.ref a), some (.str wd), some sm, some (.ref cx), some tv, none, some (.bl false)] ∧ Same H3 H' ∧ tv = .non, ?_, ?_⟩
        · refine ⟨_, rfl, cx, M, _, _, _, false, rfl, xe, Z.e1, .own N, Z.i10, _, rfl, iteF ?_⟩
          exact ⟨_, rfl, Same.refl _, rfl⟩
        rintro σ5 H5 ⟨_, rfl, g1, rfl⟩
        refine ⟨fun σ' H' => ∃ tv : V, σ' = [some (.ref a), some (.str wd), some sm, some (.ref cx), some tv, none, some (.bl false)] ∧ Same H3 H' ∧ (∃ p : Addr, tv = .ref p ∧ H2 p = none ∧ H' p = some (.tup [.str "MayNot", .int z])), ?_, ?_⟩
        · refine ⟨_, rfl, cx, M, _, _, _, true, rfl, xe.same g1, Z.e1, .own M, Z.i11, _, rfl, iteT ⟨_, rfl, cx, M, _, _, _, true, rfl, xe.same g1, Z.e1, .ty "ValueError", Z.b1, _, rfl, iteT ?_⟩⟩
          refine ⟨_, rfl, rfl, _, rfl, iteT ?_⟩
          refine ⟨_, rfl, cx, M, _, _, rfl, xe.same g1, Z.e1, Z.n1, rfl, (by show 2 ≤ sizeLine; decide), fun pl nl => ?_⟩
          exact ⟨_, rfl, g1.trans (same_new nl), pl, rfl, s3.free (g1.free nl), upd_same⟩
        rintro σ6 H6 ⟨_, rfl, g2, p2, rfl, q2, r2⟩
        refine ⟨fun σ' H' => ∃ tv : V, σ' = [some (.ref a), some (.str wd), some sm, some (.ref cx), some tv, none, some (.bl false)] ∧ Same H3 H' ∧ (∃ p : Addr, tv = .ref p ∧ H2 p = none ∧ H' p = some (.tup [.str "MayNot", .int z])), ?_, ?_⟩
        · refine ⟨_, rfl, cx, M, _, _, _, false, rfl, xe.same g2, Z.e1, .own F, Z.i12, _, rfl, iteF ?_⟩
          exact ⟨_, rfl, g2, p2, rfl, q2, r2⟩
        rintro σ7 H7 ⟨_, rfl, g3, p3, rfl, q3, r3⟩
        refine ⟨_, rfl, (by show 4 ≤ sizeLine; decide), fun po no => ⟨cx, M, po, _, _, _, false, rfl, upd_same, .cons (.own _) (.cons (.own _) (.cons (.own _) (.cons (.own _) .nil))), (xe.same g3).same (same_new no), Z.e1, Z.o1, _, rfl, iteF ?_⟩⟩
        have g4 := s3.trans (g3.trans (same_new (o := .tup [.ref A', .ref R, .ref B, .ref D']) no))
        refine ⟨_, rfl, ?_⟩
        exact q _ p3 ((ButH.of s1).trans (u2.trans (.of g4))) (nH q3) (same_new no _ _ r3) (h2.same g4)
      · replace xe : ExAt H2 cx F (some [("many", .int z)]) := xe
        refine ⟨_, rfl, (by show 2 ≤ sizeLine; decide), fun pc nc => ⟨cx, F, pc, _, _, _, false, rfl, upd_same, .cons (.ty _) (.cons (.ty _) .nil), xe.same (same_new nc), Z.e2, Z.w2, ?_⟩⟩
        have s3 : Same H2 (upd H2 pc (.tup [.ty "KeyError", .ty "IndexError"])) := same_new nc
        generalize upd H2 pc (.tup [.ty "KeyError", .ty "IndexError"]) = H3 at s3
        replace xe := xe.same s3
        refine ⟨fun σ' H' => ∃ tv : V, σ' = [some (.ref a), some (.str wd), some sm, some (.ref cx), some tv, none, some (.bl false)] ∧ Same H3 H' ∧ tv = .non, ?_, ?_⟩
        · refine ⟨_, rfl, cx, F, _, _, _, false, rfl, xe, Z.e2, .own N, Z.i20, _, rfl, iteF ?_⟩
          exact ⟨_, rfl, Same.refl _, rfl⟩
        rintro σ5 H5 ⟨_, rfl, g1, rfl⟩
        refine ⟨fun σ' H' => ∃ tv : V, σ' = [some (.ref a), some (.str wd), some sm, some (.ref cx), some tv, none, some (.bl false)] ∧ Same H3 H' ∧ tv = .non, ?_, ?_⟩
        · refine ⟨_, rfl, cx, F, _, _, _, false, rfl, xe.same g1, Z.e2, .own M, Z.i21, _, rfl, iteF ?_⟩
          exact ⟨_, rfl, g1, rfl⟩
        rintro σ6 H6 ⟨_, rfl, g2, rfl⟩
        refine ⟨fun σ' H' => ∃ tv : V, σ' = [some (.ref a), some (.str wd), some sm, some (.ref cx), some tv, none, some (.bl false)] ∧ Same H3 H' ∧ (∃ p : Addr, tv = .ref p ∧ H2 p = none ∧ H' p = some (.tup [.str "Full", .int z])), ?_, ?_⟩
        · refine ⟨_, rfl, cx, F, _, _, _, true, rfl, xe.same g2, Z.e2, .own F, Z.i22, _, rfl, iteT ⟨_, rfl, cx, F, _, _, _, true, rfl, xe.same g2, Z.e2, .ty "OverflowError", Z.b2, _, rfl, iteT ?_⟩⟩
          refine ⟨_, rfl, rfl, _, rfl, iteT ?_⟩
          refine ⟨_, rfl, cx, F, _, _, rfl, xe.same g2, Z.e2, Z.n2, rfl, (by show 2 ≤ sizeLine; decide), fun pl nl => ?_⟩
          exact ⟨_, rfl, g2.trans (same_new nl), pl, rfl, s3.free (g2.free nl), upd_same⟩
        rintro σ7 H7 ⟨_, rfl, g3, p3, rfl, q3, r3⟩
        refine ⟨_, rfl, (by show 4 ≤ sizeLine; decide), fun po no => ⟨cx, F, po, _, _, _, false, rfl, upd_same, .cons (.own _) (.cons (.own _) (.cons (.own _) (.cons (.own _) .nil))), (xe.same g3).same (same_new no), Z.e2, Z.o2, _, rfl, iteF ?_⟩⟩
        have g4 := s3.trans (g3.trans (same_new (o := .tup [.ref A', .ref R, .ref B, .ref D']) no))
        refine ⟨_, rfl, ?_⟩
        exact q _ p3 ((ButH.of s1).trans (u2.trans (.of g4))) (nH q3) (same_new no _ _ r3) (h2.same g4)
end
end Sh

namespace Sh
open PySem PySem.Spec PyProof.Rows L2
/-! ### Harbour(there=.., here=..) -/
def clK1 (t : TA) : TA := fun σ H R => ∃ R0 : List V → Hp → Prop, t σ H R0 ∧ ∀ vs H1, R0 vs H1 → R vs H1
theorem PK.cl1 {X : Cx} {kws : List Keyword} {t : TA} (h : PK X kws t) : PK X kws (clK1 t) := ⟨fun pos pins s σ H Q I ⟨R0, a, b⟩ => wpAny_mono (h.run pos pins s σ H R0 I a) (fun us s1 ⟨vs, H1, I1, r1, q1⟩ => ⟨vs, H1, I1, r1, b _ _ q1⟩) fun _ _ z => z⟩
def tHarTH (K : PySem.W.Frag) (C : Addr) (t : TA) : TE := fun σ H Q => t σ H fun vs H1 => ∃ (h u : Int), vs = [.int u, .int h] ∧ ∀ (H' : Hp) (a ls le : Addr), Same H1 H' → H1 a = none → H1 ls = none → H1 le = none → HarAt K H' C a ls le [new0 h u] [] → Q (.ref a) H'
theorem pk021 {α : Type} (a b c : α) : pk [0, 2, 1] [a, b, c] = [a, c, b] := rfl
section
variable {X : Cx} {k : Nat} {C : Addr} {kws : List Keyword} {t : TA} {p pos : Pos}
theorem pe_harTH (O : HMk X.prog X.w X.K X.mg X.base k C) (hC : Hc X.K X.mg C) (hr : Room (k + 1) X.A) (hkw : PK X kws t) (hg : Gl X "Harbour" := by rfl)
    (hall : (backToKw pos (keywordEach kws X.env)).all (·.1.isSome) = true := by rfl) (hks : (backToKw pos (keywordEach kws X.env)).filterMap (·.1) = (["there", "here"] : List Str) := by rfl)
    (hpl : ((backTo pos (starEach [] X.env)).any (·.1) || (backToKw pos (keywordEach kws X.env)).any (·.1.isNone)) = false := by rfl) :
    PE X (.Call (.Name "Harbour" p) [] kws pos) (tHarTH X.K C t) := by
  obtain ⟨f, fd, M, F, b, G⟩ := O.ex
  have kb : KBn X.K fd ["self", "here", "there"] 1 ["there", "here"] (fun us ws => pk [0, 2, 1] (us ++ ws)) (fun us ws => pk [0, 2, 1] (us ++ ws)) := by
    obtain ⟨oc, od, kV, doc, pm, an, cdv, ct, osl, rfl, lk, hcd⟩ := F.ex
    refine ⟨fun s us ws _ l1 l2 => .of_eq ?_, fun r1 r2 => vals_pk (vals_app r1 r2) _⟩
    match us, ws, l1, l2 with
    | [_], [_, _], _, _ => rfl
  have R := pe_makeK0 (p := p) (pos := pos) M G hr hg hC.g kb pass0 (PK.cl1 hkw) hall hks (by decide) hpl
  refine ⟨fun pins s σ H Q I q => R.run pins s σ H Q I ⟨_, q, fun vs H1 ⟨h, u, ev, q1⟩ => ?_⟩⟩
  subst ev
  exact ⟨rfl, rfl, fun x dx nx nd ne => har_made q1 x dx nx nd ne⟩
end
end Sh

namespace Sh
open PySem PySem.Spec PyProof.Rows L2
/-! ### as_of, where there are so many deeds -/
abbrev s_Harbour_as_of : Stmt := clsAt (topS 30) 13
theorem sc_Harbour_as_of : FnScope (["self", "many", "here", "there", "draughts", "elder"] : List Str) (["self", "many"] : List Str) (defScope s_Harbour_as_of) := ⟨rfl, rfl, rfl, by decide +kernel, rfl, by decide +kernel, by decide +kernel⟩
theorem b_Harbour_as_of (kV doc pm : Value) (an : Option Addr) (cdv ct : Value) (us : List Value) (hl : us.length = (["self", "many"] : List Str).length) : bindArgs (PySem.W.fnOf "as_of" "Harbour.as_of" (defArgs s_Harbour_as_of) (defBody s_Harbour_as_of) (defScope s_Harbour_as_of) .none kV doc pm an cdv ct) ⟨us, []⟩ = pure ((["self", "many"] : List Str).zip us) :=
  match us, hl with | [_, _], _ => rfl
def spHasof (K : PySem.W.Frag) (C : Addr) : Sp := fun vs H Q _ => ∃ (a ls le : Addr) (x0 : HS) (ss : List HS) (log : List (Bool × Str)) (m : Nat), vs = [.ref a, .int (m : Int)] ∧ HarAt K H C a ls le (x0 :: ss) log ∧ m ≤ ss.length ∧
  ∀ (H' : Hp) (a' ls' le' : Addr), Same H H' → H a' = none → H ls' = none → H le' = none → HarAt K H' C a' ls' le' ((x0 :: ss).take (m + 1)) [] → Q (.ref a') H'
theorem paired_take {α β : Type} {r : α → β → Prop} : ∀ (n : Nat) {xs : List α} {ys : List β}, Paired r xs ys → Paired r (xs.take n) (ys.take n)
  | 0, _, _, _ => by rw [List.take_zero, List.take_zero]; exact .nil
  | n + 1, _, _, .nil => .nil
  | n + 1, _, _, .cons a t => .cons a (paired_take n t)
section
variable {P : Program} {w : World} {K : PySem.W.Frag} {mg : Str → Option Value} {base : Heap} {C : Addr}
theorem ok_hasof {k : Nat} (D : Md K C "as_of" "Harbour.as_of" s_Harbour_as_of) (T : Bt mg) (hC : Hc K mg C) (O_Harbour : HMk P w K mg base k C) (O_Harbour_deeds : MOk P w K mg base k C "deeds" "Harbour.deeds" s_Harbour_deeds ["self"] (spHdeeds K C)) : MOk P w K mg base (k + 2) C "as_of" "Harbour.as_of" s_Harbour_as_of ["self", "many"] (spHasof K C) := by
  refine D.ok sc_Harbour_as_of b_Harbour_as_of (fun vs H Q E h => ?_) (fun f cdv A outer s H vs Q E hr h => ?_)
  · obtain ⟨a, ls, le, x0, ss, log, m, rfl, _⟩ := h
    rfl
  · obtain ⟨a, ls, le, x0, ss, log, m, rfl, ⟨dx, sts, ens, hx⟩, hm, q⟩ := h
    refine ⟨_, (pss_cons (ps_if (PW.pt (pw_or (pt_cmpR op_lt (pv 1) pe_int (nomark _)) (pw_or1 (pt_cmpR op_gt (pv 1) (pe_m0 O_Harbour_deeds hC.cl (hr.mono (by omega)) (pv 0)) (nomark _)))))
        (pss_one ps_never)
        pss_nil)
      (pss_cons (ps_asg (pe_ix ix_lt (pe_ix ix_lt (pe_fld (pv 0) (by rfl)) pe_int (fun _ _ => rfl)) pe_int (fun _ _ => rfl)) (pg_seq rfl (pgs_cons (pg_name (i := 2) sc_Harbour_as_of.nd rfl (.inl rfl)) (pgs_cons (pg_name (i := 3) sc_Harbour_as_of.nd rfl (.inl rfl)) (pgs_cons (pg_name (i := 4) sc_Harbour_as_of.nd rfl (.inl rfl)) pgs_nil)))))
      (pss_cons (ps_set (i := 5) sc_Harbour_as_of.nd rfl (.inl rfl) (pe_har O_Harbour hC (hr.mono (by omega)) (pa_cons (pv 2) (pa_cons (pv 3) pa_nil))))
      (pss_cons (ps_fld (pv 5) (pe_slice sl_list (pe_fld (pv 0) (by rfl)) po_none (po_some (pe_op op_add (pv 1) pe_int))) (by rfl))
      (pss_one (ps_ret (pv 5))))))), ?_⟩
    obtain ⟨ss', x', e⟩ : ∃ ss' x', x0 :: ss = ss' ++ [x'] := ⟨(x0 :: ss).dropLast, (x0 :: ss).getLast (by simp), (List.dropLast_concat_getLast (by simp)).symm⟩
    have el : ss'.length = ss.length := by
      have := congrArg List.length e
      rw [List.length_append, List.length_singleton, List.length_cons] at this
      omega
    refine ⟨_, rfl, _, _, rfl, rfl, _, rfl, ite2 (fun c => ?_) fun c => ?_⟩
    · exact absurd (of_decide_eq_true c) (by omega)
    refine ⟨_, rfl, _, rfl, a, dx, _, rfl, hx.ins, rfl, a, ls, le, ss', x', log, rfl, ⟨dx, sts, ens, by rw [← e]; exact hx⟩, _, _, rfl, rfl, _, rfl, ite2 (fun c => ?_) fun c => ?_⟩
    · exact absurd (of_decide_eq_true c) (by omega)
    have hps := hx.ps
    cases hps with
    | @cons v0 _ sr _ hv0 hr0 =>
    obtain ⟨p0, sv, lv, rfl, h1, ⟨p1, q1, rfl, h2, h3⟩, h4⟩ := id hv0
    refine ⟨_, rfl, a, C, dx, _, _, rfl, hx.ins, hC.cl, hC.nS, rfl, ls, _, 0, .ref p0, rfl, rfl, SqA.l hx.hs, (show atI (V.ref p0 :: sr) ((0 : Nat) : Int) = some (V.ref p0) from atI_nat rfl), p0, _, 0, .ref p1, rfl, rfl, .inr h1, rfl, ?_⟩
    refine ⟨p1, _, rfl, .inr h2, rfl, _, _, rfl, _, _, rfl, _, _, rfl, rfl, ?_⟩
    refine ⟨_, rfl, _, rfl, x0.h, x0.t, rfl, fun H1 a1 ls1 le1 s1 na nl ne har1 => ?_⟩
    obtain ⟨dx1, sts1, ens1, x1⟩ := har1
    have hx1 := hx.same s1
    refine ⟨_, rfl, a, C, dx, _, _, rfl, hx1.ins, hC.cl, hC.nS, rfl, _, rfl, _, _, rfl, rfl, _, rfl, ls, _, rfl, SqL.of hx1.hs, fun l2 nl2 => ?_⟩
    have s2 : Same H1 (upd H1 l2 (.lst (cutV (V.ref p0 :: sr) none (some ((m : Int) + 1))))) := same_new nl2
    have e2 : upd H1 l2 (.lst (cutV (V.ref p0 :: sr) none (some ((m : Int) + 1)))) l2 = some (.lst ((V.ref p0 :: sr).take (m + 1))) := by
      rw [upd_same]
      unfold cutV
      rw [show ((m : Int) + 1) = ((m + 1 : Nat) : Int) by omega, HT.sIx_none, HT.sIx_nat, Nat.min_eq_left (by rw [Paired.length hx.ps, List.length_cons]; omega), List.drop_zero, Nat.sub_zero]
    generalize upd H1 l2 (.lst (cutV (V.ref p0 :: sr) none (some ((m : Int) + 1)))) = H2 at s2 e2
    have x2 := x1.same s2
    have hx2 := hx1.same s2
    have nl2a : l2 ≠ a1 := fun z => by rw [z, x1.ins] at nl2; cases nl2
    have nl2e : l2 ≠ le1 := fun z => by rw [z, x1.he] at nl2; cases nl2
    refine ⟨_, rfl, a1, C, dx1, _, rfl, x2.ins, hC.cl, hC.nS, (by show 2 < 1000; decide), ?_⟩
    have hp : upd H2 a1 (.ins C dx1 (putF "states" (.ref l2) [("states", .ref ls1), ("entries", .ref le1)])) = upd H2 a1 (.ins C dx1 [("states", .ref l2), ("entries", .ref le1)]) := rfl
    rw [hp]
    have tpk : ∀ {p : Addr} {zs : List V}, SqT K H2 p zs → SqT K (upd H2 a1 (.ins C dx1 [("states", .ref l2), ("entries", .ref le1)])) p zs := fun {p zs} y => by
      rcases y with (y | ⟨z, y⟩) | y
      · exact .inl (.inl ((upd_ne (ne_of y x2.ins (by intro z; cases z))).trans y))
      · exact .inl (.inr ⟨z, (upd_ne (ne_of y x2.ins (by intro z; cases z))).trans y⟩)
      · exact .inr y
    have stk : ∀ (v : V) (s : HS), StAt K H2 v s → StAt K (upd H2 a1 (.ins C dx1 [("states", .ref l2), ("entries", .ref le1)])) v s := fun v s ⟨p, sv, lv, b0, b1, ⟨p2, q2, b2, b3, b4⟩, ⟨p3, b5, b6⟩⟩ => ⟨p, sv, lv, b0, tpk b1, ⟨p2, q2, b2, tpk b3, tpk b4⟩, ⟨p3, b5, tpk b6⟩⟩
    refine ⟨_, rfl, ?_⟩
    have na2 : ∀ {p : Addr} {o : HO}, H p = some o → p ≠ a1 := fun {p o} y z => by rw [z, na] at y; cases y
    have ens0 : ens1 = [] := by
      cases x1.pe
      rfl
    subst ens0
    refine q _ a1 l2 le1 (fun p o y => (upd_ne (na2 y)).trans (s2 _ _ (s1 _ _ y))) na (s1.free nl2) ne ⟨dx1, (V.ref p0 :: sr).take (m + 1), [], upd_same, (upd_ne nl2a).trans e2, (upd_ne (fun z => by rw [z] at ne; exact absurd x1.he (by rw [z, x1.ins]; intro y; cases y))).trans x2.he, paired_take (m + 1) (paired_imp stk hx2.ps), .nil, nl2e⟩
end
end Sh

namespace Sh
open PySem PySem.Spec PyProof.Rows L2
/-! ### k51: what is seen of a harbour, and one refused deed at it -/
def txH (x : HS) : Str := Str.ofString "Harbour(" ++ Str.ofString (toString (x.ds.length : Int)) ++ Str.ofString " ships, " ++ Str.ofString (toString (x.L.length : Int)) ++ Str.ofString " here)"
def SeenAt (K : PySem.W.Frag) (H : Hp) (p : Addr) (x : HS) (n : Nat) : Prop := ∃ sv lv, H p = some (.lst [sv, lv, .int (x.c : Int), .int (n : Int), .int (x.ds.length : Int), .str (txH x)]) ∧ SeaT K H sv x.h x.t x.ds ∧ LotT K H lv x.L
theorem SeenAt.same {K : PySem.W.Frag} {H H' : Hp} {p : Addr} {x : HS} {n : Nat} (a : SeenAt K H p x n) (s : Same H H') : SeenAt K H' p x n := let ⟨sv, lv, e, h1, h2⟩ := a; ⟨sv, lv, s _ _ e, h1.same s, h2.same s⟩
def seenD (x : HS) (n : Nat) : PyData := .list [seaV x.h x.t x.ds, lotV x.L, .int (x.c : Int), .int (n : Int), .int (x.ds.length : Int), .str (txH x)]
theorem SeenAt.dp {K : PySem.W.Frag} {H : Hp} {p : Addr} {x : HS} {n : Nat} (a : SeenAt K H p x n) : Dp K H (.ref p) (seenD x n) := by
  obtain ⟨sv, lv, e, h1, h2⟩ := a
  exact .lst (SqL.of e) (.cons h1.dp (.cons h2.dp (.cons (.int _) (.cons (.int _) (.cons (.int _) (.cons (.str _) .nil))))))
def entZ (e : Bool × Str) : PyData := .tuple [.str (ioS e.1), .str e.2]
theorem dp_entz {K : PySem.W.Frag} {H : Hp} : ∀ {ens : List V} {lg : List (Bool × Str)}, Paired (EntAt H) ens lg → DpAll K H ens (lg.map entZ)
  | _, _, .nil => .nil
  | _, _, .cons ⟨p, e, h⟩ t => .cons (by rw [e]; exact .tup (SqT.of h) (.cons (.str _) (.cons (.str _) .nil))) (dp_entz t)
theorem lvAz {n : Nat} (ns : List Int) : ∀ e ∈ ns.map PyData.int, Lv (n + 1) e := fun e he => by
  obtain ⟨i, _, rfl⟩ := List.mem_map.mp he
  trivial
theorem lv_seen {x : HS} {n : Nat} (h1 : x.ds.length ≤ 100) (h2 : x.L.length ≤ 100) : Lv 4 (seenD x n) := by
  refine ⟨by show 6 ≤ 100000; decide, fun e he => ?_⟩
  simp only [List.mem_cons, List.not_mem_nil, or_false] at he
  rcases he with rfl | rfl | rfl | rfl | rfl | rfl
  · refine ⟨by show 3 ≤ 100000; decide, fun e he => ?_⟩
    simp only [List.mem_cons, List.not_mem_nil, or_false] at he
    rcases he with rfl | rfl | rfl
    · trivial
    · trivial
    · exact ⟨by rw [List.length_map]; omega, lvAz _⟩
  · exact ⟨by rw [List.length_map, List.length_map]; omega, lvAz _⟩
  · trivial
  · trivial
  · trivial
  · trivial
theorem lv_logz {lg : List (Bool × Str)} (h : lg.length ≤ 100000) : Lv 4 (.list (lg.map entZ)) := by
  refine ⟨by rw [List.length_map]; omega, fun e he => ?_⟩
  obtain ⟨z, _, rfl⟩ := List.mem_map.mp he
  refine ⟨by show 2 ≤ 100000; decide, fun e he => ?_⟩
  simp only [List.mem_cons, List.not_mem_nil, or_false] at he
  rcases he with rfl | rfl <;> trivial
theorem RefD.same {K : PySem.W.Frag} {H H' : Hp} {ls le : Addr} {x : HS} {wd : Str} {sm : V} {k : Nat} {z : Int} (r : RefD K H ls le x wd sm k z) (s : Same H H') : RefD K H' ls le x wd sm k z := by
  cases r with
  | leave h n => exact .leave h n
  | cross h g => exact .cross h g
  | sail h n1 n2 l hz g => exact .sail (Same.sqA s h) n1 n2 l hz g
  | moor h => exact .moor h
def spSeen (K : PySem.W.Frag) (C : Addr) : Sp := fun vs H Q _ => ∃ (a ls le : Addr) (ss : List HS) (x : HS) (log : List (Bool × Str)), vs = [.ref a] ∧ HarAt K H C a ls le (ss ++ [x]) log ∧ HsOk x ∧
  ∀ (H' : Hp) (p : Addr), Same H H' → H p = none → SeenAt K H' p x ss.length → Q (.ref p) H'
def spOneRight (K : PySem.W.Frag) (C : Addr) : Sp := fun vs H Q _ => ∃ (a ls le pd : Addr) (ss : List HS) (x : HS) (log : List (Bool × Str)) (wd : Str) (sm : V) (k : Nat) (z : Int), vs = [.ref a, .str wd, sm, .ref pd] ∧ HarAt K H C a ls le (ss ++ [x]) log ∧ HsOk x ∧ log.length ≤ 90000 ∧ RefD K H ls le x wd sm k z ∧ k < 3 ∧ H pd = some (.tup [.str (nmK k), .int z]) ∧
  ∀ (H' : Hp), ButH ls le H H' → HarAt K H' C a ls le (ss ++ [x]) (log ++ io wd) → Q (.bl true) H'
abbrev s__law_seen : Stmt := topS 41
theorem sc__law_seen : FnScope (["_law_port_here"] : List Str) (["_law_port_here"] : List Str) (defScope s__law_seen) := ⟨rfl, rfl, rfl, by decide +kernel, rfl, by decide +kernel, by decide +kernel⟩
theorem b__law_seen (kV doc pm : Value) (an : Option Addr) (cdv ct : Value) (us : List Value) (hl : us.length = (["_law_port_here"] : List Str).length) : bindArgs (PySem.W.fnOf "_law_seen" "_law_seen" (defArgs s__law_seen) (defBody s__law_seen) (defScope s__law_seen) .none kV doc pm an cdv ct) ⟨us, []⟩ = pure ((["_law_port_here"] : List Str).zip us) :=
  match us, hl with | [_], _ => rfl
abbrev s__law_one_right : Stmt := topS 43
theorem sc__law_one_right : FnScope (["_law_port_here", "_law_word", "_law_some", "_law_due", "_law_kept", "_law_log"] : List Str) (["_law_port_here", "_law_word", "_law_some", "_law_due"] : List Str) (defScope s__law_one_right) := ⟨rfl, rfl, rfl, by decide +kernel, rfl, by decide +kernel, by decide +kernel⟩
theorem b__law_one_right (kV doc pm : Value) (an : Option Addr) (cdv ct : Value) (us : List Value) (hl : us.length = (["_law_port_here", "_law_word", "_law_some", "_law_due"] : List Str).length) : bindArgs (PySem.W.fnOf "_law_one_right" "_law_one_right" (defArgs s__law_one_right) (defBody s__law_one_right) (defScope s__law_one_right) .none kV doc pm an cdv ct) ⟨us, []⟩ = pure ((["_law_port_here", "_law_word", "_law_some", "_law_due"] : List Str).zip us) :=
  match us, hl with | [_, _, _, _], _ => rfl
section
variable {P : Program} {w : World} {K : PySem.W.Frag} {mg : Str → Option Value} {base : Heap} {C : Addr}
theorem ok_seen {k : Nat} (D : Df K mg "_law_seen" s__law_seen) (T : Bt mg) (hC : Hc K mg C) (O_Harbour_sea : MOk P w K mg base k C "sea" "Harbour.sea" s_Harbour_sea ["self"] (spHsea K C)) (O_Harbour_standing : MOk P w K mg base k C "standing" "Harbour.standing" s_Harbour_standing ["self"] (spHlot K C))
    (O_Harbour_crossings : MOk P w K mg base k C "crossings" "Harbour.crossings" s_Harbour_crossings ["self"] (spHcr K C)) (O_Harbour_deeds : MOk P w K mg base k C "deeds" "Harbour.deeds" s_Harbour_deeds ["self"] (spHdeeds K C)) (O_Harbour___len__ : MOk P w K mg base k C "__len__" "Harbour.__len__" s_Harbour___len__ ["self"] (spHlen K C)) (O_Harbour___repr__ : MOk P w K mg base k C "__repr__" "Harbour.__repr__" s_Harbour___repr__ ["self"] (spHrepr K C)) :
    Ok P w K mg base (k + 2) "_law_seen" s__law_seen ["_law_port_here"] (spSeen K C) := by
  refine D.ok sc__law_seen b__law_seen (fun vs H Q E h => ?_) (fun f cdv A outer s H vs Q E hr h => ?_)
  · obtain ⟨a, ls, le, ss, x, log, rfl, _⟩ := h
    rfl
  · obtain ⟨a, ls, le, ss, x, log, rfl, ⟨dx, sts, ens0, hx⟩, ok, q⟩ := h
    refine ⟨_, (pss_one (ps_ret (pe_lst (pa_cons (pe_m0 O_Harbour_sea hC.cl (hr.mono (by omega)) (pv 0)) (pa_cons (pe_m0 O_Harbour_standing hC.cl (hr.mono (by omega)) (pv 0)) (pa_cons (pe_m0 O_Harbour_crossings hC.cl (hr.mono (by omega)) (pv 0)) (pa_cons (pe_m0 O_Harbour_deeds hC.cl (hr.mono (by omega)) (pv 0)) (pa_cons (pe_callB (call_lenO O_Harbour___len__ (hr.mono (by omega))) (by rfl) T.len_ (by decide +kernel) (pa_cons (pv 0) pa_nil)) (pa_cons (pe_callB (call_reprO O_Harbour___repr__ (hr.mono (by omega))) (by rfl) T.repr_ (by decide +kernel) (pa_cons (pv 0) pa_nil)) pa_nil))))))))), ?_⟩
    have d24 := ok.len
    refine ⟨_, rfl, a, dx, _, rfl, hx.ins, rfl, a, ls, le, ss, x, log, rfl, ⟨dx, sts, ens0, hx⟩, fun sv hsv => ?_⟩
    refine ⟨_, rfl, a, dx, _, rfl, hx.ins, rfl, a, ls, le, ss, x, log, rfl, ⟨dx, sts, ens0, hx⟩, fun lv hlv => ?_⟩
    refine ⟨_, rfl, a, dx, _, rfl, hx.ins, rfl, a, ls, le, ss, x, log, rfl, ⟨dx, sts, ens0, hx⟩, ?_⟩
    refine ⟨_, rfl, a, dx, _, rfl, hx.ins, rfl, a, ls, le, ss, x, log, rfl, ⟨dx, sts, ens0, hx⟩, ?_⟩
    refine ⟨_, rfl, a, dx, _, rfl, hx.ins, a, ls, le, ss, x, log, rfl, ⟨dx, sts, ens0, hx⟩, x.ds.length, rfl, by omega, ?_⟩
    refine ⟨_, rfl, a, dx, _, rfl, hx.ins, a, ls, le, ss, x, log, rfl, ⟨dx, sts, ens0, hx⟩, ok, txH x, rfl, ?_⟩
    refine ⟨(by show 6 ≤ sizeLine; decide), fun p np => ?_⟩
    exact q _ p (same_new np) np ⟨sv, lv, upd_same, hsv.same (same_new np), hlv.same (same_new np)⟩
set_option maxHeartbeats 4000000 in
theorem ok_one_right {k : Nat} (D : Df K mg "_law_one_right" s__law_one_right) (T : Bt mg) (hC : Hc K mg C) (O__law_seen : Ok P w K mg base k "_law_seen" s__law_seen ["_law_port_here"] (spSeen K C)) (O__law_refused : Ok P w K mg base k "_law_refused" s__law_refused ["_law_port_here", "_law_word", "_law_some"] (spRefused K C)) (O__law_same : Ok P w K mg base k "_law_same" s__law_same ["_law_found", "_law_due"] (spSame K 4))
    (O_Harbour_log : MOk P w K mg base k C "log" "Harbour.log" s_Harbour_log ["self"] (spHlog K C)) : Ok P w K mg base (k + 2) "_law_one_right" s__law_one_right ["_law_port_here", "_law_word", "_law_some", "_law_due"] (spOneRight K C) := by
  refine D.ok sc__law_one_right b__law_one_right (fun vs H Q E h => ?_) (fun f cdv A outer s H vs Q E hr h => ?_)
  · obtain ⟨a, ls, le, pd, ss, x, log, wd, sm, k, z, rfl, _⟩ := h
    rfl
  · obtain ⟨a, ls, le, pd, ss, x, log, wd, sm, kk, z, rfl, har, ok, lg, rd, k3, hpd, q⟩ := h
    refine ⟨_, (pss_cons (ps_par (i := 4) (j := 5) (by rfl) sc__law_one_right.nd rfl rfl (by decide) rfl rfl (pa_cons (pe_fn O__law_seen (hr.mono (by omega)) (pa_cons (pv 0) pa_nil)) (pa_cons (pe_m0 O_Harbour_log hC.cl (hr.mono (by omega)) (pv 0)) pa_nil)) (by rfl))
      (pss_cons (ps_if (PW.pt (pw_or (pt_not (pt_val (pe_fn O__law_same (hr.mono (by omega)) (pa_cons (pe_fn O__law_refused (hr.mono (by omega)) (pa_cons (pv 0) (pa_cons (pv 1) (pa_cons (pv 2) pa_nil)))) (pa_cons (pv 3) pa_nil))))) (pw_or1 (pt_not (pt_val (pe_fn O__law_same (hr.mono (by omega)) (pa_cons (pe_fn O__law_seen (hr.mono (by omega)) (pa_cons (pv 0) pa_nil)) (pa_cons (pv 4) pa_nil))))))))
        (pss_one (ps_ret pe_bl))
        pss_nil)
      (pss_one (ps_ret (pe_fn O__law_same (hr.mono (by omega)) (pa_cons (pe_m0 O_Harbour_log hC.cl (hr.mono (by omega)) (pv 0)) (pa_cons (pe_op op_cat (pv 5) (pe_lst (pa_cons (pe_tup (pa_cons pe_str (pa_cons (pv 1) pa_nil))) (pa_cons (pe_tup (pa_cons pe_str (pa_cons (pv 1) pa_nil))) pa_nil)))) pa_nil))))))), ?_⟩
    have d24 := ok.len
    have l24 := ok.lot.len
    refine ⟨_, rfl, a, ls, le, ss, x, log, rfl, har, ok, fun H1 p1 g1 np1 se1 => ?_⟩
    obtain ⟨dx, sts, ens, hx⟩ := har.same g1
    refine ⟨_, rfl, a, dx, _, rfl, hx.ins, rfl, a, ls, le, ss ++ [x], log, rfl, ⟨dx, sts, ens, hx⟩, fun H2 p2 es g2 np2 e2 pe2 => ?_⟩
    refine ⟨_, _, rfl, ?_⟩
    have g02 := g1.trans g2
    replace se1 := se1.same g2
    replace hpd := g02 _ _ hpd
    have rd2 := rd.same g02
    have har2 := har.same g02
    refine ⟨_, rfl, _, rfl, _, rfl, a, ls, le, ss, x, log, wd, sm, kk, z, rfl, har2, ok, by omega, rd2, k3, fun H3 p3 u3 np3 e3 har3 => ?_⟩
    obtain ⟨dx2, sts2, ens2, hx2⟩ := har2
    have lsn : ∀ {p : Addr} {o : HO}, H p = none → H2 p = some o → p ≠ ls ∧ p ≠ le := fun {p o} n _ => by
      obtain ⟨dx0, sts0, ens0, hx0⟩ := har
      exact ⟨fun z => (by rw [z, hx0.hs] at n; cases n), fun z => (by rw [z, hx0.he] at n; cases n)⟩
    have tupn : ∀ {p : Addr} {ys : List V}, H2 p = some (.tup ys) → H3 p = some (.tup ys) := fun {p ys} y => u3 p _ (fun z => by rw [z, hx2.hs] at y; cases y) (fun z => by rw [z, hx2.he] at y; cases y) y
    have pd3 := tupn hpd
    have se3 : SeenAt K H3 p1 x ss.length := by
      obtain ⟨sv, lv, e, h1, h2⟩ := se1
      have n1 := lsn np1 e
      exact ⟨sv, lv, u3 _ _ n1.1 n1.2 e, hx2.seaT u3 h1, hx2.lotT u3 h2⟩
    have e23 : H3 p2 = some (.lst es) := by
      have n2 := lsn (g1.free np2) e2
      exact u3 _ _ n2.1 n2.2 e2
    have pe3 : Paired (EntAt H3) es log := paired_imp (fun _ _ z => let ⟨p, e, b⟩ := z; ⟨p, e, tupn b⟩) pe2
    refine ⟨_, rfl, .ref p3, .ref pd, .tuple [.str (nmK kk), .int z], rfl, .tup (SqT.of e3) (.cons (.str _) (.cons (.int _) .nil)), .tup (SqT.of pd3) (.cons (.str _) (.cons (.int _) .nil)), ⟨by show 2 ≤ 100000; decide, fun e he => by
      simp only [List.mem_cons, List.not_mem_nil, or_false] at he
      rcases he with rfl | rfl <;> trivial⟩, fun H4 g4 => ⟨true, rfl, iteF ?_⟩⟩
    have har4 := har3.same g4
    refine ⟨_, rfl, a, ls, le, ss, x, _, rfl, har4, ok, fun H5 p5 g5 np5 se5 => ?_⟩
    refine ⟨_, rfl, .ref p5, .ref p1, seenD x ss.length, rfl, se5.dp, (se3.same (g4.trans g5)).dp, lv_seen (by omega) (by omega), fun H6 g6 => ⟨true, rfl, iteF ?_⟩⟩
    obtain ⟨dx6, sts6, ens6, hx6⟩ := har4.same (g5.trans g6)
    refine ⟨_, rfl, a, dx6, _, rfl, hx6.ins, rfl, a, ls, le, ss ++ [x], _, rfl, ⟨dx6, sts6, ens6, hx6⟩, fun H7 p7 es7 g7 np7 e7 pe7 => ?_⟩
    refine ⟨_, rfl, _, rfl, (by show 2 ≤ sizeLine; decide), fun t1 nt1 => ?_⟩
    have g8 : Same H7 (upd H7 t1 (.tup [.str "in", .str wd])) := same_new nt1
    have e8 : upd H7 t1 (.tup [.str "in", .str wd]) t1 = some (.tup [.str "in", .str wd]) := upd_same
    generalize upd H7 t1 (.tup [.str "in", .str wd]) = H8 at g8 e8
    refine ⟨_, rfl, (by show 2 ≤ sizeLine; decide), fun t2 nt2 => ?_⟩
    have g9 : Same H8 (upd H8 t2 (.tup [.str "out", .str wd])) := same_new nt2
    have e9 : upd H8 t2 (.tup [.str "out", .str wd]) t2 = some (.tup [.str "out", .str wd]) := upd_same
    replace e8 := g9 _ _ e8
    generalize upd H8 t2 (.tup [.str "out", .str wd]) = H9 at g9 e9 e8
    refine ⟨(by show 2 ≤ sizeLine; decide), fun l3 nl3 => ?_⟩
    have g10 : Same H9 (upd H9 l3 (.lst [.ref t1, .ref t2])) := same_new nl3
    have e10 : upd H9 l3 (.lst [.ref t1, .ref t2]) l3 = some (.lst [.ref t1, .ref t2]) := upd_same
    replace e8 := g10 _ _ e8
    replace e9 := g10 _ _ e9
    generalize upd H9 l3 (.lst [.ref t1, .ref t2]) = H10 at g10 e10 e9 e8
    have g310 := g4.trans (g5.trans (g6.trans (g7.trans (g8.trans (g9.trans g10)))))
    have g710 := g8.trans (g9.trans g10)
    have les : es.length = log.length := Paired.length pe3
    refine ⟨p2, l3, _, _, rfl, rfl, g310 _ _ e23, e10, (by rw [les]; exact Nat.le_trans (show log.length + 2 ≤ 100000 by omega) (by decide)), fun p4 np4 => ?_⟩
    have g11 : Same H10 (upd H10 p4 (.lst (es ++ [.ref t1, .ref t2]))) := same_new np4
    have e11 : upd H10 p4 (.lst (es ++ [.ref t1, .ref t2])) p4 = some (.lst (es ++ [.ref t1, .ref t2])) := upd_same
    replace e8 := g11 _ _ e8
    replace e9 := g11 _ _ e9
    generalize upd H10 p4 (.lst (es ++ [.ref t1, .ref t2])) = H11 at g11 e11 e8 e9
    have pe11 : Paired (EntAt H11) es log := paired_imp (fun _ _ z => let ⟨p, e, b⟩ := z; ⟨p, e, (g310.trans g11) _ _ b⟩) pe3
    have pe711 : Paired (EntAt H11) es7 (log ++ io wd) := paired_imp (fun _ _ z => let ⟨p, e, b⟩ := z; ⟨p, e, (g710.trans g11) _ _ b⟩) pe7
    have pe12 : Paired (EntAt H11) (es ++ [.ref t1, .ref t2]) (log ++ io wd) := paired_app pe11 (.cons ⟨t1, rfl, e8⟩ (.cons ⟨t2, rfl, e9⟩ .nil))
    refine ⟨.ref p7, .ref p4, .list ((log ++ io wd).map entZ), rfl, .lst (SqL.of ((g710.trans g11) _ _ e7)) (dp_entz pe711), .lst (SqL.of e11) (dp_entz pe12), lv_logz (by rw [List.length_append]; show log.length + 2 ≤ 100000; omega), fun H12 g12 => ?_⟩
    exact q H12 ((ButH.of g02).trans (u3.trans (.of (g310.trans (g11.trans g12))))) (har3.same (g310.trans (g11.trans g12)))
end
end Sh

namespace Sh
open PySem PySem.Spec PyProof.Rows L2
/-! ### all stands but lists and dicts at some places -/
/-- all stands but what is at xs -/
def ButL (xs : List Addr) (H H' : Hp) : Prop := ∀ a o, a ∉ xs → H a = some o → H' a = some o
/-- lists and dicts are there -/
def LdAt (H : Hp) (xs : List Addr) : Prop := ∀ z ∈ xs, (∃ l, H z = some (.lst l)) ∨ ∃ k, H z = some (.dK k)
theorem ButL.same {H H' : Hp} (s : Same H H') (xs : List Addr) : ButL xs H H' := fun a o _ e => s a o e
theorem ButL.trans {xs : List Addr} {H H1 H2 : Hp} (x : ButL xs H H1) (y : ButL xs H1 H2) : ButL xs H H2 := fun a o n e => y a o n (x a o n e)
theorem ButL.mono {xs ys : List Addr} {H H' : Hp} (x : ButL xs H H') (s : ∀ z ∈ xs, z ∈ ys) : ButL ys H H' := fun a o n e => x a o (fun z => n (s a z)) e
section
variable {K : PySem.W.Frag} {H H' : Hp} {xs : List Addr}
theorem ButL.raw {a : Addr} {o : HO} (u : ButL xs H H') (l : LdAt H xs) (e : H a = some o) (n1 : ∀ l, o ≠ .lst l) (n2 : ∀ k, o ≠ .dK k) : H' a = some o := u a o (fun z => by
  rcases l a z with ⟨x, h⟩ | ⟨x, h⟩
  · rw [e] at h; exact n1 _ (Option.some.inj h)
  · rw [e] at h; exact n2 _ (Option.some.inj h)) e
theorem ButL.tup {a : Addr} {vs : List V} (u : ButL xs H H') (l : LdAt H xs) (e : H a = some (.tup vs)) : H' a = some (.tup vs) := u.raw l e (fun _ z => by cases z) (fun _ z => by cases z)
theorem ButL.sqT {a : Addr} {vs : List V} (u : ButL xs H H') (l : LdAt H xs) (h : SqT K H a vs) : SqT K H' a vs := by
  rcases h with (h | ⟨x, h⟩) | h
  · exact .inl (.inl (u.tup l h))
  · exact .inl (.inr ⟨x, u.raw l h (fun _ z => by cases z) (fun _ z => by cases z)⟩)
  · exact .inr h
theorem ButL.seaT {v : V} {h t : Int} {ds : List Int} (u : ButL xs H H') (l : LdAt H xs) (s : SeaT K H v h t ds) : SeaT K H' v h t ds := let ⟨p, q, e, b, c⟩ := s; ⟨p, q, e, u.sqT l b, u.sqT l c⟩
theorem ButL.lotT {v : V} {L : List Nat} (u : ButL xs H H') (l : LdAt H xs) (s : LotT K H v L) : LotT K H' v L := let ⟨p, e, b⟩ := s; ⟨p, e, u.sqT l b⟩
theorem ButL.stAt {v : V} {s : HS} (u : ButL xs H H') (l : LdAt H xs) (q : StAt K H v s) : StAt K H' v s := let ⟨p, sv, lv, e, b, c, d⟩ := q; ⟨p, sv, lv, e, u.sqT l b, u.seaT l c, u.lotT l d⟩
theorem ButL.har {C a ls le : Addr} {ss : List HS} {log : List (Bool × Str)} (u : ButL xs H H') (l : LdAt H xs) (n1 : ls ∉ xs) (n2 : le ∉ xs) (x : HarAt K H C a ls le ss log) : HarAt K H' C a ls le ss log := by
  obtain ⟨dx, sts, ens, h⟩ := x
  exact ⟨dx, sts, ens, u.raw l h.ins (fun _ z => by cases z) (fun _ z => by cases z), u _ _ n1 h.hs, u _ _ n2 h.he, paired_imp (fun _ _ z => u.stAt l z) h.ps, paired_imp (fun _ _ z => let ⟨p, e, b⟩ := z; ⟨p, e, u.tup l b⟩) h.pe, h.ne⟩
end
theorem nin1 {a b : Addr} (h : a ≠ b) : a ∉ [b] := fun z => h (List.mem_singleton.mp z)
theorem nin2 {a b c : Addr} (h : a ≠ b) (h' : a ≠ c) : a ∉ [b, c] := fun z => by
  rcases List.mem_cons.mp z with z | z
  · exact h z
  · exact h' (List.mem_singleton.mp z)
theorem nin3 {a b c d : Addr} (h : a ≠ b) (h' : a ≠ c) (h'' : a ≠ d) : a ∉ [b, c, d] := fun z => by
  rcases List.mem_cons.mp z with z | z
  · exact h z
  · exact nin2 h' h'' z
end Sh

namespace Sh
open PySem PySem.Spec PyProof.Rows L2
/-! ### k51: a harbour of so many ships -/
def spPort51 (K : PySem.W.Frag) (C : Addr) : Sp := fun vs H Q _ => ∃ (b : Addr) (N n : Nat), vs = [.ref b, .int (n : Int)] ∧ n ≤ 24 ∧ BoxAt H b (N + 100) ∧
  ∀ (H' : Hp) (p a ls le : Addr) (pv lv : V) (h t : Int) (ds : List Int) (L : List Nat) (ss : List HS) (lg : List (Bool × Str)), But b H H' → BoxAt H' b N → H a = none → H ls = none → H le = none → b ≠ ls → b ≠ le → H p = none → H' p = some (.tup [.ref a, pv, lv]) → SeaT K H' pv h t ds → LotT K H' lv L → Lot ds.length L → ds.length = n →
    HarAt K H' C a ls le (ss ++ [⟨h, t, ds, L, 0⟩]) lg → lg.length = 2 * n → ss.length = n → (0 < n → ∃ (ss' : List HS) (y : HS), ss = ss' ++ [y] ∧ HsOk y ∧ y.ds.length + 1 = n) → Q (.ref p) H'
abbrev s__law_port : Stmt := topS 42
theorem sc__law_port : FnScope (["_law_box_here", "_law_count", "_law_depths", "_law_deep", "_law_lot", "_law_port_here", "_law_whom", "_law_brink"] : List Str) (["_law_box_here", "_law_count"] : List Str) (defScope s__law_port) := ⟨rfl, rfl, rfl, by decide +kernel, rfl, by decide +kernel, by decide +kernel⟩
theorem b__law_port (kV doc pm : Value) (an : Option Addr) (cdv ct : Value) (us : List Value) (hl : us.length = (["_law_box_here", "_law_count"] : List Str).length) : bindArgs (PySem.W.fnOf "_law_port" "_law_port" (defArgs s__law_port) (defBody s__law_port) (defScope s__law_port) .none kV doc pm an cdv ct) ⟨us, []⟩ = pure ((["_law_box_here", "_law_count"] : List Str).zip us) :=
  match us, hl with | [_, _], _ => rfl
section
variable {P : Program} {w : World} {K : PySem.W.Frag} {mg : Str → Option Value} {base : Heap} {C : Addr}
theorem ne_of_none' {H : Hp} {p q : Addr} {o : HO} (h : H q = some o) (n : H p = none) : p ≠ q := fun z => by rw [z, h] at n; cases n
/-- what stands between two turns -/
structure L51 (K : PySem.W.Frag) (C a ls le b C1 dl l0 : Addr) (d0 d1 : Int) (ds : List Int) (L : List Nat) (ss : List HS) (lg : List (Bool × Str)) (n : Nat) (H0 H : Hp) : Prop where
  bx : BoxAt H b n
  U : But b H0 H
  ed : H dl = some (.lst (ds.map V.int))
  el : H l0 = some (.lst (ni L))
  ec : H C1 = some (.lst [.int d0, .int d1])
  hh : HarAt K H C a ls le (ss ++ [⟨d0, d1, ds, L, 0⟩]) lg
  n1 : l0 ∉ [b, dl, ls, le]
  n2 : C1 ∉ [b, dl, ls, le]
  n3 : dl ∉ [b, ls, le]
  n4 : b ∉ [ls, le]
  z0 : H0 dl = none
  z1 : H0 ls = none
  z2 : H0 le = none
section
variable {C a ls le b C1 dl l0 : Addr} {d0 d1 : Int} {ds : List Int} {L : List Nat} {ss : List HS} {lg : List (Bool × Str)} {n : Nat} {H0 H H' : Hp}
theorem L51.same (r : L51 K C a ls le b C1 dl l0 d0 d1 ds L ss lg n H0 H) (s : Same H H') : L51 K C a ls le b C1 dl l0 d0 d1 ds L ss lg n H0 H' := ⟨r.bx.same s, r.U.trans (Same.but s), s _ _ r.ed, s _ _ r.el, s _ _ r.ec, r.hh.same s, r.n1, r.n2, r.n3, r.n4, r.z0, r.z1, r.z2⟩
theorem L51.draw {ys : List V} {m : Nat} (r : L51 K C a ls le b C1 dl l0 d0 d1 ds L ss lg n H0 H) (y : BoxOk ys m) : L51 K C a ls le b C1 dl l0 d0 d1 ds L ss lg m H0 (upd H b (.lst ys)) := by
  obtain ⟨ud, xd⟩ := tk (But.refl b H) y
  have LB : LdAt H [b] := fun z hz => .inl (by rw [List.mem_singleton.mp hz]; obtain ⟨xs, e, _⟩ := r.bx; exact ⟨xs, e⟩)
  have UB : ButL [b] H (upd H b (.lst ys)) := fun a o na e => (upd_ne (fun z => na (List.mem_singleton.mpr z))).trans e
  have m1 := r.n1
  have m2 := r.n2
  have m3 := r.n3
  have m4 := r.n4
  simp only [List.mem_cons, List.not_mem_nil, or_false, not_or] at m1 m2 m3 m4
  exact ⟨xd, r.U.trans ud, UB _ _ (nin1 m3.1) r.ed, UB _ _ (nin1 m1.1) r.el, UB _ _ (nin1 m2.1) r.ec, UB.har LB (nin1 (Ne.symm m4.1)) (nin1 (Ne.symm m4.2)) r.hh, r.n1, r.n2, r.n3, r.n4, r.z0, r.z1, r.z2⟩
end
set_option maxHeartbeats 4000000 in
theorem ok_port51 {k : Nat} (D : Df K mg "_law_port" s__law_port) (T : Bt mg) (hC : Hc K mg C) (O_Harbour : HMk P w K mg base k C) (O__law_take : Ok P w K mg base k "_law_take" s__law_take ["_law_box_here", "_law_span"] spTake) (O__law_of : Ok P w K mg base k "_law_of" s__law_of ["_law_box_here", "_law_some"] (spOf K))
    (O_Harbour_moor : MOk P w K mg base k C "moor" "Harbour.moor" s_Harbour_moor ["self", "draught", "side"] (spHmoor K C)) : Ok P w K mg base (k + 2) "_law_port" s__law_port ["_law_box_here", "_law_count"] (spPort51 K C) := by
  refine D.ok sc__law_port b__law_port (fun vs H Q E h => ?_) (fun f cdv A outer s H vs Q E hr h => ?_)
  · obtain ⟨b, N, n, rfl, _⟩ := h
    rfl
  · obtain ⟨b, N, n, rfl, n24, hb, q⟩ := h
    refine ⟨_, (pss_cons (ps_par3 (i := 2) (j := 3) (l := 4) (by rfl) sc__law_port.nd rfl rfl rfl (by decide) (by decide) (by decide) rfl rfl rfl (pa_cons (pe_lc (own := [("_law_brink", 7)]) (g := (gName 7)) (tt := tYes) (by rfl) sc__law_port.nd (pi_range1 (by rfl) T.range_ (pa_cons pe_int pa_nil)) (blkOk_by (own := [("_law_brink", 7)]) (N := (["_law_box_here", "_law_count", "_law_depths", "_law_deep", "_law_lot", "_law_port_here", "_law_whom", "_law_brink"] : List Str)) (sc := defScope s__law_port) (by decide +kernel)) (fun _ _ _ _ _ => (pg_name (i := 7) sc__law_port.nd rfl (.inl rfl))) (fun _ _ _ _ _ => pts_nil) (fun _ _ _ _ _ => (pe_op op_add pe_int (pe_fn O__law_take (hr.mono (by omega)) (pa_cons (pv 0) (pa_cons pe_int pa_nil)))))) (pa_cons (pe_lst pa_nil) (pa_cons (pe_lst pa_nil) pa_nil))) (by rfl))
      (pss_cons (ps_set (i := 5) sc__law_port.nd rfl (.inl rfl) (pe_harTH O_Harbour hC (hr.mono (by omega)) (pk_cons (pe_ix ix_lt (pv 2) pe_int (fun _ _ => rfl)) (pk_cons (pe_ix ix_lt (pv 2) pe_int (fun _ _ => rfl)) pk_nil))))
      (pss_cons (ps_for PassesOwn.never rfl (pi_range1 (by rfl) T.range_ (pa_cons (pv 1) pa_nil)) (pg_name (i := 6) sc__law_port.nd rfl (.inl rfl))
        (pss_cons (ps_expr (pe_bm PySem.F.plainAttrs_list PySem.F.slot_list_append PySem.F.type_list_append mt_append (pv 3) (pa_cons (pe_fn O__law_take (hr.mono (by omega)) (pa_cons (pv 0) (pa_cons pe_int pa_nil))) pa_nil)))
          (pss_cons (ps_set (i := 7) sc__law_port.nd rfl (.inl rfl) (pe_fn O__law_of (hr.mono (by omega)) (pa_cons (pv 0) (pa_cons (pe_lst (pa_cons pe_str (pa_cons pe_str pa_nil))) pa_nil))))
          (pss_cons (ps_expr (pe_mK (ks := ["side", "draught"]) [0, 2, 1] O_Harbour_moor hC.cl (hr.mono (by omega)) (fun _ _ _ _ _ _ _ ws hk => match ws, hk with | [_, _], _ => rfl) (pv 5) (pk_cons (pv 7) (pk_cons (pe_ix ix_lt (pv 3) (pe_un un_neg pe_int) (fun _ _ => rfl)) pk_nil))))
          (pss_one (ps_set (i := 4) sc__law_port.nd rfl (.inl rfl) (pe_op op_cat (pv 4) (pe_op op_rep (pe_lst (pa_cons (pv 6) pa_nil)) (pe_callTy call_int1 (by rfl) T.int_ (by decide +kernel) (pa_cons (pe_cmpR op_eq (pv 7) pe_str (nomark _)) pa_nil))))))))))
      (pss_one (ps_ret (pe_tup (pa_cons (pv 5) (pa_cons (pe_tup (pa_cons (pe_ix ix_lt (pv 2) pe_int (fun _ _ => rfl)) (pa_cons (pe_ix ix_lt (pv 2) pe_int (fun _ _ => rfl)) (pa_cons (pe_callTy call_tuple_of (by rfl) T.tuple_ (by decide +kernel) (pa_cons (pv 3) pa_nil)) pa_nil)))) (pa_cons (pe_callTy call_tuple_of (by rfl) T.tuple_ (by decide +kernel) (pa_cons (pv 4) pa_nil)) pa_nil))))))))), ?_⟩
    refine ⟨2, rfl, by decide, by decide, fun C1 nC1 => ?_⟩
    refine lc_range (fun i Hc => ∃ ns : List Int, But b H Hc ∧ BoxAt Hc b (N + 100 - i) ∧ Hc C1 = some (.lst (ns.map V.int)) ∧ ns.length = i) ?_ ?_ ?_
    · exact ⟨[], (al (But.refl b H) hb nC1).1, (al (But.refl b H) hb nC1).2.1, upd_same, rfl⟩
    · rintro i Hc hi ⟨ns, uc, xc, hC1, hl⟩
      have nCb : C1 ≠ b := (hb.ne nC1).symm
      have i2 : i < 2 := hi
      refine ⟨rfl, tyes (iteT ?_)⟩
      refine ⟨_, rfl, b, N + 100 - i - 1, 3, rfl, by decide, by decide, xc.mono (by omega), fun v ys v0 v1 y => ?_⟩
      obtain ⟨ud, xd⟩ := tk uc y
      have hD : upd Hc b (.lst ys) C1 = some (.lst (ns.map V.int)) := by rw [upd_ne nCb]; exact hC1
      generalize upd Hc b (.lst ys) = Hd at ud xd hD
      refine ⟨3, v, rfl, rfl, ns.map V.int, hD, ?_, ns ++ [3 + v], ?_, ?_, ?_, ?_⟩
      · rw [List.length_map, hl]
        exact Nat.lt_trans i2 (by decide)
      · exact fun a o na e => by rw [upd_ne (ne_of_none e nC1)]; exact ud a o na e
      · exact (xd.at (hb.ne nC1)).mono (by omega)
      · rw [upd_same, List.map_append]
        rfl
      · simp [hl]
    rintro H1 ⟨ns, u1, x1, h1, l1⟩
    obtain ⟨d0, d1, rfl⟩ := two_of l1
    replace x1 : BoxAt H1 b (N + 98) := x1.mono (by omega)
    refine ⟨Nat.zero_le _, fun dl ndl => ?_⟩
    obtain ⟨u2, x2, e2, n2⟩ := al (o := .lst []) u1 x1 ndl
    have h2 : upd H1 dl (.lst []) C1 = some (.lst [.int d0, .int d1]) := (upd_ne (ne_of_none h1 ndl)).trans h1
    have ndl0 : H dl = none := u1.free n2 ndl
    generalize upd H1 dl (.lst []) = H2 at u2 x2 e2 h2
    refine ⟨Nat.zero_le _, fun ll nll => ?_⟩
    obtain ⟨u3, x3, e3, n3⟩ := al (o := .lst []) u2 x2 nll
    have h3 : upd H2 ll (.lst []) C1 = some (.lst [.int d0, .int d1]) := (upd_ne (ne_of_none h2 nll)).trans h2
    have e2' := e2
    replace e2 : upd H2 ll (.lst []) dl = some (.lst []) := (upd_ne (ne_of_none e2 nll)).trans e2
    generalize upd H2 ll (.lst []) = H3 at u3 x3 e3 h3 e2
    refine ⟨_, _, _, rfl, ?_⟩
    refine ⟨_, rfl, C1, _, 1, .int d1, rfl, rfl, SqA.l h3, rfl, _, rfl, C1, _, 0, .int d0, rfl, rfl, SqA.l h3, rfl, d0, d1, rfl, fun H4 a ls le s4 na nls nle har4 => ?_⟩
    have u4 : But b H H4 := u3.trans (Same.but s4)
    have x4 := x3.same s4
    have fr : ∀ {p : Addr}, H3 p = none → H p = none ∧ b ≠ p := fun {p} np => ⟨u3.free (x3.ne np).symm np, x3.ne np⟩
    have ns1 := fr nls
    have ns2 := fr nle
    have ns3 := fr na
    have dls : dl ≠ ls := ne_of_none e2 nls
    have dle : dl ≠ le := ne_of_none e2 nle
    have cls : C1 ≠ ls := ne_of_none h3 nls
    have cle : C1 ≠ le := ne_of_none h3 nle
    have cdl : C1 ≠ dl := ne_of_none h1 ndl
    have cb : C1 ≠ b := (hb.ne nC1).symm
    have lls : ll ≠ ls := ne_of_none e3 nls
    have lle : ll ≠ le := ne_of_none e3 nle
    have ldl : ll ≠ dl := fun z => by rw [z] at nll; rw [nll] at e2'; cases e2'
    replace e2 := s4 _ _ e2
    replace e3 := s4 _ _ e3
    replace h3 := s4 _ _ h3
    have r0 : L51 K C a ls le b C1 dl ll d0 d1 [] [] [] [] (N + 98) H H4 := ⟨x4, u4, e2, e3, h3, har4, by simp [n3, ldl, lls, lle], by simp [cb, cdl, cls, cle], by simp [n2, dls, dle], by simp [ns1.2, ns2.2], ndl0, ns1.1, ns2.1⟩
    refine ⟨_, rfl, _, rfl, by omega, by omega, ?_⟩
    rw [show ((n : Int)).toNat = n by omega]
    refine for_range (lo := 0) (n := n) (fun i σ H' => ∃ (y6 y7 : Option V) (ll : Addr) (ds : List Int) (L : List Nat) (ss : List HS) (lg : List (Bool × Str)), σ = [some (.ref b), some (.int (n : Int)), some (.ref C1), some (.ref dl), some (.ref ll), some (.ref a), y6, y7] ∧ L51 K C a ls le b C1 dl ll d0 d1 ds L ss lg (N + 98 - 2 * i) H H' ∧ Lot i L ∧ ds.length = i ∧ ss.length = i ∧ lg.length = 2 * i ∧ (0 < i → ∃ (ss' : List HS) (y : HS), ss = ss' ++ [y] ∧ HsOk y ∧ y.ds.length + 1 = i)) ?_ ?_ ?_
    · exact ⟨none, none, ll, [], [], [], [], rfl, r0, Lot.nil _, rfl, rfl, rfl, fun z => absurd z (by decide)⟩
    · rintro i σ Hc hi ⟨y6, y7, l0, ds, L, ss, lg, rfl, r, hL, ld, lss, llg, lst⟩
      have hi' : i < n := hi
      have lL := hL.len
      refine ⟨_, rfl, .inl ⟨rfl, _, SqL.of r.ed⟩, _, rfl, b, N + 98 - 2 * i - 1, 8, rfl, by decide, by decide, r.bx.mono (by omega), fun v ys v0 v1 y => ?_⟩
      replace r := r.draw y
      generalize upd Hc b (.lst ys) = H5 at r
      refine ⟨dl, _, _, rfl, rfl, r.ed, ?_, ?_⟩
      · rw [List.length_map, ld]
        exact small1000 (by omega)
      -- the list of draughts is one longer than the harbour's
      obtain ⟨bx, U, ed, el, ec, hh, n1, n2, n3, n4, z0, z1, z2⟩ := r
      have m1 := n1
      have m2 := n2
      have m3 := n3
      have m4 := n4
      simp only [List.mem_cons, List.not_mem_nil, or_false, not_or] at m1 m2 m3 m4
      have LD : LdAt H5 [dl] := fun z hz => .inl (by rw [List.mem_singleton.mp hz]; exact ⟨_, ed⟩)
      have UD : ButL [dl] H5 (upd H5 dl (.lst (ds.map V.int ++ [.int v]))) := fun a o na e => (upd_ne (fun z => na (List.mem_singleton.mpr z))).trans e
      have ed6 : upd H5 dl (.lst (ds.map V.int ++ [.int v])) dl = some (.lst ((ds ++ [v]).map V.int)) := by
        rw [upd_same, List.map_append]
        rfl
      replace hh := UD.har LD (nin1 (Ne.symm m3.2.1)) (nin1 (Ne.symm m3.2.2)) hh
      replace el := UD _ _ (nin1 m1.2.1) el
      replace ec := UD _ _ (nin1 m2.2.1) ec
      replace bx : BoxAt (upd H5 dl (.lst (ds.map V.int ++ [.int v]))) b _ := bx.at (Ne.symm m3.1)
      replace U : But b H (upd H5 dl (.lst (ds.map V.int ++ [.int v]))) := (fun a o na e => (upd_ne (fun z => by rw [z, z0] at e; cases e)).trans (U a o na e))
      generalize upd H5 dl (.lst (ds.map V.int ++ [.int v])) = H6 at hh el ec bx U ed6
      refine ⟨_, rfl, (by show 2 ≤ sizeLine; decide), fun l2 nl2 => ?_⟩
      have g7 : Same H6 (upd H6 l2 (.lst [.str "here", .str "there"])) := same_new nl2
      have e7 : upd H6 l2 (.lst [.str "here", .str "there"]) l2 = some (.lst [.str "here", .str "there"]) := upd_same
      have l2b : l2 ≠ b := (bx.ne nl2).symm
      generalize upd H6 l2 (.lst [.str "here", .str "there"]) = H7 at g7 e7
      refine ⟨b, l2, N + 98 - 2 * i - 2, _, rfl, SqA.l e7, l2b, (by show 0 < 2; decide), (by show 2 < 1000000; decide), (bx.same g7).mono (by omega), fun z xs2 hz y2 => ?_⟩
      obtain ⟨sd, rfl⟩ : ∃ sd : Bool, z = .str (sideS sd) := by
        rcases List.mem_cons.mp hz with e | e
        · exact ⟨true, e⟩
        · exact ⟨false, List.mem_singleton.mp e⟩
      have LB : LdAt H7 [b] := fun z hz => .inl (by rw [List.mem_singleton.mp hz]; obtain ⟨xs, e, _⟩ := bx; exact ⟨xs, g7 _ _ e⟩)
      have UB : ButL [b] H7 (upd H7 b (.lst xs2)) := fun a o na e => (upd_ne (fun z => na (List.mem_singleton.mpr z))).trans e
      obtain ⟨u8, x8⟩ := tk (But.refl b H7) y2
      replace hh := UB.har LB (nin1 (Ne.symm m4.1)) (nin1 (Ne.symm m4.2)) (hh.same g7)
      replace el := UB _ _ (nin1 m1.1) (g7 _ _ el)
      replace ec := UB _ _ (nin1 m2.1) (g7 _ _ ec)
      replace ed6 := UB _ _ (nin1 m3.1) (g7 _ _ ed6)
      replace U := (U.trans (Same.but g7)).trans u8
      generalize upd H7 b (.lst xs2) = H8 at hh el ec ed6 U u8 x8
      obtain ⟨dx, sts, ens, hx⟩ := hh
      have ok : HsOk (⟨d0, d1, ds, L, 0⟩ : HS) := ⟨by show ds.length ≤ 24; omega, by show Lot ds.length L; rw [ld]; exact hL⟩
      refine ⟨_, rfl, a, dx, _, rfl, hx.ins, rfl, _, rfl, _, rfl, 1, rfl, dl, _, -1, .int v, rfl, rfl, SqA.l ed6, (by rw [List.map_append]; exact atI_last _ _), rfl, a, ls, le, ss, _, lg, v, sd, rfl, ⟨dx, sts, ens, hx⟩, ok, by show ds.length < 24; omega, by omega, by omega, fun H9 u9 h9 => ?_⟩
      have LH : LdAt H8 [ls, le] := fun z hz => by
        rcases List.mem_cons.mp hz with e | e
        · rw [e]; exact .inl ⟨_, hx.hs⟩
        · rw [List.mem_singleton.mp e]; exact .inl ⟨_, hx.he⟩
      have UH : ButL [ls, le] H8 H9 := fun p o np e => u9 p o (fun z => np (by rw [z]; simp)) (fun z => np (by rw [z]; simp)) e
      have x9 : BoxAt H9 b (N + 98 - 2 * (i + 1)) := by
        obtain ⟨xs, e, kk⟩ := x8
        exact ⟨xs, UH _ _ n4 e, kk.mono (by omega)⟩
      replace ed6 := UH _ _ (nin2 m3.2.1 m3.2.2) ed6
      replace el := UH _ _ (nin2 m1.2.2.1 m1.2.2.2) el
      replace ec := UH _ _ (nin2 m2.2.2.1 m2.2.2.2) ec
      replace U : But b H H9 := fun p o np e => u9 p o (fun z => by rw [z, z1] at e; cases e) (fun z => by rw [z, z2] at e; cases e) (U p o np e)
      refine ⟨_, rfl, _, rfl, (by show 1 ≤ sizeLine; decide), fun q1 nq1 => ?_⟩
      have g10 : Same H9 (upd H9 q1 (.lst [.int (0 + (i : Int))])) := same_new nq1
      have e10 : upd H9 q1 (.lst [.int (0 + (i : Int))]) q1 = some (.lst [.int (0 + (i : Int))]) := upd_same
      generalize upd H9 q1 (.lst [.int (0 + (i : Int))]) = H10 at g10 e10
      refine ⟨_, rfl, rfl, .inr ⟨_, rfl, ?_⟩⟩
      have key : ∀ (M : List Nat), Lot (i + 1) M → M = (if sd then L ++ [i] else L) → ∀ (H' : Hp) (p : Addr), Same H10 H' → H10 p = none → H' p = some (.lst (ni M)) → L51 K C a ls le b C1 dl p d0 d1 (ds ++ [v]) M (ss ++ [⟨d0, d1, ds, L, 0⟩]) (lg ++ io "moor") (N + 98 - 2 * (i + 1)) H H' := fun M hM eM H' p s np ep => by
        have n9 : H9 p = none := g10.free np
        have nb : p ≠ b := (x9.ne n9).symm
        have nd : p ≠ dl := ne_of_none' ed6 n9
        obtain ⟨dx2, sts2, ens2, hx2⟩ := id h9
        have nl : p ≠ ls := ne_of_none' hx2.hs n9
        have ne : p ≠ le := ne_of_none' hx2.he n9
        have s9 := g10.trans s
        refine ⟨x9.same s9, U.trans (Same.but s9), s9 _ _ ed6, ep, s9 _ _ ec, ?_, by simp [nb, nd, nl, ne], n2, n3, n4, z0, z1, z2⟩
        have es : (⟨d0, d1, ds ++ [v], M, 0⟩ : HS) = moorS ⟨d0, d1, ds, L, 0⟩ v sd := by
          unfold moorS
          rw [eM, ← ld]
        rw [es]
        exact h9.same s9
      cases sd with
      | true =>
        refine ⟨q1, 1, _, rfl, (by rw [show decide (V.str (sideS true) = V.str "here") = true from by decide]; rfl), e10, by decide, by decide, (by show 1 * 1 ≤ sizeLine; decide), fun q2 nq2 => ?_⟩
        have g11 : Same H10 (upd H10 q2 (.lst (List.replicate ((1 : Int)).toNat [V.int (0 + (i : Int))]).flatten)) := same_new nq2
        have e11 : upd H10 q2 (.lst (List.replicate ((1 : Int)).toNat [V.int (0 + (i : Int))]).flatten) q2 = some (.lst [.int (0 + (i : Int))]) := upd_same
        generalize upd H10 q2 (.lst (List.replicate ((1 : Int)).toNat [V.int (0 + (i : Int))]).flatten) = H11 at g11 e11
        refine ⟨l0, q2, _, _, rfl, rfl, (g10.trans g11) _ _ el, e11, (by rw [ni_len]; exact Nat.le_trans (show L.length + 1 ≤ 100 by omega) (by decide)), fun p np => ?_⟩
        have lM : Lot (i + 1) (L ++ [i]) := ⟨List.pairwise_append.mpr ⟨hL.up, by simp, fun a ha y hy => by rw [List.mem_singleton.mp hy]; exact hL.lt a ha⟩, fun j hj => (List.mem_append.mp hj).elim (fun z => Nat.lt_succ_of_lt (hL.lt j z)) fun z => by rw [List.mem_singleton.mp z]; exact Nat.lt_succ_self _⟩
        exact ⟨_, _, p, ds ++ [v], L ++ [i], ss ++ [⟨d0, d1, ds, L, 0⟩], lg ++ io "moor", rfl, key _ lM rfl _ p (g11.trans (same_new np)) (g11.free np) (by rw [upd_same, ni_app, Int.zero_add (i : Int)]; rfl), lM, by rw [List.length_append, ld]; rfl, by rw [List.length_append, lss]; rfl, by rw [List.length_append, llg]; show 2 * i + 2 = 2 * (i + 1); omega, fun _ => ⟨ss, _, rfl, ok, by show ds.length + 1 = i + 1; rw [ld]⟩⟩
      | false =>
        refine ⟨q1, 0, _, rfl, (by rw [show decide (V.str (sideS false) = V.str "here") = false from by decide]; rfl), e10, by decide, by decide, (by show 1 * 0 ≤ sizeLine; decide), fun q2 nq2 => ?_⟩
        have g11 : Same H10 (upd H10 q2 (.lst (List.replicate ((0 : Int)).toNat [V.int (0 + (i : Int))]).flatten)) := same_new nq2
        have e11 : upd H10 q2 (.lst (List.replicate ((0 : Int)).toNat [V.int (0 + (i : Int))]).flatten) q2 = some (.lst []) := upd_same
        generalize upd H10 q2 (.lst (List.replicate ((0 : Int)).toNat [V.int (0 + (i : Int))]).flatten) = H11 at g11 e11
        refine ⟨l0, q2, _, _, rfl, rfl, (g10.trans g11) _ _ el, e11, (by rw [ni_len]; exact Nat.le_trans (show L.length + 0 ≤ 100 by omega) (by decide)), fun p np => ?_⟩
        have lM : Lot (i + 1) (L) := ⟨hL.up, fun j hj => Nat.lt_succ_of_lt (hL.lt j hj)⟩
        exact ⟨_, _, p, ds ++ [v], L, ss ++ [⟨d0, d1, ds, L, 0⟩], lg ++ io "moor", rfl, key _ lM rfl _ p (g11.trans (same_new np)) (g11.free np) (by rw [upd_same, List.append_nil]), lM, by rw [List.length_append, ld]; rfl, by rw [List.length_append, lss]; rfl, by rw [List.length_append, llg]; show 2 * i + 2 = 2 * (i + 1); omega, fun _ => ⟨ss, _, rfl, ok, by show ds.length + 1 = i + 1; rw [ld]⟩⟩
    · rintro σ Hc ⟨y6, y7, l0, ds, L, ss, lg, rfl, r, hL, ld, lss, llg, lst⟩
      refine ⟨_, rfl, _, rfl, C1, _, 0, .int d0, rfl, rfl, SqA.l r.ec, rfl, _, rfl, C1, _, 1, .int d1, rfl, rfl, SqA.l r.ec, rfl, _, rfl, dl, _, rfl, .inl ⟨SqL.of r.ed, fun q1 nq1 => ?_⟩⟩
      have g1 : Same Hc (upd Hc q1 (.tup (ds.map V.int))) := same_new nq1
      have e1 : upd Hc q1 (.tup (ds.map V.int)) q1 = some (.tup (ds.map V.int)) := upd_same
      replace r := r.same g1
      generalize upd Hc q1 (.tup (ds.map V.int)) = G1 at g1 e1 r
      refine ⟨(by show 3 ≤ sizeLine; decide), fun q2 nq2 => ?_⟩
      have g2 : Same G1 (upd G1 q2 (.tup [.int d0, .int d1, .ref q1])) := same_new nq2
      have e2 : upd G1 q2 (.tup [.int d0, .int d1, .ref q1]) q2 = some (.tup [.int d0, .int d1, .ref q1]) := upd_same
      replace r := r.same g2
      replace e1 := g2 _ _ e1
      generalize upd G1 q2 (.tup [.int d0, .int d1, .ref q1]) = G2 at g2 e2 r e1
      refine ⟨_, rfl, l0, _, rfl, .inl ⟨SqL.of r.el, fun q3 nq3 => ?_⟩⟩
      have g3 : Same G2 (upd G2 q3 (.tup (ni L))) := same_new nq3
      have e3 : upd G2 q3 (.tup (ni L)) q3 = some (.tup (ni L)) := upd_same
      replace r := r.same g3
      replace e1 := g3 _ _ e1
      replace e2 := g3 _ _ e2
      generalize upd G2 q3 (.tup (ni L)) = G3 at g3 e3 r e1 e2
      refine ⟨(by show 3 ≤ sizeLine; decide), fun q4 nq4 => ?_⟩
      have g4 : Same G3 (upd G3 q4 (.tup [.ref a, .ref q2, .ref q3])) := same_new nq4
      have r4 := r.same g4
      have m4 := r.n4
      simp only [List.mem_cons, List.not_mem_nil, or_false, not_or] at m4
      exact q _ q4 a ls le (.ref q2) (.ref q3) d0 d1 ds L ss lg r4.U (r4.bx.mono (by omega)) ns3.1 ns1.1 ns2.1 m4.1 m4.2 (r.U.free (r.bx.ne nq4).symm nq4) upd_same ⟨q2, q1, rfl, SqT.of (g4 _ _ e2), SqT.of (g4 _ _ e1)⟩ ⟨q3, rfl, SqT.of (g4 _ _ e3)⟩ (by rw [ld]; exact hL) ld r4.hh llg lss lst
end
end Sh

namespace Sh
open PySem PySem.Spec PyProof.Rows L2
/-! ### k51: the right -/
def ci (L : List Nat) : List Int := L.map fun (i : Nat) => (i : Int)
theorem ci_ni (L : List Nat) : (ci L).map V.int = ni L := (ni_ints L).symm
theorem okI {z : Int} (h : z.natAbs ≤ 1000000000000) : okInt (.int z) := ⟨z, rfl, by
  by_cases h0 : z.natAbs = 0
  · rw [h0]; decide
  · exact (Nat.log2_lt h0).mpr (Nat.lt_of_le_of_lt h (by decide))⟩
theorem goesZ_goes {h t : Int} {ds : List Int} : ∀ {row L M : List Nat} (r : List Int), goes h t ds L row = some M → goesZ h t ds L (ci row ++ r) = goesZ h t ds M r
  | [], L, M, r, e => by
    cases e
    rfl
  | i :: row, L, M, r, e => by
    unfold goes at e
    by_cases c : i < ds.length ∧ mayB h t ds L i = true
    · rw [if_pos c] at e
      show goesZ h t ds L ((i : Int) :: (ci row ++ r)) = _
      rw [goesZ_cons, if_pos ⟨by omega, by omega⟩, Int.toNat_natCast, if_pos c.2]
      exact goesZ_goes r e
    · rw [if_neg c] at e
      cases e
theorem goesZ_out {h t : Int} {ds : List Int} {L : List Nat} {z : Int} {r : List Int} (n : ¬(0 ≤ z ∧ z < (ds.length : Int))) : goesZ h t ds L (z :: r) = some (true, z) := by rw [goesZ_cons, if_neg n]
theorem goesZ_may {h t : Int} {ds : List Int} {L : List Nat} {s : Nat} {r : List Int} (hs : s < ds.length) (n : mayB h t ds L s = false) : goesZ h t ds L ((s : Int) :: r) = some (false, (s : Int)) := by
  rw [goesZ_cons, if_pos ⟨by omega, by omega⟩, Int.toNat_natCast, if_neg (by rw [n]; decide)]
theorem goes_inL : ∀ {h t : Int} {ds : List Int} {L M row : List Nat}, goes h t ds L row = some M → ∀ i ∈ row, i < ds.length
  | _, _, _, _, _, [], _ => fun i hi => nomatch hi
  | h, t, ds, L, M, j :: r, e => by
    unfold goes at e
    by_cases c : j < ds.length ∧ mayB h t ds L j = true
    · rw [if_pos c] at e
      intro i hi
      rcases List.mem_cons.mp hi with rfl | hi
      · exact c.1
      · exact goes_inL e i hi
    · rw [if_neg c] at e
      cases e
theorem goes_lotL {h t : Int} {ds : List Int} : ∀ {r L M : List Nat}, Lot ds.length L → goes h t ds L r = some M → Lot ds.length M
  | [], L, M, hL, e => by
    cases e
    exact hL
  | i :: r, L, M, hL, e => by
    unfold goes at e
    by_cases c : i < ds.length ∧ mayB h t ds L i = true
    · rw [if_pos c] at e
      exact goes_lotL (gone_lot hL c.1) e
    · rw [if_neg c] at e
      cases e
theorem goesX_go : ∀ {h t : Int} {ds : List Int} {L M row : List Nat}, goes h t ds L row = some M → goesX h t ds L row = (M, none)
  | _, _, _, _, _, [], e => by cases e; rfl
  | h, t, ds, L, M, i :: r, e => by
    unfold goes at e
    rw [goesX_cons]
    by_cases c : i < ds.length ∧ mayB h t ds L i = true
    · rw [if_pos c] at e ⊢
      exact goesX_go e
    · rw [if_neg c] at e
      cases e
theorem cutN1 (S : List Nat) : cutV (ni S) none (some 1) = ni (S.take 1) := by
  unfold cutV
  rw [show (1 : Int) = ((1 : Nat) : Int) from rfl, HT.sIx_nat, HT.sIx_none, List.drop_zero, Nat.sub_zero, ni_len]
  cases S <;> rfl
/-- the long one's states -/
def st51 (j : Nat) : HS := ⟨(j : Int), 3, [], [], 0⟩
def rs51 (n : Nat) : List HS := (List.range n).map st51
def rs51t : List HS := (List.range 80).map fun j => st51 (j + 1)
theorem rs51_succ (n : Nat) : rs51 (n + 1) = rs51 n ++ [st51 n] := by
  unfold rs51
  rw [List.range_succ, List.map_append]
  rfl
theorem rs51_len (n : Nat) : (rs51 n).length = n := by unfold rs51; rw [List.length_map, List.length_range]
theorem st51_ok (n : Nat) : HsOk (st51 n) := ⟨Nat.zero_le _, Lot.nil _⟩
/-- those who may not -/
def stk (h t : Int) (ds : List Int) (L : List Nat) : List Nat := (List.range ds.length).filter fun m => !mayB h t ds L m
theorem stk_mem {h t : Int} {ds : List Int} {L : List Nat} {g : Nat} (hg : g ∈ stk h t ds L) : g < ds.length ∧ mayB h t ds L g = false := by
  unfold stk at hg
  rw [List.mem_filter, List.mem_range] at hg
  exact ⟨hg.1, by simpa using hg.2⟩
theorem stk_len (h t : Int) (ds : List Int) (L : List Nat) : (stk h t ds L).length ≤ ds.length := filter_len _ _
/-- what stands between two steps -/
structure P51 (K : PySem.W.Frag) (C a ls le b pp : Addr) (pl : V) (h t : Int) (ds : List Int) (L : List Nat) (H0 : Hp) (ss : List HS) (x : HS) (lg : List (Bool × Str)) (n : Nat) (H : Hp) : Prop where
  hh : HarAt K H C a ls le (ss ++ [x]) lg
  bx : BoxAt H b n
  sea : SeaT K H (.ref pp) h t ds
  lot : LotT K H pl L
  U : But b H0 H
  z1 : H0 ls = none
  z2 : H0 le = none
  n1 : b ≠ ls
  n2 : b ≠ le
section
variable {K : PySem.W.Frag} {C a ls le b pp : Addr} {pl : V} {h t : Int} {ds : List Int} {L : List Nat} {H0 : Hp} {ss ss' : List HS} {x x' : HS} {lg lg' : List (Bool × Str)} {n m : Nat} {H H' : Hp}
theorem P51.but (r : P51 K C a ls le b pp pl h t ds L H0 ss x lg n H) (u : But b H H') (y : BoxAt H' b m) : P51 K C a ls le b pp pl h t ds L H0 ss x lg m H' := by
  have LB : LdAt H [b] := fun z hz => .inl (by rw [List.mem_singleton.mp hz]; obtain ⟨xs, e, _⟩ := r.bx; exact ⟨xs, e⟩)
  have UB : ButL [b] H H' := fun a o na e => u a o (fun z => na (List.mem_singleton.mpr z)) e
  exact ⟨UB.har LB (nin1 (Ne.symm r.n1)) (nin1 (Ne.symm r.n2)) r.hh, y, r.sea.but r.bx u, r.lot.but r.bx u, r.U.trans u, r.z1, r.z2, r.n1, r.n2⟩
theorem P51.same (r : P51 K C a ls le b pp pl h t ds L H0 ss x lg n H) (s : Same H H') : P51 K C a ls le b pp pl h t ds L H0 ss x lg n H' := r.but (Same.but s) (r.bx.same s)
theorem P51.draw {ys : List V} (r : P51 K C a ls le b pp pl h t ds L H0 ss x lg n H) (y : BoxOk ys m) : P51 K C a ls le b pp pl h t ds L H0 ss x lg m (upd H b (.lst ys)) := r.but But.ups (.put y)
theorem P51.mono (r : P51 K C a ls le b pp pl h t ds L H0 ss x lg n H) (e : m ≤ n) : P51 K C a ls le b pp pl h t ds L H0 ss x lg m H := ⟨r.hh, r.bx.mono e, r.sea, r.lot, r.U, r.z1, r.z2, r.n1, r.n2⟩
theorem P51.deed (r : P51 K C a ls le b pp pl h t ds L H0 ss x lg n H) (u : ButH ls le H H') (k : HarAt K H' C a ls le (ss' ++ [x']) lg') : P51 K C a ls le b pp pl h t ds L H0 ss' x' lg' n H' := by
  obtain ⟨dx, sts, ens, hx⟩ := r.hh
  have bx : BoxAt H' b n := let ⟨xs, e, k⟩ := r.bx; ⟨xs, u _ _ r.n1 r.n2 e, k⟩
  exact ⟨k, bx, hx.seaT u r.sea, hx.lotT u r.lot, fun p o np e => u p o (fun z => by rw [z, r.z1] at e; cases e) (fun z => by rw [z, r.z2] at e; cases e) (r.U p o np e), r.z1, r.z2, r.n1, r.n2⟩
theorem P51.nls (r : P51 K C a ls le b pp pl h t ds L H0 ss x lg n H) {p : Addr} (np : H p = none) : p ≠ ls ∧ p ≠ le := by
  obtain ⟨dx, sts, ens, hx⟩ := r.hh
  exact ⟨fun z => (by rw [z, hx.hs] at np; cases np), fun z => (by rw [z, hx.he] at np; cases np)⟩
end
end Sh

namespace Sh
open PySem PySem.Spec PyProof.Rows L2
theorem eqv_tup : ∀ ns ms : List Int, PyData.eqv (.tuple (ns.map .int)) (.tuple (ms.map .int)) = decide (ns = ms)
  | [], [] => rfl
  | [], _ :: _ => rfl
  | _ :: _, [] => rfl
  | n :: ns, m :: ms => by
    show ((n == m) && PyData.eqv (.tuple (ns.map .int)) (.tuple (ms.map .int))) = _
    rw [eqv_tup ns ms, Bool.eq_iff_iff, Bool.and_eq_true, beq_iff_eq, decide_eq_true_eq, decide_eq_true_eq]
    exact ⟨fun ⟨a, b⟩ => by rw [a, b], fun e => by injection e with a b; exact ⟨a, b⟩⟩
theorem shaped_tup (ns : List Int) : SeqAt.shaped (.tuple (ns.map .int)) = true := by
  have := shaped_ints ns
  exact this
theorem dp_niT {K : PySem.W.Frag} {H : Hp} {a : Addr} {L : List Nat} (h : SqT K H a (ni L)) : Dp K H (.ref a) (.tuple ((L.map fun (i : Nat) => (i : Int)).map .int)) := .tup h (by rw [ni_ints]; exact DpAll.ints _)
theorem ni_map_inj {L M : List Nat} : (L.map fun (i : Nat) => (i : Int)) = (M.map fun (i : Nat) => (i : Int)) ↔ L = M := by
  constructor
  · intro e
    have := congrArg (List.map Int.toNat) e
    rw [List.map_map, List.map_map, show (Int.toNat ∘ fun (i : Nat) => (i : Int)) = id from rfl, List.map_id, List.map_id] at this
    exact this
  · intro e
    rw [e]
theorem eqv_niT (L M : List Nat) : PyData.eqv (.tuple ((L.map fun (i : Nat) => (i : Int)).map .int)) (.tuple ((M.map fun (i : Nat) => (i : Int)).map .int)) = decide (L = M) := by
  rw [eqv_tup, Bool.eq_iff_iff, decide_eq_true_eq, decide_eq_true_eq]
  exact ni_map_inj
end Sh

namespace Sh
open PySem PySem.Spec PyProof.Rows L2
abbrev s__law_right : Stmt := topS 44
theorem sc__law_right : FnScope (["_law_box_here", "_law_port_here", "_law_pond", "_law_lot", "_law_count", "_law_turn", "_law_absent", "_law_lot_then", "_law_went", "_law_stuck", "_law_bad", "_law_shut", "_law_long", "_law_whole", "_law_whom"] : List Str) (["_law_box_here"] : List Str) (defScope s__law_right) := ⟨rfl, rfl, rfl, by decide +kernel, rfl, by decide +kernel, by decide +kernel⟩
theorem b__law_right (kV doc pm : Value) (an : Option Addr) (cdv ct : Value) (us : List Value) (hl : us.length = (["_law_box_here"] : List Str).length) : bindArgs (PySem.W.fnOf "_law_right" "_law_right" (defArgs s__law_right) (defBody s__law_right) (defScope s__law_right) .none kV doc pm an cdv ct) ⟨us, []⟩ = pure ((["_law_box_here"] : List Str).zip us) :=
  match us, hl with | [_], _ => rfl
section
variable {P : Program} {w : World} {K : PySem.W.Frag} {mg : Str → Option Value} {base : Heap} {C M : Addr}
set_option maxHeartbeats 16000000 in
theorem ok_right51 {k : Nat} (D : Df K mg "_law_right" s__law_right) (T : Bt mg) (hC : Hc K mg C) (O_Harbour : HMk P w K mg base k C) (O__law_take : Ok P w K mg base k "_law_take" s__law_take ["_law_box_here", "_law_span"] spTake) (O__law_of : Ok P w K mg base k "_law_of" s__law_of ["_law_box_here", "_law_some"] (spOf K))
    (O__law_port : Ok P w K mg base k "_law_port" s__law_port ["_law_box_here", "_law_count"] (spPort51 K C)) (O__law_one_right : Ok P w K mg base k "_law_one_right" s__law_one_right ["_law_port_here", "_law_word", "_law_some", "_law_due"] (spOneRight K C)) (O__law_walk : Ok P w K mg base k "_law_walk" s__law_walk ["_law_box_here", "_law_sea_here", "_law_lot", "_law_most"] (spWalk K)) (O__law_lets : Ok P w K mg base k "_law_lets" s__law_lets ["_law_sea_here", "_law_lot"] (spLets K))
    (O_Harbour_sail : MOkX P w K mg base k C "sail" "Harbour.sail" s_Harbour_sail ["self", "row"] (spHsail K C M)) (O_Harbour_undo : MOk P w K mg base k C "undo" "Harbour.undo" s_Harbour_undo ["self"] (spHundo K C)) (O_Harbour_dredge : MOk P w K mg base k C "dredge" "Harbour.dredge" s_Harbour_dredge ["self", "side", "more"] (spHdredge K C))
    (O_Harbour_moor : MOk P w K mg base k C "moor" "Harbour.moor" s_Harbour_moor ["self", "draught", "side"] (spHmoor K C)) (O_Harbour_as_of : MOk P w K mg base k C "as_of" "Harbour.as_of" s_Harbour_as_of ["self", "many"] (spHasof K C)) (O_Harbour_sea : MOk P w K mg base k C "sea" "Harbour.sea" s_Harbour_sea ["self"] (spHsea K C))
    (O_Harbour_standing : MOk P w K mg base k C "standing" "Harbour.standing" s_Harbour_standing ["self"] (spHlot K C)) (O_Harbour_deeds : MOk P w K mg base k C "deeds" "Harbour.deeds" s_Harbour_deeds ["self"] (spHdeeds K C)) : Ok P w K mg base (k + 2) "_law_right" s__law_right ["_law_box_here"] spRight := by
  refine D.ok sc__law_right b__law_right (fun vs H Q E h => ?_) (fun f cdv A outer s H vs Q E hr h => ?_)
  · obtain ⟨b, rfl, _⟩ := h
    rfl
  · obtain ⟨b, rfl, hb, q⟩ := h
    refine ⟨_, (pss_cons (ps_asg (pe_fn O__law_port (hr.mono (by omega)) (pa_cons (pv 0) (pa_cons (pe_fn O__law_take (hr.mono (by omega)) (pa_cons (pv 0) (pa_cons pe_int pa_nil))) pa_nil))) (pg_seq rfl (pgs_cons (pg_name (i := 1) sc__law_right.nd rfl (.inl rfl)) (pgs_cons (pg_name (i := 2) sc__law_right.nd rfl (.inr rfl)) (pgs_cons (pg_name (i := 3) sc__law_right.nd rfl (.inr rfl)) pgs_nil)))))
      (pss_cons (ps_set (i := 4) sc__law_right.nd rfl (.inl rfl) (pe_callB call_len_seq (by rfl) T.len_ PySem.boot_len (pa_cons (pe_ix ix_lt (pv 2) pe_int (fun _ _ => rfl)) pa_nil)))
      (pss_cons (ps_for PassesOwn.never rfl (pi_range1 (by rfl) T.range_ (pa_cons pe_int pa_nil)) (pg_name (i := 5) sc__law_right.nd rfl (.inl rfl))
        (pss_cons (ps_set (i := 6) sc__law_right.nd rfl (.inl rfl) (pe_fn O__law_of (hr.mono (by omega)) (pa_cons (pv 0) (pa_cons (pe_lst (pa_cons (pv 4) (pa_cons (pe_un un_neg pe_int) (pa_cons pe_int (pa_cons (pe_un un_neg (pe_op (op_powC 1000000000) pe_int pe_int)) (pa_cons (pe_op (op_powC 1000000000000) pe_int pe_int) pa_nil)))))) pa_nil))))
          (pss_cons (ps_if (pt_not (pt_val (pe_fn O__law_one_right (hr.mono (by omega)) (pa_cons (pv 1) (pa_cons pe_str (pa_cons (pv 6) (pa_cons (pe_tup (pa_cons pe_str (pa_cons (pv 6) pa_nil))) pa_nil)))))))
            (pss_one (ps_ret pe_bl))
            pss_nil)
          (pss_cons (ps_if (pt_not (pt_val (pe_fn O__law_one_right (hr.mono (by omega)) (pa_cons (pv 1) (pa_cons pe_str (pa_cons (pv 6) (pa_cons (pe_tup (pa_cons pe_str (pa_cons (pv 6) pa_nil))) pa_nil)))))))
            (pss_one (ps_ret pe_bl))
            pss_nil)
          (pss_cons (ps_asg (pe_fn O__law_walk (hr.mono (by omega)) (pa_cons (pv 0) (pa_cons (pv 2) (pa_cons (pv 3) (pa_cons (pe_fn O__law_take (hr.mono (by omega)) (pa_cons (pv 0) (pa_cons pe_int pa_nil))) pa_nil))))) (pg_seq rfl (pgs_cons (pg_name (i := 7) sc__law_right.nd rfl (.inr rfl)) (pgs_cons (pg_name (i := 8) sc__law_right.nd rfl (.inl rfl)) pgs_nil))))
          (pss_cons (ps_setLc (i := 9) (own := [("_law_whom", 14)]) (g := (gName 14)) (by rfl) sc__law_right.nd rfl rfl (sw_true rfl rfl rfl (by decide +kernel)) (pi_range1 (by rfl) T.range_ (pa_cons (pv 4) pa_nil)) (blkOk_by (own := [("_law_whom", 14)]) (N := (["_law_box_here", "_law_port_here", "_law_pond", "_law_lot", "_law_count", "_law_turn", "_law_absent", "_law_lot_then", "_law_went", "_law_stuck", "_law_bad", "_law_shut", "_law_long", "_law_whole", "_law_whom"] : List Str)) (sc := defScope s__law_right) (by decide +kernel)) (fun _ _ _ _ _ => (pg_name (i := 14) sc__law_right.nd rfl (.inl rfl))) (fun _ _ _ _ _ => (pts_one (pt_cmpR (op_notInK K) (pv 14) (pe_fn O__law_lets (hr.mono (by omega)) (pa_cons (pv 2) (pa_cons (pv 7) pa_nil))) (by rfl)))) (fun _ _ _ _ _ => (pv 14)))
          (pss_cons (ps_if (pt_not (pt_val (pe_fn O__law_one_right (hr.mono (by omega)) (pa_cons (pv 1) (pa_cons pe_str (pa_cons (pe_op op_cat (pe_op op_cat (pv 8) (pe_lst (pa_cons (pv 6) pa_nil))) (pv 9)) (pa_cons (pe_tup (pa_cons pe_str (pa_cons (pv 6) pa_nil))) pa_nil)))))))
            (pss_one (ps_ret pe_bl))
            pss_nil)
          (pss_cons (ps_set (i := 10) sc__law_right.nd rfl (.inl rfl) (pe_op op_cat (pe_op op_cat (pv 8) (pe_slice sl_list (pv 9) po_none (po_some pe_int))) (pe_lst (pa_cons (pv 6) pa_nil))))
          (Evl.pss_cut (ps_if (PW.pt (pw_and (pt_cmpR (op_neD hr.units) (pv 9) (pe_lst pa_nil) (nomark _)) (pw_and1 (pt_not (pt_val (pe_fn O__law_one_right (hr.mono (by omega)) (pa_cons (pv 1) (pa_cons pe_str (pa_cons (pv 10) (pa_cons (pe_tup (pa_cons pe_str (pa_cons (pe_ix ix_lt (pv 9) pe_int (fun _ _ => rfl)) pa_nil))) pa_nil))))))))))
            (pss_one (ps_ret pe_bl))
            pss_nil)
          (pss_cons (ps_setLc (i := 11) (own := [("_law_whom", 14)]) (g := (gName 14)) (by rfl) sc__law_right.nd rfl rfl (sw_true rfl rfl rfl (by decide +kernel)) (pi_range1 (by rfl) T.range_ (pa_cons (pv 4) pa_nil)) (blkOk_by (own := [("_law_whom", 14)]) (N := (["_law_box_here", "_law_port_here", "_law_pond", "_law_lot", "_law_count", "_law_turn", "_law_absent", "_law_lot_then", "_law_went", "_law_stuck", "_law_bad", "_law_shut", "_law_long", "_law_whole", "_law_whom"] : List Str)) (sc := defScope s__law_right) (by decide +kernel)) (fun _ _ _ _ _ => (pg_name (i := 14) sc__law_right.nd rfl (.inl rfl))) (fun _ _ _ _ _ => (pts_one (pt_cmpR (op_notInK K) (pv 14) (pe_fn O__law_lets (hr.mono (by omega)) (pa_cons (pv 2) (pa_cons (pv 3) pa_nil))) (by rfl)))) (fun _ _ _ _ _ => (pv 14)))
          (Evl.pss_cut (ps_if (PW.pt (pw_and (pt_cmpR (op_neD hr.units) (pv 11) (pe_lst pa_nil) (nomark _)) (pw_and1 (pt_not (pt_val (pe_fn O__law_one_right (hr.mono (by omega)) (pa_cons (pv 1) (pa_cons pe_str (pa_cons (pe_ix ix_lt (pv 11) (pe_un un_neg pe_int) (fun _ _ => rfl)) (pa_cons (pe_tup (pa_cons pe_str (pa_cons (pe_ix ix_lt (pv 11) (pe_un un_neg pe_int) (fun _ _ => rfl)) pa_nil))) pa_nil))))))))))
            (pss_one (ps_ret pe_bl))
            pss_nil)
          (pss_cons (ps_expr (pe_mL O_Harbour_sail hC.cl (hr.mono (by omega)) (pv 1) (pa_cons (pv 8) pa_nil)))
          (pss_one (ps_if (PW.pt (pw_or (pt_cmpR (op_neD hr.units) (pe_m0 O_Harbour_standing hC.cl (hr.mono (by omega)) (pv 1)) (pv 7) (nomark _)) (pw_or (pt_cmpR op_notBl (pe_m0 O_Harbour_undo hC.cl (hr.mono (by omega)) (pv 1)) pe_bl (nomark _)) (pw_or1 (pt_cmpR (op_neD hr.units) (pe_m0 O_Harbour_standing hC.cl (hr.mono (by omega)) (pv 1)) (pv 3) (nomark _))))))
            (pss_one (ps_ret pe_bl))
            pss_nil))))))))))))))
      (pss_cons (ps_set (i := 12) sc__law_right.nd rfl (.inr rfl) (pe_har O_Harbour hC (hr.mono (by omega)) (pa_cons pe_int (pa_cons pe_int pa_nil))))
      (pss_cons (ps_for PassesOwn.never rfl (pi_range1 (by rfl) T.range_ (pa_cons pe_int pa_nil)) (pg_name (i := 5) sc__law_right.nd rfl (.inl rfl))
        (pss_one (ps_expr (pe_mK (ks := ["more", "side"]) [0, 2, 1] O_Harbour_dredge hC.cl (hr.mono (by omega)) (fun _ _ _ _ _ _ _ ws hk => match ws, hk with | [_, _], _ => rfl) (pv 12) (pk_cons pe_int (pk_cons pe_str pk_nil))))))
      (pss_cons (ps_if (pt_cmpR (op_neD hr.units) (pe_lst (pa_cons (pe_m0 O_Harbour_sea hC.cl (hr.mono (by omega)) (pe_m O_Harbour_as_of hC.cl (hr.mono (by omega)) (pv 12) (pa_cons pe_int pa_nil))) (pa_cons (pe_m0 O_Harbour_sea hC.cl (hr.mono (by omega)) (pe_m O_Harbour_as_of hC.cl (hr.mono (by omega)) (pv 12) (pa_cons pe_int pa_nil))) (pa_cons (pe_m0 O_Harbour_deeds hC.cl (hr.mono (by omega)) (pv 12)) pa_nil)))) (pe_lst (pa_cons (pe_tup (pa_cons pe_int (pa_cons pe_int (pa_cons (pe_tup pa_nil) pa_nil)))) (pa_cons (pe_tup (pa_cons pe_int (pa_cons pe_int (pa_cons (pe_tup pa_nil) pa_nil)))) (pa_cons pe_int pa_nil)))) (nomark _))
        (pss_one (ps_ret pe_bl))
        pss_nil)
      (pss_cons (ps_if (PW.pt (pw_or (pt_not (pt_val (pe_callB (cr_all rfl) (by rfl) T.all_ (by decide +kernel) (pa_cons (pe_lc (own := [("_law_turn", 5)]) (g := (gName 5)) (tt := tYes) (by rfl) sc__law_right.nd (pi_range1 (by rfl) T.range_ (pa_cons pe_int pa_nil)) (blkOk_by (own := [("_law_turn", 5)]) (N := (["_law_box_here", "_law_port_here", "_law_pond", "_law_lot", "_law_count", "_law_turn", "_law_absent", "_law_lot_then", "_law_went", "_law_stuck", "_law_bad", "_law_shut", "_law_long", "_law_whole", "_law_whom"] : List Str)) (sc := defScope s__law_right) (by decide +kernel)) (fun _ _ _ _ _ => (pg_name (i := 5) sc__law_right.nd rfl (.inl rfl))) (fun _ _ _ _ _ => pts_nil) (fun _ _ _ _ _ => (pe_m0 O_Harbour_undo hC.cl (hr.mono (by omega)) (pv 12)))) pa_nil)))) (pw_or (pt_cmpR op_notBl (pe_m0 O_Harbour_undo hC.cl (hr.mono (by omega)) (pv 12)) pe_bl (nomark _)) (pw_or1 (pt_cmpR (op_neD hr.units) (pe_m0 O_Harbour_sea hC.cl (hr.mono (by omega)) (pv 12)) (pe_tup (pa_cons pe_int (pa_cons pe_int (pa_cons (pe_tup pa_nil) pa_nil)))) (nomark _))))))
        (pss_one (ps_ret pe_bl))
        pss_nil)
      (pss_cons (ps_set (i := 13) sc__law_right.nd rfl (.inl rfl) (pe_ix ix_lt (pe_fn O__law_port (hr.mono (by omega)) (pa_cons (pv 0) (pa_cons pe_int pa_nil))) pe_int (fun _ _ => rfl)))
      (pss_one (ps_ret (pe_and (pe_fn O__law_one_right (hr.mono (by omega)) (pa_cons (pv 13) (pa_cons pe_str (pa_cons pe_int (pa_cons (pe_tup (pa_cons pe_str (pa_cons pe_int pa_nil))) pa_nil))))) (pe_and (pe_cmpR op_isBl (pe_m0 O_Harbour_undo hC.cl (hr.mono (by omega)) (pv 13)) pe_bl (nomark _)) (pe_one (pe_cmpR op_eq (pe_m O_Harbour_moor hC.cl (hr.mono (by omega)) (pv 13) (pa_cons pe_int (pa_cons pe_str pa_nil))) pe_int (nomark _))))))))))))))), ?_⟩
    refine ⟨_, rfl, _, rfl, b, 99000, 7, rfl, by decide, by decide, hb.mono (by decide), fun c ys c0 c1 y => ?_⟩
    obtain ⟨n, rfl⟩ : ∃ n : Nat, c = (n : Int) := ⟨c.toNat, by omega⟩
    obtain ⟨u0, x0⟩ := tk (But.refl b H) y
    generalize upd H b (.lst ys) = H0 at u0 x0
    refine ⟨b, 90000, n, rfl, by omega, x0.mono (by decide), fun H1 p1 a ls le pv pl h t ds L ss lg u1 x1 na nls nle nb1 nb2 np1 e1 hsea hlot hL ld hh llg lss _ => ?_⟩
    obtain ⟨pp, pq, rfl, hp, hq⟩ := id hsea
    refine ⟨p1, _, rfl, SqA.t e1, rfl, _, _, rfl, _, _, rfl, _, _, rfl, rfl, ?_⟩
    refine ⟨_, rfl, pp, _, 2, .ref pq, rfl, rfl, .inr hp, rfl, pq, _, rfl, .inr hq, ?_⟩
    rw [List.length_map]
    have r1 : P51 K C a ls le b pp pl h t ds L H ss ⟨h, t, ds, L, 0⟩ lg 90000 H1 := ⟨hh, x1, hsea, hlot, u0.trans u1, u0.free nb1.symm nls, u0.free nb2.symm nle, nb1, nb2⟩
    have d6 : ds.length ≤ 6 := by omega
    have ok : HsOk (⟨h, t, ds, L, 0⟩ : HS) := ⟨by show ds.length ≤ 24; omega, hL⟩
    have lL := hL.len
    clear hh x1 hsea hlot u0 u1 x0 hp hq e1 na nls nle np1 y
    refine ⟨4, rfl, by decide, by decide, for_range (lo := 0) (n := 4) (fun i σ H' => ∃ (y5 y6 y7 y8 y9 y10 y11 y12 y13 y14 : Option V) (lg : List (Bool × Str)), σ = [some (.ref b), some (.ref a), some (.ref pp), some pl, some (.int (ds.length : Int)), y5, y6, y7, y8, y9, y10, y11, y12, y13, y14] ∧ P51 K C a ls le b pp pl h t ds L H ss ⟨h, t, ds, L, 0⟩ lg (90000 - 100 * i) H' ∧ lg.length ≤ 100 + 100 * i) ?_ ?_ ?_⟩
    · exact ⟨_, _, _, _, _, _, _, _, _, _, lg, rfl, r1, by omega⟩
    · rintro i σ Hc hi ⟨y5, y6, y7, y8, y9, y10, y11, y12, y13, y14, lg, rfl, r, llg⟩
      have hi4 : i < 4 := hi
      clear r1
      -- TURN
      refine ⟨_, rfl, _, rfl, 1, rfl, 10, 9, rfl, rfl, ⟨⟨by decide, by decide, by decide⟩, by decide⟩, 1000000000, rfl, 10, 12, rfl, rfl, ⟨⟨by decide, by decide, by decide⟩, by decide⟩, (by show 5 ≤ sizeLine; decide), fun l1 nl1 => ?_⟩
      have g1 : Same Hc (upd Hc l1 (.lst [.int (ds.length : Int), .int (-1), .int 24, .int (-1000000000), .int 1000000000000])) := same_new nl1
      have e1 : upd Hc l1 (.lst [.int (ds.length : Int), .int (-1), .int 24, .int (-1000000000), .int 1000000000000]) l1 = some (.lst [.int (ds.length : Int), .int (-1), .int 24, .int (-1000000000), .int 1000000000000]) := upd_same
      have l1b : l1 ≠ b := (r.bx.ne nl1).symm
      replace r := r.same g1
      generalize upd Hc l1 (.lst [.int (ds.length : Int), .int (-1), .int 24, .int (-1000000000), .int 1000000000000]) = H2 at g1 e1 r
      refine ⟨b, l1, 90000 - 100 * i - 10, _, rfl, SqA.l e1, l1b, (by show 0 < 5; decide), (by show 5 < 1000000; decide), r.bx.mono (by omega), fun z ys hz y => ?_⟩
      obtain ⟨ab, rfl, nab, bab⟩ : ∃ ab : Int, z = .int ab ∧ ¬(0 ≤ ab ∧ ab < (ds.length : Int)) ∧ ab.natAbs ≤ 1000000000000 := by
        simp only [List.mem_cons, List.not_mem_nil, or_false] at hz
        rcases hz with rfl | rfl | rfl | rfl | rfl
        · exact ⟨_, rfl, by omega, by omega⟩
        · exact ⟨_, rfl, by omega, by omega⟩
        · exact ⟨_, rfl, by omega, by omega⟩
        · exact ⟨_, rfl, by omega, by omega⟩
        · exact ⟨_, rfl, by omega, by omega⟩
      have oab : okInt (.int ab) := okI bab
      replace r := r.draw y
      generalize upd H2 b (.lst ys) = H3 at r
      clear g1 e1 l1b nl1 hz y
      -- leave, cross
      refine ⟨_, rfl, _, rfl, _, rfl, (by show 2 ≤ sizeLine; decide), fun t1 nt1 => ?_⟩
      have g1 : Same H3 (upd H3 t1 (.tup [.str "NoShip", .int ab])) := same_new nt1
      have e1 : upd H3 t1 (.tup [.str "NoShip", .int ab]) t1 = some (.tup [.str (nmK 0), .int ab]) := upd_same
      replace r := r.same g1
      generalize upd H3 t1 (.tup [.str "NoShip", .int ab]) = H4 at g1 e1 r
      refine ⟨a, ls, le, t1, ss, _, lg, "leave", .int ab, 0, ab, rfl, r.hh, ok, by omega, .leave oab nab, by decide, e1, fun H5 u5 h5 => ⟨true, rfl, iteF ?_⟩⟩
      replace r := r.deed u5 h5
      clear g1 e1 u5 h5 nt1
      refine ⟨_, rfl, _, rfl, _, rfl, (by show 2 ≤ sizeLine; decide), fun t1 nt1 => ?_⟩
      have g1 : Same H5 (upd H5 t1 (.tup [.str "NoShip", .int ab])) := same_new nt1
      have e1 : upd H5 t1 (.tup [.str "NoShip", .int ab]) t1 = some (.tup [.str (nmK 0), .int ab]) := upd_same
      replace r := r.same g1
      generalize upd H5 t1 (.tup [.str "NoShip", .int ab]) = H6 at g1 e1 r
      refine ⟨a, ls, le, t1, ss, _, _, "cross", .int ab, 0, ab, rfl, r.hh, ok, by rw [List.length_append]; show lg.length + 2 ≤ 90000; omega, .cross (b := true) oab (goesZ_out nab), by decide, e1, fun H7 u7 h7 => ⟨true, rfl, iteF ?_⟩⟩
      replace r := r.deed u7 h7
      clear g1 e1 u7 h7 nt1
      -- the walk
      refine ⟨_, rfl, _, rfl, _, rfl, _, rfl, b, 90000 - 100 * i - 11, 4, rfl, by decide, by decide, r.bx.mono (by omega), fun mo ys mo0 mo1 hy => ?_⟩
      obtain ⟨m, rfl⟩ : ∃ m : Nat, mo = (m : Int) := ⟨mo.toNat, by omega⟩
      replace r := r.draw hy
      generalize upd H7 b (.lst ys) = H8 at r
      refine ⟨b, 90000 - 100 * i - 20, m, .ref pp, pl, h, t, ds, L, rfl, by omega, r.bx.mono (by omega), r.sea, r.lot, by omega, hL, fun H9 pz pw z M row u9 x9 npz hpz hz npw hpw lrow gs _ => ?_⟩
      refine ⟨pz, _, rfl, SqA.t hpz, rfl, _, _, rfl, _, _, rfl, rfl, ?_⟩
      have wl := r.nls npw
      have wb : pw ≠ b := (r.bx.ne npw).symm
      replace r := r.but u9 x9
      have hM := goes_lotL hL gs
      have lM := hM.len
      have rin := goes_inL gs
      have lr : row.length ≤ 3 := by omega
      clear u9 x9 npz hpz npw hy
      -- those that are stuck there
      refine ⟨_, rfl, _, rfl, by omega, by omega, fun C1 nC1 => ?_⟩
      rw [show ((ds.length : Int)).toNat = ds.length by omega]
      refine lc_range (fun j H' => Same H9 H' ∧ H' C1 = some (.lst (ni ((List.range j).filter fun m => !mayB h t ds M m)))) ⟨same_new nC1, upd_same⟩ ?_ ?_
      · rintro j Ha hj ⟨sa, hC1⟩
        refine ⟨rfl, ?_⟩
        rw [Int.zero_add (j : Int)]
        refine ⟨_, rfl, _, rfl, _, rfl, .ref pp, z, h, t, ds, M, rfl, (r.same sa).sea.a, (hz.same sa).a, by omega, by omega, fun Hb la sb nla hla => ?_⟩
        refine ⟨la, _, rfl, .inl (SqL.of hla), rfl, ni_flat _, _, rfl, ?_⟩
        have em : decide (j ∈ lets h t ds M ds.length) = mayB h t ds M j := by
          rw [Bool.eq_iff_iff, decide_eq_true_eq, lets_mem]
          exact ⟨fun z => z.2, fun z => ⟨hj, z⟩⟩
        rw [if_pos rfl, in_ni, em]
        have s2 := sa.trans sb
        have hCb := sb _ _ hC1
        cases c0 : mayB h t ds M j with
        | true =>
          refine iteF ⟨s2, ?_⟩
          rw [hCb, filter_succ, if_neg (by rw [c0]; decide), List.append_nil]
        | false =>
          refine iteT ⟨_, rfl, _, hCb, ?_, same_over s2 nC1, ?_⟩
          · rw [ni_len]
            exact Nat.lt_of_le_of_lt (filter_len _ _) (small1000 (by omega))
          · rw [upd_same, filter_succ, if_pos (by rw [c0]; rfl), ni_app]
            rfl
      rintro H10 ⟨s10, hC1⟩
      replace hC1 : H10 C1 = some (.lst (ni (stk h t ds M))) := hC1
      have cl := r.nls nC1
      have hst : ∀ g ∈ stk h t ds M, g < ds.length ∧ mayB h t ds M g = false := fun g hg => stk_mem hg
      have lst := stk_len h t ds M
      generalize stk h t ds M = S at hC1 hst lst
      replace r := r.same s10
      replace hz := hz.same s10
      replace hpw := s10 _ _ hpw
      clear s10 nC1
      -- sail with one that there isn't
      refine ⟨_, rfl, _, rfl, _, rfl, (by show 1 ≤ sizeLine; decide), fun q1 nq1 => ?_⟩
      have g1 : Same H10 (upd H10 q1 (.lst [.int ab])) := same_new nq1
      have e1 : upd H10 q1 (.lst [.int ab]) q1 = some (.lst [.int ab]) := upd_same
      generalize upd H10 q1 (.lst [.int ab]) = H11 at g1 e1
      refine ⟨pw, q1, _, _, rfl, rfl, g1 _ _ hpw, e1, (by rw [ni_len]; exact Nat.le_trans (show row.length + 1 ≤ 100 by omega) (by decide)), fun q2 nq2 => ?_⟩
      have g2 : Same H11 (upd H11 q2 (.lst (ni row ++ [.int ab]))) := same_new nq2
      have e2 : upd H11 q2 (.lst (ni row ++ [.int ab])) q2 = some (.lst (ni row ++ [.int ab])) := upd_same
      generalize upd H11 q2 (.lst (ni row ++ [.int ab])) = H12 at g2 e2
      refine ⟨_, rfl, q2, C1, _, _, rfl, rfl, e2, (g1.trans g2) _ _ hC1, (by rw [List.length_append, ni_len, ni_len]; exact Nat.le_trans (show row.length + 1 + S.length ≤ 100 by omega) (by decide)), fun q3 nq3 => ?_⟩
      have g3 : Same H12 (upd H12 q3 (.lst ((ni row ++ [.int ab]) ++ ni S))) := same_new nq3
      have e3 : upd H12 q3 (.lst ((ni row ++ [.int ab]) ++ ni S)) q3 = some (.lst ((ci row ++ ab :: ci S).map V.int)) := by
        rw [upd_same, List.map_append, List.map_cons, ci_ni, ci_ni, List.append_assoc]
        rfl
      generalize upd H12 q3 (.lst ((ni row ++ [.int ab]) ++ ni S)) = H13 at g3 e3
      have g13 := g1.trans (g2.trans g3)
      have nq30 : H10 q3 = none := (g1.trans g2).free nq3
      have ql := r.nls nq30
      replace r := r.same g13
      replace hz := hz.same g13
      replace hpw := g13 _ _ hpw
      replace hC1 := g13 _ _ hC1
      clear g1 g2 g3 e1 e2 nq1 nq2 nq3 g13 nq30
      refine ⟨_, rfl, (by show 2 ≤ sizeLine; decide), fun t1 nt1 => ?_⟩
      have g1 : Same H13 (upd H13 t1 (.tup [.str "NoShip", .int ab])) := same_new nt1
      have e1 : upd H13 t1 (.tup [.str "NoShip", .int ab]) t1 = some (.tup [.str (nmK 0), .int ab]) := upd_same
      replace r := r.same g1
      replace e3 := g1 _ _ e3
      replace hz := hz.same g1
      replace hpw := g1 _ _ hpw
      replace hC1 := g1 _ _ hC1
      generalize upd H13 t1 (.tup [.str "NoShip", .int ab]) = H14 at g1 e1 r e3 hz hpw hC1
      have okz : ∀ y ∈ ci row ++ ab :: ci S, okInt (.int y) := fun y hy => by
        rcases List.mem_append.mp hy with e | e
        · obtain ⟨j, hj, rfl⟩ := List.mem_map.mp e
          exact okI (by have := rin j hj; omega)
        · rcases List.mem_cons.mp e with e | e
          · rw [e]; exact oab
          · obtain ⟨j, hj, rfl⟩ := List.mem_map.mp e
            exact okI (by have := (hst j hj).1; omega)
      have lzs : (ci row ++ ab :: ci S).length ≤ 1000 := by
        unfold ci
        simp
        omega
      refine ⟨a, ls, le, t1, ss, _, _, "sail", .ref q3, 0, ab, rfl, r.hh, ok, by rw [List.length_append, List.length_append]; show lg.length + 2 + 2 ≤ 90000; omega, .sail (b := true) (SqA.l e3) ql.1 ql.2 lzs okz (by rw [goesZ_goes _ gs, goesZ_out nab]), by decide, e1, fun H15 u15 h15 => ⟨true, rfl, iteF ?_⟩⟩
      obtain ⟨dx, sts, ens, hx⟩ := r.hh
      replace hz := hx.lotT u15 hz
      replace hpw := u15 _ _ wl.1 wl.2 hpw
      replace hC1 := u15 _ _ cl.1 cl.2 hC1
      replace r := r.deed u15 h15
      clear g1 e1 e3 okz lzs u15 h15 nt1 ql hx
      -- bad
      refine ⟨_, rfl, _, rfl, _, rfl, C1, _, rfl, SqL.of hC1, fun q1 nq1 => ?_⟩
      rw [cutN1]
      have g1 : Same H15 (upd H15 q1 (.lst (ni (S.take 1)))) := same_new nq1
      have e1 : upd H15 q1 (.lst (ni (S.take 1))) q1 = some (.lst (ni (S.take 1))) := upd_same
      generalize upd H15 q1 (.lst (ni (S.take 1))) = H16 at g1 e1
      have lt1 : (S.take 1).length ≤ 1 := by rw [List.length_take]; omega
      refine ⟨pw, q1, _, _, rfl, rfl, g1 _ _ hpw, e1, (by rw [ni_len, ni_len]; exact Nat.le_trans (show row.length + (S.take 1).length ≤ 100 by omega) (by decide)), fun q2 nq2 => ?_⟩
      have g2 : Same H16 (upd H16 q2 (.lst (ni row ++ ni (S.take 1)))) := same_new nq2
      have e2 : upd H16 q2 (.lst (ni row ++ ni (S.take 1))) q2 = some (.lst (ni row ++ ni (S.take 1))) := upd_same
      generalize upd H16 q2 (.lst (ni row ++ ni (S.take 1))) = H17 at g2 e2
      refine ⟨_, rfl, (by show 1 ≤ sizeLine; decide), fun q3 nq3 => ?_⟩
      have g3 : Same H17 (upd H17 q3 (.lst [.int ab])) := same_new nq3
      have e3 : upd H17 q3 (.lst [.int ab]) q3 = some (.lst [.int ab]) := upd_same
      generalize upd H17 q3 (.lst [.int ab]) = H18 at g3 e3
      refine ⟨q2, q3, _, _, rfl, rfl, g3 _ _ e2, e3, (by rw [List.length_append, ni_len, ni_len]; exact Nat.le_trans (show row.length + (S.take 1).length + 1 ≤ 100 by omega) (by decide)), fun q4 nq4 => ?_⟩
      have g4 : Same H18 (upd H18 q4 (.lst ((ni row ++ ni (S.take 1)) ++ [.int ab]))) := same_new nq4
      have e4 : upd H18 q4 (.lst ((ni row ++ ni (S.take 1)) ++ [.int ab])) q4 = some (.lst ((ci row ++ (ci (S.take 1) ++ [ab])).map V.int)) := by
        rw [upd_same, List.map_append, List.map_append, ci_ni, ci_ni, List.append_assoc]
        rfl
      generalize upd H18 q4 (.lst ((ni row ++ ni (S.take 1)) ++ [.int ab])) = H19 at g4 e4
      have g14 := g1.trans (g2.trans (g3.trans g4))
      have ql := r.nls ((g1.trans (g2.trans g3)).free nq4)
      replace r := r.same g14
      replace hz := hz.same g14
      replace hpw := g14 _ _ hpw
      replace hC1 := g14 _ _ hC1
      clear g1 g2 g3 g4 e1 e2 e3 nq1 nq2 nq3 nq4 g14
      refine ⟨fun σ' H' => ∃ lg2 : List (Bool × Str), σ' = [some (.ref b), some (.ref a), some (.ref pp), some pl, some (.int (ds.length : Int)), some (.int (0 + (i : Int))), some (.int ab), some z, some (.ref pw), some (.ref C1), some (.ref q4), y11, y12, y13, y14] ∧ P51 K C a ls le b pp pl h t ds L H ss ⟨h, t, ds, L, 0⟩ lg2 (90000 - 100 * i - 20) H' ∧ lg2.length ≤ lg.length + 8 ∧ LotT K H' z M ∧ H' pw = some (.lst (ni row)), ?_, ?_⟩
      · refine ⟨_, rfl, Nat.zero_le _, fun em nem => ?_⟩
        have g1 : Same H19 (upd H19 em (.lst [])) := same_new nem
        have e1 : upd H19 em (.lst []) em = some (.lst []) := upd_same
        replace r := r.same g1
        replace hz := hz.same g1
        replace hpw := g1 _ _ hpw
        replace hC1 := g1 _ _ hC1
        replace e4 := g1 _ _ e4
        generalize upd H19 em (.lst []) = H20 at g1 e1 r hz hpw hC1 e4
        refine ⟨_, .list [], dp_ni hC1, .lst (SqL.of e1) .nil, shaped_ints _, rfl, _, rfl, ?_⟩
        rw [eqv_nil]
        cases S with
        | nil =>
          refine iteF ?_
          exact ⟨_, rfl, r, by rw [List.length_append, List.length_append, List.length_append]; show lg.length + 2 + 2 + 2 ≤ _; omega, hz, hpw⟩
        | cons s S' =>
          refine iteT ?_
          obtain ⟨hs1, hs2⟩ := hst s List.mem_cons_self
          refine ⟨_, rfl, _, rfl, _, rfl, C1, _, 0, .int (s : Int), rfl, rfl, SqA.l hC1, (show atI (ni (s :: S')) ((0 : Nat) : Int) = some (.int (s : Int)) from atI_nat rfl), (by show 2 ≤ sizeLine; decide), fun t1 nt1 => ?_⟩
          have g2 : Same H20 (upd H20 t1 (.tup [.str "MayNot", .int (s : Int)])) := same_new nt1
          have e2 : upd H20 t1 (.tup [.str "MayNot", .int (s : Int)]) t1 = some (.tup [.str (nmK 1), .int (s : Int)]) := upd_same
          replace r := r.same g2
          replace hz := hz.same g2
          replace hpw := g2 _ _ hpw
          replace e4 := g2 _ _ e4
          generalize upd H20 t1 (.tup [.str "MayNot", .int (s : Int)]) = H21 at g2 e2 r hz hpw e4
          have okz : ∀ y ∈ ci row ++ (ci ((s :: S').take 1) ++ [ab]), okInt (.int y) := fun y hy => by
            rcases List.mem_append.mp hy with e | e
            · obtain ⟨j, hj, rfl⟩ := List.mem_map.mp e
              exact okI (by have := rin j hj; omega)
            · rcases List.mem_append.mp e with e | e
              · obtain ⟨j, hj, rfl⟩ := List.mem_map.mp e
                exact okI (by have := (hst j (List.mem_of_mem_take hj)).1; omega)
              · rw [List.mem_singleton.mp e]; exact oab
          have lzs : (ci row ++ (ci ((s :: S').take 1) ++ [ab])).length ≤ 1000 := by
            unfold ci
            simp
            omega
          refine ⟨a, ls, le, t1, ss, _, _, "sail", .ref q4, 1, (s : Int), rfl, r.hh, ok, by rw [List.length_append, List.length_append, List.length_append]; show lg.length + 2 + 2 + 2 ≤ 90000; omega, .sail (b := false) (SqA.l e4) ql.1 ql.2 lzs okz (by rw [goesZ_goes _ gs]; exact goesZ_may hs1 hs2), by decide, e2, fun H22 u22 h22 => ⟨true, rfl, iteF ?_⟩⟩
          obtain ⟨dx, sts, ens, hx⟩ := r.hh
          replace hz := hx.lotT u22 hz
          replace hpw := u22 _ _ wl.1 wl.2 hpw
          exact ⟨_, rfl, r.deed u22 h22, by rw [List.length_append, List.length_append, List.length_append, List.length_append]; show lg.length + 2 + 2 + 2 + 2 ≤ _; omega, hz, hpw⟩
      rintro σ2 H20 ⟨lg2, rfl, r, llg2, hz, hpw⟩
      clear hC1 e4 ql lt1 cl hst lst
      -- those shut here
      refine ⟨_, rfl, _, rfl, by omega, by omega, fun C2 nC2 => ?_⟩
      rw [show ((ds.length : Int)).toNat = ds.length by omega]
      refine lc_range (fun j H' => Same H20 H' ∧ H' C2 = some (.lst (ni ((List.range j).filter fun m => !mayB h t ds L m)))) ⟨same_new nC2, upd_same⟩ ?_ ?_
      · rintro j Ha hj ⟨sa, hC2⟩
        refine ⟨rfl, ?_⟩
        rw [Int.zero_add (j : Int)]
        refine ⟨_, rfl, _, rfl, _, rfl, .ref pp, pl, h, t, ds, L, rfl, (r.same sa).sea.a, (r.same sa).lot.a, by omega, by omega, fun Hb la sb nla hla => ?_⟩
        refine ⟨la, _, rfl, .inl (SqL.of hla), rfl, ni_flat _, _, rfl, ?_⟩
        have em : decide (j ∈ lets h t ds L ds.length) = mayB h t ds L j := by
          rw [Bool.eq_iff_iff, decide_eq_true_eq, lets_mem]
          exact ⟨fun z => z.2, fun z => ⟨hj, z⟩⟩
        rw [if_pos rfl, in_ni, em]
        have s2 := sa.trans sb
        have hCb := sb _ _ hC2
        cases c0 : mayB h t ds L j with
        | true =>
          refine iteF ⟨s2, ?_⟩
          rw [hCb, filter_succ, if_neg (by rw [c0]; decide), List.append_nil]
        | false =>
          refine iteT ⟨_, rfl, _, hCb, ?_, same_over s2 nC2, ?_⟩
          · rw [ni_len]
            exact Nat.lt_of_le_of_lt (filter_len _ _) (small1000 (by omega))
          · rw [upd_same, filter_succ, if_pos (by rw [c0]; rfl), ni_app]
            rfl
      rintro H21 ⟨s21, hC2⟩
      replace hC2 : H21 C2 = some (.lst (ni (stk h t ds L))) := hC2
      have hst : ∀ g ∈ stk h t ds L, g < ds.length ∧ mayB h t ds L g = false := fun g hg => stk_mem hg
      generalize stk h t ds L = S2 at hC2 hst
      replace r := r.same s21
      replace hz := hz.same s21
      replace hpw := s21 _ _ hpw
      clear s21 nC2
      refine ⟨fun σ' H' => ∃ lg3 : List (Bool × Str), σ' = [some (.ref b), some (.ref a), some (.ref pp), some pl, some (.int (ds.length : Int)), some (.int (0 + (i : Int))), some (.int ab), some z, some (.ref pw), some (.ref C1), some (.ref q4), some (.ref C2), y12, y13, y14] ∧ P51 K C a ls le b pp pl h t ds L H ss ⟨h, t, ds, L, 0⟩ lg3 (90000 - 100 * i - 20) H' ∧ lg3.length ≤ lg.length + 10 ∧ LotT K H' z M ∧ H' pw = some (.lst (ni row)), ?_, ?_⟩
      · refine ⟨_, rfl, Nat.zero_le _, fun em nem => ?_⟩
        have g1 : Same H21 (upd H21 em (.lst [])) := same_new nem
        have e1 : upd H21 em (.lst []) em = some (.lst []) := upd_same
        replace r := r.same g1
        replace hz := hz.same g1
        replace hpw := g1 _ _ hpw
        replace hC2 := g1 _ _ hC2
        generalize upd H21 em (.lst []) = H22 at g1 e1 r hz hpw hC2
        refine ⟨_, .list [], dp_ni hC2, .lst (SqL.of e1) .nil, shaped_ints _, rfl, _, rfl, ?_⟩
        rw [eqv_nil]
        by_cases n0 : S2 = []
        · rw [n0]
          refine iteF ?_
          exact ⟨_, rfl, r, by omega, hz, hpw⟩
        · have e0 := (List.dropLast_concat_getLast n0).symm
          have hl := hst _ (List.getLast_mem n0)
          generalize S2.getLast n0 = s at e0 hl
          have ne0 : (!(S2.map fun (i : Nat) => (i : Int)).isEmpty) = true := by rw [e0]; simp
          rw [ne0]
          refine iteT ?_
          have nia : ni S2 = ni S2.dropLast ++ [.int (s : Int)] := (congrArg ni e0).trans (ni_app _ _)
          refine ⟨_, rfl, _, rfl, 1, rfl, C2, _, -1, .int (s : Int), rfl, rfl, SqA.l hC2, (by rw [nia]; exact atI_last _ _), _, rfl, 1, rfl, C2, _, -1, .int (s : Int), rfl, rfl, SqA.l hC2, (by rw [nia]; exact atI_last _ _), (by show 2 ≤ sizeLine; decide), fun t1 nt1 => ?_⟩
          have g2 : Same H22 (upd H22 t1 (.tup [.str "MayNot", .int (s : Int)])) := same_new nt1
          have e2 : upd H22 t1 (.tup [.str "MayNot", .int (s : Int)]) t1 = some (.tup [.str (nmK 1), .int (s : Int)]) := upd_same
          replace r := r.same g2
          replace hz := hz.same g2
          replace hpw := g2 _ _ hpw
          generalize upd H22 t1 (.tup [.str "MayNot", .int (s : Int)]) = H23 at g2 e2 r hz hpw
          refine ⟨a, ls, le, t1, ss, _, _, "cross", .int (s : Int), 1, (s : Int), rfl, r.hh, ok, by omega, .cross (b := false) (okI (by omega)) (goesZ_may hl.1 hl.2), by decide, e2, fun H24 u24 h24 => ⟨true, rfl, iteF ?_⟩⟩
          obtain ⟨dx, sts, ens, hx⟩ := r.hh
          replace hz := hx.lotT u24 hz
          replace hpw := u24 _ _ wl.1 wl.2 hpw
          exact ⟨_, rfl, r.deed u24 h24, by rw [List.length_append]; show lg2.length + 2 ≤ _; omega, hz, hpw⟩
      rintro σ3 H22 ⟨lg3, rfl, r, llg3, hz, hpw⟩
      clear hC2 hst llg2
      -- sailed, and back
      have gX := goesX_go gs
      obtain ⟨dx, sts, ens, hx⟩ := id r.hh
      refine ⟨_, rfl, a, dx, _, rfl, hx.ins, rfl, _, rfl, a, ls, le, ss, _, lg3, .ref pw, row, rfl, r.hh, ok, ⟨pw, rfl, SqA.l hpw, wl.1, wl.2⟩, by omega, rin, by omega, by omega, fun _ H23 u23 h23 => ?_, fun i e => by rw [gX] at e; cases e⟩
      rw [gX] at h23
      replace h23 : HarAt K H23 C a ls le (ss ++ [⟨h, t, ds, L, 0⟩] ++ [sailS ⟨h, t, ds, L, 0⟩ M row.length]) (lg3 ++ io "sail") := h23
      replace hz := hx.lotT u23 hz
      have rs := r.deed u23 h23
      clear hx
      obtain ⟨dx, sts, ens, hx⟩ := id rs.hh
      refine ⟨_, rfl, a, dx, _, rfl, hx.ins, rfl, a, ls, le, _, _, _, rfl, rs.hh, fun l1 hl1 => ?_⟩
      refine ⟨_, rfl, _, _, LotT.dp hl1, hz.dp, shaped_tup _, shaped_tup _, _, rfl, ?_⟩
      rw [eqv_niT, decide_eq_true (show (sailS (⟨h, t, ds, L, 0⟩ : HS) M row.length).L = M from rfl)]
      refine iteF ?_
      refine ⟨_, rfl, a, dx, _, rfl, hx.ins, rfl, a, ls, le, _, _, _, rfl, rs.hh, by rw [List.length_append]; show lg3.length + 2 ≤ _; omega, fun e => ?_, fun _ H24 u24 h24 => ?_⟩
      · exact absurd (congrArg List.length e) (by simp)
      refine ⟨_, _, rfl, rfl, _, rfl, iteF ?_⟩
      have rb := rs.deed u24 h24
      clear hx
      obtain ⟨dx, sts, ens, hx⟩ := id rb.hh
      refine ⟨_, rfl, a, dx, _, rfl, hx.ins, rfl, a, ls, le, _, _, _, rfl, rb.hh, fun l2 hl2 => ?_⟩
      refine ⟨_, rfl, _, _, LotT.dp hl2, rb.lot.dp, shaped_tup _, shaped_tup _, _, rfl, ?_⟩
      rw [eqv_niT, decide_eq_true (show (⟨h, t, ds, L, 0⟩ : HS).L = L from rfl)]
      refine iteF ?_
      exact ⟨_, _, _, _, _, _, _, _, _, _, _, rfl, rb.mono (by omega), by rw [List.length_append, List.length_append]; show lg3.length + 2 + 2 ≤ _; omega⟩
    · rintro σ Hc ⟨y5, y6, y7, y8, y9, y10, y11, y12, y13, y14, lg, rfl, r, llg⟩
      have bxE := r.bx
      have uE := r.U
      clear r r1 ok lL llg
      refine ⟨0, 3, rfl, fun H1 a2 ls2 le2 s1 na2 nl2 ne2 har2 => ?_⟩
      have b1 := bxE.ne nl2
      have b2 := bxE.ne ne2
      have zl : H ls2 = none := uE.free b1.symm nl2
      have ze : H le2 = none := uE.free b2.symm ne2
      replace uE := uE.trans (Same.but s1)
      replace bxE : BoxAt H1 b 80000 := (bxE.same s1).mono (by decide)
      refine ⟨80, rfl, by decide, by decide, for_range (lo := 0) (n := 80) (fun i σ H' => ∃ (y5 : Option V) (lg : List (Bool × Str)), σ = [some (.ref b), some (.ref a), some (.ref pp), some pl, some (.int (ds.length : Int)), y5, y6, y7, y8, y9, y10, y11, some (.ref a2), y13, y14] ∧ HarAt K H' C a2 ls2 le2 (rs51 (i + 1)) lg ∧ lg.length = 2 * i ∧ ButH ls2 le2 H1 H') ?_ ?_ ?_⟩
      · exact ⟨_, [], rfl, har2, rfl, ButH.refl _ _ _⟩
      · rintro i σ H2 hi ⟨y5, lg, rfl, h2, llg, u2⟩
        have hi80 : i < 80 := hi
        obtain ⟨dx, sts, ens, hx⟩ := id h2
        rw [rs51_succ] at h2
        refine ⟨_, rfl, a2, dx, _, rfl, hx.ins, rfl, rfl, a2, ls2, le2, _, _, lg, 1, true, rfl, h2, st51_ok i, by omega, by rw [rs51_len]; omega, fun H3 u3 h3 => ?_⟩
        refine ⟨_, lg ++ io "dredge", rfl, ?_, by rw [List.length_append, llg]; show 2 * i + 2 = 2 * (i + 1); omega, u2.trans u3⟩
        rw [rs51_succ (i + 1), rs51_succ i]
        exact h3
      rintro σ H2 ⟨y5, lg, rfl, h2, llg, u2⟩
      have r2 : But b H H2 := fun p o np e => u2 p o (fun z => by rw [z, zl] at e; cases e) (fun z => by rw [z, ze] at e; cases e) (uE p o np e)
      have x2 : BoxAt H2 b 80000 := let ⟨xs, e, k⟩ := bxE; ⟨xs, u2 _ _ b1 b2 e, k⟩
      clear uE bxE u2
      obtain ⟨dx, sts, ens, hx⟩ := id h2
      replace h2 : HarAt K H2 C a2 ls2 le2 (st51 0 :: rs51t) lg := h2
      refine ⟨_, rfl, a2, dx, _, rfl, hx.ins, rfl, a2, ls2, le2, st51 0, rs51t, lg, 40, rfl, h2, by decide, fun H3 a3 ls3 le3 s3 _ _ _ h3 => ?_⟩
      replace h3 : HarAt K H3 C a3 ls3 le3 (rs51 40 ++ [st51 40]) [] := h3
      obtain ⟨dx3, sts3, ens3, hx3⟩ := id h3
      refine ⟨a3, dx3, _, rfl, hx3.ins, rfl, a3, ls3, le3, _, _, _, rfl, h3, fun v3 hv3 => ?_⟩
      have hx3' := hx.same s3
      refine ⟨_, rfl, a2, dx, _, rfl, hx3'.ins, rfl, a2, ls2, le2, st51 0, rs51t, lg, 0, rfl, h2.same s3, by decide, fun H4 a4 ls4 le4 s4 _ _ _ h4 => ?_⟩
      replace h4 : HarAt K H4 C a4 ls4 le4 ([] ++ [st51 0]) [] := h4
      obtain ⟨dx4, sts4, ens4, hx4⟩ := id h4
      refine ⟨a4, dx4, _, rfl, hx4.ins, rfl, a4, ls4, le4, _, _, _, rfl, h4, fun v4 hv4 => ?_⟩
      replace hv3 := hv3.same s4
      have hx5 := hx3'.same s4
      refine ⟨_, rfl, a2, dx, _, rfl, hx5.ins, rfl, a2, ls2, le2, rs51 80, st51 80, lg, rfl, h2.same (s3.trans s4), ?_⟩
      rw [rs51_len]
      refine ⟨(by show 3 ≤ sizeLine; decide), fun q1 nq1 => ?_⟩
      have g1 : Same H4 (upd H4 q1 (.lst [v3, v4, .int ((80 : Nat) : Int)])) := same_new nq1
      have e1 : upd H4 q1 (.lst [v3, v4, .int ((80 : Nat) : Int)]) q1 = some (.lst [v3, v4, .int 80]) := upd_same
      generalize upd H4 q1 (.lst [v3, v4, .int ((80 : Nat) : Int)]) = G1 at g1 e1
      refine ⟨Nat.zero_le _, fun t1 nt1 => ?_⟩
      have g2 : Same G1 (upd G1 t1 (.tup [])) := same_new nt1
      have f1 : upd G1 t1 (.tup []) t1 = some (.tup []) := upd_same
      generalize upd G1 t1 (.tup []) = G2 at g2 f1
      refine ⟨(by show 3 ≤ sizeLine; decide), fun t2 nt2 => ?_⟩
      have g3 : Same G2 (upd G2 t2 (.tup [.int 40, .int 3, .ref t1])) := same_new nt2
      have f2 : upd G2 t2 (.tup [.int 40, .int 3, .ref t1]) t2 = some (.tup [.int 40, .int 3, .ref t1]) := upd_same
      generalize upd G2 t2 (.tup [.int 40, .int 3, .ref t1]) = G3 at g3 f2
      refine ⟨Nat.zero_le _, fun t3 nt3 => ?_⟩
      have g4 : Same G3 (upd G3 t3 (.tup [])) := same_new nt3
      have f3 : upd G3 t3 (.tup []) t3 = some (.tup []) := upd_same
      generalize upd G3 t3 (.tup []) = G4 at g4 f3
      refine ⟨(by show 3 ≤ sizeLine; decide), fun t4 nt4 => ?_⟩
      have g5 : Same G4 (upd G4 t4 (.tup [.int 0, .int 3, .ref t3])) := same_new nt4
      have f4 : upd G4 t4 (.tup [.int 0, .int 3, .ref t3]) t4 = some (.tup [.int 0, .int 3, .ref t3]) := upd_same
      generalize upd G4 t4 (.tup [.int 0, .int 3, .ref t3]) = G5 at g5 f4
      refine ⟨(by show 3 ≤ sizeLine; decide), fun q2 nq2 => ?_⟩
      have g6 : Same G5 (upd G5 q2 (.lst [.ref t2, .ref t4, .int 80])) := same_new nq2
      have f5 : upd G5 q2 (.lst [.ref t2, .ref t4, .int 80]) q2 = some (.lst [.ref t2, .ref t4, .int 80]) := upd_same
      generalize upd G5 q2 (.lst [.ref t2, .ref t4, .int 80]) = G6 at g6 f5
      have g26 := g2.trans (g3.trans (g4.trans (g5.trans g6)))
      have d1 : Dp K G6 (.ref q1) (.list [seaV 40 3 [], seaV 0 3 [], .int 80]) := .lst (SqL.of (g26 _ _ e1)) (.cons (hv3.same (g1.trans g26)).dp (.cons (hv4.same (g1.trans g26)).dp (.cons (.int _) .nil)))
      have d2 : Dp K G6 (.ref q2) (.list [seaV 40 3 [], seaV 0 3 [], .int 80]) := .lst (SqL.of f5) (.cons (.tup (SqT.of ((g4.trans (g5.trans g6)) _ _ f2)) (.cons (.int _) (.cons (.int _) (.cons (.tup (SqT.of ((g3.trans (g4.trans (g5.trans g6))) _ _ f1)) .nil) .nil)))) (.cons (.tup (SqT.of (g6 _ _ f4)) (.cons (.int _) (.cons (.int _) (.cons (.tup (SqT.of ((g5.trans g6) _ _ f3)) .nil) .nil)))) (.cons (.int _) .nil)))
      refine ⟨_, _, d1, d2, by decide, by decide, _, rfl, ?_⟩
      rw [show PyData.eqv (.list [seaV 40 3 [], seaV 0 3 [], .int 80]) (.list [seaV 40 3 [], seaV 0 3 [], .int 80]) = true from by decide]
      refine iteF ?_
      have gA := s3.trans (s4.trans (g1.trans g26))
      have r6 := r2.trans (Same.but gA)
      have x6 := x2.same gA
      have h6 : HarAt K G6 C a2 ls2 le2 (rs51 81) lg := h2.same gA
      clear d1 d2 f1 f2 f3 f4 f5 g1 g2 g3 g4 g5 g6 g26 e1 hv3 hv4 hx hx3 hx3' hx4 hx5 h2 h3 h4 s3 s4 gA r2 x2 nq1 nq2 nt1 nt2 nt3 nt4
      -- all taken back
      refine ⟨80, rfl, by decide, by decide, fun D1 nD1 => ?_⟩
      have nDl : D1 ≠ ls2 ∧ D1 ≠ le2 := by
        obtain ⟨_, _, _, hx⟩ := h6
        exact ⟨fun z => (by rw [z, hx.hs] at nD1; cases nD1), fun z => (by rw [z, hx.he] at nD1; cases nD1)⟩
      refine lc_range (fun i H' => ∃ lg : List (Bool × Str), HarAt K H' C a2 ls2 le2 (rs51 (81 - i)) lg ∧ lg.length = 160 + 2 * i ∧ H' D1 = some (.lst ((List.replicate i true).map V.bl)) ∧ ∀ p o, p ≠ ls2 → p ≠ le2 → G6 p = some o → H' p = some o) ?_ ?_ ?_
      · exact ⟨lg, h6.same (same_new nD1), llg, upd_same, fun p o _ _ e => (upd_ne (ne_of_none e nD1)).trans e⟩
      · rintro i H7 hi ⟨lg7, h7, l7, e7, k7⟩
        have hi80 : i < 80 := hi
        refine ⟨rfl, tyes (iteT ?_)⟩
        rw [show 81 - i = (79 - i) + 1 + 1 by omega, rs51_succ] at h7
        obtain ⟨dx, sts, ens, hx⟩ := id h7
        refine ⟨_, rfl, a2, dx, _, rfl, hx.ins, rfl, a2, ls2, le2, _, _, lg7, rfl, h7, by omega, fun e => ?_, fun _ H8 u8 h8 => ?_⟩
        · have := congrArg List.length e
          rw [rs51_len] at this
          cases this
        have e8 := u8 _ _ nDl.1 nDl.2 e7
        refine ⟨_, e8, ?_, lg7 ++ io "undo", ?_, ?_, ?_, ?_⟩
        · rw [List.length_map, List.length_replicate]
          exact small1000 (by omega)
        · rw [show 81 - (i + 1) = (79 - i) + 1 by omega]
          obtain ⟨dx, sts, ens, hx⟩ := id h8
          have UD : ButL [D1] H8 (upd H8 D1 (.lst ((List.replicate i true).map V.bl ++ [V.bl true]))) := fun a o na e => (upd_ne (fun z => na (List.mem_singleton.mpr z))).trans e
          exact UD.har (fun z hz => .inl (by rw [List.mem_singleton.mp hz]; exact ⟨_, e8⟩)) (nin1 nDl.1.symm) (nin1 nDl.2.symm) h8
        · rw [List.length_append, l7]
          show 160 + 2 * i + 2 = 160 + 2 * (i + 1)
          omega
        · rw [upd_same, List.replicate_succ', List.map_append]
          rfl
        · exact fun p o n1 n2 e => (upd_ne (ne_of_none e nD1)).trans (u8 p o n1 n2 (k7 p o n1 n2 e))
      rintro H7 ⟨lg7, h7, l7, e7, k7⟩
      replace h7 : HarAt K H7 C a2 ls2 le2 ([] ++ [st51 0]) lg7 := h7
      have r7 : But b H H7 := fun p o np e => k7 p o (fun z => by rw [z, zl] at e; cases e) (fun z => by rw [z, ze] at e; cases e) (r6 p o np e)
      have x7 : BoxAt H7 b 80000 := let ⟨xs, e, k⟩ := x6; ⟨xs, k7 _ _ b1 b2 e, k⟩
      clear r6 x6 h6 k7
      refine ⟨D1, _, rfl, SqL.of e7, ?_⟩
      refine ⟨true, congrArg V.bl (by decide), iteF ?_⟩
      obtain ⟨dx, sts, ens, hx⟩ := id h7
      refine ⟨_, rfl, a2, dx, _, rfl, hx.ins, rfl, a2, ls2, le2, _, _, lg7, rfl, h7, by omega, fun _ H8 u8 h8 => ?_, fun e => absurd e (by decide)⟩
      refine ⟨_, _, rfl, rfl, _, rfl, iteF ?_⟩
      obtain ⟨dx, sts, ens, hx⟩ := id h8
      replace h8 : HarAt K H8 C a2 ls2 le2 ([] ++ [st51 0]) (lg7 ++ io "undo") := h8
      have r8 : But b H H8 := fun p o np e => u8 p o (fun z => by rw [z, zl] at e; cases e) (fun z => by rw [z, ze] at e; cases e) (r7 p o np e)
      have x8 : BoxAt H8 b 80000 := let ⟨xs, e, k⟩ := x7; ⟨xs, u8 _ _ b1 b2 e, k⟩
      refine ⟨_, rfl, a2, dx, _, rfl, hx.ins, rfl, a2, ls2, le2, _, _, _, rfl, h8, fun v8 hv8 => ?_⟩
      refine ⟨Nat.zero_le _, fun t1 nt1 => ?_⟩
      have g2 : Same H8 (upd H8 t1 (.tup [])) := same_new nt1
      have f1 : upd H8 t1 (.tup []) t1 = some (.tup []) := upd_same
      generalize upd H8 t1 (.tup []) = G2 at g2 f1
      refine ⟨(by show 3 ≤ sizeLine; decide), fun t2 nt2 => ?_⟩
      have g3 : Same G2 (upd G2 t2 (.tup [.int 0, .int 3, .ref t1])) := same_new nt2
      have f2 : upd G2 t2 (.tup [.int 0, .int 3, .ref t1]) t2 = some (.tup [.int 0, .int 3, .ref t1]) := upd_same
      generalize upd G2 t2 (.tup [.int 0, .int 3, .ref t1]) = G3 at g3 f2
      have d1 : Dp K G3 v8 (seaV 0 3 []) := (hv8.same (g2.trans g3)).dp
      have d2 : Dp K G3 (.ref t2) (seaV 0 3 []) := .tup (SqT.of f2) (.cons (.int _) (.cons (.int _) (.cons (.tup (SqT.of (g3 _ _ f1)) .nil) .nil)))
      refine ⟨_, _, d1, d2, by decide, by decide, _, rfl, ?_⟩
      rw [show PyData.eqv (seaV 0 3 []) (seaV 0 3 []) = true from by decide]
      refine iteF ?_
      have r9 := r8.trans (Same.but (g2.trans g3))
      have x9 := x8.same (g2.trans g3)
      clear d1 d2 hv8 h8 hx r8 x8 u8 h7 e7 r7 x7 f1 f2 g2 g3 nt1 nt2
      -- a full one
      refine ⟨_, rfl, b, 70000, 24, rfl, by decide, x9.mono (by decide), fun H9 p9 a9 ls9 le9 pv9 pl9 h9 t9 ds9 L9 ss9 lg9 u9 x9' na9 nl9 ne9 nb1' nb2' np9 e9 _ _ hL9 ld9 har9 llg9 lss9 lst9 => ?_⟩
      refine ⟨p9, _, 0, .ref a9, rfl, rfl, SqA.t e9, rfl, ?_⟩
      have l9 : H ls9 = none := r9.free nb1'.symm nl9
      have le9' : H le9 = none := r9.free nb2'.symm ne9
      have r10 := r9.trans u9
      have ok9 : HsOk (⟨h9, t9, ds9, L9, 0⟩ : HS) := ⟨by show ds9.length ≤ 24; omega, hL9⟩
      refine ⟨_, rfl, (by show 2 ≤ sizeLine; decide), fun t1 nt1 => ?_⟩
      have g1 : Same H9 (upd H9 t1 (.tup [.str "Full", .int 24])) := same_new nt1
      have e1 : upd H9 t1 (.tup [.str "Full", .int 24]) t1 = some (.tup [.str (nmK 2), .int 24]) := upd_same
      generalize upd H9 t1 (.tup [.str "Full", .int 24]) = H10 at g1 e1
      refine ⟨a9, ls9, le9, t1, ss9, _, lg9, "moor", .int 0, 2, 24, rfl, har9.same g1, ok9, by omega, .moor ld9, by decide, e1, fun H11 u11 h11 => ?_⟩
      refine ⟨_, rfl, ?_⟩
      have r11 : But b H H11 := fun p o np e => u11 p o (fun z => by rw [z, l9] at e; cases e) (fun z => by rw [z, le9'] at e; cases e) (g1 _ _ (r10 p o np e))
      obtain ⟨ss', y, e0, oky, ly⟩ := lst9 (by decide)
      obtain ⟨dx, sts, ens, hx⟩ := id h11
      refine iteT ?_
      refine ⟨_, rfl, a9, dx, _, rfl, hx.ins, rfl, a9, ls9, le9, ss9, _, _, rfl, h11, by rw [List.length_append, llg9]; show 2 * 24 + 2 ≤ 100000; decide, fun e => ?_, fun _ H12 u12 h12 => ?_⟩
      · rw [e0] at e
        exact absurd (congrArg List.length e) (by simp)
      refine ⟨_, _, rfl, rfl, _, rfl, iteT ?_⟩
      rw [e0] at h12
      obtain ⟨dx, sts, ens, hx⟩ := id h12
      have r12 : But b H H12 := fun p o np e => u12 p o (fun z => by rw [z, l9] at e; cases e) (fun z => by rw [z, le9'] at e; cases e) (r11 p o np e)
      refine ⟨_, rfl, a9, dx, _, rfl, hx.ins, rfl, a9, ls9, le9, ss', y, _, 0, true, rfl, h12, oky, by omega, by rw [List.length_append, List.length_append, llg9]; show 2 * 24 + 2 + 2 ≤ 100000; decide, ?_, fun H13 u13 h13 => ?_⟩
      · have := congrArg List.length e0
        rw [List.length_append, List.length_singleton, lss9] at this
        omega
      refine ⟨rfl, ?_⟩
      have r13 : But b H H13 := fun p o np e => u13 p o (fun z => by rw [z, l9] at e; cases e) (fun z => by rw [z, le9'] at e; cases e) (r12 p o np e)
      have eq : decide (V.int (y.ds.length : Int) = V.int 23) = true := by
        rw [show y.ds.length = 23 by omega]
        decide
      have fin := q H13 r13
      rw [← eq] at fin
      exact fin
end
end Sh

namespace Sh
open PySem PySem.Spec PyProof.Rows L2
/-! ### the law itself -/
def spLaw (K : PySem.W.Frag) : Sp := fun vs H Q _ => ∃ (a : Addr) (ns : List Int), vs = [.ref a] ∧ SqL K H a (ns.map V.int) ∧ ns.length ≤ 63 ∧ ∀ H', Q (.bl true) H'
abbrev s_law : Stmt := topS 45
theorem sc_law : FnScope (["_law_script", "_law_k"] : List Str) (["_law_script"] : List Str) (defScope s_law) := ⟨rfl, rfl, rfl, by decide +kernel, rfl, by decide +kernel, by decide +kernel⟩
theorem b_law (kV doc pm : Value) (an : Option Addr) (cdv ct : Value) (us : List Value) (hl : us.length = (["_law_script"] : List Str).length) : bindArgs (PySem.W.fnOf "law" "law" (defArgs s_law) (defBody s_law) (defScope s_law) .none kV doc pm an cdv ct) ⟨us, []⟩ = pure ((["_law_script"] : List Str).zip us) :=
  match us, hl with | [_], _ => rfl
section
variable {P : Program} {w : World} {K : PySem.W.Frag} {mg : Str → Option Value} {base : Heap}
theorem ok_law {k : Nat} (D : Df K mg "law" s_law) (T : Bt mg) (O__law_box : Ok P w K mg base k "_law_box" s__law_box ["_law_script", "_law_k"] (spBox K)) (O__law_right : Ok P w K mg base k "_law_right" s__law_right ["_law_box_here"] spRight) :
    Ok P w K mg base (k + 1) "law" s_law ["_law_script"] (spLaw K) := by
  refine D.ok sc_law b_law (fun vs H Q E h => ?_) (fun f cdv A outer s H vs Q E hr h => ?_)
  · obtain ⟨a, ns, rfl, _⟩ := h
    rfl
  · obtain ⟨a, ns, rfl, hS, hl, q⟩ := h
    refine ⟨_, (pss_one (ps_ret (pe_callB (cr_all rfl) (by rfl) T.all_ (by decide +kernel) (pa_cons (pe_lc (own := [("_law_k", 1)]) (g := (gName 1)) (tt := tYes) (by rfl) sc_law.nd (pi_range1 (by rfl) T.range_ (pa_cons (pe_op op_add pe_int (pe_callB (call_min2 rfl) (by rfl) T.min_ (by decide +kernel) (pa_cons pe_int (pa_cons (pe_callB call_len_seq (by rfl) T.len_ PySem.boot_len (pa_cons (pv 0) pa_nil)) pa_nil)))) pa_nil)) (blkOk_by (own := [("_law_k", 1)]) (N := (["_law_script", "_law_k"] : List Str)) (sc := defScope s_law) (by decide +kernel)) (fun _ _ _ _ _ => (pg_name (i := 1) sc_law.nd rfl (.inl rfl))) (fun _ _ _ _ _ => pts_nil) (fun _ _ _ _ _ => (pe_fn O__law_right (hr.mono (by omega)) (pa_cons (pe_fn O__law_box (hr.mono (by omega)) (pa_cons (pv 0) (pa_cons (pv 1) pa_nil))) pa_nil)))) pa_nil)))), ?_⟩
    refine ⟨_, rfl, a, _, rfl, .inl hS, _, _, rfl, 1, _, rfl, rfl, _, rfl, ?_, ?_, fun C nC => ?_⟩
    · split <;> omega
    · rw [List.length_map]
      split <;> omega
    rw [List.length_map]
    generalize en : (1 + if (ns.length : Int) < 3 then (ns.length : Int) else 3).toNat = n
    have hn : n ≤ 4 := by
      rw [← en]
      split <;> omega
    refine lc_range (fun i H' => Same H H' ∧ H' C = some (.lst ((List.replicate i true).map V.bl))) ⟨same_new nC, upd_same⟩ ?_ ?_
    · rintro i H1 hi ⟨sm, hC⟩
      refine ⟨rfl, tyes (iteT ?_)⟩
      refine ⟨_, rfl, _, rfl, a, ns, i, ?_, by omega, sm.seq hS, fun b xs nb bx => ?_⟩
      · show [V.ref a, V.int (0 + (i : Int))] = _
        rw [Int.zero_add]
      refine ⟨b, rfl, (BoxAt.put bx).mono (by decide), fun H2 u2 => ?_⟩
      have nCb : C ≠ b := ne_of_none hC nb
      refine ⟨_, u2 _ _ nCb (by rw [upd_ne nCb]; exact hC), ?_, fun p o ho => ?_, ?_⟩
      · rw [List.length_map, List.length_replicate]
        exact small1000 (by omega)
      · have npb : p ≠ b := ne_of_none (sm _ _ ho) nb
        rw [upd_ne (ne_of_none ho nC)]
        exact u2 _ _ npb (by rw [upd_ne npb]; exact sm _ _ ho)
      · rw [upd_same, List.replicate_succ', List.map_append]
        rfl
    · rintro H1 ⟨sm, hC⟩
      refine ⟨C, _, rfl, SqL.of hC, ?_⟩
      have e : (List.replicate n true).all id = true := by simp
      rw [e]
      exact q _
theorem law_end {k : Nat} {fa : Addr} {sp : Sp} (D : Df K mg "law" s_law) (hfa : mg "law" = some (.ref fa)) (O : ∀ base, Ok P w K mg base k "law" s_law ["_law_script"] sp) :
    ∃ fd : FuncData, (∀ (s : Shared) (v : Value), BindsTo s fd ⟨[v], []⟩ [("_law_script", v)]) ∧ ∀ base : Heap, K.In base → base.Ns mainGlobals mg → FnOk P w K mg base CX0 k fa fd ["_law_script"] sp := by
  obtain ⟨f, fd, F, g⟩ := D.ex
  obtain rfl : fa = f := by
    have e := hfa.symm.trans g
    cases e
    rfl
  refine ⟨fd, fun s v => ?_, fun base _ _ => ?_⟩
  · obtain ⟨oc, od, kV, doc, pm, an, cdv, ct, osl, rfl, lk, hcd⟩ := F.ex
    exact .of_eq (b_law kV doc pm an cdv ct [v] rfl)
  · obtain ⟨f', fd', F', g', _, G⟩ := (O base).ex
    obtain rfl : fa = f' := by
      have e := g.symm.trans g'
      cases e
      rfl
    obtain ⟨_, _, _, _, _, _, _, _, _, _, lk, _⟩ := F.ex
    obtain ⟨_, _, _, _, _, _, _, _, _, _, lk', _⟩ := F'.ex
    have e := lk.symm.trans lk'
    cases e
    exact G
theorem df_mk {x : Str} {st : Stmt} {h : Heap} {f : Addr} {oc : Value} {od an : Option Addr} {sl : Array (Option Value)} {kV dc pm cd ct : Value} (X : K.In h) (G : h.Ns mainGlobals mg)
    (a : PySem.W.nsIn K mainGlobals x = some (some (.ref f))) (l : K.lookup f = some ⟨oc, od, .func (PySem.W.fnOf x x (defArgs st) (defBody st) (defScope st) .none kV dc pm an cd ct), sl⟩)
    (c : PySem.W.codeIn K cd x = true) (k : PySem.W.keepIn K (.ref f) = true) : Df K mg x st := ⟨f, _, fun_mk l c k, PySem.W.mg_of X G a⟩
theorem with_df {R : Prop} {x : Str} {st : Stmt} {h : Heap} {f : Addr} {oc : Value} {od an : Option Addr} {sl : Array (Option Value)} {kV dc pm cd ct : Value} (X : K.In h) (G : h.Ns mainGlobals mg)
    (a : PySem.W.nsIn K mainGlobals x = some (some (.ref f))) (l : K.lookup f = some ⟨oc, od, .func (PySem.W.fnOf x x (defArgs st) (defBody st) (defScope st) .none kV dc pm an cd ct), sl⟩)
    (c : PySem.W.codeIn K cd x = true) (k : PySem.W.keepIn K (.ref f) = true) (r : Df K mg x st → R) : R := r (df_mk X G a l c k)
end
end Sh

open PySem PySem.W PyProof.Rows
set_option maxHeartbeats 0 in
theorem PySem.Challenge.cw_shoalmates_k51_refused_at_a_harbour_holds : PySem.Challenge.rw_shoalmates_k51_refused_at_a_harbour.Holds := by
  w_on; o_law; k_head; (case hw => w_witness2)
  k_fill
  refine L2.walk_of (l := PySem.Challenge.rw_shoalmates_k51_refused_at_a_harbour) (n := 63) (k := 13) (x := "_law_script") (CX := fun _ => L2.CX0) (sp := fun w => Sh.spLaw _) rfl (by decide) rfl ⟨rfl, by decide, by decide⟩ (fun w h Y => PySem.W.kIn_of Y) ?F (fun _ _ a ns hl _ hS => ⟨a, ns, rfl, hS, hl, fun _ => rfl⟩) (fun _ _ _ _ _ h => h)
  case F =>
    intro w mg fa h KX G hmg
    have T : Sh.Bt mg := by
      constructor <;> (refine PySem.W.mg_none_of KX G ?_; k_is)
    refine' Sh.with_chH KX G ?a fun Ch => ?_
    (case a => k_is)
    refine' Sh.with_cnm KX G ?a fun Cm => ?_
    (case a => k_is)
    refine' Sh.with_df (x := "mark_of") (st := Sh.s_mark_of) KX G ?a ?l ?c ?k fun D_mark_of => ?_
    (case a => k_is); (case l => k_is); (case c => k_is); (case k => k_is)
    refine' Sh.with_df (x := "mark_at") (st := Sh.s_mark_at) KX G ?a ?l ?c ?k fun D_mark_at => ?_
    (case a => k_is); (case l => k_is); (case c => k_is); (case k => k_is)
    refine' Sh.with_df (x := "may_go") (st := Sh.s_may_go) KX G ?a ?l ?c ?k fun D_may_go => ?_
    (case a => k_is); (case l => k_is); (case c => k_is); (case k => k_is)
    refine' Sh.with_df (x := "crossed") (st := Sh.s_crossed) KX G ?a ?l ?c ?k fun D_crossed => ?_
    (case a => k_is); (case l => k_is); (case c => k_is); (case k => k_is)
    refine' Sh.with_df (x := "deepened") (st := Sh.s_deepened) KX G ?a ?l ?c ?k fun D_deepened => ?_
    (case a => k_is); (case l => k_is); (case c => k_is); (case k => k_is)
    refine' Sh.with_df (x := "renumbered") (st := Sh.s_renumbered) KX G ?a ?l ?c ?k fun D_renumbered => ?_
    (case a => k_is); (case l => k_is); (case c => k_is); (case k => k_is)
    refine' Sh.with_df (x := "renumbered_standing") (st := Sh.s_renumbered_standing) KX G ?a ?l ?c ?k fun D_renumbered_standing => ?_
    (case a => k_is); (case l => k_is); (case c => k_is); (case k => k_is)
    refine' Sh.with_df (x := "without_ship") (st := Sh.s_without_ship) KX G ?a ?l ?c ?k fun D_without_ship => ?_
    (case a => k_is); (case l => k_is); (case c => k_is); (case k => k_is)
    refine' Sh.with_df (x := "check_ship") (st := Sh.s_check_ship) KX G ?a ?l ?c ?k fun D_check_ship => ?_
    (case a => k_is); (case l => k_is); (case c => k_is); (case k => k_is)
    refine' Sh.with_df (x := "moored") (st := Sh.s_moored) KX G ?a ?l ?c ?k fun D_moored => ?_
    (case a => k_is); (case l => k_is); (case c => k_is); (case k => k_is)
    refine' Sh.with_df (x := "left_by") (st := Sh.s_left_by) KX G ?a ?l ?c ?k fun D_left_by => ?_
    (case a => k_is); (case l => k_is); (case c => k_is); (case k => k_is)
    refine' Sh.with_df (x := "sailed") (st := Sh.s_sailed) KX G ?a ?l ?c ?k fun D_sailed => ?_
    (case a => k_is); (case l => k_is); (case c => k_is); (case k => k_is)
    refine' Sh.with_df (x := "dredged") (st := Sh.s_dredged) KX G ?a ?l ?c ?k fun D_dredged => ?_
    (case a => k_is); (case l => k_is); (case c => k_is); (case k => k_is)
    refine' Sh.with_df (x := "_law_cell_at") (st := Sh.s__law_cell_at) KX G ?a ?l ?c ?k fun D__law_cell_at => ?_
    (case a => k_is); (case l => k_is); (case c => k_is); (case k => k_is)
    refine' Sh.with_df (x := "_law_box") (st := Sh.s__law_box) KX G ?a ?l ?c ?k fun D__law_box => ?_
    (case a => k_is); (case l => k_is); (case c => k_is); (case k => k_is)
    refine' Sh.with_df (x := "_law_take") (st := Sh.s__law_take) KX G ?a ?l ?c ?k fun D__law_take => ?_
    (case a => k_is); (case l => k_is); (case c => k_is); (case k => k_is)
    refine' Sh.with_df (x := "_law_of") (st := Sh.s__law_of) KX G ?a ?l ?c ?k fun D__law_of => ?_
    (case a => k_is); (case l => k_is); (case c => k_is); (case k => k_is)
    refine' Sh.with_df (x := "_law_same") (st := Sh.s__law_same) KX G ?a ?l ?c ?k fun D__law_same => ?_
    (case a => k_is); (case l => k_is); (case c => k_is); (case k => k_is)
    refine' Sh.with_df (x := "_law_lets") (st := Sh.s__law_lets) KX G ?a ?l ?c ?k fun D__law_lets => ?_
    (case a => k_is); (case l => k_is); (case c => k_is); (case k => k_is)
    refine' Sh.with_df (x := "_law_gone") (st := Sh.s__law_gone) KX G ?a ?l ?c ?k fun D__law_gone => ?_
    (case a => k_is); (case l => k_is); (case c => k_is); (case k => k_is)
    refine' Sh.with_df (x := "_law_walk") (st := Sh.s__law_walk) KX G ?a ?l ?c ?k fun D__law_walk => ?_
    (case a => k_is); (case l => k_is); (case c => k_is); (case k => k_is)
    refine' Sh.with_df (x := "_law_refused") (st := Sh.s__law_refused) KX G ?a ?l ?c ?k fun D__law_refused => ?_
    (case a => k_is); (case l => k_is); (case c => k_is); (case k => k_is)
    refine' Sh.with_df (x := "_law_seen") (st := Sh.s__law_seen) KX G ?a ?l ?c ?k fun D__law_seen => ?_
    (case a => k_is); (case l => k_is); (case c => k_is); (case k => k_is)
    refine' Sh.with_df (x := "_law_port") (st := Sh.s__law_port) KX G ?a ?l ?c ?k fun D__law_port => ?_
    (case a => k_is); (case l => k_is); (case c => k_is); (case k => k_is)
    refine' Sh.with_df (x := "_law_one_right") (st := Sh.s__law_one_right) KX G ?a ?l ?c ?k fun D__law_one_right => ?_
    (case a => k_is); (case l => k_is); (case c => k_is); (case k => k_is)
    refine' Sh.with_df (x := "_law_right") (st := Sh.s__law_right) KX G ?a ?l ?c ?k fun D__law_right => ?_
    (case a => k_is); (case l => k_is); (case c => k_is); (case k => k_is)
    refine' Sh.with_df (x := "law") (st := Sh.s_law) KX G ?a ?l ?c ?k fun D_law => ?_
    (case a => k_is); (case l => k_is); (case c => k_is); (case k => k_is)
    refine' Sh.with_hc KX G ?a ?hpg ?hhd ?hpo ?hsa ?n1 ?n2 fun hC => ?_
    (case a => k_is); (case hpg => k_is); (case hhd => k_is); (case hpo => k_is); (case hsa => k_is); (case n1 => k_is); (case n2 => k_is)
    refine' Sh.with_hini hC ?m ?i ?f ?k ?l ?c fun M_init => ?_
    (case m => k_is); (case i => k_is); (case f => k_is); (case k => exact ⟨by k_is, by k_is⟩); (case l => k_is); (case c => k_is)
    refine' Sh.with_md (m := "moor") (q := "Harbour.moor") (st := Sh.s_Harbour_moor) hC ?i ?f ?k ?l ?c fun M_moor => ?_
    (case i => k_is); (case f => k_is); (case k => k_is); (case l => k_is); (case c => k_is)
    refine' Sh.with_md (m := "leave") (q := "Harbour.leave") (st := Sh.s_Harbour_leave) hC ?i ?f ?k ?l ?c fun M_leave => ?_
    (case i => k_is); (case f => k_is); (case k => k_is); (case l => k_is); (case c => k_is)
    refine' Sh.with_md (m := "cross") (q := "Harbour.cross") (st := Sh.s_Harbour_cross) hC ?i ?f ?k ?l ?c fun M_cross => ?_
    (case i => k_is); (case f => k_is); (case k => k_is); (case l => k_is); (case c => k_is)
    refine' Sh.with_md (m := "sail") (q := "Harbour.sail") (st := Sh.s_Harbour_sail) hC ?i ?f ?k ?l ?c fun M_sail => ?_
    (case i => k_is); (case f => k_is); (case k => k_is); (case l => k_is); (case c => k_is)
    refine' Sh.with_md (m := "dredge") (q := "Harbour.dredge") (st := Sh.s_Harbour_dredge) hC ?i ?f ?k ?l ?c fun M_dredge => ?_
    (case i => k_is); (case f => k_is); (case k => k_is); (case l => k_is); (case c => k_is)
    refine' Sh.with_md (m := "undo") (q := "Harbour.undo") (st := Sh.s_Harbour_undo) hC ?i ?f ?k ?l ?c fun M_undo => ?_
    (case i => k_is); (case f => k_is); (case k => k_is); (case l => k_is); (case c => k_is)
    refine' Sh.with_md (m := "sea") (q := "Harbour.sea") (st := Sh.s_Harbour_sea) hC ?i ?f ?k ?l ?c fun M_sea => ?_
    (case i => k_is); (case f => k_is); (case k => k_is); (case l => k_is); (case c => k_is)
    refine' Sh.with_md (m := "standing") (q := "Harbour.standing") (st := Sh.s_Harbour_standing) hC ?i ?f ?k ?l ?c fun M_standing => ?_
    (case i => k_is); (case f => k_is); (case k => k_is); (case l => k_is); (case c => k_is)
    refine' Sh.with_md (m := "crossings") (q := "Harbour.crossings") (st := Sh.s_Harbour_crossings) hC ?i ?f ?k ?l ?c fun M_crossings => ?_
    (case i => k_is); (case f => k_is); (case k => k_is); (case l => k_is); (case c => k_is)
    refine' Sh.with_md (m := "deeds") (q := "Harbour.deeds") (st := Sh.s_Harbour_deeds) hC ?i ?f ?k ?l ?c fun M_deeds => ?_
    (case i => k_is); (case f => k_is); (case k => k_is); (case l => k_is); (case c => k_is)
    refine' Sh.with_md (m := "as_of") (q := "Harbour.as_of") (st := Sh.s_Harbour_as_of) hC ?i ?f ?k ?l ?c fun M_as_of => ?_
    (case i => k_is); (case f => k_is); (case k => k_is); (case l => k_is); (case c => k_is)
    refine' Sh.with_md (m := "log") (q := "Harbour.log") (st := Sh.s_Harbour_log) hC ?i ?f ?k ?l ?c fun M_log => ?_
    (case i => k_is); (case f => k_is); (case k => k_is); (case l => k_is); (case c => k_is)
    refine' Sh.with_md (m := "__len__") (q := "Harbour.__len__") (st := Sh.s_Harbour___len__) hC ?i ?f ?k ?l ?c fun M___len__ => ?_
    (case i => k_is); (case f => k_is); (case k => k_is); (case l => k_is); (case c => k_is)
    refine' Sh.with_md (m := "__repr__") (q := "Harbour.__repr__") (st := Sh.s_Harbour___repr__) hC ?i ?f ?k ?l ?c fun M___repr__ => ?_
    (case i => k_is); (case f => k_is); (case k => k_is); (case l => k_is); (case c => k_is)
    refine' Sh.with_xc (x := "MayNot") (q := "MayNot.__init__") (f := "ship") (st := Sh.s_MayNot_init) KX G ?a ?T ?i ?ti ?l ?c ?k ?no ?e fun DM => ?_
    (case a => k_is)
    (case T => exact ⟨⟨_, _, _, _, _, _, _, _, _, _, _, _, _, _, _, by k_is, by decide +kernel⟩, by k_is, by k_is, by k_is, by k_is⟩)
    (case i => k_is)
    (case ti => k_is)
    (case l => k_is)
    (case c => k_is)
    (case k => k_is)
    (case no => k_is)
    (case e => exact ⟨by k_is, by k_is, by k_is, by k_is, by k_is, by k_is, by k_is, by k_is⟩)
    refine' Sh.with_xcn (x := "NoShip") (q := "NoShip.__init__") (f := "ship") (st := Sh.s_NoShip_init) (nw := "LookupError.__new__") (tl := Sh.tlLE) KX G ?a ?T ?i ?ti ?l ?c ?k ?no ?e fun DN => ?_
    (case a => k_is)
    (case T => exact ⟨⟨_, _, _, _, _, _, _, _, _, _, _, _, _, _, by k_is⟩, by k_is, by k_is, by k_is, by k_is⟩)
    (case i => k_is)
    (case ti => k_is)
    (case l => k_is)
    (case c => k_is)
    (case k => k_is)
    (case no => k_is)
    (case e => exact ⟨by k_is, by k_is, by k_is, by k_is, by k_is, by k_is, by k_is, by k_is⟩)
    refine' Sh.with_xcn (x := "Full") (q := "Full.__init__") (f := "many") (st := Sh.s_Full_init) (nw := "OverflowError.__new__") (tl := Sh.tlOE) KX G ?a ?T ?i ?ti ?l ?c ?k ?no ?e fun DF => ?_
    (case a => k_is)
    (case T => exact ⟨⟨_, _, _, _, _, _, _, _, _, _, _, _, _, _, by k_is⟩, by k_is, by k_is, by k_is, by k_is⟩)
    (case i => k_is)
    (case ti => k_is)
    (case l => k_is)
    (case c => k_is)
    (case k => k_is)
    (case no => k_is)
    (case e => exact ⟨by k_is, by k_is, by k_is, by k_is, by k_is, by k_is, by k_is, by k_is⟩)
    refine' Sh.with_xb G KX ?a ?b fun XBb => ?_
    (case a => k_is)
    (case b => k_is)
    refine' Sh.with_xbn (b := "LookupError") (B := "LookupError") (ini := "LookupError.__init__") G KX ?a ?b fun XBl => ?_
    (case a => k_is)
    (case b => k_is)
    refine' Sh.with_xbn (b := "OverflowError") (B := "OverflowError") (ini := "OverflowError.__init__") G KX ?a ?b fun XBo => ?_
    (case a => k_is)
    (case b => k_is)
    refine' Sh.with_z51 KX G DM DN DF ?a ?b ?c ?d ?k1 ?k2 ?x0 ?x1 ?x2 ?w0 ?w1 ?w2 ?i00 ?i10 ?i20 ?i01 ?i11 ?i21 ?i02 ?i12 ?i22 ?b0 ?b1 ?b2 ?o0 ?o1 ?o2 XBb XBl XBo fun Z => ?_
    (case a => k_is)
    (case b => k_is)
    (case c => k_is)
    (case d => k_is)
    (case k1 => k_is)
    (case k2 => k_is)
    (case x0 => kts_exm)
    (case x1 => kts_exm)
    (case x2 => kts_exm)
    (case w0 => kit_is)
    (case w1 => kit_is)
    (case w2 => kit_is)
    (case i00 => kit_is)
    (case i10 => kit_is)
    (case i20 => kit_is)
    (case i01 => kit_is)
    (case i11 => kit_is)
    (case i21 => kit_is)
    (case i02 => kit_is)
    (case i12 => kit_is)
    (case i22 => kit_is)
    (case b0 => kit_is)
    (case b1 => kit_is)
    (case b2 => kit_is)
    (case o0 => kit_is)
    (case o1 => kit_is)
    (case o2 => kit_is)
    exact Sh.law_end D_law hmg fun base =>
      let O__law_take := Sh.ok_take (base := base) (k := 0) D__law_take T
      let O__law_cell_at := Sh.ok_cell_at (base := base) (k := 0) D__law_cell_at T
      let O__law_box := Sh.ok_box (k := 1) D__law_box T O__law_cell_at
      let O__law_of := Sh.ok_of (k := 1) D__law_of T O__law_take
      let O__law_lets := Sh.ok_lets (base := base) (k := 0) D__law_lets T
      let O__law_gone := Sh.ok_gone (base := base) (k := 0) D__law_gone T
      let O_mark_of := Sh.ok_mark_of (base := base) (k := 0) D_mark_of T
      let O_mark_at := Sh.ok_mark (k := 1) D_mark_at T O_mark_of
      let O_may_go := Sh.ok_may_go (k := 2) D_may_go T O_mark_at
      let O_crossed := Sh.ok_crossed (k := 3) D_crossed T O_may_go
      let XM := Sh.ok_MayNot (base := base) (k := 1) XBb DM
      let XN := Sh.ok_NoShip (base := base) (k := 0) XBl DN
      let XF := Sh.ok_Full (base := base) (k := 0) XBo DF
      let Ocx := Sh.ok_crossedX (k := 2) D_crossed T O_may_go XM
      let Ock := Sh.ok_check (base := base) (k := 0) D_check_ship T
      let OckX := Sh.ok_checkX (k := 1) D_check_ship T XN
      let Orn := Sh.ok_renum (base := base) (k := 0) D_renumbered T
      let Ors := Sh.ok_renumS (base := base) (k := 0) D_renumbered_standing T
      let Owo := Sh.ok_without (k := 1) D_without_ship T Orn Ors
      let OlfN := Sh.ok_leftN (k := 3) D_left_by T OckX (Owo.mono (by decide))
      let Ode := Sh.ok_deep (base := base) (k := 0) D_deepened T Ch
      let Odr := Sh.ok_dredged (k := 1) D_dredged T Ode
      let Omo := Sh.ok_moored (base := base) (k := 1) D_moored T Ch Cm
      let OmoF := Sh.ok_mooredF (k := 1) D_moored T Ch Cm XF
      let Osa := Sh.ok_sailed (k := 4) D_sailed T (Ock.mono (by decide)) Ocx
      let OsaZ := Sh.ok_sailedZ (k := 4) D_sailed T (OckX.mono (by decide)) Ocx
      let Hsea := Sh.ok_hsea (base := base) (k := 0) M_sea T hC
      let Hlot := Sh.ok_hlot (base := base) (k := 0) M_standing T hC
      let Hcr := Sh.ok_hcr (base := base) (k := 0) M_crossings T hC
      let Hde := Sh.ok_hdeeds (base := base) (k := 0) M_deeds T hC
      let Hlen := Sh.ok_hlen (k := 1) M___len__ T hC Hsea
      let Hlog := Sh.ok_hlog (base := base) (k := 0) M_log T hC
      let Hre := Sh.ok_hrepr (k := 2) M___repr__ T hC Hlen (Hlot.mono (by decide))
      let Hun := Sh.ok_hundo (k := 1) M_undo T hC Hde
      let Hdr := Sh.ok_hdredge (k := 2) M_dredge T hC Odr
      let Hmo := Sh.ok_hmoor (k := 2) M_moor T hC Omo Hlen
      let HmoF := Sh.ok_hmoorF (k := 3) M_moor T hC OmoF (Hlen.mono (by decide))
      let HlvN := Sh.ok_hleaveN (k := 4) M_leave T hC OlfN
      let HcsZ := Sh.ok_hcrossZ (k := 5) M_cross T hC OsaZ
      let Hsl := Sh.ok_hsail (k := 5) M_sail T hC Osa
      let HslZ := Sh.ok_hsailZ (k := 5) M_sail T hC OsaZ
      let Hmk := Sh.ok_hmk (P := PySem.Challenge.rw_shoalmates_k51_refused_at_a_harbour.prog) (w := w) (base := base) (k := 0) M_init T hC
      let Hao := Sh.ok_hasof (k := 1) M_as_of T hC Hmk Hde
      let Owk := Sh.ok_walk (k := 2) D__law_walk T (O__law_lets.mono (by decide)) (O__law_of.mono (by decide)) (O__law_gone.mono (by decide))
      let Orf := Sh.ok_refused (k := 6) D__law_refused T hC Z (HlvN.mono (by decide)) HcsZ HslZ (HmoF.mono (by decide))
      let Ose := Sh.ok_seen (k := 4) D__law_seen T hC (Hsea.mono (by decide)) (Hlot.mono (by decide)) (Hcr.mono (by decide)) (Hde.mono (by decide)) (Hlen.mono (by decide)) (Hre.mono (by decide))
      let Oor := Sh.ok_one_right (k := 7) D__law_one_right T hC (Ose.mono (by decide)) Orf ((Sh.ok_same D__law_same T 4).mono (by decide)) (Hlog.mono (by decide))
      let Opt := Sh.ok_port51 (k := 4) D__law_port T hC (Hmk.mono (by decide)) (O__law_take.mono (by decide)) (O__law_of.mono (by decide)) (Hmo.mono (by decide))
      Sh.ok_law (k := 12) D_law T (O__law_box.mono (by decide)) (Sh.ok_right51 (k := 10) D__law_right T hC (Hmk.mono (by decide)) (O__law_take.mono (by decide)) (O__law_of.mono (by decide)) (Opt.mono (by decide)) (Oor.mono (by decide)) (Owk.mono (by decide)) (O__law_lets.mono (by decide)) (Hsl.mono (by decide)) (Hun.mono (by decide)) (Hdr.mono (by decide)) (Hmo.mono (by decide)) (Hao.mono (by decide)) (Hsea.mono (by decide)) (Hlot.mono (by decide)) (Hde.mono (by decide)))
