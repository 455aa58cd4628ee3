import PyProof.Rows.All
import Wide.All
import OpenK.AllK
import Wide.FinOn
import HandS.TupMul
import HandS.ForMost
import HandS.Exc
import HandS.TryOnly
import HandS.TryMany
import HandS.ExcOwn
import HandS.ExcField
import HandS.RaiseMore
import HandS.WordsExc
import HandS.IsInst
import HandS.Gcd
import HandS.Wide
import HandS.Zip
import HandS.Rev
import HandS.TupLe
import HandS.TupAny
import HandS.CallSlots
import KE.GoesEnumKw
import KE.GoesNew
import PyProof.EnumMake
import HandS.RevTup
import HandS.Star
import PyProof.ReprRoads
import PyProof.CallFns
import HandS.Style
import PySem.Challenge.RW_pauseplay_k03_whole_points_behind_pauses
section
set_option Elab.async false
set_option linter.all false
set_option maxRecDepth 100000
set_option maxHeartbeats 4000000
set_option autoImplicit false
namespace Pv
open PySem PySem.Spec PyProof.Rows L2
/-! ### enumerate over a tuple, from any number on -/
def ItE (K : PySem.W.Frag) (a : Addr) (k0 : Int) (n : Nat) : It :=
  ⟨fun i H => ∃ (xs : List V) (x : V), SqT K H a xs ∧ xs.length = n ∧ xs[i]? = some x,
   fun i H v H' => ∃ T x, v = .ref T ∧ H T = none ∧ H' = upd H T (.tup [.int (k0 + (i : Int)), x]) ∧ ∀ xs, SqT K H a xs → xs[i]? = some x,
   fun i H => ∃ xs : List V, SqT K H a xs ∧ xs.length = n ∧ n ≤ i⟩
theorem turn_enT {P : Program} {w : World} {K : PySem.W.Frag} {elts : List Expr} {kk : Nat} {tpos : Pos} (a e it : Addr) (k0 : Int) (n : Nat) (hei : e ≠ it) (hae : a ≠ e) (hai : a ≠ it) :
    Turn P w K (.Tuple elts kk tpos) (ItE K a k0 n) [e, it] e (fun i h => (∃ old, IsEnum h e it (k0 + (i : Int)) old) ∧ h.IsTupleIter it a i ∧ i ≤ n) where
  mem := by simp
  obj := fun i h st b hb => by
    obtain ⟨⟨old, he⟩, ⟨o, ho, _, hd⟩, _⟩ := st
    have hbb : b = e ∨ b = it := by simpa using hb
    rcases hbb with z | z <;> subst z
    · exact ⟨_, he, fun v q => nomatch q⟩
    · exact ⟨o, ho, fun v q => by rw [hd] at q; cases q⟩
  keep := fun i h h' st k => ⟨st.1.imp fun old he => k e (by simp) _ he, st.2.1.at fun o q => k it (by simp) o q, st.2.2⟩
  item := by
    intro X e1 e2 e3 hc i pins s σ H E I hf st hg
    subst e1 e2 e3
    obtain ⟨he, hit, hin⟩ := st
    obtain ⟨xs, x, hq, hl, hx⟩ := hg
    obtain ⟨its, rv, p, hz⟩ := I.tuple hq
    obtain ⟨u, hu, ru⟩ := rv.get hx
    have hlen : its.toArray.size = n := by rw [List.size_toArray, ← rv.length, hl]
    have hlt : i < n := by rw [← hl]; exact (List.getElem?_eq_some_iff.mp hx).1
    have hid : X.A.in1.handled = none := I.ok.hd hc
    refine (GoesN.enumFrom (elts := elts) (x1 := kk) (pos := tpos) k0 (Draws.tuple hid it a hai its.toArray) e hei (by simp [hei, Ne.symm hae]) (by simp)).goes i s _ E (by omega) ⟨he, hit, p⟩ fun v h' tk hY st' hk htk => ?_
    obtain ⟨T, t, y, ev, hT, hy, o, ho, hcl, m, hd⟩ := hY
    have ey : y = u := Option.some.inj (hy.symm.trans (by simpa using hu))
    subst ev; subst ey
    have nw : ObjOk X.prog X.w (upd H T (.tup [.int (k0 + (i : Int)), x])) h' T (.tup [.int (k0 + (i : Int)), x]) :=
      ⟨by show 2 ≤ sizeLine; decide, [.int (k0 + (i : Int)) t, y], .cons ⟨_, rfl⟩ (.cons ru .nil), ⟨o, ho, hcl, m, hd⟩⟩
    have I1 : Inv X pins σ (upd H T (.tup [.int (k0 + (i : Int)), x])) { s with heap := h', toks := tk } := I.turnedNew (ch := [e, it]) hk hf hT nw
    refine ⟨.ref T, _, I1, rfl, ⟨T, x, rfl, I.hok.fresh hT, rfl, fun ys hys => by rw [I.tuple_inj hys hq]; exact hx⟩, ⟨st'.1, st'.2.1, hlt⟩, fun b hb => ?_⟩
    have hbT : b ≠ T := by
      intro z
      subst z
      have hbb : b = e ∨ b = it := by simpa using hb
      have : b < s.heap.objs.size := by
        rcases hbb with z | z <;> subst z
        · exact Heap.lt_size he.choose_spec
        · obtain ⟨_, q, _⟩ := hit
          exact Heap.lt_size q
      exact absurd this (Nat.not_lt.mpr hT)
    rw [upd_ne hbT]
    exact (hf b hb).1
  done := by
    intro X e1 e2 e3 hc i pins s σ H E I hf st hg
    subst e1 e2 e3
    obtain ⟨he, hit, hin⟩ := st
    obtain ⟨xs, hq, hl, hx⟩ := hg
    obtain ⟨its, rv, p, hz⟩ := I.tuple hq
    have hlen : its.toArray.size = i := by rw [List.size_toArray, ← rv.length]; omega
    have hid : X.A.in1.handled = none := I.ok.hd hc
    have gz := GoesN.enumFrom (elts := elts) (x1 := kk) (pos := tpos) k0 (Draws.tuple (prog := X.prog) (w := X.w) hid it a hai its.toArray) e hei (by simp [hei, Ne.symm hae]) (by simp)
    rw [hlen] at gz
    exact gz.stops s _ E ⟨he, hit, p⟩ fun h' tk hk htk => I.turnedL (ch := [e, it]) hk hf
  self := fun A i s Q E st h => wpAny_pyIter_enum st.1.choose_spec h
/-! its beginning -/
set_option maxHeartbeats 1000000 in
theorem meets_enum0 {v : Value} {o : Obj} {B0 : Heap → Prop} (B : Begins v o B0) :
    Meets (Builtin.«enumerate.__new__» ⟨[.type "enumerate", v], []⟩) (fun _ R s => B0 s.heap ∧
      R (.ok (.ret (.ref (s.heap.push o).objs.size))) { s with heap := (s.heap.push o).push { cls := .type "enumerate", data := .fields #[.none, .bool false, .ref s.heap.objs.size, rawInt 0, .none, .none] } }) :=
  .of_wp fun prog w A R s hh => by
    obtain ⟨hp, gg, dd, tk, oo⟩ := s
    obtain ⟨hb, hR⟩ := hh
    have hsub := sub_enumerate
    have it0 : ∀ {A' : Around} {E : Value → Shared → Prop} {Q : Value → Shared → Prop}, Q (.ref hp.objs.size) ⟨hp.push o, gg, dd, tk, oo⟩ → wpAny (model prog w) A' (pyIter v) Q E ⟨hp, gg, dd, tk, oo⟩ :=
      fun q => B.iter prog w _ _ _ _ hb q
    wp_walk using it0
    refine wpAny_stack_any fun _ => wpAny_pure ?_
    split
    · rename_i c _ _ _ _ _
      cases (c == Value.type "enumerate") <;> (wp_walk using it0; exact ⟨_, rfl, hR⟩)
    · wp_walk using it0
      exact ⟨_, rfl, hR⟩
section
variable {prog : Program} {w : World} {A : Around} {E : Value → Shared → Prop} {s : Shared}
theorem enum_begins0 {v : Value} {o : Obj} {B0 : Heap → Prop} {Q : Value → Shared → Prop} (B : Begins v o B0) (hb : B0 s.heap)
    (h : ∀ h', IsEnum h' (s.heap.objs.size + 1) s.heap.objs.size 0 .none → h'.get? s.heap.objs.size = some o → (∀ b x, s.heap.get? b = some x → h'.get? b = some x) → Q (.ref (s.heap.objs.size + 1)) { s with heap := h' }) :
    wpAny (model prog w) A (call (.type "enumerate") [v]) Q E s := by
  have hz : (s.heap.push o).objs.size = s.heap.objs.size + 1 := Heap.size_push ..
  refine callType_new F.called_enumerate (by decide) (F.typeCall_enumerate_1 _) (F.newCall_enumerate_1 _) (fun ob => F.args_object_init_2 ob _) F.entry_enumerate_new (meets_enum0 B) ⟨hb, ?_⟩
  show _ ∧ _
  rw [hz]
  have he : IsEnum ((s.heap.push o).push { cls := .type "enumerate", data := .fields #[.none, .bool false, .ref s.heap.objs.size, rawInt 0, .none, .none] }) (s.heap.objs.size + 1) s.heap.objs.size 0 .none := by
    have q := Heap.get?_push_size (s.heap.push o) (o := { cls := .type "enumerate", data := .fields #[.none, .bool false, .ref s.heap.objs.size, rawInt 0, .none, .none] }) rfl
    rw [hz] at q
    exact q
  exact ⟨⟨_, he, rfl⟩, h _ he (Heap.get?_push_of_some _ (Heap.get?_push_size _ B.free)) fun b x q => Heap.get?_push_of_some _ (Heap.get?_push_of_some _ q)⟩
end
theorem callWith_typeK {M : Model} {A : Around} {E : Value → Shared → Prop} {s : Shared} {pos : Pos} {T : String} {x : Sem Value} {rest : List (Bool × Sem Value)} {kws : List (Option Str × Sem Value)} {Q : Value → Shared → Prop}
    (h1 : ((false, x) :: rest).any (·.1) = false) (h2 : kws.any (·.1.isNone) = false) (h3 : kws.all (·.1.isSome) = true)
    (h : wpAny M A (spliced ((false, x) :: rest)) (fun vs s1 => wpAny M A (evalAll (kws.map (·.2))) (fun kvs s2 => wpAny M A (call (.type T) vs ((kws.filterMap (·.1)).zip kvs)) Q E s2) E s1) E s) :
    wpAny M A (callWith pos (.type T) [] ((false, x) :: rest) kws) Q E s := by
  unfold callWith
  refine wpAny_bind (wpAny_holding (wpAny_mono (evalArgs_kwB (Q := fun a s2 => wpAny M A (call (.type T) a.pos a.kw) Q E s2) h3 h) (fun a s1 q => wpAny_bind (wpAny_standAt ?_)) fun _ _ z => z))
  simp only [h1, h2, Bool.or_false]
  refine wpAny_bind (wpAny_pure ?_)
  exact wpAny_bind (wpAny_mono q (fun r s2 hr => wpAny_bind (wpAny_holding (wpAny_point (wpAny_pure hr)))) fun _ _ z => z)
/-- the row or the tuple that is counted through -/
def iEnA (K : PySem.W.Frag) (ta : TA) : TI := fun σ H R => ta σ H fun vs H1 => ∃ a xs, vs = [.ref a] ∧ ((SqL K H1 a xs ∧ R (Ite K a) H1) ∨ (SqT K H1 a xs ∧ R (ItE K a 0 xs.length) H1))
theorem pi_enA {X : Cx} {e : Expr} {ta : TA} {p pos tpos : Pos} {elts : List Expr} {kk : Nat} (hg : Gl X "enumerate") (hm : X.mg "enumerate" = none) (ha : PA X [e] ta) (hs : starEach [e] X.env = [(false, eval e X.env)]) :
    PI X (.Tuple elts kk tpos) (.Call (.Name "enumerate" p) [e] [] pos) (iEnA X.K ta) := by
  refine ⟨fun pins s σ H R I h => ?_⟩
  refine Call_ (ld_blt I hg hm boot_enumerate (PyProof.Rows.callWith_type1 (thn (ha.run pos pins s σ H _ I h) fun us s1 ⟨vs, H1, I1, r1, q1⟩ => ?_) hs rfl))
  obtain ⟨a, xs, ex, q1⟩ := q1
  subst ex
  cases r1 with
  | cons r rr =>
    cases rr
    cases r
    have fp : ∀ b, b ∈ [s1.heap.objs.size + 1, s1.heap.objs.size] → FpOk X pins H1 b := fun b hb => by
      have hle : s1.heap.objs.size ≤ b := by
        simp only [List.mem_cons, List.not_mem_nil, or_false] at hb
        rcases hb with z | z <;> rw [z]
        · exact Nat.le_succ _
        · exact Nat.le_refl _
      exact I1.fpOk hle (I1.hok.fresh hle)
    rcases q1 with ⟨hq, q⟩ | ⟨hq, q⟩
    · obtain ⟨its, rv, pl, hz⟩ := I1.list hq
      refine call_enumerate_list pl.isList fun h' he hit hsz hk => wpAny_pyIter_enum he ?_
      exact ⟨_, _, _, _, H1, rfl, I1.kept (t' := s1.toks) hk, turn_enum a (s1.heap.objs.size + 1) s1.heap.objs.size, ⟨⟨.none, he⟩, hit, Nat.succ_ne_self _⟩, fp, q⟩
    · obtain ⟨its, rv, pt, hz⟩ := I1.tuple hq
      have la : a < s1.heap.objs.size := by
        obtain ⟨_, q, _⟩ := pt
        exact Heap.lt_size q
      refine enum_begins0 (begins_tuple a its.toArray) pt fun h' he hit hk => wpAny_pyIter_enum he ?_
      exact ⟨_, _, _, _, H1, rfl, I1.kept (t' := s1.toks) hk, turn_enT a (s1.heap.objs.size + 1) s1.heap.objs.size 0 xs.length (Nat.succ_ne_self _) (Nat.ne_of_lt (Nat.lt_succ_of_lt la)) (Nat.ne_of_lt la),
        ⟨⟨.none, he⟩, ⟨_, hit, rfl, rfl⟩, Nat.zero_le _⟩, fp, q⟩
def iEnS (K : PySem.W.Frag) (ta : TA) (k0 : Int) : TI := fun σ H R => ta σ H fun vs H1 => ∃ a xs, vs = [.ref a] ∧ SqT K H1 a xs ∧ R (ItE K a k0 xs.length) H1
theorem pi_enS {X : Cx} {e kv : Expr} {ta : TA} {p pos tpos kp : Pos} {elts : List Expr} {kk : Nat} {k0 : Int} (hg : Gl X "enumerate") (hm : X.mg "enumerate" = none) (ha : PA X [e] ta) (hk : PE X kv (tC (.int k0))) (h0 : 0 ≤ k0) (h1 : k0 < 1000) (hs : starEach [e] X.env = [(false, eval e X.env)]) :
    PI X (.Tuple elts kk tpos) (.Call (.Name "enumerate" p) [e] [⟨some "start", kv, kp⟩] pos) (iEnS X.K ta k0) := by
  refine ⟨fun pins s σ H R I h => ?_⟩
  have har := ha.run pos pins s σ H _ I h
  show wpAny _ _ (do callWith pos (← eval (.Name "enumerate" p) X.env) [] (backTo pos (starEach [e] X.env)) (backToKw pos [(some "start", eval kv X.env)])) _ _ s
  rw [hs] at har ⊢
  refine wpAny_bind (ld_blt I hg hm boot_enumerate (callWith_typeK rfl rfl rfl (thn har fun us s1 ⟨vs, H1, I1, r1, q1⟩ => ?_)))
  refine evalAll_cons (wpAny_bind (thn (hk.run pins s1 σ H1 (fun v H2 => v = .int k0 ∧ H2 = H1) I1 ⟨rfl, rfl⟩) fun u s2 ⟨v, H2, I2, rv, e1, e2⟩ => wpAny_bind (wpAny_standAt (wpAny_pure (evalAll_nil ?_)))))
  subst e1; subst e2
  obtain ⟨t, eu⟩ := rv
  subst eu
  obtain ⟨a, xs, ex, hq, q⟩ := q1
  subst ex
  cases r1 with
  | cons r rr =>
    cases rr
    cases r
    have fp : ∀ b, b ∈ [s2.heap.objs.size + 1, s2.heap.objs.size] → FpOk X pins H2 b := fun b hb => by
      have hle : s2.heap.objs.size ≤ b := by
        simp only [List.mem_cons, List.not_mem_nil, or_false] at hb
        rcases hb with z | z <;> rw [z]
        · exact Nat.le_succ _
        · exact Nat.le_refl _
      exact I2.fpOk hle (I2.hok.fresh hle)
    obtain ⟨its, rv, pt, hz⟩ := I2.tuple hq
    have la : a < s2.heap.objs.size := by
      obtain ⟨_, q, _⟩ := pt
      exact Heap.lt_size q
    show wpAny _ _ (call (.type "enumerate") [.ref a] [(("start" : Str), .int k0 t)]) _ _ s2
    refine enum_begins_start (begins_tuple a its.toArray) pt (by omega) (by omega) fun h' he hit hsz hk' => wpAny_pyIter_enum he ?_
    exact ⟨_, _, _, _, H2, rfl, I2.kept (t' := s2.toks) hk', turn_enT a (s2.heap.objs.size + 1) s2.heap.objs.size k0 xs.length (Nat.succ_ne_self _) (Nat.ne_of_lt (Nat.lt_succ_of_lt la)) (Nat.ne_of_lt la),
        ⟨⟨.none, by simpa using he⟩, ⟨_, hit, rfl, rfl⟩, Nat.zero_le _⟩, fp, q⟩
/-! ### a tuple taken no time, or once -/
section
variable {l : Addr} {items : Array Value} {n : Nat} {dd : Option Addr} {sl : Array (Option Value)} {x : Int} {u : Tok}
theorem tup_mul1 (c0 : (decide (x < -(2 ^ 63)) || decide (x ≥ 2 ^ 63)) = false) (c1 : (items.isEmpty || x == 1) = true) :
    Meets (Builtin.«tuple.__mul__» ⟨[.ref l, .int x u], []⟩) (fun _ R s => s.heap.get? l = some { cls := .type "tuple", dict := dd, data := .seq items n, slots := sl } ∧ R (.ok (.ret (.ref l))) s) :=
  .of_wp fun prog w A R s h => by
    obtain ⟨hp, g, d, tk, os⟩ := s
    obtain ⟨hl, hR⟩ := h
    have f1 := AutoSeq1.idx_int
    wp_walk using AutoSeq1.wpAny_loadPart' hl
    repeat (first
      | (refine wpAny_ite_false (decide_eq_false (by rw [c0]; exact Bool.false_ne_true)) ?_; wp_walk using AutoSeq1.wpAny_loadPart' hl)
      | (refine wpAny_ite_true (decide_eq_true (by rw [c1])) ?_; wp_walk using AutoSeq1.wpAny_loadPart' hl))
    all_goals exact ⟨_, rfl, hR⟩
theorem tup_mul0 (c0 : (decide (x < -(2 ^ 63)) || decide (x ≥ 2 ^ 63)) = false) (c1 : (items.isEmpty || x == 1) = false) (c2 : (decide (x ≤ 0) || items.isEmpty) = true) :
    Meets (Builtin.«tuple.__mul__» ⟨[.ref l, .int x u], []⟩) (fun _ R s => s.heap.get? l = some { cls := .type "tuple", dict := dd, data := .seq items n, slots := sl } ∧
      R (.ok (.ret (.ref s.heap.objs.size))) { s with heap := s.heap.push { cls := Value.type "tuple", data := Data.seq #[] } }) :=
  .of_wp fun prog w A R s h => by
    obtain ⟨hp, g, d, tk, os⟩ := s
    obtain ⟨hl, hR⟩ := h
    have f1 := AutoSeq1.idx_int
    wp_walk using AutoSeq1.wpAny_loadPart' hl
    repeat (first
      | (refine wpAny_ite_false (decide_eq_false (by rw [c0]; exact Bool.false_ne_true)) ?_; wp_walk using AutoSeq1.wpAny_loadPart' hl)
      | (refine wpAny_ite_false (decide_eq_false (by rw [c1]; exact Bool.false_ne_true)) ?_; wp_walk using AutoSeq1.wpAny_loadPart' hl)
      | (refine wpAny_ite_true (decide_eq_true (by rw [c2])) ?_; wp_walk using AutoSeq1.wpAny_loadPart' hl))
    all_goals exact ⟨_, rfl, hR⟩
end
/-- k is 1, or at most 0 -/
def rRep01 (K : PySem.W.Frag) : R2 := fun x y H Q => ∃ l k xs, x = .ref l ∧ y = .int k ∧ SqT K H l xs ∧ xs ≠ [] ∧ ((k = 1 ∧ Q (.ref l) H) ∨ (-1000 ≤ k ∧ k ≤ 0 ∧ ∀ p, H p = none → Q (.ref p) (upd H p (.tup []))))
theorem op_rep01 {X : Cx} : OpR X (binaryOp .Mult) (rRep01 X.K) := by
  intro pins s σ H x y v u Q I rx ry h
  obtain ⟨l, k, xs, e1, e2, hT, hne, q⟩ := h
  subst e1; subst e2
  cases rx
  obtain ⟨t, e3⟩ := ry
  subst e3
  obtain ⟨its, r, ⟨⟨cls, dd, data, sl⟩, ho, hc, n, hd⟩, hs⟩ := I.tuple hT
  simp only at hc hd
  subst hc hd
  have hi : its.toArray.isEmpty = false := by
    cases its with
    | nil => exact absurd (List.eq_nil_of_length_eq_zero r.length) hne
    | cons a b => rfl
  have hk : -1000 ≤ k ∧ k ≤ 1 := by
    rcases q with ⟨e, _⟩ | ⟨h1, h2, _⟩ <;> omega
  have c0 : (decide (k < -(2 ^ 63)) || decide (k ≥ 2 ^ 63)) = false := by
    rw [decide_eq_false (by omega), decide_eq_false (by omega)]
    rfl
  rcases q with ⟨e, q⟩ | ⟨h1, h2, q⟩
  · subst e
    refine wpAny_binaryOp_repeat_ref (T := "tuple") (U := "int") (by decide) ⟨_, ho, rfl⟩ (fun s' => typeIs_int s' 1 t) noFill_tuple_mul F.fills_int_mul F.slot_int_rmul repeat_tuple F.slot_int_index.lookup
      (call_meets F.slot_int_rmul (typeIs_int s 1 t) F.entry_int_rmul (F.args_int_rmul_2 _ _) (int_rmul_tuple 1 t l its.toArray n dd sl)
        ⟨ho, rfl, ⟨_, ho, rfl⟩, call_meets F.slot_tuple_mul ⟨_, ho, rfl⟩ F.entry_tuple_mul (F.args_tuple_mul_2 _ _) (tup_mul1 c0 (by rw [Bool.or_eq_true]; exact .inr rfl)) ⟨ho, ?_⟩⟩)
    exact ⟨.ref l, _, I, rfl, q⟩
  · have c1 : (its.toArray.isEmpty || k == 1) = false := by
      rw [hi, Bool.false_or]
      exact beq_eq_false_iff_ne.mpr (by omega)
    have c2 : (decide (k ≤ 0) || its.toArray.isEmpty) = true := by
      rw [decide_eq_true h2]
      rfl
    refine wpAny_binaryOp_repeat_ref (T := "tuple") (U := "int") (by decide) ⟨_, ho, rfl⟩ (fun s' => typeIs_int s' k t) noFill_tuple_mul F.fills_int_mul F.slot_int_rmul repeat_tuple F.slot_int_index.lookup
      (call_meets F.slot_int_rmul (typeIs_int s k t) F.entry_int_rmul (F.args_int_rmul_2 _ _) (int_rmul_tuple k t l its.toArray n dd sl)
        ⟨ho, rfl, ⟨_, ho, rfl⟩, call_meets F.slot_tuple_mul ⟨_, ho, rfl⟩ F.entry_tuple_mul (F.args_tuple_mul_2 _ _) (tup_mul0 c0 c1 c2) ⟨ho, ?_⟩⟩)
    refine ⟨.ref s.heap.objs.size, _, I.laid (t' := s.toks) (o := .tup []) (fun b ob q => Heap.get?_push_of_some _ q) (Nat.le_refl _) ?_, rfl, q _ (I.hok.fresh (Nat.le_refl _))⟩
    exact ⟨by show 0 ≤ sizeLine; exact Nat.zero_le _, [], .nil, IsTup.new _ _⟩
end Pv
end
section
set_option Elab.async false
set_option linter.all false
set_option maxRecDepth 100000
set_option autoImplicit false
namespace Pv
open PySem PySem.Spec PyProof.Rows L2

/-! ### abstract values -/
inductive AV where
  | non | bl (b : Bool) | int (i : Int) | str (x : Str)
  | tup (xs : List AV) | lst (xs : List AV) | kl (xs : List AV)
  | dct (ks : List Key) (xs : List AV) | ref (n : Nat)
  deriving Inhabited
inductive Cell where
  | lst (xs : List AV)
  | dct (ks : List Key) (xs : List AV)
  deriving Inhabited
abbrev AH := List Cell
abbrev Env1 := List (Option AV)
structure Exn where
  cls : Nat
  val : Option AV
inductive Out (α : Type) where
  | ok (a : α) (h : AH)
  | exc (e : Exn) (h : AH)
  | bad
inductive SOut where
  | nx (env : Env1) (h : AH)
  | ret (v : AV) (h : AH)
  | brk (env : Env1) (h : AH)
  | ct (env : Env1) (h : AH)
  | exc (e : Exn) (env : Env1) (h : AH)
  | bad
/-- the functions, by number -/
abbrev GT := Nat → List AV → AH → Out AV
abbrev EvE := GT → Env1 → AH → Out AV
abbrev EvT := GT → Env1 → AH → Out Bool
abbrev EvA := GT → Env1 → AH → Out (List AV)
abbrev EvS := GT → Env1 → AH → SOut
def Out.bind {α β : Type} (x : Out α) (f : α → AH → Out β) : Out β := match x with
  | .ok a h => f a h
  | .exc e h => .exc e h
  | .bad => .bad

/-! ### the concrete side -/
structure Wd where
  F : Addr → Prop
  m : List Addr
  H : Hp
def KT (K : PySem.W.Frag) (a : Addr) (vs : List V) : Prop := ∃ (o : Obj) (its : Array Value) (n : Nat), K.lookup a = some o ∧ o.cls = .type "tuple" ∧ o.data = .seq its n ∧ its.size ≤ sizeLine ∧ Vals vs its.toList
def KL (K : PySem.W.Frag) (a : Addr) (vs : List V) : Prop := ∃ (o : Obj) (its : Array Value) (n : Nat), K.lookup a = some o ∧ o.cls = .type "list" ∧ o.dict = none ∧ o.data = .seq its n ∧ its.size ≤ sizeLine ∧ Vals vs its.toList
def TupAt (K : PySem.W.Frag) (D : Wd) (a : Addr) (vs : List V) : Prop := (D.F a ∧ D.H a = some (.tup vs)) ∨ KT K a vs
def RolAt (K : PySem.W.Frag) (D : Wd) (a : Addr) (vs : List V) : Prop := (D.F a ∧ ∃ o, D.H a = some (.frz o (.lst vs))) ∨ KL K a vs
theorem TupAt.sq {K : PySem.W.Frag} {D : Wd} {a : Addr} {vs : List V} (h : TupAt K D a vs) : SqT K D.H a vs := h.elim (fun h => .inl (.inl h.2)) .inr
theorem RolAt.sq {K : PySem.W.Frag} {D : Wd} {a : Addr} {vs : List V} (h : RolAt K D a vs) : SqL K D.H a vs := h.elim (fun ⟨_, o, h⟩ => .inl (.inr ⟨o, h⟩)) .inr
mutual
def Rep (K : PySem.W.Frag) (D : Wd) : AV → V → Prop
  | .non, v => v = .non
  | .bl b, v => v = .bl b
  | .int i, v => v = .int i
  | .str x, v => v = .str x
  | .tup xs, v => ∃ a vs, v = .ref a ∧ TupAt K D a vs ∧ RepL K D xs vs
  | .lst xs, v => ∃ a vs, v = .ref a ∧ (D.F a ∧ D.H a = some (.lst vs)) ∧ RepL K D xs vs
  | .kl xs, v => ∃ a vs, v = .ref a ∧ RolAt K D a vs ∧ RepL K D xs vs
  | .dct ks xs, v => ∃ a vs, v = .ref a ∧ (D.F a ∧ D.H a = some (.dK (ks.zip vs))) ∧ vs.length = ks.length ∧ RepL K D xs vs
  | .ref n, v => ∃ a, v = .ref a ∧ D.m[n]? = some a
def RepL (K : PySem.W.Frag) (D : Wd) : List AV → List V → Prop
  | [], vs => vs = []
  | x :: xs, vs => ∃ v r, vs = v :: r ∧ Rep K D x v ∧ RepL K D xs r
end
structure Ext (D D' : Wd) : Prop where
  fz : ∀ a, D.F a → D'.F a ∧ D'.H a = D.H a
  m : D.m <+: D'.m
theorem Ext.refl (D : Wd) : Ext D D := ⟨fun _ h => ⟨h, rfl⟩, List.prefix_refl _⟩
theorem Ext.trans {a b c : Wd} (h : Ext a b) (g : Ext b c) : Ext a c :=
  ⟨fun x q => ⟨(g.fz x (h.fz x q).1).1, (g.fz x (h.fz x q).1).2.trans (h.fz x q).2⟩, h.m.trans g.m⟩
theorem Ext.get {a b : Wd} (h : Ext a b) {n : Nat} {x : Addr} (e : a.m[n]? = some x) : b.m[n]? = some x := by
  obtain ⟨r, e'⟩ := h.m
  rw [← e']
  have hn : n < a.m.length := (List.getElem?_eq_some_iff.mp e).1
  rw [List.getElem?_append_left hn]
  exact e
mutual
theorem Rep.ext {K : PySem.W.Frag} {D D' : Wd} (x : Ext D D') : ∀ (v : AV) (u : V), Rep K D v u → Rep K D' v u
  | .non, _, h => h
  | .bl _, _, h => h
  | .int _, _, h => h
  | .str _, _, h => h
  | .tup xs, u, h => by
    obtain ⟨a, vs, e, t, r⟩ := h
    refine ⟨a, vs, e, ?_, RepL.ext x xs vs r⟩
    rcases t with ⟨f, t⟩ | t
    · exact .inl ⟨(x.fz a f).1, (x.fz a f).2.trans t⟩
    · exact .inr t
  | .lst xs, u, h => by
    obtain ⟨a, vs, e, ⟨f, t⟩, r⟩ := h
    exact ⟨a, vs, e, ⟨(x.fz a f).1, (x.fz a f).2.trans t⟩, RepL.ext x xs vs r⟩
  | .kl xs, u, h => by
    obtain ⟨a, vs, e, t, r⟩ := h
    refine ⟨a, vs, e, ?_, RepL.ext x xs vs r⟩
    rcases t with ⟨f, o, t⟩ | t
    · exact .inl ⟨(x.fz a f).1, o, (x.fz a f).2.trans t⟩
    · exact .inr t
  | .dct ks xs, u, h => by
    obtain ⟨a, vs, e, ⟨f, t⟩, l, r⟩ := h
    exact ⟨a, vs, e, ⟨(x.fz a f).1, (x.fz a f).2.trans t⟩, l, RepL.ext x xs vs r⟩
  | .ref n, u, h => by
    obtain ⟨a, e, g⟩ := h
    exact ⟨a, e, x.get g⟩
theorem RepL.ext {K : PySem.W.Frag} {D D' : Wd} (x : Ext D D') : ∀ (vs : List AV) (us : List V), RepL K D vs us → RepL K D' vs us
  | [], _, h => h
  | v :: vs, us, h => by
    obtain ⟨u, r, e, h1, h2⟩ := h
    exact ⟨u, r, e, Rep.ext x v u h1, RepL.ext x vs r h2⟩
end
theorem RepL.length {K : PySem.W.Frag} {D : Wd} : ∀ {vs : List AV} {us : List V}, RepL K D vs us → us.length = vs.length
  | [], us, h => by have e : us = [] := h; rw [e]; rfl
  | v :: vs, us, h => by
    obtain ⟨u, r, e, h1, h2⟩ := h
    rw [e, List.length_cons, List.length_cons, RepL.length h2]
theorem RepL.nil {K : PySem.W.Frag} {D : Wd} : RepL K D [] [] := rfl
theorem RepL.cons {K : PySem.W.Frag} {D : Wd} {v : AV} {vs : List AV} {u : V} {us : List V} (h : Rep K D v u) (t : RepL K D vs us) : RepL K D (v :: vs) (u :: us) := ⟨u, us, rfl, h, t⟩
theorem RepL.get {K : PySem.W.Frag} {D : Wd} : ∀ {vs : List AV} {us : List V} {i : Nat} {v : AV}, RepL K D vs us → vs[i]? = some v → ∃ u, us[i]? = some u ∧ Rep K D v u
  | [], _, _, _, _, e => by simp at e
  | v :: vs, us, i, w, h, e => by
    obtain ⟨u, r, e', h1, h2⟩ := h
    subst e'
    cases i with
    | zero =>
      have e1 : v = w := by simpa using e
      subst e1
      exact ⟨u, rfl, h1⟩
    | succ i => exact RepL.get (i := i) h2 (by simpa using e)
theorem RepL.set {K : PySem.W.Frag} {D : Wd} {v : AV} {u : V} (hv : Rep K D v u) : ∀ {vs : List AV} {us : List V} (i : Nat), RepL K D vs us → RepL K D (vs.set i v) (us.set i u)
  | [], us, i, h => by have e : us = [] := h; rw [e]; exact rfl
  | w :: vs, us, i, h => by
    obtain ⟨x, r, e', h1, h2⟩ := h
    subst e'
    cases i with
    | zero => exact ⟨u, r, rfl, hv, h2⟩
    | succ i => exact ⟨x, _, rfl, h1, RepL.set hv i h2⟩
theorem RepL.append {K : PySem.W.Frag} {D : Wd} : ∀ {vs ws : List AV} {us xs : List V}, RepL K D vs us → RepL K D ws xs → RepL K D (vs ++ ws) (us ++ xs)
  | [], _, us, _, h, g => by have e : us = [] := h; rw [e]; exact g
  | v :: vs, ws, us, xs, h, g => by
    obtain ⟨x, r, e', h1, h2⟩ := h
    subst e'
    exact ⟨x, _, rfl, h1, RepL.append h2 g⟩
theorem RepL.take {K : PySem.W.Frag} {D : Wd} : ∀ {vs : List AV} {us : List V} (n : Nat), RepL K D vs us → RepL K D (vs.take n) (us.take n)
  | [], us, n, h => by have e : us = [] := h; rw [e]; simp [RepL]
  | v :: vs, us, n, h => by
    obtain ⟨x, r, e', h1, h2⟩ := h
    subst e'
    cases n with
    | zero => exact rfl
    | succ n => exact ⟨x, _, rfl, h1, RepL.take n h2⟩
theorem RepL.drop {K : PySem.W.Frag} {D : Wd} : ∀ {vs : List AV} {us : List V} (n : Nat), RepL K D vs us → RepL K D (vs.drop n) (us.drop n)
  | [], us, n, h => by have e : us = [] := h; rw [e]; simp [RepL]
  | v :: vs, us, n, h => by
    obtain ⟨x, r, e', h1, h2⟩ := h
    subst e'
    cases n with
    | zero => exact ⟨x, r, rfl, h1, h2⟩
    | succ n => exact RepL.drop n h2
theorem RepL.ints {K : PySem.W.Frag} {D : Wd} : ∀ (ns : List Int), RepL K D (ns.map AV.int) (ns.map V.int)
  | [] => rfl
  | n :: ns => ⟨.int n, _, rfl, rfl, RepL.ints ns⟩

mutual
/-- no cell within -/
def pureA : AV → Bool
  | .tup xs => pureL xs
  | .lst xs => pureL xs
  | .kl xs => pureL xs
  | .dct _ xs => pureL xs
  | .ref _ => false
  | .non => true
  | .bl _ => true
  | .int _ => true
  | .str _ => true
def pureL : List AV → Bool
  | [] => true
  | x :: xs => pureA x && pureL xs
end
def pureC : Cell → Bool
  | .lst xs => pureL xs
  | .dct _ xs => pureL xs
theorem pureL_cons {x : AV} {xs : List AV} : pureL (x :: xs) = true ↔ pureA x = true ∧ pureL xs = true := by
  simp [pureL]
theorem pureL_append : ∀ {xs ys : List AV}, pureL (xs ++ ys) = true ↔ pureL xs = true ∧ pureL ys = true
  | [], ys => by simp [pureL]
  | x :: xs, ys => by
    rw [List.cons_append, pureL_cons, pureL_cons, pureL_append]
    exact and_assoc.symm
theorem pureL_set : ∀ {xs : List AV} {i : Nat} {v : AV}, pureL xs = true → pureA v = true → pureL (xs.set i v) = true
  | [], _, _, _, _ => rfl
  | x :: xs, 0, v, h, hv => pureL_cons.mpr ⟨hv, (pureL_cons.mp h).2⟩
  | x :: xs, i + 1, v, h, hv => pureL_cons.mpr ⟨(pureL_cons.mp h).1, pureL_set (pureL_cons.mp h).2 hv⟩
mutual
/-- a value without cells leans on what is frozen alone -/
theorem Rep.pure {K : PySem.W.Frag} {D D' : Wd} (x : ∀ a, D.F a → D'.F a ∧ D'.H a = D.H a) : ∀ (v : AV) (u : V), pureA v = true → Rep K D v u → Rep K D' v u
  | .non, _, _, h => h
  | .bl _, _, _, h => h
  | .int _, _, _, h => h
  | .str _, _, _, h => h
  | .tup xs, u, p, h => by
    obtain ⟨a, vs, e, t, r⟩ := h
    refine ⟨a, vs, e, ?_, RepL.pure x xs vs p r⟩
    rcases t with ⟨f, t⟩ | t
    · exact .inl ⟨(x a f).1, (x a f).2.trans t⟩
    · exact .inr t
  | .lst xs, u, p, h => by
    obtain ⟨a, vs, e, ⟨f, t⟩, r⟩ := h
    exact ⟨a, vs, e, ⟨(x a f).1, (x a f).2.trans t⟩, RepL.pure x xs vs p r⟩
  | .kl xs, u, p, h => by
    obtain ⟨a, vs, e, t, r⟩ := h
    refine ⟨a, vs, e, ?_, RepL.pure x xs vs p r⟩
    rcases t with ⟨f, o, t⟩ | t
    · exact .inl ⟨(x a f).1, o, (x a f).2.trans t⟩
    · exact .inr t
  | .dct ks xs, u, p, h => by
    obtain ⟨a, vs, e, ⟨f, t⟩, l, r⟩ := h
    exact ⟨a, vs, e, ⟨(x a f).1, (x a f).2.trans t⟩, l, RepL.pure x xs vs p r⟩
  | .ref n, u, p, h => by cases p
theorem RepL.pure {K : PySem.W.Frag} {D D' : Wd} (x : ∀ a, D.F a → D'.F a ∧ D'.H a = D.H a) : ∀ (vs : List AV) (us : List V), pureL vs = true → RepL K D vs us → RepL K D' vs us
  | [], _, _, h => h
  | v :: vs, us, p, h => by
    obtain ⟨u, r, e, h1, h2⟩ := h
    have p' := pureL_cons.mp p
    exact ⟨u, r, e, Rep.pure x v u p'.1 h1, RepL.pure x vs r p'.2 h2⟩
end
def CellOk (K : PySem.W.Frag) (D : Wd) (a : Addr) : Cell → Prop
  | .lst xs => ∃ vs, D.H a = some (.lst vs) ∧ RepL K D xs vs
  | .dct ks xs => ∃ vs, D.H a = some (.dK (ks.zip vs)) ∧ vs.length = ks.length ∧ RepL K D xs vs
structure Rel (K : PySem.W.Frag) (D : Wd) (h : AH) : Prop where
  len : D.m.length = h.length
  nd : D.m.Nodup
  cell : ∀ (n : Nat) (c : Cell) (a : Addr), h[n]? = some c → D.m[n]? = some a → CellOk K D a c
  fz : ∀ a, D.F a → ∃ o, D.H a = some o
  dis : ∀ a, a ∈ D.m → ¬ D.F a
  pure : ∀ c, c ∈ h → pureC c = true
def EnvR (K : PySem.W.Frag) (D : Wd) (env : Env1) (σ : L2.St) : Prop :=
  env.length = σ.length ∧ ∀ (i : Nat) (v : AV), env[i]? = some (some v) → ∃ u : V, σ[i]? = some (some u) ∧ Rep K D v u
theorem EnvR.ext {K : PySem.W.Frag} {D D' : Wd} {env : Env1} {σ : L2.St} (h : EnvR K D env σ) (x : Ext D D') : EnvR K D' env σ :=
  ⟨h.1, fun i v e => let ⟨u, e', r⟩ := h.2 i v e; ⟨u, e', Rep.ext x v u r⟩⟩
theorem EnvR.set {K : PySem.W.Frag} {D : Wd} {env : Env1} {σ : L2.St} (h : EnvR K D env σ) (i : Nat) {v : AV} {u : V} (r : Rep K D v u) : EnvR K D (env.set i (some v)) (σ.set i (some u)) := by
  refine ⟨by simp [h.1], fun j w e => ?_⟩
  by_cases hj : i = j
  · subst hj
    by_cases hi : i < env.length
    · rw [List.getElem?_set_self hi] at e
      have e1 : v = w := by simpa using e
      subst e1
      exact ⟨u, List.getElem?_set_self (h.1 ▸ hi), r⟩
    · rw [List.getElem?_eq_none (by simpa using hi)] at e
      cases e
  · rw [List.getElem?_set_ne hj] at e
    obtain ⟨u', e', r'⟩ := h.2 j w e
    exact ⟨u', by rw [List.getElem?_set_ne hj]; exact e', r'⟩
theorem CellOk.ext {K : PySem.W.Frag} {D D' : Wd} {a : Addr} {c : Cell} (h : CellOk K D a c) (x : Ext D D') (e : D'.H a = D.H a) : CellOk K D' a c := by
  cases c with
  | lst xs => obtain ⟨vs, h1, h2⟩ := h; exact ⟨vs, e.trans h1, RepL.ext x _ _ h2⟩
  | dct ks xs => obtain ⟨vs, h1, h2, h3⟩ := h; exact ⟨vs, e.trans h1, h2, RepL.ext x _ _ h3⟩
theorem CellOk.some {K : PySem.W.Frag} {D : Wd} {a : Addr} {c : Cell} (h : CellOk K D a c) : ∃ o, D.H a = some o := by
  cases c with
  | lst xs => obtain ⟨vs, h1, h2⟩ := h; exact ⟨_, h1⟩
  | dct ks xs => obtain ⟨vs, h1, h2, h3⟩ := h; exact ⟨_, h1⟩
theorem Rel.at {K : PySem.W.Frag} {D : Wd} {h : AH} (R : Rel K D h) {n : Nat} {a : Addr} (e : D.m[n]? = some a) : ∃ c, h[n]? = some c ∧ CellOk K D a c := by
  have hn : n < h.length := by rw [← R.len]; exact (List.getElem?_eq_some_iff.mp e).1
  exact ⟨h[n], List.getElem?_eq_getElem hn, R.cell n _ a (List.getElem?_eq_getElem hn) e⟩
theorem Rel.tracked {K : PySem.W.Frag} {D : Wd} {h : AH} (R : Rel K D h) {a : Addr} (e : a ∈ D.m) : ∃ o, D.H a = some o := by
  obtain ⟨n, e⟩ := List.getElem?_of_mem e
  obtain ⟨c, _, q⟩ := R.at e
  exact q.some
/-- a new frozen object -/
def Wd.frz (D : Wd) (p : Addr) (o : HO) : Wd := ⟨fun a => D.F a ∨ a = p, D.m, upd D.H p o⟩
theorem Ext.frz {K : PySem.W.Frag} {D : Wd} {h : AH} (R : Rel K D h) {p : Addr} (hp : D.H p = none) (o : HO) : Ext D (D.frz p o) :=
  ⟨fun a f => ⟨.inl f, upd_ne fun e => by
    obtain ⟨o', e'⟩ := R.fz a f
    rw [e, hp] at e'; cases e'⟩, List.prefix_refl _⟩
theorem Rel.frz {K : PySem.W.Frag} {D : Wd} {h : AH} (R : Rel K D h) {p : Addr} (hp : D.H p = none) (o : HO) : Rel K (D.frz p o) h := by
  have nm : ∀ a, a ∈ D.m → a ≠ p := fun a ha e => by
    obtain ⟨o', e'⟩ := R.tracked ha
    rw [e, hp] at e'; cases e'
  refine ⟨R.len, R.nd, fun n c a e1 e2 => ?_, fun a f => ?_, fun a ha f => ?_, R.pure⟩
  · exact (R.cell n c a e1 e2).ext (Ext.frz R hp o) (upd_ne (nm a (List.mem_of_getElem? e2)))
  · rcases f with f | f
    · obtain ⟨o', e'⟩ := R.fz a f
      by_cases q : a = p
      · subst q; exact ⟨_, upd_same⟩
      · exact ⟨o', (upd_ne q).trans e'⟩
    · subst f; exact ⟨_, upd_same⟩
  · rcases f with f | f
    · exact R.dis a ha f
    · exact nm a ha f
/-- a new cell -/
def Wd.cel (D : Wd) (p : Addr) (o : HO) : Wd := ⟨D.F, D.m ++ [p], upd D.H p o⟩
theorem Ext.cel {K : PySem.W.Frag} {D : Wd} {h : AH} (R : Rel K D h) {p : Addr} (hp : D.H p = none) (o : HO) : Ext D (D.cel p o) :=
  ⟨fun a f => ⟨f, upd_ne fun e => by
    obtain ⟨o', e'⟩ := R.fz a f
    rw [e, hp] at e'; cases e'⟩, ⟨[p], rfl⟩⟩
theorem Rel.cel {K : PySem.W.Frag} {D : Wd} {h : AH} (R : Rel K D h) {p : Addr} (hp : D.H p = none) {o : HO} {c : Cell} (hc : CellOk K (D.cel p o) p c) (hpu : pureC c = true) : Rel K (D.cel p o) (h ++ [c]) := by
  have nm : ∀ a, a ∈ D.m → a ≠ p := fun a ha e => by
    obtain ⟨o', e'⟩ := R.tracked ha
    rw [e, hp] at e'; cases e'
  refine ⟨by show (D.m ++ [p]).length = (h ++ [c]).length; simp [R.len], ?_, fun n d a e1 e2 => ?_, fun a f => ?_, fun a ha f => ?_, fun d hd => (List.mem_append.mp hd).elim (R.pure d) fun z => by rw [List.mem_singleton.mp z]; exact hpu⟩
  · show (D.m ++ [p]).Nodup
    rw [List.nodup_append]
    refine ⟨R.nd, by simp, fun a ha b hb => ?_⟩
    have : b = p := by simpa using hb
    subst this
    exact nm a ha
  · have e2' : (D.m ++ [p])[n]? = some a := e2
    by_cases hn : n < h.length
    · rw [List.getElem?_append_left hn] at e1
      rw [List.getElem?_append_left (R.len ▸ hn)] at e2'
      exact (R.cell n d a e1 e2').ext (Ext.cel R hp o) (upd_ne (nm a (List.mem_of_getElem? e2')))
    · have hn' : n = h.length := by
        have := (List.getElem?_eq_some_iff.mp e1).1
        simp at this; omega
      subst hn'
      rw [List.getElem?_append_right (Nat.le_refl _), Nat.sub_self] at e1
      rw [List.getElem?_append_right (Nat.le_of_eq R.len), R.len, Nat.sub_self] at e2'
      have e3 : c = d := by simpa using e1
      have e4 : p = a := by simpa using e2'
      subst e3; subst e4
      exact hc
  · obtain ⟨o', e'⟩ := R.fz a f
    by_cases q : a = p
    · subst q; exact ⟨_, upd_same⟩
    · exact ⟨o', (upd_ne q).trans e'⟩
  · have ha' : a ∈ D.m ++ [p] := ha
    rcases List.mem_append.mp ha' with z | z
    · exact R.dis a z f
    · have : a = p := by simpa using z
      subst this
      obtain ⟨o', e'⟩ := R.fz a f
      rw [hp] at e'; cases e'
/-- a cell written -/
def Wd.wr (D : Wd) (p : Addr) (o : HO) : Wd := ⟨D.F, D.m, upd D.H p o⟩
theorem Ext.wr {K : PySem.W.Frag} {D : Wd} {h : AH} (R : Rel K D h) {p : Addr} {n : Nat} (hp : D.m[n]? = some p) (o : HO) : Ext D (D.wr p o) :=
  ⟨fun a f => ⟨f, upd_ne fun e => by
    subst e
    exact R.dis a (List.mem_of_getElem? hp) f⟩, List.prefix_refl _⟩
theorem Rel.wr {K : PySem.W.Frag} {D : Wd} {h : AH} (R : Rel K D h) {p : Addr} {n : Nat} (hp : D.m[n]? = some p) {o : HO} {c : Cell} (hc : CellOk K (D.wr p o) p c) (hpu : pureC c = true) : Rel K (D.wr p o) (h.set n c) := by
  refine ⟨by show D.m.length = (h.set n c).length; simp [R.len], R.nd, fun j d a e1 e2 => ?_, fun a f => ?_, R.dis, fun d hd => (List.mem_or_eq_of_mem_set hd).elim (R.pure d) fun z => by rw [z]; exact hpu⟩
  · have e2' : D.m[j]? = some a := e2
    by_cases hj : n = j
    · subst hj
      have hn : n < h.length := by rw [← R.len]; exact (List.getElem?_eq_some_iff.mp hp).1
      rw [List.getElem?_set_self hn] at e1
      rw [hp] at e2'
      cases e1; cases e2'
      exact hc
    · rw [List.getElem?_set_ne hj] at e1
      refine (R.cell j d a e1 e2').ext (Ext.wr R hp o) (upd_ne fun e => ?_)
      subst e
      exact hj (nodup_ix' R.nd hp e2')
  · obtain ⟨o', e'⟩ := R.fz a f
    by_cases q : a = p
    · subst q; exact ⟨_, upd_same⟩
    · exact ⟨o', (upd_ne q).trans e'⟩
where
  nodup_ix' {N : List Addr} (hN : N.Nodup) {i j : Nat} {x : Addr} (a : N[i]? = some x) (b : N[j]? = some x) : i = j := by
    obtain ⟨h1, e1⟩ := List.getElem?_eq_some_iff.mp a
    obtain ⟨h2, e2⟩ := List.getElem?_eq_some_iff.mp b
    exact (List.getElem_inj hN).mp (e1.trans e2.symm)
/-- other cells, and more that is frozen, the heap as it is -/
theorem CellOk.pure {K : PySem.W.Frag} {D D' : Wd} {a : Addr} {c : Cell} (h : CellOk K D a c) (p : pureC c = true) (x : ∀ a, D.F a → D'.F a ∧ D'.H a = D.H a) (e : D'.H a = D.H a) : CellOk K D' a c := by
  cases c with
  | lst xs => obtain ⟨vs, h1, h2⟩ := h; exact ⟨vs, e.trans h1, RepL.pure x _ _ p h2⟩
  | dct ks xs => obtain ⟨vs, h1, h2, h3⟩ := h; exact ⟨vs, e.trans h1, h2, RepL.pure x _ _ p h3⟩
/-- the first n cells -/
theorem Rel.cut {K : PySem.W.Frag} {D : Wd} {h : AH} (R : Rel K D h) (n : Nat) : Rel K ⟨D.F, D.m.take n, D.H⟩ (h.take n) := by
  refine ⟨by show (D.m.take n).length = (h.take n).length; simp [R.len], R.nd.sublist (List.take_sublist _ _), fun j c a e1 e2 => ?_, R.fz, fun a ha => R.dis a (List.mem_of_mem_take ha), fun c hc => R.pure c (List.mem_of_mem_take hc)⟩
  have e2 : (D.m.take n)[j]? = some a := e2
  have hj : j < n := by
    have := (List.getElem?_eq_some_iff.mp e1).1
    simp only [List.length_take] at this
    omega
  rw [List.getElem?_take_of_lt hj] at e1 e2
  exact (R.cell j c a e1 e2).pure (R.pure c (List.mem_of_getElem? e1)) (fun b f => ⟨f, rfl⟩) rfl
/-- a cell that is none any more is frozen -/
theorem Rel.freeze {K : PySem.W.Frag} {D : Wd} {h : AH} (R : Rel K D h) {n : Nat} {a : Addr} (ha : D.m[n]? = some a) {j : Nat} (hj : j ≤ n) : Rel K ⟨fun b => D.F b ∨ b = a, D.m.take j, D.H⟩ (h.take j) := by
  have C := R.cut j
  refine ⟨C.len, C.nd, fun i c b e1 e2 => ?_, fun b f => ?_, fun b hb f => ?_, C.pure⟩
  · exact (C.cell i c b e1 e2).pure (C.pure c (List.mem_of_getElem? e1)) (fun b f => ⟨.inl f, rfl⟩) rfl
  · rcases f with f | f
    · exact R.fz b f
    · subst f; exact R.tracked (List.mem_of_getElem? ha)
  · rcases f with f | f
    · exact C.dis b hb f
    · subst f
      have hb : b ∈ D.m.take j := hb
      obtain ⟨i, hi⟩ := List.getElem?_of_mem hb
      have hij : i < j := by
        have := (List.getElem?_eq_some_iff.mp hi).1
        simp only [List.length_take] at this
        omega
      rw [List.getElem?_take_of_lt hij] at hi
      have := Rel.wr.nodup_ix' R.nd hi ha
      omega
end Pv
end
section
set_option Elab.async false
set_option linter.all false
set_option maxRecDepth 100000
set_option autoImplicit false
namespace Pv
open PySem PySem.Spec PyProof.Rows L2

/-! ### the world of a law -/
structure Cfg where
  P : Program
  w : World
  K : PySem.W.Frag
  mg : Str → Option Value
  base : Heap
  cls : Nat → Value
  fld : Nat → Str
def RepX (Γ : Cfg) (D : Wd) (e : Exn) (cls : Value) (d : Option Addr) : Prop :=
  cls = Γ.cls e.cls ∧ ∀ v, e.val = some v → ∃ dd u, d = some dd ∧ D.F dd ∧ D.H dd = some (.xd [(Γ.fld e.cls, u)]) ∧ Rep Γ.K D v u
def OutOk {α β : Type} (Γ : Cfg) (D : Wd) (o : Out α) (R : Wd → AH → α → β → Prop) (Q : β → Hp → Prop) (Wx : Value → Option Addr → Hp → Prop) : Prop := match o with
  | .ok v h => ∀ (D' : Wd) (u : β), Ext D D' → Rel Γ.K D' h → R D' h v u → Q u D'.H
  | .exc e h => ∀ (D' : Wd) (cls : Value) (d : Option Addr), Ext D D' → Rel Γ.K D' h → RepX Γ D' e cls d → Wx cls d D'.H
  | .bad => False
section
variable {α β γ δ : Type} {Γ : Cfg} {D D' : Wd} {R : Wd → AH → α → β → Prop} {R1 : Wd → AH → γ → δ → Prop} {Q : β → Hp → Prop} {Wx : Value → Option Addr → Hp → Prop}
theorem OutOk.ext {o : Out α} (x : Ext D D') (h : OutOk Γ D o R Q Wx) : OutOk Γ D' o R Q Wx := by
  cases o with
  | ok v hh => exact fun D2 u x2 r q => h D2 u (x.trans x2) r q
  | exc e hh => exact fun D2 c d x2 r q => h D2 c d (x.trans x2) r q
  | bad => exact h
theorem OutOk.bind {o : Out γ} {f : γ → AH → Out α} (h : OutOk Γ D (o.bind f) R Q Wx) :
    OutOk Γ D o R1 (fun u H' => ∃ (D' : Wd) (v : γ) (h' : AH), D'.H = H' ∧ Ext D D' ∧ Rel Γ.K D' h' ∧ R1 D' h' v u ∧ OutOk Γ D' (f v h') R Q Wx) Wx := by
  cases o with
  | ok v hh => exact fun D2 u x2 r q => ⟨D2, v, hh, rfl, x2, r, q, OutOk.ext x2 h⟩
  | exc e hh => exact h
  | bad => exact h
theorem OutOk.mono {o : Out α} {Q' : β → Hp → Prop} (h : OutOk Γ D o R Q Wx) (hq : ∀ u H', Q u H' → Q' u H') : OutOk Γ D o R Q' Wx := by
  cases o with
  | ok v hh => exact fun D2 u x2 r q => hq _ _ (h D2 u x2 r q)
  | exc e hh => exact h
  | bad => exact h
end
/-- the state at a place -/
structure At (Γ : Cfg) (D : Wd) (h : AH) (env : Env1) (σ : L2.St) (H : Hp) : Prop where
  hp : D.H = H
  rel : Rel Γ.K D h
  env : EnvR Γ.K D env σ
def tEv (Γ : Cfg) (W : WX) (f : Env1 → AH → Out AV) : TE := fun σ H Q => ∃ (D : Wd) (h : AH) (env : Env1), At Γ D h env σ H ∧ OutOk Γ D (f env h) (fun D _ => Rep Γ.K D) Q fun c d H' => W c d σ H'
def tTv (Γ : Cfg) (W : WX) (f : Env1 → AH → Out Bool) : TT := fun σ H Q => ∃ (D : Wd) (h : AH) (env : Env1), At Γ D h env σ H ∧ OutOk Γ D (f env h) (fun _ _ (b c : Bool) => b = c) Q fun c d H' => W c d σ H'
def tAv (Γ : Cfg) (W : WX) (f : Env1 → AH → Out (List AV)) : TA := fun σ H Q => ∃ (D : Wd) (h : AH) (env : Env1), At Γ D h env σ H ∧ OutOk Γ D (f env h) (fun D _ => RepL Γ.K D) Q fun c d H' => W c d σ H'
theorem At.next {Γ : Cfg} {D D' : Wd} {h h' : AH} {env : Env1} {σ : L2.St} {H H' : Hp} (a : At Γ D h env σ H) (e : D'.H = H') (x : Ext D D') (r : Rel Γ.K D' h') : At Γ D' h' env σ H' := ⟨e, r, a.env.ext x⟩

/-! ### weakening -/
theorem PE.weak {X : Cx} {e : Expr} {t t' : TE} (h : PE X e t) (q : ∀ σ H Q, t' σ H Q → t σ H Q) : PE X e t' := ⟨fun pins s σ H Q I hw => h.run pins s σ H Q I (q σ H Q hw)⟩
theorem PT.weak {X : Cx} {e : Expr} {t t' : TT} (h : PT X e t) (q : ∀ σ H Q, t' σ H Q → t σ H Q) : PT X e t' := ⟨fun pins s σ H Q I hw => h.run pins s σ H Q I (q σ H Q hw)⟩
theorem PW.weak {X : Cx} {e : Expr} {t t' : TT} (h : PW X e t) (q : ∀ σ H Q, t' σ H Q → t σ H Q) : PW X e t' := ⟨fun wh pins s σ H Q I hw => h.run wh pins s σ H Q I (q σ H Q hw)⟩
theorem PA.weak {X : Cx} {e : List Expr} {t t' : TA} (h : PA X e t) (q : ∀ σ H Q, t' σ H Q → t σ H Q) : PA X e t' := ⟨fun pos pins s σ H Q I hw => h.run pos pins s σ H Q I (q σ H Q hw)⟩
theorem PS.weak {X : Cx} {e : Stmt} {t t' : TS} (h : PS X e t) (q : ∀ D σ H, t' D σ H → t D σ H) : PS X e t' := ⟨fun pins s σ H D I hw => h.run pins s σ H D I (q D σ H hw)⟩
theorem PSs.weak {X : Cx} {e : List Stmt} {t t' : TS} (h : PSs X e t) (q : ∀ D σ H, t' D σ H → t D σ H) : PSs X e t' := ⟨fun pins s σ H D I hw => h.run pins s σ H D I (q D σ H hw)⟩

/-! ### what a def promises -/
def spOf (Γ : Cfg) (n : Nat) (g : List AV → AH → Out AV) : Sp := fun vs H Q E => vs.length = n ∧ ∃ (D : Wd) (h : AH) (as : List AV), D.H = H ∧ Rel Γ.K D h ∧ RepL Γ.K D as vs ∧ OutOk Γ D (g as h) (fun D _ => Rep Γ.K D) Q E
/-- a def keeps its promise, called where no repr runs -/
structure FnG (P : Program) (w : World) (K : PySem.W.Frag) (mg : Str → Option Value) (base : Heap) (CX : CXT) (k : Nat) (f : Addr) (fd : FuncData) (ps : List Str) (sp : Sp) : Prop where
  arity : ∀ vs H Q E, sp vs H Q E → vs.length = ps.length
  go : ∀ (A : Around) (outer : List Env) (s : Shared) (H : Hp) (args : Args) (us : List Value) (vs : List V) (Q : VK) (E : XK), A.guards = some [] → Room k A →
    Env0 P w K mg base A outer s H → BindsTo s fd args (ps.zip us) → Vals vs us → sp vs H Q E → codeAny (model P w) A (.call (.ref f) args) (CR CX outer P w H s Q E) s
structure Stat where
  fns : List (Str × Nat × Nat)
  consts : List (Str × AV)
  free : List Str
  gcds : List Str
  exs : List (Str × Nat)
structure StatOk (Γ : Cfg) (S : Stat) (G : GT) (k : Nat) : Prop where
  fn : ∀ x i n, S.fns.lookup x = some (i, n) → ∃ (f : Addr) (fd : FuncData) (ps : List Str), Γ.mg x = some (.ref f) ∧ PySem.W.keepIn Γ.K (.ref f) = true ∧ Binds Γ.K fd ps [] ∧ FnG Γ.P Γ.w Γ.K Γ.mg Γ.base (L2.CX Γ.P Γ.w) k f fd ps (spOf Γ n (G i))
  const : ∀ x v, S.consts.lookup x = some v → ∃ (V : V) (u : Value), Γ.mg x = some u ∧ RelV V u ∧ ∀ D, Rep Γ.K D v V
  free : ∀ x, x ∈ S.free → Γ.mg x = none
  gcd : ∀ x, x ∈ S.gcds → Γ.mg x = some (.builtin "math.gcd")
/-- where the code stands: its names, its scope, whether an exception is being handled, the cells that it made -/
structure Lc where
  N : List Str
  sc : Scope
  hot : Bool
  co : Str → Bool
structure CtxP (Γ : Cfg) (k : Nat) (L : Lc) (X : Cx) (W : WX) : Prop where
  prog : X.prog = Γ.P
  w : X.w = Γ.w
  K : X.K = Γ.K
  mg : X.mg = Γ.mg
  base : X.base = Γ.base
  hN : X.N = L.N
  nd : L.N.Nodup
  sc : X.env.scope = L.sc
  cells : ∀ x, L.co x = true → X.fn x = true
  room : L.hot = false → Room k X.A
  grd : X.A.guards = some []
  un : X.A.units + 200 < cLine
  calm : L.hot = false → X.calm = true
  takes : Takes X W
def SE (S : Stat) (L : Lc) (e : Expr) (f : EvE) : Prop := ∀ (Γ : Cfg) (G : GT) (k : Nat) (X : Cx) (W : WX), StatOk Γ S G k → CtxP Γ k L X W → PE X e (tEv Γ W (f G))
def ST (S : Stat) (L : Lc) (e : Expr) (f : EvT) : Prop := ∀ (Γ : Cfg) (G : GT) (k : Nat) (X : Cx) (W : WX), StatOk Γ S G k → CtxP Γ k L X W → PT X e (tTv Γ W (f G))
def SA (S : Stat) (L : Lc) (es : List Expr) (f : EvA) : Prop := ∀ (Γ : Cfg) (G : GT) (k : Nat) (X : Cx) (W : WX), StatOk Γ S G k → CtxP Γ k L X W → PA X es (tAv Γ W (f G))

/-! ### shapes -/
def notStar : Expr → Bool
  | .Starred .. => false
  | _ => true
theorem starEach_cons {e : Expr} {es : List Expr} {env : Env} (h : notStar e = true) : starEach (e :: es) env = (false, eval e env) :: starEach es env := by
  cases e <;> first | rfl | cases h
theorem starEach_plain : ∀ {es : List Expr} {env : Env} {pos : Pos}, es.all notStar = true → (backTo pos (starEach es env)).any (·.1) = false
  | [], _, _, _ => rfl
  | e :: es, env, pos, h => by
    rw [List.all_cons, Bool.and_eq_true] at h
    rw [starEach_cons h.1]
    show (false || (backTo pos (starEach es env)).any (·.1)) = false
    rw [starEach_plain h.2]; rfl
def notSet : Expr → Bool
  | .Set .. => false
  | _ => true
theorem nomark_of {e : Expr} {op : CmpOp} (h : notSet e = true) : behindInMarks op e = false := by
  cases e <;> first | rfl | cases h
theorem folded_of {e : Expr} {env : Env} (h : notSet e = true) (x : Value) : foldedSetIterable e env x = pure x := by
  cases e <;> first | rfl | cases h
def notSlice : Expr → Bool
  | .Slice .. => false
  | _ => true
theorem plainIx_of {e : Expr} (h : notSlice e = true) : PlainIx e := by
  intro o i
  cases e <;> first | rfl | cases h
def notComp : Expr → Bool
  | .ListComp .. => false
  | .SetComp .. => false
  | .DictComp .. => false
  | _ => true
theorem swaps_of {e : Expr} {t : Option Expr} {l : Nat} {env : Env} (h : notComp e = true) : swapsWith e t l env = pure false := by
  cases e <;> first | rfl | cases h
def plainTest : Expr → Bool
  | .UnaryOp .Not _ _ => false
  | .BoolOp .. => false
  | .IfExp .. => false
  | .Compare .. => false
  | _ => true
theorem isTrue_of {e : Expr} {env : Env} (h : plainTest e = true) (whole : Sem Value) : isTrue e env whole = (do let v ← whole; standAt e.pos; holding [v] (truthy v)) := by
  cases e with
  | UnaryOp op x pos => cases op <;> first | rfl | cases h
  | BoolOp => cases h
  | IfExp => cases h
  | Compare => cases h
  | _ => rfl
def baseOk : Expr → Bool
  | .Call .. => false
  | _ => true
theorem base_of {e : Expr} {a : Str} {env : Env} (h : baseOk e = true) : attributeBase e a env (eval e env) = eval e env := by
  cases e <;> first | rfl | cases h

/-! ### expressions -/
def evVar (i : Nat) : EvE := fun _ env h => match env[i]? with
  | some (some v) => .ok v h
  | _ => .bad
def visB (sc : Scope) (x : Str) : Bool := match sc.names.lookup x with
  | some .local => true
  | some .cell => true
  | some .free => true
  | _ => false
theorem vis_of {sc : Scope} {x : Str} (h : visB sc x = true) : Vis sc x := by
  unfold visB at h
  unfold Vis
  cases e : sc.names.lookup x with
  | none => rw [e] at h; cases h
  | some k => rw [e] at h; cases k <;> simp at h ⊢
def locB (L : Lc) (x : Str) : Bool := decide (L.sc.names.lookup x = some .local) || (decide (L.sc.names.lookup x = some .cell) && L.co x)
def glB (sc : Scope) (x : Str) : Bool := decide (sc.names.lookup x = some .globalImplicit)
def okName (x : Str) : Bool := !(x == ("__debug__" : Str)) && !(x == ("__classdict__" : Str)) && !(x == ("__name__" : Str))
theorem okName1 {x : Str} (h : okName x = true) : (x == ("__debug__" : Str)) = false := by
  unfold okName at h
  simp only [Bool.and_eq_true, Bool.not_eq_true'] at h
  exact h.1.1
theorem okName2 {x : Str} (h : okName x = true) : (x == ("__classdict__" : Str)) = false := by
  unfold okName at h
  simp only [Bool.and_eq_true, Bool.not_eq_true'] at h
  exact h.1.2
theorem okName3 {x : Str} (h : okName x = true) : x ≠ "__name__" := by
  unfold okName at h
  simp only [Bool.and_eq_true, Bool.not_eq_true'] at h
  intro e
  have := h.2
  rw [e] at this
  exact absurd this (by decide)
section
variable {S : Stat} {L : Lc}
theorem se_var {i : Nat} {x : Str} {pos : Pos} (hN : L.N[i]? = some x) (hv : visB L.sc x = true) (hx : okName x = true) : SE S L (.Name x pos) (evVar i) := by
  intro Γ G k X W so c
  refine PE.weak (pe_var (i := i) (x := x) (by rw [c.hN]; exact hN) (by rw [c.sc]; exact vis_of hv) (okName1 hx) (okName2 hx)) fun σ H Q ⟨D, h, env, a, o⟩ => ?_
  unfold evVar at o
  cases e : env[i]? with
  | none => rw [e] at o; exact o.elim
  | some v =>
    cases v with
    | none => rw [e] at o; exact o.elim
    | some v =>
      rw [e] at o
      obtain ⟨u, e', r⟩ := a.env.2 i v e
      refine ⟨u, e', ?_⟩
      have q := o D u (Ext.refl D) a.rel r
      rw [a.hp] at q
      exact q
def evC (v : AV) : EvE := fun _ _ h => .ok v h
theorem se_c {e : Expr} {v : AV} {V : V} (hp : ∀ X : Cx, PE X e (tC V)) (hr : ∀ K D, Rep K D v V) : SE S L e (evC v) := by
  intro Γ G k X W so c
  refine PE.weak (hp X) fun σ H Q ⟨D, h, env, a, o⟩ => ?_
  have q := o D V (Ext.refl D) a.rel (hr _ _)
  rw [a.hp] at q
  exact q
theorem gl_of {Γ : Cfg} {k : Nat} {X : Cx} {W : WX} (c : CtxP Γ k L X W) {x : Str} (h : glB L.sc x = true) : Gl X x := by
  show X.env.scope.names.lookup x = some .globalImplicit
  rw [c.sc]
  exact of_decide_eq_true h
theorem se_glob {x : Str} {v : AV} {pos : Pos} (hx : S.consts.lookup x = some v) (hg : glB L.sc x = true) (hn : okName x = true) : SE S L (.Name x pos) (evC v) := by
  intro Γ G k X W so c
  obtain ⟨V, u, e1, e2, e3⟩ := so.const x v hx
  refine PE.weak (pe_glob (gl_of c hg) (by rw [c.mg]; exact e1) e2 (okName1 hn)) fun σ H Q ⟨D, h, env, a, o⟩ => ?_
  have q := o D V (Ext.refl D) a.rel (e3 _)
  rw [a.hp] at q
  exact q

/-! ### two operands -/
abbrev Op2 := AV → AV → AH → Out AV
def OpS (op : Op2) (r : PySem.W.Frag → R2) : Prop := ∀ (Γ : Cfg) (D : Wd) (h : AH) (x y : AV) (u v : V) (Q : VK) (Wx : Value → Option Addr → Hp → Prop), Rel Γ.K D h → Rep Γ.K D x u → Rep Γ.K D y v →
  OutOk Γ D (op x y h) (fun D _ => Rep Γ.K D) Q Wx → r Γ.K u v D.H Q
def evOp (op : Op2) (f g : EvE) : EvE := fun G env h => (f G env h).bind fun x h1 => (g G env h1).bind fun y h2 => op x y h2
theorem tOp_of {Γ : Cfg} {W : WX} {op : Op2} {r : PySem.W.Frag → R2} {f g : EvE} {G : GT} (hs : OpS op r) (σ : L2.St) (H : Hp) (Q : VK) (o : tEv Γ W (evOp op f g G) σ H Q) : tOp (r Γ.K) (tEv Γ W (f G)) (tEv Γ W (g G)) σ H Q := by
  obtain ⟨D, h, env, a, o⟩ := o
  refine ⟨D, h, env, a, (OutOk.bind (R1 := fun D _ => Rep Γ.K D) o).mono fun u H' ⟨D1, v1, h1, e1, x1, r1, q1, o1⟩ => ?_⟩
  refine ⟨D1, h1, env, a.next e1 x1 r1, (OutOk.bind (R1 := fun D _ => Rep Γ.K D) o1).mono fun u2 H2 ⟨D2, v2, h2, e2, x2, r2, q2, o2⟩ => ?_⟩
  have q := hs Γ D2 h2 v1 v2 u u2 Q _ r2 (Rep.ext x2 _ _ q1) q2 o2
  rw [e2] at q
  exact q
theorem se_bin {op : Operator} {oo : Op2} {r : PySem.W.Frag → R2} {a b : Expr} {f g : EvE} {pos : Pos} (ho : ∀ X : Cx, (L.hot = false → X.calm = true) → OpR X (binaryOp op) (r X.K)) (hs : OpS oo r) (ha : SE S L a f) (hb : SE S L b g) : SE S L (.BinOp a op b pos) (evOp oo f g) := by
  intro Γ G k X W so c
  refine PE.weak (pe_op (ho X c.calm) (ha Γ G k X W so c) (hb Γ G k X W so c)) fun σ H Q o => ?_
  rw [c.K]
  exact tOp_of hs σ H Q o
end
end Pv
end
section
set_option Elab.async false
set_option linter.all false
set_option maxRecDepth 100000
set_option autoImplicit false
namespace Pv
open PySem PySem.Spec PyProof.Rows L2

/-! ### arithmetic -/
def mulOk (i j : Int) : Bool := decide ((-(2 ^ 64) < i ∧ i < 2 ^ 64) ∨ (-(2 ^ 64) < j ∧ j < 2 ^ 64) ∨ i.natAbs.log2 + j.natAbs.log2 < 1000000)
def CMulA (i j : Int) : Prop := CMul i j ∨ CMulW i j
theorem CMulA.ok {i j : Int} (h : CMulA i j) : IntMulOk i j := h.elim CMul.ok CMulW.ok
theorem mulOk_ok {i j : Int} (h : mulOk i j = true) : CMulA i j := by
  rcases of_decide_eq_true h with h | h | h
  · exact .inl (.inl h)
  · exact .inl (.inr h)
  · exact .inr h
theorem op_mulA {X : Cx} : OpR X (binaryOp .Mult) (rI CMulA fun i j => .int (i * j)) := opI fun _ _ _ _ _ _ _ hc q => mul_int q hc.ok
def CPowA (i j : Int) : Prop := 0 ≤ j ∧ (Builtin.Int.intBits i : Int) * j ≤ 2 ^ 27
theorem op_powA {X : Cx} : OpR X (binaryOp .Pow) (rI CPowA fun i j => .int (i ^ j.toNat)) := opI fun _ _ _ _ _ _ _ hc q => pow_int hc.1 hc.2 q
def divOk (j : Int) : Bool := decide (0 < j ∧ j.natAbs.log2 < 9000)
def addOp : Op2
  | .int i, .int j, h => .ok (.int (i + j)) h
  | .str i, .str j, h => if i.length + j.length ≤ sizeLine then .ok (.str (i ++ j)) h else .bad
  | .tup xs, .tup ys, h => if xs.length + ys.length ≤ sizeLine then .ok (.tup (xs ++ ys)) h else .bad
  | .lst xs, .lst ys, h => if xs.length + ys.length ≤ sizeLine then .ok (.lst (xs ++ ys)) h else .bad
  | .ref n, .lst ys, h => match h[n]? with
    | some (.lst xs) => if xs.length + ys.length ≤ sizeLine then .ok (.lst (xs ++ ys)) h else .bad
    | _ => .bad
  | .lst xs, .ref n, h => match h[n]? with
    | some (.lst ys) => if xs.length + ys.length ≤ sizeLine then .ok (.lst (xs ++ ys)) h else .bad
    | _ => .bad
  | _, _, _ => .bad
def subOp : Op2
  | .int i, .int j, h => .ok (.int (i - j)) h
  | _, _, _ => .bad
def mulOp : Op2
  | .int i, .int j, h => if mulOk i j then .ok (.int (i * j)) h else .bad
  | .lst xs, .int k, h => if 0 ≤ k ∧ k < 2 ^ 63 ∧ xs.length * k.toNat ≤ sizeLine then .ok (.lst (List.replicate k.toNat xs).flatten) h else .bad
  | .tup xs, .int k, h => if xs ≠ [] ∧ -1000 ≤ k ∧ k ≤ 1000 ∧ xs.length ≤ 1000 then .ok (.tup (List.replicate k.toNat xs).flatten) h else .bad
  | _, _, _ => .bad
def modOp : Op2
  | .int i, .int j, h => if 0 < j then .ok (.int (i % j)) h else .bad
  | _, _, _ => .bad
def fdivOp : Op2
  | .int i, .int j, h => if divOk j then .ok (.int (i / j)) h else .bad
  | _, _, _ => .bad
def powOk (i j : Int) : Bool := decide (0 ≤ j ∧ (Builtin.Int.intBits i : Int) * j ≤ 2 ^ 27)
def powOp : Op2
  | .int i, .int j, h => if powOk i j then .ok (.int (i ^ j.toNat)) h else .bad
  | _, _, _ => .bad

/-- the answer is a scalar -/
theorem fin {Γ : Cfg} {D : Wd} {h : AH} {v : AV} {u : V} {Q : VK} {Wx : Value → Option Addr → Hp → Prop} (R : Rel Γ.K D h) (r : Rep Γ.K D v u) (o : OutOk Γ D (.ok v h) (fun D _ => Rep Γ.K D) Q Wx) : Q u D.H := o D u (Ext.refl D) R r
/-- the answer is a new tuple -/
theorem fin_tup {Γ : Cfg} {D : Wd} {h : AH} {xs : List AV} {us : List V} {Q : VK} {Wx : Value → Option Addr → Hp → Prop} (R : Rel Γ.K D h) (r : RepL Γ.K D xs us) (o : OutOk Γ D (.ok (.tup xs) h) (fun D _ => Rep Γ.K D) Q Wx) : ∀ p, D.H p = none → Q (.ref p) (upd D.H p (.tup us)) := fun p hp =>
  o (D.frz p (.tup us)) (.ref p) (Ext.frz R hp _) (Rel.frz R hp _) ⟨p, us, rfl, .inl ⟨.inr rfl, upd_same⟩, RepL.ext (Ext.frz R hp _) _ _ r⟩
theorem fin_lst {Γ : Cfg} {D : Wd} {h : AH} {xs : List AV} {us : List V} {Q : VK} {Wx : Value → Option Addr → Hp → Prop} (R : Rel Γ.K D h) (r : RepL Γ.K D xs us) (o : OutOk Γ D (.ok (.lst xs) h) (fun D _ => Rep Γ.K D) Q Wx) : ∀ p, D.H p = none → Q (.ref p) (upd D.H p (.lst us)) := fun p hp =>
  o (D.frz p (.lst us)) (.ref p) (Ext.frz R hp _) (Rel.frz R hp _) ⟨p, us, rfl, ⟨.inr rfl, upd_same⟩, RepL.ext (Ext.frz R hp _) _ _ r⟩
theorem fin_cel {Γ : Cfg} {D : Wd} {h : AH} {xs : List AV} {us : List V} {Q : VK} {Wx : Value → Option Addr → Hp → Prop} (R : Rel Γ.K D h) (hpu : pureL xs = true) (r : RepL Γ.K D xs us) (o : OutOk Γ D (.ok (.ref h.length) (h ++ [.lst xs])) (fun D _ => Rep Γ.K D) Q Wx) : ∀ p, D.H p = none → Q (.ref p) (upd D.H p (.lst us)) := fun p hp =>
  o (D.cel p (.lst us)) (.ref p) (Ext.cel R hp _) (Rel.cel R hp ⟨us, upd_same, RepL.ext (Ext.cel R hp _) _ _ r⟩ hpu) ⟨p, rfl, by show (D.m ++ [p])[h.length]? = some p; rw [← R.len]; simp⟩
theorem RepL.empty {K : PySem.W.Frag} {D : Wd} {xs : List AV} {us : List V} (r : RepL K D xs us) : us = [] ↔ xs = [] := by
  constructor
  · intro e; subst e
    have := r.length
    exact List.length_eq_zero_iff.mp (by simpa using this.symm)
  · intro e; subst e; exact r
theorem RepL.rep {K : PySem.W.Frag} {D : Wd} {xs : List AV} {us : List V} (r : RepL K D xs us) : ∀ n : Nat, RepL K D (List.replicate n xs).flatten (List.replicate n us).flatten
  | 0 => rfl
  | n + 1 => by
    rw [List.replicate_succ, List.replicate_succ, List.flatten_cons, List.flatten_cons]
    exact RepL.append r (RepL.rep r n)
theorem ref_lst {Γ : Cfg} {D : Wd} {h : AH} (R : Rel Γ.K D h) {n : Nat} {u : V} {c : Cell} (r : Rep Γ.K D (.ref n) u) (e : h[n]? = some c) : ∃ a, u = .ref a ∧ D.m[n]? = some a ∧ CellOk Γ.K D a c := by
  obtain ⟨a, e1, e2⟩ := r
  exact ⟨a, e1, e2, R.cell n c a e e2⟩


def rAddA (K : PySem.W.Frag) : R2 := fun x y H Q => (((∃ i j, x = .int i ∧ y = .int j ∧ Q (.int (i + j)) H) ∨ (∃ i j, x = .str i ∧ y = .str j ∧ i.length + j.length ≤ sizeLine ∧ Q (.str (i ++ j)) H)) ∨ rCatA K x y H Q) ∨ rCat x y H Q
theorem op_addA {X : Cx} : OpR X (binaryOp .Add) (rAddA X.K) := OpR.or (OpR.or (OpR.or op_add op_add_str) op_catA) op_cat
theorem so_add : OpS addOp rAddA := by
  intro Γ D h x y u v Q Wx R rx ry o
  cases x with
  | int i =>
    cases y with
    | int j => cases rx; cases ry; exact .inl (.inl (.inl ⟨i, j, rfl, rfl, fin (v := .int (i + j)) R rfl o⟩))
    | _ => exact o.elim
  | str i =>
    cases y with
    | str j =>
      cases rx; cases ry
      simp only [addOp] at o
      split at o
      · rename_i hz
        exact .inl (.inl (.inr ⟨i, j, rfl, rfl, hz, fin (v := .str (i ++ j)) R rfl o⟩))
      · exact o.elim
    | _ => exact o.elim
  | tup xs =>
    cases y with
    | tup ys =>
      simp only [addOp] at o
      split at o
      · rename_i hz
        obtain ⟨a, us, e1, t1, r1⟩ := rx
        obtain ⟨b, vs, e2, t2, r2⟩ := ry
        subst e1; subst e2
        refine .inl (.inr ⟨a, b, us, vs, rfl, rfl, t1.sq, t2.sq, ?_, fun e => ?_, fun _ e => ?_, fun _ _ => fin_tup R (RepL.append r1 r2) o⟩)
        · rw [r1.length, r2.length]; exact hz
        · have e' := r1.empty.mp e
          subst e'
          exact fin (v := .tup ([] ++ ys)) R ⟨b, vs, rfl, t2, r2⟩ o
        · have e' := r2.empty.mp e
          subst e'
          exact fin (v := .tup (xs ++ [])) R ⟨a, us, rfl, t1, by rw [List.append_nil]; exact r1⟩ o
      · exact o.elim
    | _ => exact o.elim
  | lst xs =>
    obtain ⟨a, us, e1, ⟨f1, t1⟩, r1⟩ := rx
    cases y with
    | lst ys =>
      simp only [addOp] at o
      split at o
      · rename_i hz
        obtain ⟨b, vs, e2, ⟨f2, t2⟩, r2⟩ := ry
        subst e1; subst e2
        exact .inr ⟨a, b, us, vs, rfl, rfl, t1, t2, by rw [r1.length, r2.length]; exact hz, fin_lst R (RepL.append r1 r2) o⟩
      · exact o.elim
    | ref n =>
      simp only [addOp] at o
      split at o
      · rename_i ys hc
        split at o
        · rename_i hz
          obtain ⟨b, e2, _, vs, t2, r2⟩ := ref_lst R ry hc
          subst e1; subst e2
          exact .inr ⟨a, b, us, vs, rfl, rfl, t1, t2, by rw [r1.length, r2.length]; exact hz, fin_lst R (RepL.append r1 r2) o⟩
        · exact o.elim
      · exact o.elim
    | _ => exact o.elim
  | ref n =>
    cases y with
    | lst ys =>
      simp only [addOp] at o
      split at o
      · rename_i xs hc
        split at o
        · rename_i hz
          obtain ⟨a, e1, _, us, t1, r1⟩ := ref_lst R rx hc
          obtain ⟨b, vs, e2, ⟨f2, t2⟩, r2⟩ := ry
          subst e1; subst e2
          exact .inr ⟨a, b, us, vs, rfl, rfl, t1, t2, by rw [r1.length, r2.length]; exact hz, fin_lst R (RepL.append r1 r2) o⟩
        · exact o.elim
      · exact o.elim
    | _ => exact o.elim
  | _ => exact o.elim
def rSubA (_ : PySem.W.Frag) : R2 := rI0 fun i j => .int (i - j)
theorem so_sub : OpS subOp rSubA := by
  intro Γ D h x y u v Q Wx R rx ry o
  cases x with
  | int i =>
    cases y with
    | int j => cases rx; cases ry; exact ⟨i, j, rfl, rfl, fin (v := .int (i - j)) R rfl o⟩
    | _ => exact o.elim
  | _ => exact o.elim
def rMulA (K : PySem.W.Frag) : R2 := fun x y H Q => (((∃ i j, x = .int i ∧ y = .int j ∧ CMulA i j ∧ Q (.int (i * j)) H) ∨ rRep x y H Q) ∨ rRepT K x y H Q) ∨ rRep01 K x y H Q
theorem op_mulB {X : Cx} : OpR X (binaryOp .Mult) (rMulA X.K) := OpR.or (OpR.or (OpR.or op_mulA op_rep) op_repT) op_rep01
theorem so_mul : OpS mulOp rMulA := by
  intro Γ D h x y u v Q Wx R rx ry o
  cases x with
  | int i =>
    cases y with
    | int j =>
      cases rx; cases ry
      simp only [mulOp] at o
      split at o
      · rename_i hm
        exact .inl (.inl (.inl ⟨i, j, rfl, rfl, mulOk_ok hm, fin (v := .int (i * j)) R rfl o⟩))
      · exact o.elim
    | _ => exact o.elim
  | lst xs =>
    cases y with
    | int k =>
      cases ry
      simp only [mulOp] at o
      split at o
      · rename_i hm
        obtain ⟨a, us, e1, ⟨f1, t1⟩, r1⟩ := rx
        subst e1
        exact .inl (.inl (.inr ⟨a, k, us, rfl, rfl, t1, by omega, hm.2.1, by rw [r1.length]; exact hm.2.2, fin_lst R (r1.rep _) o⟩))
      · exact o.elim
    | _ => exact o.elim
  | tup xs =>
    cases y with
    | int k =>
      cases ry
      simp only [mulOp] at o
      split at o
      · rename_i hm
        obtain ⟨a, us, e1, t1, r1⟩ := rx
        subst e1
        have hne : us ≠ [] := fun e => hm.1 (r1.empty.mp e)
        by_cases h2 : 2 ≤ k
        · exact .inl (.inr ⟨a, k, us, rfl, rfl, t1.sq, hne, h2, hm.2.2.1, by rw [r1.length]; exact hm.2.2.2, fin_tup R (r1.rep _) o⟩)
        · by_cases h1 : k = 1
          · subst h1
            refine .inr ⟨a, 1, us, rfl, rfl, t1.sq, hne, .inl ⟨rfl, ?_⟩⟩
            have e : (List.replicate (1 : Int).toNat xs).flatten = xs := by simp
            rw [e] at o
            exact fin (v := .tup xs) R ⟨a, us, rfl, t1, r1⟩ o
          · refine .inr ⟨a, k, us, rfl, rfl, t1.sq, hne, .inr ⟨hm.2.1, by omega, ?_⟩⟩
            have e : (List.replicate k.toNat xs).flatten = [] := by
              rw [show k.toNat = 0 by omega]
              rfl
            rw [e] at o
            exact fin_tup (xs := []) (us := []) R rfl o
      · exact o.elim
    | _ => exact o.elim
  | _ => exact o.elim
def rModA (_ : PySem.W.Frag) : R2 := rI (fun _ j => 0 < j) fun i j => .int (i % j)
theorem so_mod : OpS modOp rModA := by
  intro Γ D h x y u v Q Wx R rx ry o
  cases x with
  | int i =>
    cases y with
    | int j =>
      cases rx; cases ry
      simp only [modOp] at o
      split at o
      · rename_i hm
        exact ⟨i, j, rfl, rfl, hm, fin (v := .int (i % j)) R rfl o⟩
      · exact o.elim
    | _ => exact o.elim
  | _ => exact o.elim
def rFdivA (_ : PySem.W.Frag) : R2 := rI CDivW fun i j => .int (i / j)
theorem so_fdiv : OpS fdivOp rFdivA := by
  intro Γ D h x y u v Q Wx R rx ry o
  cases x with
  | int i =>
    cases y with
    | int j =>
      cases rx; cases ry
      simp only [fdivOp] at o
      split at o
      · rename_i hm
        have hm' : 0 < j ∧ j.natAbs.log2 < 9000 := of_decide_eq_true hm
        exact ⟨i, j, rfl, rfl, hm', fin (v := .int (i / j)) R rfl o⟩
      · exact o.elim
    | _ => exact o.elim
  | _ => exact o.elim
def rPowA (_ : PySem.W.Frag) : R2 := rI CPowA fun i j => .int (i ^ j.toNat)
theorem so_pow : OpS powOp rPowA := by
  intro Γ D h x y u v Q Wx R rx ry o
  cases x with
  | int i =>
    cases y with
    | int j =>
      cases rx; cases ry
      simp only [powOp] at o
      split at o
      · rename_i hm
        have hm' : 0 ≤ j ∧ (Builtin.Int.intBits i : Int) * j ≤ 2 ^ 27 := of_decide_eq_true hm
        exact ⟨i, j, rfl, rfl, hm', fin (v := .int (i ^ j.toNat)) R rfl o⟩
      · exact o.elim
    | _ => exact o.elim
  | _ => exact o.elim

/-! ### data, and == -/
mutual
def toPy (h : AH) : AV → Option PyData
  | .non => some .none
  | .bl b => some (.bool b)
  | .int i => some (.int i)
  | .str x => some (.str x)
  | .tup xs => (toPyL h xs).map .tuple
  | .lst xs => (toPyL h xs).map .list
  | .kl xs => (toPyL h xs).map .list
  | .dct _ _ => none
  | .ref _ => none
def toPyL (h : AH) : List AV → Option (List PyData)
  | [] => some []
  | x :: xs => match toPy h x, toPyL h xs with
    | some d, some ds => some (d :: ds)
    | _, _ => none
end
/-- a cell's content, once -/
def toPy1 (h : AH) : AV → Option PyData
  | .ref n => match h[n]? with
    | some (.lst xs) => (toPyL h xs).map .list
    | _ => none
  | v => toPy h v
mutual
theorem toPy_dp {Γ : Cfg} {D : Wd} {h : AH} : ∀ (x : AV) (u : V) (d : PyData), Rep Γ.K D x u → toPy h x = some d → Dp Γ.K D.H u d
  | .non, _, _, r, e => by cases r; cases e; exact .non
  | .bl b, _, _, r, e => by cases r; cases e; exact .bl b
  | .int i, _, _, r, e => by cases r; cases e; exact .int i
  | .str x, _, _, r, e => by cases r; cases e; exact .str x
  | .tup xs, u, d, r, e => by
    obtain ⟨a, vs, e1, t, q⟩ := r
    subst e1
    simp only [toPy] at e
    cases e2 : toPyL h xs with
    | none => rw [e2] at e; cases e
    | some ds =>
      rw [e2] at e
      have e3 : PyData.tuple ds = d := Option.some.inj e
      subst e3
      exact .tup t.sq (toPyL_dp xs vs ds q e2)
  | .lst xs, u, d, r, e => by
    obtain ⟨a, vs, e1, ⟨_, t⟩, q⟩ := r
    subst e1
    simp only [toPy] at e
    cases e2 : toPyL h xs with
    | none => rw [e2] at e; cases e
    | some ds =>
      rw [e2] at e
      have e3 : PyData.list ds = d := Option.some.inj e
      subst e3
      exact .lst (SqL.of t) (toPyL_dp xs vs ds q e2)
  | .kl xs, u, d, r, e => by
    obtain ⟨a, vs, e1, t, q⟩ := r
    subst e1
    simp only [toPy] at e
    cases e2 : toPyL h xs with
    | none => rw [e2] at e; cases e
    | some ds =>
      rw [e2] at e
      have e3 : PyData.list ds = d := Option.some.inj e
      subst e3
      exact .lst t.sq (toPyL_dp xs vs ds q e2)
  | .dct ks xs, u, d, r, e => by cases e
  | .ref n, u, d, r, e => by cases e
theorem toPyL_dp {Γ : Cfg} {D : Wd} {h : AH} : ∀ (xs : List AV) (us : List V) (ds : List PyData), RepL Γ.K D xs us → toPyL h xs = some ds → DpAll Γ.K D.H us ds
  | [], us, ds, r, e => by
    have e1 : us = [] := r
    subst e1
    cases e
    exact .nil
  | x :: xs, us, ds, r, e => by
    obtain ⟨u, us', e1, r1, r2⟩ := r
    subst e1
    simp only [toPyL] at e
    split at e
    · rename_i d ds' h1 h2
      have e3 : d :: ds' = ds := Option.some.inj e
      subst e3
      exact .cons (toPy_dp x u d r1 h1) (toPyL_dp xs us' ds' r2 h2)
    · cases e
end
theorem toPy1_dp {Γ : Cfg} {D : Wd} {h : AH} (R : Rel Γ.K D h) : ∀ (x : AV) (u : V) (d : PyData), Rep Γ.K D x u → toPy1 h x = some d → Dp Γ.K D.H u d := by
  intro x u d r e
  cases x with
  | ref n =>
    simp only [toPy1] at e
    split at e
    · rename_i xs hc
      obtain ⟨a, e1, _, vs, t, q⟩ := ref_lst R r hc
      subst e1
      cases e2 : toPyL h xs with
      | none => rw [e2] at e; cases e
      | some ds =>
        rw [e2] at e
        have e3 : PyData.list ds = d := Option.some.inj e
        subst e3
        exact .lst (SqL.of t) (toPyL_dp xs vs ds q e2)
    · cases e
  | _ => exact toPy_dp (h := h) _ u d r e
def eqB (h : AH) (x y : AV) : Option Bool := match toPy1 h x, toPy1 h y with
  | some d, some e => if SeqAt.shaped d = true ∧ SeqAt.shaped e = true then some (PyData.eqv d e) else none
  | _, _ => none
def eqOp : Op2 := fun x y h => match eqB h x y with
  | some b => .ok (.bl b) h
  | none => .bad
def neOp : Op2 := fun x y h => match eqB h x y with
  | some b => .ok (.bl (!b)) h
  | none => .bad
theorem eqB_dp {Γ : Cfg} {D : Wd} {h : AH} (R : Rel Γ.K D h) {x y : AV} {u v : V} {b : Bool} (rx : Rep Γ.K D x u) (ry : Rep Γ.K D y v) (e : eqB h x y = some b) :
    ∃ d e, Dp Γ.K D.H u d ∧ Dp Γ.K D.H v e ∧ SeqAt.shaped d = true ∧ SeqAt.shaped e = true ∧ PyData.eqv d e = b := by
  unfold eqB at e
  split at e
  · rename_i d e' h1 h2
    split at e
    · rename_i hs
      exact ⟨d, e', toPy1_dp R x u d rx h1, toPy1_dp R y v e' ry h2, hs.1, hs.2, Option.some.inj e⟩
    · cases e
  · cases e
theorem so_eq : OpS eqOp rEqD := by
  intro Γ D h x y u v Q Wx R rx ry o
  unfold eqOp at o
  split at o
  · rename_i b hb
    obtain ⟨d, e, h1, h2, h3, h4, h5⟩ := eqB_dp R rx ry hb
    subst h5
    exact ⟨d, e, h1, h2, h3, h4, fin (v := .bl _) R rfl o⟩
  · exact o.elim
theorem so_ne : OpS neOp rNeD := by
  intro Γ D h x y u v Q Wx R rx ry o
  unfold neOp at o
  split at o
  · rename_i b hb
    obtain ⟨d, e, h1, h2, h3, h4, h5⟩ := eqB_dp R rx ry hb
    subst h5
    exact ⟨d, e, h1, h2, h3, h4, fin (v := .bl _) R rfl o⟩
  · exact o.elim

/-! ### order -/
def intsOf : List AV → Option (List Int)
  | [] => some []
  | .int i :: xs => (intsOf xs).map (i :: ·)
  | _ :: _ => none
theorem intsOf_eq : ∀ {xs : List AV} {ns : List Int}, intsOf xs = some ns → xs = ns.map AV.int
  | [], ns, e => by cases e; rfl
  | x :: xs, ns, e => by
    cases x with
    | int i =>
      simp only [intsOf] at e
      cases h : intsOf xs with
      | none => rw [h] at e; cases e
      | some ms =>
        rw [h] at e
        have e2 : i :: ms = ns := Option.some.inj e
        subst e2
        rw [intsOf_eq h]; rfl
    | _ => cases e
theorem RepL.ofInts {K : PySem.W.Frag} {D : Wd} : ∀ {ns : List Int} {us : List V}, RepL K D (ns.map AV.int) us → us = ns.map V.int
  | [], us, r => r
  | n :: ns, us, r => by
    obtain ⟨u, us', e1, r1, r2⟩ := r
    subst e1
    have e : u = .int n := r1
    rw [e, RepL.ofInts r2]; rfl
def ltOp : Op2
  | .int i, .int j, h => .ok (.bl (decide (i < j))) h
  | .str i, .str j, h => .ok (.bl (decide (i.cps.toList < j.cps.toList))) h
  | .tup xs, .tup ys, h => match intsOf xs, intsOf ys with
    | some ns, some ms => .ok (.bl (HT.lexLt ns ms)) h
    | _, _ => .bad
  | _, _, _ => .bad
def rLtA (K : PySem.W.Frag) : R2 := fun x y H Q => ((∃ i j, x = .int i ∧ y = .int j ∧ Q (.bl (decide (i < j))) H) ∨ (∃ i j, x = .str i ∧ y = .str j ∧ Q (.bl (decide (i.cps.toList < j.cps.toList))) H)) ∨ rLtT K x y H Q
theorem op_ltA {X : Cx} (hu : X.A.units < cLine) : OpR X (compareOp .Lt) (rLtA X.K) := OpR.or (OpR.or op_lt op_lt_str) (op_ltT hu)
theorem so_lt : OpS ltOp rLtA := by
  intro Γ D h x y u v Q Wx R rx ry o
  cases x with
  | int i =>
    cases y with
    | int j => cases rx; cases ry; exact .inl (.inl ⟨i, j, rfl, rfl, fin (v := .bl (decide (i < j))) R rfl o⟩)
    | _ => exact o.elim
  | str i =>
    cases y with
    | str j => cases rx; cases ry; exact .inl (.inr ⟨i, j, rfl, rfl, fin (v := .bl _) R rfl o⟩)
    | _ => exact o.elim
  | tup xs =>
    cases y with
    | tup ys =>
      simp only [ltOp] at o
      split at o
      · rename_i ns ms h1 h2
        have e1 := intsOf_eq h1
        have e2 := intsOf_eq h2
        subst e1; subst e2
        obtain ⟨a, us, e1, t1, r1⟩ := rx
        obtain ⟨b, vs, e2, t2, r2⟩ := ry
        subst e1; subst e2
        have e3 := r1.ofInts
        have e4 := r2.ofInts
        subst e3; subst e4
        exact .inr ⟨a, b, ns, ms, rfl, rfl, t1.sq, t2.sq, fin (v := .bl _) R rfl o⟩
      · exact o.elim
    | _ => exact o.elim
  | _ => exact o.elim
def leOp : Op2
  | .int i, .int j, h => .ok (.bl (decide (i ≤ j))) h
  | _, _, _ => .bad
def gtOp : Op2
  | .int i, .int j, h => .ok (.bl (decide (j < i))) h
  | _, _, _ => .bad
def geOp : Op2
  | .int i, .int j, h => .ok (.bl (decide (j ≤ i))) h
  | _, _, _ => .bad
theorem so_int {op : Op2} {g : Int → Int → Bool} (h1 : ∀ i j h, op (.int i) (.int j) h = .ok (.bl (g i j)) h) (h2 : ∀ x y h, (∀ i j, x = .int i → y = .int j → False) → op x y h = .bad) : OpS op fun _ => rI0 fun i j => .bl (g i j) := by
  intro Γ D h x y u v Q Wx R rx ry o
  cases x with
  | int i =>
    cases y with
    | int j =>
      cases rx; cases ry
      rw [h1] at o
      exact ⟨i, j, rfl, rfl, fin (v := .bl (g i j)) R rfl o⟩
    | _ => rw [h2 _ _ _ (fun _ _ _ z => by cases z)] at o; exact o.elim
  | _ => rw [h2 _ _ _ (fun _ _ z _ => by cases z)] at o; exact o.elim
theorem so_le : OpS leOp fun _ => rI0 fun i j => .bl (decide (i ≤ j)) := so_int (fun _ _ _ => rfl) fun x y h n => by
  cases x <;> first | rfl | (cases y <;> first | rfl | exact (n _ _ rfl rfl).elim)
theorem so_gt : OpS gtOp fun _ => rI0 fun i j => .bl (decide (j < i)) := so_int (fun _ _ _ => rfl) fun x y h n => by
  cases x <;> first | rfl | (cases y <;> first | rfl | exact (n _ _ rfl rfl).elim)
theorem so_ge : OpS geOp fun _ => rI0 fun i j => .bl (decide (j ≤ i)) := so_int (fun _ _ _ => rfl) fun x y h n => by
  cases x <;> first | rfl | (cases y <;> first | rfl | exact (n _ _ rfl rfl).elim)
/-! ### is, in -/
def isN : AV → Bool
  | .non => true
  | _ => false
theorem isN_of {K : PySem.W.Frag} {D : Wd} {x : AV} {u : V} (r : Rep K D x u) : decide (u = .non) = isN x := by
  cases x with
  | non => cases r; rfl
  | bl _ => cases r; rfl
  | int _ => cases r; rfl
  | str _ => cases r; rfl
  | tup _ => obtain ⟨a, _, e, _⟩ := r; subst e; rfl
  | lst _ => obtain ⟨a, _, e, _⟩ := r; subst e; rfl
  | kl _ => obtain ⟨a, _, e, _⟩ := r; subst e; rfl
  | dct _ _ => obtain ⟨a, _, e, _⟩ := r; subst e; rfl
  | ref _ => obtain ⟨a, e, _⟩ := r; subst e; rfl
def isOp : Op2
  | x, .non, h => .ok (.bl (isN x)) h
  | _, _, _ => .bad
def isNotOp : Op2
  | x, .non, h => .ok (.bl (!isN x)) h
  | _, _, _ => .bad
theorem so_is : OpS isOp fun _ => fun x y H Q => y = .non ∧ Q (.bl (decide (x = .non))) H := by
  intro Γ D h x y u v Q Wx R rx ry o
  cases y with
  | non =>
    cases ry
    refine ⟨rfl, ?_⟩
    rw [isN_of rx]
    exact fin (v := .bl (isN x)) R rfl o
  | _ => cases x <;> exact o.elim
theorem so_isNot : OpS isNotOp fun _ => fun x y H Q => y = .non ∧ Q (.bl (!decide (x = .non))) H := by
  intro Γ D h x y u v Q Wx R rx ry o
  cases y with
  | non =>
    cases ry
    refine ⟨rfl, ?_⟩
    rw [isN_of rx]
    exact fin (v := .bl (!isN x)) R rfl o
  | _ => cases x <;> exact o.elim
def flatA : AV → Bool
  | .non => true
  | .bl _ => true
  | .int _ => true
  | .str _ => true
  | _ => false
def eqA : AV → AV → Bool
  | .non, .non => true
  | .bl a, .bl b => a == b
  | .bl a, .int b => (if a then 1 else 0) == b
  | .int a, .bl b => a == (if b then 1 else 0)
  | .int a, .int b => a == b
  | .str a, .str b => a == b
  | _, _ => false
def inA (x : AV) (xs : List AV) : Bool := xs.any fun y => eqA y x
/-- the items of a list or a tuple -/
def itemsOf (h : AH) : AV → Option (List AV)
  | .tup xs => some xs
  | .lst xs => some xs
  | .kl xs => some xs
  | .ref n => match h[n]? with
    | some (.lst xs) => some xs
    | _ => none
  | _ => none
theorem itemsOf_sq {Γ : Cfg} {D : Wd} {h : AH} (R : Rel Γ.K D h) {x : AV} {u : V} {xs : List AV} (r : Rep Γ.K D x u) (e : itemsOf h x = some xs) : ∃ a us, u = .ref a ∧ (SqL Γ.K D.H a us ∨ SqT Γ.K D.H a us) ∧ RepL Γ.K D xs us := by
  cases x with
  | tup ys => cases e; obtain ⟨a, us, e1, t, q⟩ := r; exact ⟨a, us, e1, .inr t.sq, q⟩
  | lst ys => cases e; obtain ⟨a, us, e1, ⟨_, t⟩, q⟩ := r; exact ⟨a, us, e1, .inl (SqL.of t), q⟩
  | kl ys => cases e; obtain ⟨a, us, e1, t, q⟩ := r; exact ⟨a, us, e1, .inl t.sq, q⟩
  | ref n =>
    simp only [itemsOf] at e
    split at e
    · rename_i ys hc
      cases e
      obtain ⟨a, e1, _, us, t, q⟩ := ref_lst R r hc
      exact ⟨a, us, e1, .inl (SqL.of t), q⟩
    · cases e
  | _ => cases e
theorem flat_of {K : PySem.W.Frag} {D : Wd} {x : AV} {u : V} (r : Rep K D x u) (f : flatA x = true) : flatV u = true := by
  cases x <;> first | (cases f; done) | (cases r; rfl)
theorem eqA_of {K : PySem.W.Frag} {D : Wd} {x y : AV} {u v : V} (r : Rep K D x u) (q : Rep K D y v) (f : flatA x = true) (g : flatA y = true) : eqV u v = eqA x y := by
  cases x <;> first | (cases f; done) | (cases r; cases y <;> first | (cases g; done) | (cases q; rfl))
theorem inA_of {K : PySem.W.Frag} {D : Wd} {x : AV} {u : V} (r : Rep K D x u) (f : flatA x = true) : ∀ {xs : List AV} {us : List V}, RepL K D xs us → xs.all flatA = true → inV u us = inA x xs ∧ us.all flatV = true
  | [], us, q, _ => by have e : us = [] := q; subst e; exact ⟨rfl, rfl⟩
  | y :: ys, us, q, g => by
    obtain ⟨v, vs, e, q1, q2⟩ := q
    subst e
    rw [List.all_cons, Bool.and_eq_true] at g
    obtain ⟨h1, h2⟩ := inA_of r f q2 g.2
    refine ⟨?_, ?_⟩
    · show (eqV v u || inV u vs) = (eqA y x || inA x ys)
      rw [h1, eqA_of q1 r g.1 f]
    · rw [List.all_cons, flat_of q1 g.1, h2]; rfl
def inOp (neg : Bool) : Op2 := fun x y h => match itemsOf h y with
  | some ys => if flatA x = true ∧ ys.all flatA = true then .ok (.bl (if neg then !inA x ys else inA x ys)) h else .bad
  | none => .bad
theorem so_in (neg : Bool) : OpS (inOp neg) fun K => rIn K neg := by
  intro Γ D h x y u v Q Wx R rx ry o
  unfold inOp at o
  split at o
  · rename_i ys hy
    split at o
    · rename_i hf
      obtain ⟨a, us, e, s, q⟩ := itemsOf_sq R ry hy
      subst e
      obtain ⟨h1, h2⟩ := inA_of rx hf.1 q hf.2
      refine ⟨a, us, rfl, s, flat_of rx hf.1, h2, ?_⟩
      rw [h1]
      exact fin (v := .bl _) R rfl o
    · exact o.elim
  · exact o.elim
end Pv
end
section
set_option Elab.async false
set_option linter.all false
set_option maxRecDepth 100000
set_option autoImplicit false
namespace Pv
open PySem PySem.Spec PyProof.Rows L2
section
variable {S : Stat} {L : Lc}

/-! ### arguments and displays -/
def evNil : EvA := fun _ _ h => .ok [] h
def itemsF : AV → Option (List AV)
  | .tup xs => some xs
  | .lst xs => some xs
  | _ => none
def evCons (f : EvE) (g : EvA) : EvA := fun G env h => (f G env h).bind fun x h1 => (g G env h1).bind fun xs h2 => .ok (x :: xs) h2
theorem sa_nil : SA S L [] evNil := by
  intro Γ G k X W so c
  refine PA.weak pa_nil fun σ H Q ⟨D, h, env, a, o⟩ => ?_
  have q := o D [] (Ext.refl D) a.rel rfl
  rw [a.hp] at q
  exact q
theorem sa_cons {e : Expr} {es : List Expr} {f : EvE} {g : EvA} (ha : SE S L e f) (hb : SA S L es g) (hs : notStar e = true) : SA S L (e :: es) (evCons f g) := by
  intro Γ G k X W so c
  refine PA.weak (pa_cons (ha Γ G k X W so c) (hb Γ G k X W so c) (starEach_cons hs)) fun σ H Q ⟨D, h, env, a, o⟩ => ?_
  refine ⟨D, h, env, a, (OutOk.bind (R1 := fun D _ => Rep Γ.K D) o).mono fun u H' ⟨D1, v1, h1, e1, x1, r1, q1, o1⟩ => ?_⟩
  refine ⟨D1, h1, env, a.next e1 x1 r1, (OutOk.bind (R1 := fun D _ => RepL Γ.K D) o1).mono fun u2 H2 ⟨D2, v2, h2, e2, x2, r2, q2, o2⟩ => ?_⟩
  have q := o2 D2 (u :: u2) (Ext.refl D2) r2 (RepL.cons (Rep.ext x2 _ _ q1) q2)
  rw [e2] at q
  exact q
/-- *e: what stands in e -/
def evStar (f : EvE) (g : EvA) : EvA := fun G env h => (f G env h).bind fun x h1 => match itemsF x with
  | some ys => (g G env h1).bind fun xs h2 => .ok (ys ++ xs) h2
  | none => .bad
theorem itemsF_sq {Γ : Cfg} {D : Wd} {x : AV} {u : V} {xs : List AV} (r : Rep Γ.K D x u) (e : itemsF x = some xs) : ∃ a us, u = .ref a ∧ (SqT Γ.K D.H a us ∨ SqL Γ.K D.H a us) ∧ RepL Γ.K D xs us := by
  cases x with
  | tup ys =>
    cases e
    obtain ⟨a, us, e1, t, q⟩ := r
    exact ⟨a, us, e1, .inl t.sq, q⟩
  | lst ys =>
    cases e
    obtain ⟨a, us, e1, ⟨_, t⟩, q⟩ := r
    exact ⟨a, us, e1, .inr (SqL.of t), q⟩
  | _ => cases e
theorem sa_star {e : Expr} {es : List Expr} {f : EvE} {g : EvA} {p : Pos} (ha : SE S L e f) (hb : SA S L es g) : SA S L (.Starred e p :: es) (evStar f g) := by
  intro Γ G k X W so c
  refine PA.weak (StX.pa_star (ha Γ G k X W so c) (hb Γ G k X W so c)) fun σ H Q ⟨D, h, env, a, o⟩ => ?_
  refine ⟨D, h, env, a, (OutOk.bind (R1 := fun D _ => Rep Γ.K D) o).mono fun u H' ⟨D1, v1, h1, e1, x1, r1, q1, o1⟩ => ?_⟩
  rw [c.K]
  split at o1
  · rename_i ys hys
    obtain ⟨b, us, e2, sq, q⟩ := itemsF_sq q1 hys
    rw [e1] at sq
    refine ⟨b, us, e2, sq, D1, h1, env, a.next e1 x1 r1, (OutOk.bind (R1 := fun D _ => RepL Γ.K D) o1).mono fun u2 H2 ⟨D2, v2, h2, e3, x2, r2, q2, o2⟩ => ?_⟩
    have q := o2 D2 (us ++ u2) (Ext.refl D2) r2 (RepL.append (RepL.ext x2 _ _ q) q2)
    rw [e3] at q
    exact q
  · exact o1.elim
theorem line1000 {n : Nat} (h : n ≤ 1000) : n ≤ sizeLine := by rw [sizeLine_eq]; omega
/-- what comes of the arguments -/
def evOf (p : List AV → AH → Out AV) (f : EvA) : EvE := fun G env h => (f G env h).bind p
def OpN (p : List AV → AH → Out AV) (r : PySem.W.Frag → List V → Hp → VK → Prop) : Prop := ∀ (Γ : Cfg) (D : Wd) (h : AH) (xs : List AV) (us : List V) (Q : VK) (Wx : Value → Option Addr → Hp → Prop), Rel Γ.K D h → RepL Γ.K D xs us →
  OutOk Γ D (p xs h) (fun D _ => Rep Γ.K D) Q Wx → r Γ.K us D.H Q
theorem tN_of {Γ : Cfg} {W : WX} {p : List AV → AH → Out AV} {r : PySem.W.Frag → List V → Hp → VK → Prop} {f : EvA} {G : GT} (hs : OpN p r) (σ : L2.St) (H : Hp) (Q : VK) (o : tEv Γ W (evOf p f G) σ H Q) : tAv Γ W (f G) σ H fun us H1 => r Γ.K us H1 Q := by
  obtain ⟨D, h, env, a, o⟩ := o
  refine ⟨D, h, env, a, (OutOk.bind (R1 := fun D _ => RepL Γ.K D) o).mono fun u H' ⟨D1, v1, h1, e1, x1, r1, q1, o1⟩ => ?_⟩
  have q := hs Γ D1 h1 v1 u Q _ r1 q1 o1
  rw [e1] at q
  exact q
def opTup : List AV → AH → Out AV := fun xs h => if xs.length ≤ 1000 then .ok (.tup xs) h else .bad
def opLst : List AV → AH → Out AV := fun xs h => if xs.length ≤ 1000 then .ok (.lst xs) h else .bad
def opCel : List AV → AH → Out AV := fun xs h => if xs.length ≤ 1000 ∧ pureL xs = true then .ok (.ref h.length) (h ++ [.lst xs]) else .bad
theorem on_tup : OpN opTup fun _ xs H Q => xs.length ≤ sizeLine ∧ ∀ p, H p = none → Q (.ref p) (upd H p (.tup xs)) := by
  intro Γ D h xs us Q Wx R r o
  unfold opTup at o
  split at o
  · rename_i hz
    exact ⟨by rw [r.length]; exact line1000 hz, fin_tup R r o⟩
  · exact o.elim
theorem on_lst : OpN opLst fun _ xs H Q => xs.length ≤ sizeLine ∧ ∀ p, H p = none → Q (.ref p) (upd H p (.lst xs)) := by
  intro Γ D h xs us Q Wx R r o
  unfold opLst at o
  split at o
  · rename_i hz
    exact ⟨by rw [r.length]; exact line1000 hz, fin_lst R r o⟩
  · exact o.elim
theorem on_cel : OpN opCel fun _ xs H Q => xs.length ≤ sizeLine ∧ ∀ p, H p = none → Q (.ref p) (upd H p (.lst xs)) := by
  intro Γ D h xs us Q Wx R r o
  unfold opCel at o
  split at o
  · rename_i hz
    exact ⟨by rw [r.length]; exact line1000 hz.1, fin_cel R hz.2 r o⟩
  · exact o.elim
theorem se_tup {es : List Expr} {f : EvA} {pos : Pos} {j : Nat} (ha : SA S L es f) : SE S L (.Tuple es j pos) (evOf opTup f) := by
  intro Γ G k X W so c
  exact PE.weak (pe_tup (ha Γ G k X W so c)) fun σ H Q o => tN_of on_tup σ H Q o
theorem se_lst {es : List Expr} {f : EvA} {pos : Pos} (ha : SA S L es f) : SE S L (.List es pos) (evOf opLst f) := by
  intro Γ G k X W so c
  exact PE.weak (pe_lst (ha Γ G k X W so c)) fun σ H Q o => tN_of on_lst σ H Q o
theorem se_cel {es : List Expr} {f : EvA} {pos : Pos} (ha : SA S L es f) : SE S L (.List es pos) (evOf opCel f) := by
  intro Γ G k X W so c
  exact PE.weak (pe_lst (ha Γ G k X W so c)) fun σ H Q o => tN_of on_cel σ H Q o

/-! ### calls of the program's own defs -/
def opCall (n i : Nat) (G : GT) : List AV → AH → Out AV := fun xs h => if xs.length = n then G i xs h else .bad
def evCall (n i : Nat) (f : EvA) : EvE := fun G env h => (f G env h).bind (opCall n i G)
theorem fn_runs {X : Cx} {σ : L2.St} {ps : List Str} {sp : Sp} {k : Nat} {f : Addr} {fd : FuncData} {E : XK} {pins : List (Addr × Obj)} {H : Hp} {s : Shared} {Q : VK} {us : List Value} {vs : List V}
    (F : FnG X.prog X.w X.K X.mg X.base (L2.CX X.prog X.w) k f fd ps sp) (hg : X.A.guards = some []) (hr : Room k X.A) (hb : Binds X.K fd ps []) (hx : PassesAt (L2.CX X.prog X.w) X σ E) (I : Inv X pins σ H s) (r : Vals vs us) (h : sp vs H Q E) :
    wpAny (model X.prog X.w) X.A (call (.ref f) us) (EP X pins σ Q) X.xe s := by
  have hl := F.arity _ _ _ _ h
  have e0 : us ++ [] = us := List.append_nil us
  have bt := hb s us I.kIn (by rw [e0, ← r.length]; exact hl)
  rw [e0] at bt
  refine wpAny_call (codeAny_mono (F.go X.A X.stack s H _ us vs Q E hg hr I.env0 bt r h) fun r s' hq => ?_)
  match r, hq with
  | .error e, hq => exact hx pins H s e s' I hq
  | .ok (.ret u), hq => exact I.after hq
theorem se_call {x : Str} {i n : Nat} {e : Expr} {es : List Expr} {f : EvA} {p pos : Pos} (hx : S.fns.lookup x = some (i, n)) (hg : glB L.sc x = true) (hn : okName x = true) (ha : SA S L (e :: es) f) (hst : (e :: es).all notStar = true) (hh : L.hot = false) :
    SE S L (.Call (.Name x p) (e :: es) [] pos) (evCall n i f) := by
  intro Γ G k X W so c
  obtain ⟨a, fd, ps, e1, e2, e3, F⟩ := so.fn x i n hx
  rw [List.all_cons, Bool.and_eq_true] at hst
  refine ⟨fun pins s σ H Q I o => ?_⟩
  refine wpAny_Call_Name_kw (ld_glob I (gl_of c hg) (by rw [c.mg]; exact e1) ?_ (okName1 hn))
  obtain ⟨D, h, env, ata, o⟩ := o
  refine PySem.W.callWith_K (h₀ := X.base) I.ok.mod.kin (by rw [c.K]; exact e2) (thn ((ha Γ G k X W so c).run pos pins s σ H (fun us H1 => spOf Γ n (G i) us H1 Q (WE W σ)) I ?_) fun us s1 ⟨vs, H1, I1, r, q⟩ => ⟨I1.kIn, ?_⟩) (starEach_cons hst.1) (starEach_plain hst.2)
  · refine ⟨D, h, env, ata, (OutOk.bind (R1 := fun D _ => RepL Γ.K D) o).mono fun u H' ⟨D1, v1, h1, e1, x1, r1, q1, o1⟩ => ?_⟩
    unfold opCall at o1
    split at o1
    · rename_i hl
      exact ⟨by rw [q1.length]; exact hl, D1, h1, v1, e1, r1, q1, o1⟩
    · exact o1.elim
  · have F' : FnG X.prog X.w X.K X.mg X.base (L2.CX X.prog X.w) k a fd ps (spOf Γ n (G i)) := by rw [c.prog, c.w, c.K, c.mg, c.base]; exact F
    exact fn_runs F' c.grd (c.room hh) (by rw [c.K]; exact e3) (passAt c.takes σ) I1 r q

/-! ### built-ins -/
theorem se_blt {x : Str} {id : String} {p0 : List AV → AH → Out AV} {r : PySem.W.Frag → List V → Hp → VK → Prop} {e : Expr} {es : List Expr} {f : EvA} {p pos : Pos} (hc : ∀ X : Cx, X.A.units + 200 < cLine → X.A.guards = some [] → (L.hot = false → X.calm = true) → CallR X (.builtin id) (r X.K)) (hs : OpN p0 r)
    (hx : x ∈ S.free) (hv : bootBuiltins x = some (.builtin id)) (hg : glB L.sc x = true) (hn : okName x = true) (ha : SA S L (e :: es) f) (hst : (e :: es).all notStar = true) :
    SE S L (.Call (.Name x p) (e :: es) [] pos) (evOf p0 f) := by
  intro Γ G k X W so c
  rw [List.all_cons, Bool.and_eq_true] at hst
  refine PE.weak (pe_callB (hc X c.un c.grd c.calm) (gl_of c hg) (by rw [c.mg]; exact so.free x hx) hv (ha Γ G k X W so c) (okName3 hn) (okName1 hn) (starEach_cons hst.1) (starEach_plain hst.2)) fun σ H Q o => ?_
  have q := tN_of hs σ H Q o
  rw [← c.K] at q
  exact q
theorem se_ty {x : Str} {T : String} {p0 : List AV → AH → Out AV} {r : PySem.W.Frag → List V → Hp → VK → Prop} {e : Expr} {es : List Expr} {f : EvA} {p pos : Pos} (hc : ∀ X : Cx, X.A.units + 200 < cLine → X.A.guards = some [] → (L.hot = false → X.calm = true) → CallR X (.type T) (r X.K)) (hs : OpN p0 r)
    (hx : x ∈ S.free) (hv : bootBuiltins x = some (.type T)) (hg : glB L.sc x = true) (hn : okName x = true) (ha : SA S L (e :: es) f) (hst : (e :: es).all notStar = true) :
    SE S L (.Call (.Name x p) (e :: es) [] pos) (evOf p0 f) := by
  intro Γ G k X W so c
  rw [List.all_cons, Bool.and_eq_true] at hst
  refine PE.weak (pe_callTy (hc X c.un c.grd c.calm) (gl_of c hg) (by rw [c.mg]; exact so.free x hx) hv (ha Γ G k X W so c) (okName3 hn) (okName1 hn) (starEach_cons hst.1) (starEach_plain hst.2)) fun σ H Q o => ?_
  have q := tN_of hs σ H Q o
  rw [← c.K] at q
  exact q
theorem se_gcd {x : Str} {p0 : List AV → AH → Out AV} {e : Expr} {es : List Expr} {f : EvA} {p pos : Pos} (hs : OpN p0 fun _ => rGcd)
    (hx : x ∈ S.gcds) (hg : glB L.sc x = true) (hn : okName x = true) (ha : SA S L (e :: es) f) (hst : (e :: es).all notStar = true) : SE S L (.Call (.Name x p) (e :: es) [] pos) (evOf p0 f) := by
  intro Γ G k X W so c
  rw [List.all_cons, Bool.and_eq_true] at hst
  exact PE.weak (pe_callBfun cr_gcd (gl_of c hg) (by rw [c.mg]; exact so.gcd x hx) (ha Γ G k X W so c) (okName1 hn) (starEach_cons hst.1) (starEach_plain hst.2)) fun σ H Q o => tN_of hs σ H Q o
def opLen : List AV → AH → Out AV := fun xs h => match xs with
  | [.str x] => if x.length ≤ sizeLine then .ok (.int x.length) h else .bad
  | [.dct ks xs] => .ok (.int ks.length) h
  | [x] => match itemsOf h x with
    | some xs => .ok (.int xs.length) h
    | none => .bad
  | _ => .bad
def rLenA (K : PySem.W.Frag) : List V → Hp → VK → Prop := fun xs H Q => (∃ x n, xs = [x] ∧ LenV K x H n ∧ Q (.int n) H) ∨ (∃ a kvs, xs = [V.ref a] ∧ H a = some (.dK kvs) ∧ Q (.int kvs.length) H)
theorem call_lenA {X : Cx} : CallR X (.builtin "len") (rLenA X.K) := CallR.or call_len call_lenD
theorem RepL.one {K : PySem.W.Frag} {D : Wd} {x : AV} {us : List V} (r : RepL K D [x] us) : ∃ u, us = [u] ∧ Rep K D x u := by
  obtain ⟨u, t, e, r1, r2⟩ := r
  have e2 : t = [] := r2
  exact ⟨u, by rw [e, e2], r1⟩
theorem RepL.two {K : PySem.W.Frag} {D : Wd} {x y : AV} {us : List V} (r : RepL K D [x, y] us) : ∃ u v, us = [u, v] ∧ Rep K D x u ∧ Rep K D y v := by
  obtain ⟨u, t, e, r1, r2⟩ := r
  obtain ⟨v, e2, r3⟩ := RepL.one r2
  exact ⟨u, v, by rw [e, e2], r1, r3⟩
theorem on_len : OpN opLen rLenA := by
  intro Γ D h xs us Q Wx R r o
  unfold opLen at o
  split at o
  · obtain ⟨u, e, ru⟩ := r.one
    subst e
    cases ru
    split at o
    · rename_i hz
      exact .inl ⟨_, _, rfl, ⟨hz, rfl⟩, fin (v := .int _) R rfl o⟩
    · exact o.elim
  · obtain ⟨u, e, ru⟩ := r.one
    subst e
    rename_i ks ys
    obtain ⟨a, vs, e1, ⟨_, t⟩, l, q⟩ := ru
    subst e1
    refine .inr ⟨a, _, rfl, t, ?_⟩
    have e2 : (ks.zip vs).length = ks.length := by rw [List.length_zip, l, Nat.min_self]
    rw [e2]
    exact fin (v := .int ks.length) R rfl o
  · rename_i x _ _
    obtain ⟨u, e, ru⟩ := r.one
    subst e
    split at o
    · rename_i ys hy
      obtain ⟨a, vs, e1, t, q⟩ := itemsOf_sq R ru hy
      subst e1
      refine .inl ⟨_, ys.length, rfl, ?_, fin (v := .int ys.length) R rfl o⟩
      rcases t with t | t
      · exact .inl ⟨vs, t, q.length.symm⟩
      · exact .inr ⟨vs, t, q.length.symm⟩
    · exact o.elim
  · exact o.elim
def opAbs : List AV → AH → Out AV := fun xs h => match xs with
  | [.int i] => .ok (.int (if i < 0 then -i else i)) h
  | _ => .bad
def opMax : List AV → AH → Out AV := fun xs h => match xs with
  | [.int i, .int j] => .ok (.int (if j > i then j else i)) h
  | _ => .bad
def opMin : List AV → AH → Out AV := fun xs h => match xs with
  | [.int i, .int j] => .ok (.int (if j < i then j else i)) h
  | _ => .bad
def opInt : List AV → AH → Out AV := fun xs h => match xs with
  | [.int i] => .ok (.int i) h
  | [.bl b] => .ok (.int (if b then 1 else 0)) h
  | _ => .bad
def opBool : List AV → AH → Out AV := fun xs h => match xs with
  | [.int i] => .ok (.bl (i != 0)) h
  | [.bl b] => .ok (.bl b) h
  | _ => .bad
def opGcd : List AV → AH → Out AV := fun xs h => match xs with
  | [.int i, .int j] => .ok (.int ((Nat.gcd i.natAbs j.natAbs : Nat) : Int)) h
  | _ => .bad
theorem on_abs : OpN opAbs fun _ xs H Q => ∃ i, xs = [.int i] ∧ Q (.int (if i < 0 then -i else i)) H := by
  intro Γ D h xs us Q Wx R r o
  unfold opAbs at o
  split at o
  · obtain ⟨u, e, ru⟩ := r.one; subst e; cases ru; exact ⟨_, rfl, fin (v := .int _) R rfl o⟩
  · exact o.elim
theorem on_int2 {p : List AV → AH → Out AV} {g : Int → Int → Int} (h1 : ∀ i j h, p [.int i, .int j] h = .ok (.int (g i j)) h) (h2 : ∀ xs h, (∀ i j, xs = [.int i, .int j] → False) → p xs h = .bad) :
    OpN p fun _ xs H Q => ∃ i j, xs = [.int i, .int j] ∧ Q (.int (g i j)) H := by
  intro Γ D h xs us Q Wx R r o
  by_cases hx : ∃ i j, xs = [.int i, .int j]
  · obtain ⟨i, j, e⟩ := hx
    subst e
    obtain ⟨u, v, e, r1, r2⟩ := r.two
    subst e
    cases r1; cases r2
    rw [h1] at o
    exact ⟨i, j, rfl, fin (v := .int _) R rfl o⟩
  · rw [h2 xs h fun i j e => hx ⟨i, j, e⟩] at o
    exact o.elim
theorem on_max : OpN opMax fun _ xs H Q => ∃ i j, xs = [.int i, .int j] ∧ Q (.int (if j > i then j else i)) H := on_int2 (fun _ _ _ => rfl) fun xs h n => by
  unfold opMax; split
  · exact (n _ _ rfl).elim
  · rfl
theorem on_min : OpN opMin fun _ xs H Q => ∃ i j, xs = [.int i, .int j] ∧ Q (.int (if j < i then j else i)) H := on_int2 (fun _ _ _ => rfl) fun xs h n => by
  unfold opMin; split
  · exact (n _ _ rfl).elim
  · rfl
theorem on_gcd : OpN opGcd fun _ => rGcd := on_int2 (fun _ _ _ => rfl) fun xs h n => by
  unfold opGcd; split
  · exact (n _ _ rfl).elim
  · rfl
theorem on_int : OpN opInt fun _ xs H Q => (∃ i, xs = [.int i] ∧ Q (.int i) H) ∨ ∃ k, xs = [.bl k] ∧ Q (.int (if k then 1 else 0)) H := by
  intro Γ D h xs us Q Wx R r o
  unfold opInt at o
  split at o
  · obtain ⟨u, e, ru⟩ := r.one; subst e; cases ru; exact .inl ⟨_, rfl, fin (v := .int _) R rfl o⟩
  · obtain ⟨u, e, ru⟩ := r.one; subst e; cases ru; exact .inr ⟨_, rfl, fin (v := .int _) R rfl o⟩
  · exact o.elim
theorem on_bool : OpN opBool fun _ xs H Q => (∃ i, xs = [.int i] ∧ Q (.bl (i != 0)) H) ∨ ∃ k, xs = [.bl k] ∧ Q (.bl k) H := by
  intro Γ D h xs us Q Wx R r o
  unfold opBool at o
  split at o
  · obtain ⟨u, e, ru⟩ := r.one; subst e; cases ru; exact .inl ⟨_, rfl, fin (v := .bl _) R rfl o⟩
  · obtain ⟨u, e, ru⟩ := r.one; subst e; cases ru; exact .inr ⟨_, rfl, fin (v := .bl _) R rfl o⟩
  · exact o.elim
def opTuple : List AV → AH → Out AV := fun xs h => match xs with
  | [x] => match itemsOf h x with
    | some xs => .ok (.tup xs) h
    | none => .bad
  | _ => .bad
def opList : List AV → AH → Out AV := fun xs h => match xs with
  | [x] => match itemsOf h x with
    | some xs => .ok (.lst xs) h
    | none => .bad
  | _ => .bad
def opListC : List AV → AH → Out AV := fun xs h => match xs with
  | [x] => match itemsOf h x with
    | some xs => if pureL xs = true then .ok (.ref h.length) (h ++ [.lst xs]) else .bad
    | none => .bad
  | _ => .bad
theorem on_tuple : OpN opTuple fun K xs H Q => ∃ p ys, xs = [.ref p] ∧ ((SqL K H p ys ∧ ∀ l, H l = none → Q (.ref l) (upd H l (.tup ys))) ∨ (SqT K H p ys ∧ Q (.ref p) H)) := by
  intro Γ D h xs us Q Wx R r o
  unfold opTuple at o
  split at o
  · rename_i x
    split at o
    · rename_i ys hy
      obtain ⟨u, e, ru⟩ := r.one
      subst e
      cases x with
      | tup zs =>
        cases hy
        obtain ⟨a, vs, e1, t, q⟩ := id ru
        subst e1
        exact ⟨a, vs, rfl, .inr ⟨t.sq, fin (v := .tup _) R ru o⟩⟩
      | lst zs =>
        cases hy
        obtain ⟨a, vs, e1, ⟨_, t⟩, q⟩ := ru
        subst e1
        exact ⟨a, vs, rfl, .inl ⟨SqL.of t, fin_tup R q o⟩⟩
      | kl zs =>
        cases hy
        obtain ⟨a, vs, e1, t, q⟩ := ru
        subst e1
        exact ⟨a, vs, rfl, .inl ⟨t.sq, fin_tup R q o⟩⟩
      | ref n =>
        simp only [itemsOf] at hy
        split at hy
        · rename_i zs hc
          cases hy
          obtain ⟨a, e1, _, vs, t, q⟩ := ref_lst R ru hc
          subst e1
          exact ⟨a, vs, rfl, .inl ⟨SqL.of t, fin_tup R q o⟩⟩
        · cases hy
      | _ => cases hy
    · exact o.elim
  · exact o.elim
theorem on_list : OpN opList fun K xs H Q => ∃ p ys, xs = [.ref p] ∧ (SqL K H p ys ∨ SqT K H p ys) ∧ ∀ l, H l = none → Q (.ref l) (upd H l (.lst ys)) := by
  intro Γ D h xs us Q Wx R r o
  unfold opList at o
  split at o
  · rename_i x
    split at o
    · rename_i ys hy
      obtain ⟨u, e, ru⟩ := r.one
      subst e
      obtain ⟨a, vs, e1, t, q⟩ := itemsOf_sq R ru hy
      subst e1
      exact ⟨a, vs, rfl, t, fin_lst R q o⟩
    · exact o.elim
  · exact o.elim
theorem on_listC : OpN opListC fun K xs H Q => ∃ p ys, xs = [.ref p] ∧ (SqL K H p ys ∨ SqT K H p ys) ∧ ∀ l, H l = none → Q (.ref l) (upd H l (.lst ys)) := by
  intro Γ D h xs us Q Wx R r o
  unfold opListC at o
  split at o
  · rename_i x
    split at o
    · rename_i ys hy
      obtain ⟨u, e, ru⟩ := r.one
      subst e
      obtain ⟨a, vs, e1, t, q⟩ := itemsOf_sq R ru hy
      subst e1
      split at o
      · rename_i hpu
        exact ⟨a, vs, rfl, t, fin_cel R hpu q o⟩
      · exact o.elim
    · exact o.elim
  · exact o.elim
def blsOf : List AV → Option (List Bool)
  | [] => some []
  | .bl i :: xs => (blsOf xs).map (i :: ·)
  | _ :: _ => none
theorem RepL.ofBls {K : PySem.W.Frag} {D : Wd} : ∀ {xs : List AV} {bs : List Bool} {us : List V}, blsOf xs = some bs → RepL K D xs us → us = bs.map V.bl
  | [], bs, us, e, r => by cases e; exact r
  | x :: xs, bs, us, e, r => by
    obtain ⟨u, us', e1, r1, r2⟩ := r
    subst e1
    cases x with
    | bl i =>
      simp only [blsOf] at e
      cases h : blsOf xs with
      | none => rw [h] at e; cases e
      | some ms =>
        rw [h] at e
        have e2 : i :: ms = bs := Option.some.inj e
        subst e2
        have e3 : u = .bl i := r1
        rw [e3, RepL.ofBls h r2]; rfl
    | _ => cases e
/-- a list that is read -/
def lstOf (h : AH) : AV → Option (List AV)
  | .lst xs => some xs
  | .kl xs => some xs
  | .ref n => match h[n]? with
    | some (.lst xs) => some xs
    | _ => none
  | _ => none
theorem lstOf_sq {Γ : Cfg} {D : Wd} {h : AH} (R : Rel Γ.K D h) {x : AV} {u : V} {xs : List AV} (r : Rep Γ.K D x u) (e : lstOf h x = some xs) : ∃ a us, u = .ref a ∧ SqL Γ.K D.H a us ∧ RepL Γ.K D xs us := by
  cases x with
  | lst ys => cases e; obtain ⟨a, us, e1, ⟨_, t⟩, q⟩ := r; exact ⟨a, us, e1, SqL.of t, q⟩
  | kl ys => cases e; obtain ⟨a, us, e1, t, q⟩ := r; exact ⟨a, us, e1, t.sq, q⟩
  | ref n =>
    simp only [lstOf] at e
    split at e
    · rename_i ys hc
      cases e
      obtain ⟨a, e1, _, us, t, q⟩ := ref_lst R r hc
      exact ⟨a, us, e1, SqL.of t, q⟩
    · cases e
  | _ => cases e
def opBls (g : List Bool → Bool) : List AV → AH → Out AV := fun xs h => match xs with
  | [x] => match (lstOf h x).bind blsOf with
    | some bs => .ok (.bl (g bs)) h
    | none => .bad
  | _ => .bad
theorem on_bls (g : List Bool → Bool) : OpN (opBls g) fun K xs H Q => ∃ (a : Addr) (bs : List Bool), xs = [V.ref a] ∧ SqL K H a (bs.map V.bl) ∧ Q (.bl (g bs)) H := by
  intro Γ D h xs us Q Wx R r o
  unfold opBls at o
  split at o
  · rename_i x
    split at o
    · rename_i bs hb
      obtain ⟨ys, hy, hb⟩ := Option.bind_eq_some_iff.mp hb
      obtain ⟨u, e, ru⟩ := r.one
      subst e
      obtain ⟨a, vs, e1, t, q⟩ := lstOf_sq R ru hy
      subst e1
      have e2 := RepL.ofBls hb q
      subst e2
      exact ⟨a, bs, rfl, t, fin (v := .bl _) R rfl o⟩
    · exact o.elim
  · exact o.elim
def opSum : List AV → AH → Out AV := fun xs h => match xs with
  | [x] => match (lstOf h x).bind intsOf with
    | some ns => .ok (.int ns.sum) h
    | none => .bad
  | _ => .bad
theorem on_sum : OpN opSum rSum := by
  intro Γ D h xs us Q Wx R r o
  unfold opSum at o
  split at o
  · rename_i x
    split at o
    · rename_i bs hb
      obtain ⟨ys, hy, hb⟩ := Option.bind_eq_some_iff.mp hb
      obtain ⟨u, e, ru⟩ := r.one
      subst e
      obtain ⟨a, vs, e1, t, q⟩ := lstOf_sq R ru hy
      subst e1
      have e3 := intsOf_eq hb
      subst e3
      have e2 := q.ofInts
      subst e2
      exact ⟨a, bs, rfl, t, fin (v := .int _) R rfl o⟩
    · exact o.elim
  · exact o.elim
end
end Pv
end
section
set_option Elab.async false
set_option linter.all false
set_option maxRecDepth 100000
set_option autoImplicit false
namespace Pv
open PySem PySem.Spec PyProof.Rows L2
section
variable {S : Stat} {L : Lc}

/-! ### one operand -/
def evOf1 (p : AV → AH → Out AV) (f : EvE) : EvE := fun G env h => (f G env h).bind p
def negOp : AV → AH → Out AV := fun x h => match x with
  | .int i => .ok (.int (-i)) h
  | _ => .bad
def notOp : AV → AH → Out AV := fun x h => match x with
  | .bl b => .ok (.bl (!b)) h
  | _ => .bad
theorem se_neg {a : Expr} {f : EvE} {pos : Pos} (ha : SE S L a f) : SE S L (.UnaryOp .USub a pos) (evOf1 negOp f) := by
  intro Γ G k X W so c
  refine PE.weak (pe_un un_neg (ha Γ G k X W so c)) fun σ H Q ⟨D, h, env, a, o⟩ => ?_
  refine ⟨D, h, env, a, (OutOk.bind (R1 := fun D _ => Rep Γ.K D) o).mono fun u H' ⟨D1, v1, h1, e1, x1, r1, q1, o1⟩ => ?_⟩
  unfold negOp at o1
  split at o1
  · rename_i i
    cases q1
    have q := fin (v := .int (-i)) r1 rfl o1
    rw [e1] at q
    exact ⟨i, rfl, q⟩
  · exact o1.elim
theorem se_not {a : Expr} {f : EvE} {pos : Pos} (ha : SE S L a f) : SE S L (.UnaryOp .Not a pos) (evOf1 notOp f) := by
  intro Γ G k X W so c
  refine PE.weak (pe_not (ha Γ G k X W so c)) fun σ H Q ⟨D, h, env, a, o⟩ => ?_
  refine ⟨D, h, env, a, (OutOk.bind (R1 := fun D _ => Rep Γ.K D) o).mono fun u H' ⟨D1, v1, h1, e1, x1, r1, q1, o1⟩ => ?_⟩
  unfold notOp at o1
  split at o1
  · rename_i b
    cases q1
    have q := fin (v := .bl (!b)) r1 rfl o1
    rw [e1] at q
    exact ⟨b, rfl, q⟩
  · exact o1.elim

/-! ### and, or: values -/
def evAnd (f g : EvE) : EvE := fun G env h => (f G env h).bind fun x h1 => match x with
  | .bl b => if b = true then g G env h1 else .ok (.bl false) h1
  | _ => .bad
def evOr (f g : EvE) : EvE := fun G env h => (f G env h).bind fun x h1 => match x with
  | .bl b => if b = true then .ok (.bl true) h1 else g G env h1
  | _ => .bad
theorem se_one {op : BoolOp} {a : Expr} {f : EvE} {pos : Pos} (ha : SE S L a f) : SE S L (.BoolOp op [a] pos) f := by
  intro Γ G k X W so c
  exact pe_one (ha Γ G k X W so c)
theorem se_and {a b : Expr} {es : List Expr} {f g : EvE} {pos : Pos} (ha : SE S L a f) (hb : SE S L (.BoolOp .And (b :: es) pos) g) : SE S L (.BoolOp .And (a :: b :: es) pos) (evAnd f g) := by
  intro Γ G k X W so c
  refine PE.weak (pe_and (ha Γ G k X W so c) (hb Γ G k X W so c)) fun σ H Q ⟨D, h, env, a, o⟩ => ?_
  refine ⟨D, h, env, a, (OutOk.bind (R1 := fun D _ => Rep Γ.K D) o).mono fun u H' ⟨D1, v1, h1, e1, x1, r1, q1, o1⟩ => ?_⟩
  split at o1
  · rename_i b
    cases q1
    cases b with
    | true => exact ⟨true, rfl, ⟨D1, h1, env, a.next e1 x1 r1, o1⟩⟩
    | false =>
      have q := fin (v := .bl false) r1 rfl o1
      rw [e1] at q
      exact ⟨false, rfl, q⟩
  · exact o1.elim
theorem se_or {a b : Expr} {es : List Expr} {f g : EvE} {pos : Pos} (ha : SE S L a f) (hb : SE S L (.BoolOp .Or (b :: es) pos) g) : SE S L (.BoolOp .Or (a :: b :: es) pos) (evOr f g) := by
  intro Γ G k X W so c
  refine PE.weak (pe_or (ha Γ G k X W so c) (hb Γ G k X W so c)) fun σ H Q ⟨D, h, env, a, o⟩ => ?_
  refine ⟨D, h, env, a, (OutOk.bind (R1 := fun D _ => Rep Γ.K D) o).mono fun u H' ⟨D1, v1, h1, e1, x1, r1, q1, o1⟩ => ?_⟩
  split at o1
  · rename_i b
    cases q1
    cases b with
    | true =>
      have q := fin (v := .bl true) r1 rfl o1
      rw [e1] at q
      exact ⟨true, rfl, q⟩
    | false => exact ⟨false, rfl, ⟨D1, h1, env, a.next e1 x1 r1, o1⟩⟩
  · exact o1.elim

/-! ### tests -/
def SW (S : Stat) (L : Lc) (e : Expr) (f : EvT) : Prop := ∀ (Γ : Cfg) (G : GT) (k : Nat) (X : Cx) (W : WX), StatOk Γ S G k → CtxP Γ k L X W → PW X e (tTv Γ W (f G))
theorem SW.st {e : Expr} {f : EvT} (h : SW S L e f) : ST S L e f := fun Γ G k X W so c => (h Γ G k X W so c).pt
def etAnd (f g : EvT) : EvT := fun G env h => (f G env h).bind fun b h1 => if b = true then g G env h1 else .ok false h1
def etOr (f g : EvT) : EvT := fun G env h => (f G env h).bind fun b h1 => if b = true then .ok true h1 else g G env h1
def etNot (f : EvT) : EvT := fun G env h => (f G env h).bind fun b h1 => .ok (!b) h1
theorem sw_one {op : BoolOp} {a : Expr} {f : EvT} {pos : Pos} (ha : ST S L a f) : SW S L (.BoolOp op [a] pos) f := by
  intro Γ G k X W so c
  cases op
  · exact pw_and1 (ha Γ G k X W so c)
  · exact pw_or1 (ha Γ G k X W so c)
theorem finB {Γ : Cfg} {D : Wd} {h : AH} {b : Bool} {Q : Bool → Hp → Prop} {Wx : Value → Option Addr → Hp → Prop} (R : Rel Γ.K D h) (o : OutOk Γ D (.ok b h) (fun _ _ (b c : Bool) => b = c) Q Wx) : Q b D.H := o D b (Ext.refl D) R rfl
theorem sw_and {a b : Expr} {es : List Expr} {f g : EvT} {pos : Pos} (ha : ST S L a f) (hb : SW S L (.BoolOp .And (b :: es) pos) g) : SW S L (.BoolOp .And (a :: b :: es) pos) (etAnd f g) := by
  intro Γ G k X W so c
  refine PW.weak (pw_and (ha Γ G k X W so c) (hb Γ G k X W so c)) fun σ H Q ⟨D, h, env, a, o⟩ => ?_
  refine ⟨D, h, env, a, (OutOk.bind (R1 := fun _ _ (b c : Bool) => b = c) o).mono fun u H' ⟨D1, v1, h1, e1, x1, r1, q1, o1⟩ => ?_⟩
  subst q1
  cases v1 with
  | true => exact ⟨D1, h1, env, a.next e1 x1 r1, o1⟩
  | false =>
    have q := finB r1 o1
    rw [e1] at q
    exact q
theorem sw_or {a b : Expr} {es : List Expr} {f g : EvT} {pos : Pos} (ha : ST S L a f) (hb : SW S L (.BoolOp .Or (b :: es) pos) g) : SW S L (.BoolOp .Or (a :: b :: es) pos) (etOr f g) := by
  intro Γ G k X W so c
  refine PW.weak (pw_or (ha Γ G k X W so c) (hb Γ G k X W so c)) fun σ H Q ⟨D, h, env, a, o⟩ => ?_
  refine ⟨D, h, env, a, (OutOk.bind (R1 := fun _ _ (b c : Bool) => b = c) o).mono fun u H' ⟨D1, v1, h1, e1, x1, r1, q1, o1⟩ => ?_⟩
  subst q1
  cases v1 with
  | false => exact ⟨D1, h1, env, a.next e1 x1 r1, o1⟩
  | true =>
    have q := finB r1 o1
    rw [e1] at q
    exact q
theorem st_not {a : Expr} {f : EvT} {pos : Pos} (ha : ST S L a f) : ST S L (.UnaryOp .Not a pos) (etNot f) := by
  intro Γ G k X W so c
  refine PT.weak (pt_not (ha Γ G k X W so c)) fun σ H Q ⟨D, h, env, a, o⟩ => ?_
  refine ⟨D, h, env, a, (OutOk.bind (R1 := fun _ _ (b c : Bool) => b = c) o).mono fun u H' ⟨D1, v1, h1, e1, x1, r1, q1, o1⟩ => ?_⟩
  subst q1
  have q := finB r1 o1
  rw [e1] at q
  exact q
/-- a value's truth -/
def truB (h : AH) : AV → Option Bool
  | .non => some false
  | .bl b => some b
  | .int i => some (i != 0)
  | .str x => if x.length ≤ sizeLine then some ((x.length : Int) != 0) else none
  | .dct ks _ => some (!ks.isEmpty)
  | x => (itemsOf h x).map fun xs => !xs.isEmpty
theorem empty_same {K : PySem.W.Frag} {D : Wd} {xs : List AV} {us : List V} (r : RepL K D xs us) : us.isEmpty = xs.isEmpty := by
  have e := r.empty
  cases us with
  | nil => rw [e.mp rfl]; rfl
  | cons u us =>
    cases xs with
    | nil => exact absurd (e.mpr rfl) (by simp)
    | cons x xs => rfl
theorem truB_of {Γ : Cfg} {D : Wd} {h : AH} (R : Rel Γ.K D h) {x : AV} {u : V} {b : Bool} (r : Rep Γ.K D x u) (e : truB h x = some b) : TruV Γ.K u D.H b := by
  have go : ∀ ys, itemsOf h x = some ys → b = !ys.isEmpty → TruV Γ.K u D.H b := fun ys e eb => by
    obtain ⟨a, vs, e1, t, q⟩ := itemsOf_sq R r e
    subst e1
    rcases t with t | t
    · exact .inl ⟨vs, t, by rw [eb, empty_same q]⟩
    · exact .inr (.inl ⟨vs, t, by rw [eb, empty_same q]⟩)
  cases x with
  | non => cases r; cases e; rfl
  | bl b => cases r; cases e; rfl
  | int i => cases r; cases e; rfl
  | str x =>
    cases r
    simp only [truB] at e
    split at e
    · rename_i hz
      cases e
      exact ⟨hz, rfl⟩
    · cases e
  | dct ks ys =>
    cases e
    obtain ⟨a, vs, e1, ⟨_, t⟩, l, q⟩ := r
    subst e1
    refine .inr (.inr ⟨_, t, ?_⟩)
    cases ks with
    | nil => rfl
    | cons k ks =>
      cases vs with
      | nil => simp at l
      | cons v vs => rfl
  | tup ys => cases e; exact go ys rfl rfl
  | lst ys => cases e; exact go ys rfl rfl
  | kl ys => cases e; exact go ys rfl rfl
  | ref n =>
    simp only [truB] at e
    cases hy : itemsOf h (.ref n) with
    | none => rw [hy] at e; cases e
    | some ys =>
      rw [hy] at e
      exact go ys hy (Option.some.inj e).symm
def etOf (f : EvE) : EvT := fun G env h => (f G env h).bind fun x h1 => match truB h1 x with
  | some b => .ok b h1
  | none => .bad
theorem st_val {a : Expr} {f : EvE} (ha : SE S L a f) (hp : plainTest a = true) : ST S L a (etOf f) := by
  intro Γ G k X W so c
  refine PT.weak (pt_truth (ha Γ G k X W so c) fun wh => isTrue_of hp wh) fun σ H Q ⟨D, h, env, a, o⟩ => ?_
  refine ⟨D, h, env, a, (OutOk.bind (R1 := fun D _ => Rep Γ.K D) o).mono fun u H' ⟨D1, v1, h1, e1, x1, r1, q1, o1⟩ => ?_⟩
  split at o1
  · rename_i b hb
    have t := truB_of r1 q1 hb
    have q := finB r1 o1
    rw [← c.K] at t
    rw [e1] at q t
    exact ⟨b, t, q⟩
  · exact o1.elim
/-- a comparison's answer as a test -/
def etB (f : EvE) : EvT := fun G env h => (f G env h).bind fun x h1 => match x with
  | .bl b => .ok b h1
  | _ => .bad
theorem tB_of {Γ : Cfg} {W : WX} {f : EvE} {G : GT} {t : TE} (ht : ∀ σ H Q, tEv Γ W (f G) σ H Q → t σ H Q) (σ : L2.St) (H : Hp) (Q : Bool → Hp → Prop) (o : tTv Γ W (etB f G) σ H Q) : tTest t σ H Q := by
  obtain ⟨D, h, env, a, o⟩ := o
  refine ht σ H _ ⟨D, h, env, a, (OutOk.bind (R1 := fun D _ => Rep Γ.K D) o).mono fun u H' ⟨D1, v1, h1, e1, x1, r1, q1, o1⟩ => ?_⟩
  split at o1
  · rename_i b
    cases q1
    have q := finB r1 o1
    rw [e1] at q
    exact ⟨b, rfl, q⟩
  · exact o1.elim

/-! ### comparisons -/
structure CmpR (op : CmpOp) (oo : Op2) : Prop where
  ex : ∃ r : PySem.W.Frag → R2, (∀ X : Cx, X.A.units + 200 < cLine → OpR X (compareOp op) (r X.K)) ∧ OpS oo r
theorem cmp_eq : CmpR .Eq eqOp := ⟨rEqD, fun X h => op_eqD (by omega), so_eq⟩
theorem cmp_ne : CmpR .NotEq neOp := ⟨rNeD, fun X h => op_neD (by omega), so_ne⟩
theorem cmp_lt : CmpR .Lt ltOp := ⟨rLtA, fun X h => op_ltA (by omega), so_lt⟩
theorem cmp_le : CmpR .LtE leOp := ⟨fun _ => rI0 fun i j => .bl (decide (i ≤ j)), fun X h => op_le, so_le⟩
theorem cmp_gt : CmpR .Gt gtOp := ⟨fun _ => rI0 fun i j => .bl (decide (j < i)), fun X h => op_gt, so_gt⟩
theorem cmp_ge : CmpR .GtE geOp := ⟨fun _ => rI0 fun i j => .bl (decide (j ≤ i)), fun X h => op_ge, so_ge⟩
theorem cmp_is : CmpR .Is isOp := ⟨fun _ => _, fun X h => op_isN, so_is⟩
theorem cmp_isnot : CmpR .IsNot isNotOp := ⟨fun _ => _, fun X h => op_notN, so_isNot⟩
theorem cmp_in : CmpR .In (inOp false) := ⟨fun K => rIn K false, fun X h => op_in_seq, so_in false⟩
theorem cmp_notin : CmpR .NotIn (inOp true) := ⟨fun K => rIn K true, fun X h => op_notIn_seq, so_in true⟩
def cmpOf : (op : CmpOp) → { oo : Op2 // CmpR op oo }
  | .Eq => ⟨_, cmp_eq⟩
  | .NotEq => ⟨_, cmp_ne⟩
  | .Lt => ⟨_, cmp_lt⟩
  | .LtE => ⟨_, cmp_le⟩
  | .Gt => ⟨_, cmp_gt⟩
  | .GtE => ⟨_, cmp_ge⟩
  | .Is => ⟨_, cmp_is⟩
  | .IsNot => ⟨_, cmp_isnot⟩
  | .In => ⟨_, cmp_in⟩
  | .NotIn => ⟨_, cmp_notin⟩
theorem se_cmp {op : CmpOp} {oo : Op2} {a b : Expr} {f g : EvE} {pos : Pos} (ho : CmpR op oo) (ha : SE S L a f) (hb : SE S L b g) (hs : notSet b = true) : SE S L (.Compare a [op] [b] pos) (evOp oo f g) := by
  obtain ⟨r, h1, h2⟩ := ho
  intro Γ G k X W so c
  refine PE.weak (pe_cmpR (h1 X c.un) (ha Γ G k X W so c) (hb Γ G k X W so c) (nomark_of hs)) fun σ H Q o => ?_
  rw [c.K]
  exact tOp_of h2 σ H Q o
theorem st_cmp {op : CmpOp} {oo : Op2} {a b : Expr} {f g : EvE} {pos : Pos} (ho : CmpR op oo) (ha : SE S L a f) (hb : SE S L b g) (hs : notSet b = true) : ST S L (.Compare a [op] [b] pos) (etB (evOp oo f g)) := by
  obtain ⟨r, h1, h2⟩ := ho
  intro Γ G k X W so c
  refine PT.weak (pt_cmpR (h1 X c.un) (ha Γ G k X W so c) (hb Γ G k X W so c) (nomark_of hs)) fun σ H Q o => ?_
  rw [c.K]
  exact tB_of (f := evOp oo f g) (fun σ H Q o => tOp_of h2 σ H Q o) σ H Q o
def evChain (o1 o2 : Op2) (f g k : EvE) : EvE := fun G env h => (f G env h).bind fun x h1 => (g G env h1).bind fun y h2 => (o1 x y h2).bind fun z h3 => match z with
  | .bl b => if b = true then (k G env h3).bind fun w h4 => o2 y w h4 else .ok (.bl false) h3
  | _ => .bad
theorem tChain_of {Γ : Cfg} {W : WX} {o1 o2 : Op2} {r1 r2 : PySem.W.Frag → R2} {f g l : EvE} {G : GT} (h1 : OpS o1 r1) (h2 : OpS o2 r2) (σ : L2.St) (H : Hp) (Q : VK) (o : tEv Γ W (evChain o1 o2 f g l G) σ H Q) :
    tChain (r1 Γ.K) (r2 Γ.K) (tEv Γ W (f G)) (tEv Γ W (g G)) (tEv Γ W (l G)) σ H Q := by
  obtain ⟨D, h, env, a, o⟩ := o
  refine ⟨D, h, env, a, (OutOk.bind (R1 := fun D _ => Rep Γ.K D) o).mono fun u H1 ⟨D1, v1, hh1, e1, x1, rr1, q1, o1'⟩ => ?_⟩
  refine ⟨D1, hh1, env, a.next e1 x1 rr1, (OutOk.bind (R1 := fun D _ => Rep Γ.K D) o1').mono fun u2 H2 ⟨D2, v2, hh2, e2, x2, rr2, q2, o2'⟩ => ?_⟩
  have a2 := (a.next e1 x1 rr1).next e2 x2 rr2
  have q := h1 Γ D2 hh2 v1 v2 u u2 (fun z H3 => ∃ k, z = .bl k ∧ (if k = true then tEv Γ W (l G) σ H3 fun w' H4 => r2 Γ.K u2 w' H4 Q else Q (.bl false) H3)) (fun c d H' => W c d σ H') rr2 (Rep.ext x2 _ _ q1) q2
    ((OutOk.bind (R1 := fun D _ => Rep Γ.K D) o2').mono fun z H3 ⟨D3, v3, hh3, e3, x3, rr3, q3, o3⟩ => ?_)
  · rw [e2] at q
    exact q
  · split at o3
    · rename_i b
      cases q3
      cases b with
      | true =>
        refine ⟨true, rfl, ?_⟩
        rw [if_pos rfl]
        refine ⟨D3, hh3, env, a2.next e3 x3 rr3, (OutOk.bind (R1 := fun D _ => Rep Γ.K D) o3).mono fun u4 H4 ⟨D4, v4, hh4, e4, x4, rr4, q4, o4⟩ => ?_⟩
        have q' := h2 Γ D4 hh4 v2 v4 u2 u4 Q _ rr4 (Rep.ext x4 _ _ (Rep.ext x3 _ _ q2)) q4 o4
        rw [e4] at q'
        exact q'
      | false =>
        refine ⟨false, rfl, ?_⟩
        rw [if_neg Bool.false_ne_true]
        have q' := fin (v := .bl false) rr3 rfl o3
        rw [e3] at q'
        exact q'
    · exact o3.elim
def lastOk : List Expr → Bool
  | [_, e] => notSet e
  | _ => false
theorem lastMarks_of {o1 o2 : CmpOp} {b d : Expr} (h : notSet d = true) : lastMarks [o1, o2] [b, d] = false := nomark_of h
theorem se_chain {op1 op2 : CmpOp} {o1 o2 : Op2} {a b d : Expr} {f g l : EvE} {pos : Pos} (ho1 : CmpR op1 o1) (ho2 : CmpR op2 o2) (ha : SE S L a f) (hb : SE S L b g) (hd : SE S L d l) (hs : notSet d = true) :
    SE S L (.Compare a [op1, op2] [b, d] pos) (evChain o1 o2 f g l) := by
  obtain ⟨r1, h1, h2⟩ := ho1
  obtain ⟨r2, h3, h4⟩ := ho2
  intro Γ G k X W so c
  refine PE.weak (pe_chain (h1 X c.un) (h3 X c.un) (ha Γ G k X W so c) (hb Γ G k X W so c) (hd Γ G k X W so c) (lastMarks_of hs)) fun σ H Q o => ?_
  rw [c.K]
  exact tChain_of h2 h4 σ H Q o
theorem st_chain {op1 op2 : CmpOp} {o1 o2 : Op2} {a b d : Expr} {f g l : EvE} {pos : Pos} (ho1 : CmpR op1 o1) (ho2 : CmpR op2 o2) (ha : SE S L a f) (hb : SE S L b g) (hd : SE S L d l) (hs : notSet d = true) :
    ST S L (.Compare a [op1, op2] [b, d] pos) (etB (evChain o1 o2 f g l)) := by
  obtain ⟨r1, h1, h2⟩ := ho1
  obtain ⟨r2, h3, h4⟩ := ho2
  intro Γ G k X W so c
  refine PT.weak (pt_chain (h1 X c.un) (h3 X c.un) (ha Γ G k X W so c) (hb Γ G k X W so c) (hd Γ G k X W so c) (lastMarks_of hs)) fun σ H Q o => ?_
  rw [c.K]
  exact tB_of (f := evChain o1 o2 f g l) (fun σ H Q o => tChain_of h2 h4 σ H Q o) σ H Q o
/-! ### a if t else b -/
def evIf (t : EvT) (f g : EvE) : EvE := fun G env h => (t G env h).bind fun b h1 => if b = true then f G env h1 else g G env h1
theorem se_if {t a b : Expr} {e : EvT} {f g : EvE} {pos : Pos} (ht : ST S L t e) (ha : SE S L a f) (hb : SE S L b g) : SE S L (.IfExp t a b pos) (evIf e f g) := by
  intro Γ G k X W so c
  refine PE.weak (pe_ifExp (ht Γ G k X W so c) (ha Γ G k X W so c) (hb Γ G k X W so c)) fun σ H Q ⟨D, h, env, a, o⟩ => ?_
  refine ⟨D, h, env, a, (OutOk.bind (R1 := fun _ _ (b c : Bool) => b = c) o).mono fun u H' ⟨D1, v1, h1, e1, x1, r1, q1, o1⟩ => ?_⟩
  subst q1
  cases v1 with
  | true => exact ⟨D1, h1, env, a.next e1 x1 r1, o1⟩
  | false => exact ⟨D1, h1, env, a.next e1 x1 r1, o1⟩

/-! ### subscripts -/
def ixOp : Op2 := fun x y h => match y with
  | .int i => match itemsOf h x with
    | some xs => match atI xs i with
      | some v => .ok v h
      | none => .bad
    | none => match x with
      | .str z => if z.length ≤ sizeLine then match atI z.cps.toList i with
        | some c => .ok (.str ⟨#[c]⟩) h
        | none => .bad else .bad
      | _ => .bad
  | _ => .bad
theorem atI_rep {K : PySem.W.Frag} {D : Wd} {xs : List AV} {us : List V} {i : Int} {v : AV} (r : RepL K D xs us) (e : atI xs i = some v) : ∃ u, atI us i = some u ∧ Rep K D v u := by
  unfold atI at e ⊢
  rw [r.length]
  obtain ⟨j, e1, e2⟩ := Option.bind_eq_some_iff.mp e
  obtain ⟨u, e3, q⟩ := RepL.get r e2
  exact ⟨u, by rw [e1]; exact e3, q⟩
theorem so_ix : OpS ixOp rIx := by
  intro Γ D h x y u v Q Wx R rx ry o
  unfold ixOp at o
  split at o
  · rename_i i
    cases ry
    split at o
    · rename_i xs hx
      split at o
      · rename_i w hw
        obtain ⟨a, us, e1, t, q⟩ := itemsOf_sq R rx hx
        subst e1
        obtain ⟨z, e2, q2⟩ := atI_rep q hw
        have q3 := fin R q2 o
        rcases t with t | t
        · exact .inl ⟨a, us, i, z, rfl, rfl, t, e2, q3⟩
        · exact .inr (.inl ⟨a, us, i, z, rfl, rfl, t, e2, q3⟩)
      · exact o.elim
    · split at o
      · cases rx
        split at o
        · rename_i hz
          split at o
          · rename_i c hc
            exact .inr (.inr ⟨_, i, c, rfl, rfl, hz, hc, fin (v := .str _) R rfl o⟩)
          · exact o.elim
        · exact o.elim
      · exact o.elim
  · exact o.elim
theorem se_ix {a b : Expr} {f g : EvE} {pos : Pos} (ha : SE S L a f) (hb : SE S L b g) (hs : notSlice b = true) : SE S L (.Subscript a b pos) (evOp ixOp f g) := by
  intro Γ G k X W so c
  refine PE.weak (pe_ix ix_seq (ha Γ G k X W so c) (hb Γ G k X W so c) (plainIx_of hs)) fun σ H Q o => ?_
  rw [c.K]
  exact tOp_of so_ix σ H Q o
def SO (S : Stat) (L : Lc) (e : Option Expr) (f : GT → Env1 → AH → Out (Option Int)) : Prop := ∀ (Γ : Cfg) (G : GT) (k : Nat) (X : Cx) (W : WX), StatOk Γ S G k → CtxP Γ k L X W →
  PO X e fun σ H Q => ∃ (D : Wd) (h : AH) (env : Env1), At Γ D h env σ H ∧ OutOk Γ D (f G env h) (fun _ _ (b c : Option Int) => b = c) Q fun c d H' => W c d σ H'
theorem PO.weak {X : Cx} {e : Option Expr} {t t' : TO} (h : PO X e t) (q : ∀ σ H Q, t' σ H Q → t σ H Q) : PO X e t' := ⟨fun pins s σ H Q I hw => h.run pins s σ H Q I (q σ H Q hw)⟩
def eoNone : GT → Env1 → AH → Out (Option Int) := fun _ _ h => .ok none h
def eoSome (f : EvE) : GT → Env1 → AH → Out (Option Int) := fun G env h => (f G env h).bind fun x h1 => match x with
  | .int i => .ok (some i) h1
  | _ => .bad
theorem so_none : SO S L none eoNone := by
  intro Γ G k X W so c
  refine PO.weak po_none fun σ H Q ⟨D, h, env, a, o⟩ => ?_
  have q := o D none (Ext.refl D) a.rel rfl
  rw [a.hp] at q
  exact q
theorem so_some {a : Expr} {f : EvE} (ha : SE S L a f) : SO S L (some a) (eoSome f) := by
  intro Γ G k X W so c
  refine PO.weak (po_some (ha Γ G k X W so c)) fun σ H Q ⟨D, h, env, a, o⟩ => ?_
  refine ⟨D, h, env, a, (OutOk.bind (R1 := fun D _ => Rep Γ.K D) o).mono fun u H' ⟨D1, v1, h1, e1, x1, r1, q1, o1⟩ => ?_⟩
  split at o1
  · rename_i i
    cases q1
    have q := o1 D1 (some i) (Ext.refl D1) r1 rfl
    rw [e1] at q
    exact ⟨i, rfl, q⟩
  · exact o1.elim
def cutA (xs : List AV) (lo hi : Option Int) : List AV := (xs.drop (HT.sIx xs.length 0 lo)).take (HT.sIx xs.length xs.length hi - HT.sIx xs.length 0 lo)
theorem cutA_rep {K : PySem.W.Frag} {D : Wd} {xs : List AV} {us : List V} (r : RepL K D xs us) (lo hi : Option Int) : RepL K D (cutA xs lo hi) (cutV us lo hi) := by
  unfold cutA cutV
  rw [r.length]
  exact RepL.take _ (RepL.drop _ r)
def slOp (x : AV) (lo hi : Option Int) (h : AH) : Out AV := match x with
  | .tup xs => .ok (.tup (cutA xs lo hi)) h
  | .str z => if z.length ≤ sizeLine then .ok (.str (cutS z lo hi)) h else .bad
  | x => match lstOf h x with
    | some xs => .ok (.lst (cutA xs lo hi)) h
    | none => .bad
def evSl (f : EvE) (g l : GT → Env1 → AH → Out (Option Int)) : EvE := fun G env h => (f G env h).bind fun x h1 => (g G env h1).bind fun lo h2 => (l G env h2).bind fun hi h3 => slOp x lo hi h3
def rSlAll (K : PySem.W.Frag) : V → Option Int → Option Int → Hp → VK → Prop := fun x lo hi H Q => (rSlL K x lo hi H Q ∨ rSlA K x lo hi H Q) ∨ rSlS x lo hi H Q
theorem cut_all {xs : List AV} {lo hi : Option Int} (h : HT.sIx xs.length 0 lo = 0 ∧ HT.sIx xs.length xs.length hi = xs.length) : cutA xs lo hi = xs := by
  unfold cutA
  rw [h.1, h.2, List.drop_zero, Nat.sub_zero, List.take_length]
theorem sl_of {Γ : Cfg} {D : Wd} {h : AH} {x : AV} {u : V} {lo hi : Option Int} {Q : VK} {Wx : Value → Option Addr → Hp → Prop} (R : Rel Γ.K D h) (r : Rep Γ.K D x u) (o : OutOk Γ D (slOp x lo hi h) (fun D _ => Rep Γ.K D) Q Wx) : rSlAll Γ.K u lo hi D.H Q := by
  unfold slOp at o
  split at o
  · rename_i xs
    obtain ⟨a, us, e1, t, q⟩ := id r
    subst e1
    refine .inl (.inr ⟨a, us, rfl, t.sq, fun hw => ?_, fun _ => fin_tup R (cutA_rep q lo hi) o⟩)
    rw [q.length] at hw
    rw [cut_all hw] at o
    exact fin (v := .tup xs) R r o
  · rename_i z
    cases r
    split at o
    · rename_i hz
      exact .inr ⟨z, rfl, hz, fin (v := .str _) R rfl o⟩
    · exact o.elim
  · split at o
    · rename_i ys hy
      obtain ⟨a, us, e1, t, q⟩ := lstOf_sq R r hy
      subst e1
      exact .inl (.inl ⟨a, us, rfl, t, fin_lst R (cutA_rep q lo hi) o⟩)
    · exact o.elim
theorem se_sl {a : Expr} {lo hi : Option Expr} {f : EvE} {g l : GT → Env1 → AH → Out (Option Int)} {p2 pos : Pos} (ha : SE S L a f) (hl : SO S L lo g) (hh : SO S L hi l) : SE S L (.Subscript a (.Slice lo hi none p2) pos) (evSl f g l) := by
  intro Γ G k X W so c
  refine PE.weak (pe_slice (SlR.or (SlR.or sl_list sl_tupA) sl_str) (ha Γ G k X W so c) (hl Γ G k X W so c) (hh Γ G k X W so c)) fun σ H Q ⟨D, h, env, a, o⟩ => ?_
  refine ⟨D, h, env, a, (OutOk.bind (R1 := fun D _ => Rep Γ.K D) o).mono fun u H' ⟨D1, v1, h1, e1, x1, r1, q1, o1⟩ => ?_⟩
  refine ⟨D1, h1, env, a.next e1 x1 r1, (OutOk.bind (R1 := fun _ _ (b c : Option Int) => b = c) o1).mono fun lo2 H2 ⟨D2, v2, h2, e2, x2, r2, q2, o2⟩ => ?_⟩
  refine ⟨D2, h2, env, (a.next e1 x1 r1).next e2 x2 r2, (OutOk.bind (R1 := fun _ _ (b c : Option Int) => b = c) o2).mono fun hi2 H3 ⟨D3, v3, h3, e3, x3, r3, q3, o3⟩ => ?_⟩
  subst q2; subst q3
  have q := sl_of r3 (Rep.ext x3 _ _ (Rep.ext x2 _ _ q1)) o3
  rw [e3, ← c.K] at q
  exact q

/-! ### isinstance -/
inductive Ty where
  | non | bl | int | str | tup | lst | dct
  deriving DecidableEq
def Ty.nm : Ty → String
  | .non => "NoneType" | .bl => "bool" | .int => "int" | .str => "str" | .tup => "tuple" | .lst => "list" | .dct => "dict"
def tyOf (h : AH) : AV → Option Ty
  | .non => some .non
  | .bl _ => some .bl
  | .int _ => some .int
  | .str _ => some .str
  | .tup _ => some .tup
  | .lst _ => some .lst
  | .kl _ => some .lst
  | .dct _ _ => some .dct
  | .ref n => match h[n]? with
    | some (.lst _) => some .lst
    | some (.dct _ _) => some .dct
    | none => none
def isTy (t T : Ty) : Bool := decide (t = T) || (decide (t = .bl) && decide (T = .int))
theorem isTy_ok (t T : Ty) (h : T ≠ .non) : kitB t.nm T.nm = some (isTy t T) := by
  cases t <;> cases T <;> first | exact absurd rfl h | decide +kernel
theorem tyOf_x {Γ : Cfg} {D : Wd} {h : AH} (R : Rel Γ.K D h) {x : AV} {u : V} {t : Ty} (r : Rep Γ.K D x u) (e : tyOf h x = some t) : TyX Γ.K D.H u (.type t.nm) := by
  cases x with
  | non => cases r; cases e; exact .base .non
  | bl b => cases r; cases e; exact .base (.bl b)
  | int i => cases r; cases e; exact .base (.int i)
  | str x => cases r; cases e; exact .base (.str x)
  | tup xs =>
    cases e
    obtain ⟨a, us, e1, t, q⟩ := r
    subst e1
    rcases t with ⟨_, t⟩ | ⟨o, its, n, t, c, _⟩
    · exact .base (.tup t)
    · exact .kTuple t c
  | lst xs =>
    cases e
    obtain ⟨a, us, e1, ⟨_, t⟩, q⟩ := r
    subst e1
    exact .base (.lst t)
  | kl xs =>
    cases e
    obtain ⟨a, us, e1, t, q⟩ := r
    subst e1
    rcases t with ⟨_, o, t⟩ | ⟨o, its, n, t, c, _⟩
    · exact .base (.frz t)
    · exact .kList t c
  | dct ks xs =>
    cases e
    obtain ⟨a, us, e1, ⟨_, t⟩, q⟩ := r
    subst e1
    exact .base (.dK t)
  | ref n =>
    simp only [tyOf] at e
    split at e
    · rename_i xs hc
      cases e
      obtain ⟨a, e1, _, us, t, q⟩ := ref_lst R r hc
      subst e1
      exact .base (.lst t)
    · rename_i ks xs hc
      cases e
      obtain ⟨a, e1, _, us, t, q⟩ := ref_lst R r hc
      subst e1
      exact .base (.dK t)
    · cases e
def isiOp (T : Ty) : AV → AH → Out AV := fun x h => match tyOf h x with
  | some t => .ok (.bl (isTy t T)) h
  | none => .bad
theorem se_isi {e : Expr} {f : EvE} {T : Ty} {y x : Str} {p p1 pos : Pos} (hT : T ≠ .non) (hy : bootBuiltins y = some (.type T.nm)) (hi : bootBuiltins x = some (.builtin "isinstance")) (hxf : x ∈ S.free) (hyf : y ∈ S.free) (hg : glB L.sc x = true) (hgy : glB L.sc y = true) (hn : okName x = true) (hny : okName y = true)
    (ha : SE S L e f) (hst : notStar e = true) : SE S L (.Call (.Name x p) [e, .Name y p1] [] pos) (evOf1 (isiOp T) f) := by
  intro Γ G k X W so c
  have hs2 : [Expr.Name y p1].all notStar = true := rfl
  have py : PE X (.Name y p1) (tC (.ty T.nm)) := pe_bltn (gl_of c hgy) (by rw [c.mg]; exact so.free y hyf) hy (show RelV (.ty T.nm) (.type T.nm) from rfl) (okName3 hny) (okName1 hny)
  refine PE.weak (pe_callB (call_isi (X := X)) (gl_of c hg) (by rw [c.mg]; exact so.free x hxf) hi (pa_cons (ha Γ G k X W so c) (pa_cons py pa_nil (starEach_cons rfl)) (starEach_cons hst)) (okName3 hn) (okName1 hn) (starEach_cons hst) (starEach_plain hs2)) fun σ H Q ⟨D, h, env, a, o⟩ => ?_
  refine ⟨D, h, env, a, (OutOk.bind (R1 := fun D _ => Rep Γ.K D) o).mono fun u H' ⟨D1, v1, h1, e1, x1, r1, q1, o1⟩ => ?_⟩
  unfold isiOp at o1
  split at o1
  · rename_i t ht
    have q := fin (v := .bl _) r1 rfl o1
    have tx := tyOf_x r1 q1 ht
    rw [e1] at q tx
    rw [← c.K] at tx
    exact ⟨u, .ty T.nm, _, _, _, rfl, .ty _, tx, kit_ty (isTy_ok t T hT), q⟩
  · exact o1.elim

/-! ### repr -/
def reprOp : List AV → AH → Out AV := fun xs h => match xs with
  | [x] => match toPy1 h x with
    | some d => if PyData.showable d = true ∧ PyData.hasDict d = false ∧ d.depth ≤ 64 ∧ (PyData.shown d).length ≤ sizeLine then .ok (.str (PyData.shown d)) h else .bad
    | none => .bad
  | _ => .bad
def rRepr (K : PySem.W.Frag) : List V → Hp → VK → Prop := fun us H Q => ∃ (v : V) (d : PyData), us = [v] ∧ Dp K H v d ∧ PyData.showable d = true ∧ PyData.hasDict d = false ∧ d.depth ≤ 64 ∧ (PyData.shown d).length ≤ sizeLine ∧ Q (.str (PyData.shown d)) H
theorem call_reprA {X : Cx} (hu : X.A.units + 200 < cLine) (hg : X.A.guards = some []) : CallR X (.builtin "repr") (rRepr X.K) := by
  intro pins s σ H xs us Q I r h
  obtain ⟨v, d, e, dp, h1, h2, h3, h4, q⟩ := h
  subst e
  obtain ⟨u, e, ru⟩ := vals1 r
  subst e
  cases dp with
  | non => cases ru; exact P.repr_of_none ⟨.str _, H, I.tok _, ⟨_, rfl⟩, q⟩
  | bl b => cases ru; exact P.repr_of_bool ⟨.str _, H, I.tok _, ⟨_, by cases b <;> rfl⟩, q⟩
  | int i => obtain ⟨t, rfl⟩ := ru; exact P.repr_of_int (of_decide_eq_true h1) ⟨.str _, H, I.tok _, ⟨_, rfl⟩, q⟩
  | str x => obtain ⟨t, rfl⟩ := ru; exact P.repr_of_str ⟨.str _, H, I.tok _, ⟨_, rfl⟩, q⟩ h4
  | lst hs ha =>
    obtain ⟨as, rd⟩ := Dp.reads I _ _ _ (Dp.lst hs ha) ru
    cases ru
    exact repr_of_reads' rd h1 (fun z => by rw [h2] at z; cases z) hg (by omega) (fun _ _ e => e) (fun h' u tk k => ⟨.str _, H, I.kept k, ⟨u, rfl⟩, q⟩) h4
  | tup hs ha =>
    obtain ⟨as, rd⟩ := Dp.reads I _ _ _ (Dp.tup hs ha) ru
    cases ru
    exact repr_of_reads' rd h1 (fun z => by rw [h2] at z; cases z) hg (by omega) (fun _ _ e => e) (fun h' u tk k => ⟨.str _, H, I.kept k, ⟨u, rfl⟩, q⟩) h4
theorem on_repr : OpN reprOp rRepr := by
  intro Γ D h xs us Q Wx R r o
  unfold reprOp at o
  split at o
  · rename_i x
    split at o
    · rename_i d hd
      split at o
      · rename_i hs
        obtain ⟨u, e, ru⟩ := r.one
        subst e
        exact ⟨u, d, rfl, toPy1_dp R x u d ru hd, hs.1, hs.2.1, hs.2.2.1, hs.2.2.2, fin (v := .str _) R rfl o⟩
      · exact o.elim
    · exact o.elim
  · exact o.elim
end
end Pv
end
section
set_option Elab.async false
set_option linter.all false
set_option maxRecDepth 100000
set_option autoImplicit false
namespace Pv
open PySem PySem.Spec PyProof.Rows L2

/-! ### what is walked -/
inductive Src where
  | snap (xs : List AV)
  | rng (lo : Int) (n : Nat)
  | live (n : Nat)
def srcAt (src : Src) (h : AH) (i : Nat) : Option (Option AV) := match src with
  | .snap xs => some xs[i]?
  | .rng lo n => some (if i < n then some (.int (lo + i)) else none)
  | .live n => match h[n]? with
    | some (.lst xs) => some xs[i]?
    | _ => none
def srcLen (src : Src) (h : AH) : Nat := match src with
  | .snap xs => xs.length
  | .rng _ n => n
  | .live n => match h[n]? with
    | some (.lst xs) => xs.length
    | _ => 0
abbrev EvI := GT → Env1 → AH → Out Src
def ItS (Γ : Cfg) (D : Wd) (src : Src) (J : It) : Prop := ∀ (D' : Wd) (h' : AH) (i : Nat), Ext D D' → Rel Γ.K D' h' → match srcAt src h' i with
  | none => True
  | some none => J.stop i D'.H
  | some (some v) => J.go i D'.H ∧ ∀ x H', J.yld i D'.H x H' → ∃ D'' : Wd, D''.H = H' ∧ Ext D' D'' ∧ Rel Γ.K D'' h' ∧ Rep Γ.K D'' v x
theorem ItS.ext {Γ : Cfg} {D D' : Wd} {src : Src} {J : It} (h : ItS Γ D src J) (x : Ext D D') : ItS Γ D' src J := fun D2 h2 i x2 r => h D2 h2 i (x.trans x2) r
def tIv (Γ : Cfg) (W : WX) (f : Env1 → AH → Out Src) : TI := fun σ H R => ∃ (D : Wd) (h : AH) (env : Env1), At Γ D h env σ H ∧ OutOk Γ D (f env h) (fun D _ src J => ItS Γ D src J) R fun c d H' => W c d σ H'
theorem PI.weak {X : Cx} {tg e : Expr} {t t' : TI} (h : PI X tg e t) (q : ∀ σ H R, t' σ H R → t σ H R) : PI X tg e t' := ⟨fun pins s σ H R I hw => h.run pins s σ H R I (q σ H R hw)⟩
def SI (S : Stat) (L : Lc) (tg e : Expr) (f : EvI) : Prop := ∀ (Γ : Cfg) (G : GT) (k : Nat) (X : Cx) (W : WX), StatOk Γ S G k → CtxP Γ k L X W → PI X tg e (tIv Γ W (f G))
theorem its_list {Γ : Cfg} {D : Wd} {h : AH} {x : AV} {u : V} {xs : List AV} (R : Rel Γ.K D h) (r : Rep Γ.K D x u) (e : lstOf h x = some xs) (hn : ∀ n, x ≠ .ref n) : ∃ a, u = .ref a ∧ (∃ us, SqL Γ.K D.H a us) ∧ ItS Γ D (.snap xs) (Itl Γ.K a) := by
  have same : ∀ (D' : Wd), Ext D D' → ∃ us, (∀ a, u = .ref a → SqL Γ.K D'.H a us) ∧ RepL Γ.K D' xs us := fun D' x' => by
    have r' := Rep.ext x' _ _ r
    cases x with
    | lst ys => cases e; obtain ⟨a, us, e1, ⟨_, t⟩, q⟩ := r'; exact ⟨us, fun b eb => by rw [e1] at eb; cases eb; exact SqL.of t, q⟩
    | kl ys => cases e; obtain ⟨a, us, e1, t, q⟩ := r'; exact ⟨us, fun b eb => by rw [e1] at eb; cases eb; exact t.sq, q⟩
    | ref n => exact absurd rfl (hn n)
    | _ => cases e
  obtain ⟨a, us, e1, t, q⟩ := lstOf_sq R r e
  subst e1
  refine ⟨a, rfl, ⟨us, t⟩, fun D' h' i x' R' => ?_⟩
  obtain ⟨us', t', q'⟩ := same D' x'
  have t' := t' a rfl
  show match some xs[i]? with | none => _ | some none => _ | some (some v) => _
  cases hv : xs[i]? with
  | none =>
    refine ⟨us', t', ?_⟩
    rw [q'.length]
    exact List.getElem?_eq_none_iff.mp hv
  | some v =>
    obtain ⟨y, ey, ry⟩ := RepL.get q' hv
    refine ⟨⟨us', y, t', ey⟩, fun z H' ⟨eH, hz⟩ => ⟨D', eH.symm, Ext.refl _, R', ?_⟩⟩
    have e3 := (hz us' t').symm.trans ey
    rw [Option.some.inj e3]
    exact ry
theorem its_live {Γ : Cfg} {D : Wd} {h : AH} {n : Nat} {u : V} {xs : List AV} (R : Rel Γ.K D h) (r : Rep Γ.K D (.ref n) u) (e : h[n]? = some (.lst xs)) : ∃ a, u = .ref a ∧ (∃ us, SqL Γ.K D.H a us) ∧ ItS Γ D (.live n) (Itl Γ.K a) := by
  obtain ⟨a, e1, e2, us, t, q⟩ := ref_lst R r e
  subst e1
  refine ⟨a, rfl, ⟨us, SqL.of t⟩, fun D' h' i x' R' => ?_⟩
  unfold srcAt
  split
  · trivial
  all_goals
    rename_i hs
    simp only at hs
    split at hs
    · rename_i xs' hc
      obtain ⟨us', t', q'⟩ := R'.cell n _ a hc (x'.get e2)
      have t' : SqL Γ.K D'.H a us' := SqL.of t'
      have hs' := Option.some.inj hs
      first
      | (refine ⟨us', t', ?_⟩
         rw [q'.length]
         exact List.getElem?_eq_none_iff.mp hs')
      | (obtain ⟨y, ey, ry⟩ := RepL.get q' hs'
         refine ⟨⟨us', y, t', ey⟩, fun z H' ⟨eH, hz⟩ => ⟨D', eH.symm, Ext.refl _, R', ?_⟩⟩
         have e3 := (hz us' t').symm.trans ey
         rw [Option.some.inj e3]
         exact ry)
    · cases hs
theorem its_tup {Γ : Cfg} {D : Wd} {h : AH} {u : V} {xs : List AV} (R : Rel Γ.K D h) (r : Rep Γ.K D (.tup xs) u) : ∃ a, u = .ref a ∧ (∃ us, SqT Γ.K D.H a us) ∧ ItS Γ D (.snap xs) (Itt Γ.K a) := by
  obtain ⟨a, us, e1, t, q⟩ := id r
  subst e1
  refine ⟨a, rfl, ⟨us, t.sq⟩, fun D' h' i x' R' => ?_⟩
  obtain ⟨a', us', e1', t', q'⟩ := Rep.ext x' _ _ r
  cases e1'
  have t' := t'.sq
  show match some xs[i]? with | none => _ | some none => _ | some (some v) => _
  cases hv : xs[i]? with
  | none =>
    refine ⟨us', t', ?_⟩
    rw [q'.length]
    exact List.getElem?_eq_none_iff.mp hv
  | some v =>
    obtain ⟨y, ey, ry⟩ := RepL.get q' hv
    refine ⟨⟨us', y, t', ey⟩, fun z H' ⟨eH, hz⟩ => ⟨D', eH.symm, Ext.refl _, R', ?_⟩⟩
    have e3 := (hz us' t').symm.trans ey
    rw [Option.some.inj e3]
    exact ry
/-- a list or a tuple, walked -/
def iSeq (K : PySem.W.Frag) (tl : TE) : TI := fun σ H R => tl σ H fun x H1 => ∃ a, x = .ref a ∧ (((∃ xs, SqL K H1 a xs) ∧ R (Itl K a) H1) ∨ ((∃ xs, SqT K H1 a xs) ∧ R (Itt K a) H1))
theorem pi_seq {X : Cx} {tg l : Expr} {tl : TE} (hl : PE X l tl) : PI X tg l (iSeq X.K tl) := by
  refine ⟨fun pins s σ H R I hw => thn (hl.run pins s σ H _ I hw) fun v s1 ⟨x, H1, I1, rx, a, e, q⟩ => ?_⟩
  subst e
  have ev : v = Value.ref a := rx
  subst ev
  have one : ∀ b ∈ [s1.heap.objs.size], FpOk X pins H1 b := fun b hb => by
    cases List.mem_singleton.mp hb
    exact I1.fpOk (Nat.le_refl _) (I1.hok.fresh (Nat.le_refl _))
  have more : ∀ o : Obj, Inv X pins σ H1 { s1 with heap := s1.heap.push o } := fun o => I1.kept (t' := s1.toks) fun b o' e => Heap.get?_push_of_some _ e
  rcases q with ⟨⟨xs, hq⟩, q⟩ | ⟨⟨xs, hq⟩, q⟩
  · obtain ⟨its, rv, p, -⟩ := I1.list hq
    exact wpAny_pyIter_list p.isList ⟨_, _, _, _, H1, rfl, more _, turn_list a s1.heap.objs.size, ⟨_, Heap.get?_push_size _ rfl, rfl, rfl⟩, one, q⟩
  · obtain ⟨its, rv, p, -⟩ := I1.tuple hq
    exact wpAny_pyIter_tuple (items := its.toArray) p ⟨_, _, _, _, H1, rfl, more _, turn_tuple a s1.heap.objs.size, ⟨_, Heap.get?_push_size _ rfl, rfl, rfl⟩, one, q⟩
section
variable {S : Stat} {L : Lc}
def srcOf (x : AV) (h : AH) : Out Src := match x with
  | .tup xs => .ok (.snap xs) h
  | .lst xs => .ok (.snap xs) h
  | .kl xs => .ok (.snap xs) h
  | .ref n => match h[n]? with
    | some (.lst _) => .ok (.live n) h
    | _ => .bad
  | _ => .bad
def eiSeq (f : EvE) : EvI := fun G env h => (f G env h).bind srcOf
theorem si_seq {tg e : Expr} {f : EvE} (ha : SE S L e f) : SI S L tg e (eiSeq f) := by
  intro Γ G k X W so c
  refine PI.weak (pi_seq (ha Γ G k X W so c)) fun σ H R ⟨D, h, env, a, o⟩ => ?_
  refine ⟨D, h, env, a, (OutOk.bind (R1 := fun D _ => Rep Γ.K D) o).mono fun u H' ⟨D1, v1, h1, e1, x1, r1, q1, o1⟩ => ?_⟩
  rw [c.K]
  unfold srcOf at o1
  split at o1
  · obtain ⟨b, e2, s2, i2⟩ := its_tup r1 q1
    subst e2
    have q := o1 D1 (Itt Γ.K b) (Ext.refl D1) r1 i2
    rw [e1] at q s2
    exact ⟨b, rfl, .inr ⟨s2, q⟩⟩
  · obtain ⟨b, e2, s2, i2⟩ := its_list r1 q1 rfl (fun _ => by simp)
    subst e2
    have q := o1 D1 (Itl Γ.K b) (Ext.refl D1) r1 i2
    rw [e1] at q s2
    exact ⟨b, rfl, .inl ⟨s2, q⟩⟩
  · obtain ⟨b, e2, s2, i2⟩ := its_list r1 q1 rfl (fun _ => by simp)
    subst e2
    have q := o1 D1 (Itl Γ.K b) (Ext.refl D1) r1 i2
    rw [e1] at q s2
    exact ⟨b, rfl, .inl ⟨s2, q⟩⟩
  · split at o1
    · rename_i hc
      obtain ⟨b, e2, s2, i2⟩ := its_live r1 q1 hc
      subst e2
      have q := o1 D1 (Itl Γ.K b) (Ext.refl D1) r1 i2
      rw [e1] at q s2
      exact ⟨b, rfl, .inl ⟨s2, q⟩⟩
    · exact o1.elim
  · exact o1.elim
/-! range -/
theorem its_rng {Γ : Cfg} {D : Wd} {lo : Int} {n : Nat} : ItS Γ D (.rng lo n) (Itr lo n) := by
  intro D' h' i x' R'
  show match some (if i < n then some (AV.int (lo + i)) else none) with | none => _ | some none => _ | some (some v) => _
  by_cases hi : i < n
  · rw [if_pos hi]
    exact ⟨hi, fun x H' ⟨eH, ex⟩ => ⟨D', eH.symm, Ext.refl _, R', ex⟩⟩
  · rw [if_neg hi]
    exact Nat.le_of_not_lt hi
def opRng1 : List AV → AH → Out Src := fun xs h => match xs with
  | [.int j] => if -(2 ^ 62) ≤ j ∧ j < 2 ^ 62 then .ok (.rng 0 j.toNat) h else .bad
  | _ => .bad
def opRng2 : List AV → AH → Out Src := fun xs h => match xs with
  | [.int i, .int j] => if -(2 ^ 62) ≤ i ∧ i < 2 ^ 62 ∧ -(2 ^ 62) ≤ j ∧ j < 2 ^ 62 then .ok (.rng i (j - i).toNat) h else .bad
  | _ => .bad
def eiOf (p : List AV → AH → Out Src) (f : EvA) : EvI := fun G env h => (f G env h).bind p
def sRange : Str := "range"
theorem si_rng1 {x : Str} {tg a : Expr} {f : EvA} {p pos : Pos} (hxr : x = sRange) (hx : x ∈ S.free) (hg : glB L.sc x = true) (ha : SA S L [a] f) (hs : notStar a = true) : SI S L tg (.Call (.Name x p) [a] [] pos) (eiOf opRng1 f) := by
  subst hxr
  intro Γ G k X W so c
  refine PI.weak (pi_range1 (gl_of c hg) (by rw [c.mg]; exact so.free _ hx) (ha Γ G k X W so c) (starEach_cons hs)) fun σ H R ⟨D, h, env, a, o⟩ => ?_
  refine ⟨D, h, env, a, (OutOk.bind (R1 := fun D _ => RepL Γ.K D) o).mono fun u H' ⟨D1, v1, h1, e1, x1, r1, q1, o1⟩ => ?_⟩
  unfold opRng1 at o1
  split at o1
  · split at o1
    · rename_i j hj
      obtain ⟨u', e, ru⟩ := q1.one
      subst e
      cases ru
      have q := o1 D1 (Itr 0 j.toNat) (Ext.refl D1) r1 its_rng
      rw [e1] at q
      exact ⟨j, rfl, hj.1, hj.2, q⟩
    · exact o1.elim
  · exact o1.elim
theorem si_rng2 {x : Str} {tg a b : Expr} {f : EvA} {p pos : Pos} (hxr : x = sRange) (hx : x ∈ S.free) (hg : glB L.sc x = true) (ha : SA S L [a, b] f) (hs : notStar a = true) (hs2 : notStar b = true) : SI S L tg (.Call (.Name x p) [a, b] [] pos) (eiOf opRng2 f) := by
  subst hxr
  intro Γ G k X W so c
  refine PI.weak (pi_range2 (gl_of c hg) (by rw [c.mg]; exact so.free _ hx) (ha Γ G k X W so c) (by rw [starEach_cons hs, starEach_cons hs2]; rfl) (starEach_cons hs2)) fun σ H R ⟨D, h, env, a, o⟩ => ?_
  refine ⟨D, h, env, a, (OutOk.bind (R1 := fun D _ => RepL Γ.K D) o).mono fun u H' ⟨D1, v1, h1, e1, x1, r1, q1, o1⟩ => ?_⟩
  unfold opRng2 at o1
  split at o1
  · split at o1
    · rename_i i j hj
      obtain ⟨u', v', e, ru, rv⟩ := q1.two
      subst e
      cases ru; cases rv
      have q := o1 D1 (Itr i (j - i).toNat) (Ext.refl D1) r1 its_rng
      rw [e1] at q
      exact ⟨i, j, rfl, hj, q⟩
    · exact o1.elim
  · exact o1.elim
/-! reversed, enumerate, zip -/
def sRev : Str := "reversed"
def sEnum : Str := "enumerate"
def sZip : Str := "zip"
theorem its_rev {Γ : Cfg} {D : Wd} {h : AH} {x : AV} {u : V} {xs : List AV} (R : Rel Γ.K D h) (r : Rep Γ.K D x u) (e : itemsOf [] x = some xs) : ∃ a us J, u = .ref a ∧ ((SqL Γ.K D.H a us ∧ J = Itv Γ.K a us.length) ∨ (SqT Γ.K D.H a us ∧ J = RT.ItvT Γ.K a us.length)) ∧ ItS Γ D (.snap xs.reverse) J := by
  have fin : ∀ {us : List V} {D' : Wd} {i : Nat} {v : AV}, RepL Γ.K D' xs us → xs.reverse[i]? = some v → i < us.length ∧ ∃ y, us[us.length - 1 - i]? = some y ∧ Rep Γ.K D' v y := fun {us D' i v} q hv => by
    have hi : i < xs.length := by
      have := (List.getElem?_eq_some_iff.mp hv).1
      simpa using this
    rw [List.getElem?_reverse hi] at hv
    obtain ⟨y, ey, ry⟩ := RepL.get q hv
    rw [← q.length] at ey hi
    exact ⟨hi, y, ey, ry⟩
  cases x with
  | tup ys =>
    cases e
    obtain ⟨a, us, e1, t, q⟩ := id r
    subst e1
    refine ⟨a, us, _, rfl, .inr ⟨t.sq, rfl⟩, fun D' h' i x' R' => ?_⟩
    obtain ⟨a', us', e1', t', q'⟩ := Rep.ext x' _ _ r
    cases e1'
    have t' := t'.sq
    have el : us'.length = us.length := by rw [q.length, q'.length]
    show match some xs.reverse[i]? with | none => _ | some none => _ | some (some v) => _
    cases hv : xs.reverse[i]? with
    | none =>
      show us.length ≤ i
      rw [q.length]
      simpa using List.getElem?_eq_none_iff.mp hv
    | some v =>
      obtain ⟨hi, y, ey, ry⟩ := fin q' hv
      rw [el] at hi ey
      refine ⟨⟨hi, us', y, t', ey⟩, fun z H' ⟨eH, hz⟩ => ⟨D', eH.symm, Ext.refl _, R', ?_⟩⟩
      rw [Option.some.inj ((hz us' t').symm.trans ey)]
      exact ry
  | lst ys =>
    cases e
    obtain ⟨a, us, e1, ⟨_, t⟩, q⟩ := id r
    subst e1
    refine ⟨a, us, _, rfl, .inl ⟨SqL.of t, rfl⟩, fun D' h' i x' R' => ?_⟩
    obtain ⟨a', us', e1', ⟨_, t'⟩, q'⟩ := Rep.ext x' _ _ r
    cases e1'
    have t' : SqL Γ.K D'.H a us' := SqL.of t'
    have el : us'.length = us.length := by rw [q.length, q'.length]
    show match some xs.reverse[i]? with | none => _ | some none => _ | some (some v) => _
    cases hv : xs.reverse[i]? with
    | none =>
      show us.length ≤ i
      rw [q.length]
      simpa using List.getElem?_eq_none_iff.mp hv
    | some v =>
      obtain ⟨hi, y, ey, ry⟩ := fin q' hv
      rw [el] at hi ey
      refine ⟨⟨hi, us', y, t', ey⟩, fun z H' ⟨eH, hz⟩ => ⟨D', eH.symm, Ext.refl _, R', ?_⟩⟩
      rw [Option.some.inj ((hz us' t').symm.trans ey)]
      exact ry
  | kl ys =>
    cases e
    obtain ⟨a, us, e1, t, q⟩ := id r
    subst e1
    refine ⟨a, us, _, rfl, .inl ⟨t.sq, rfl⟩, fun D' h' i x' R' => ?_⟩
    obtain ⟨a', us', e1', t', q'⟩ := Rep.ext x' _ _ r
    cases e1'
    have t' := t'.sq
    have el : us'.length = us.length := by rw [q.length, q'.length]
    show match some xs.reverse[i]? with | none => _ | some none => _ | some (some v) => _
    cases hv : xs.reverse[i]? with
    | none =>
      show us.length ≤ i
      rw [q.length]
      simpa using List.getElem?_eq_none_iff.mp hv
    | some v =>
      obtain ⟨hi, y, ey, ry⟩ := fin q' hv
      rw [el] at hi ey
      refine ⟨⟨hi, us', y, t', ey⟩, fun z H' ⟨eH, hz⟩ => ⟨D', eH.symm, Ext.refl _, R', ?_⟩⟩
      rw [Option.some.inj ((hz us' t').symm.trans ey)]
      exact ry
  | ref n => cases e
  | _ => cases e
/-- what does not change: no cell -/
def frozenItems (h : AH) (x : AV) : Option (List AV) := itemsOf [] x
def revOp (x : AV) (h : AH) : Out Src := match x with
  | .ref n => match h[n]? with
    | some (.lst xs) => .bad
    | _ => .bad
  | x => match itemsOf [] x with
    | some xs => .ok (.snap xs.reverse) h
    | none => .bad
def eiRev (f : EvE) : EvI := fun G env h => (f G env h).bind revOp
theorem si_rev {x : Str} {tg e : Expr} {f : EvE} {p pos : Pos} (hxr : x = sRev) (hx : x ∈ S.free) (hg : glB L.sc x = true) (ha : SE S L e f) (hs : notStar e = true) : SI S L tg (.Call (.Name x p) [e] [] pos) (eiRev f) := by
  subst hxr
  intro Γ G k X W so c
  refine PI.weak (RT.pi_revA (gl_of c hg) (by rw [c.mg]; exact so.free _ hx) (ha Γ G k X W so c) (starEach_cons hs)) fun σ H R ⟨D, h, env, a, o⟩ => ?_
  refine ⟨D, h, env, a, (OutOk.bind (R1 := fun D _ => Rep Γ.K D) o).mono fun u H' ⟨D1, v1, h1, e1, x1, r1, q1, o1⟩ => ?_⟩
  rw [c.K]
  unfold revOp at o1
  split at o1
  · split at o1 <;> exact o1.elim
  · split at o1
    · rename_i xs hxs
      obtain ⟨b, us, J, e2, s2, i2⟩ := its_rev r1 q1 hxs
      have q := o1 D1 J (Ext.refl D1) r1 i2
      rw [e1] at q s2
      refine ⟨b, us, e2, ?_⟩
      rcases s2 with ⟨s2, eJ⟩ | ⟨s2, eJ⟩
      · subst eJ; exact .inl ⟨s2, q⟩
      · subst eJ; exact .inr ⟨s2, q⟩
    · exact o1.elim
/-- pairs made at each turn -/
theorem its_pairs {Γ : Cfg} {D : Wd} {src : List AV} {J : It} (h : ∀ (D' : Wd) (h' : AH) (i : Nat), Ext D D' → Rel Γ.K D' h' → match src[i]? with
    | none => J.stop i D'.H
    | some v => J.go i D'.H ∧ ∀ x H', J.yld i D'.H x H' → ∃ T ys us, x = .ref T ∧ D'.H T = none ∧ H' = upd D'.H T (.tup us) ∧ v = .tup ys ∧ RepL Γ.K D' ys us) : ItS Γ D (.snap src) J := by
  intro D' h' i x' R'
  have q := h D' h' i x' R'
  show match some src[i]? with | none => _ | some none => _ | some (some v) => _
  cases hv : src[i]? with
  | none => rw [hv] at q; exact q
  | some v =>
    rw [hv] at q
    refine ⟨q.1, fun x H' y => ?_⟩
    obtain ⟨T, ys, us, e1, e2, e3, e4, r⟩ := q.2 x H' y
    subst e1; subst e3; subst e4
    exact ⟨D'.frz T (.tup us), rfl, Ext.frz R' e2 _, Rel.frz R' e2 _, T, us, rfl, .inl ⟨.inr rfl, upd_same⟩, RepL.ext (Ext.frz R' e2 _) _ _ r⟩
def enumL : Nat → List AV → List AV
  | _, [] => []
  | i, x :: xs => .tup [.int i, x] :: enumL (i + 1) xs
theorem enumL_get : ∀ (xs : List AV) (k i : Nat), (enumL k xs)[i]? = (xs[i]?).map fun x => AV.tup [.int ((k + i : Nat) : Int), x]
  | [], _, _ => by simp [enumL]
  | x :: xs, k, 0 => by simp [enumL]
  | x :: xs, k, i + 1 => by
    have ih := enumL_get xs (k + 1) i
    show (enumL (k + 1) xs)[i]? = _
    rw [ih, show k + 1 + i = k + (i + 1) by omega]
    rfl
def frozenL : AV → Option (List AV)
  | .lst xs => some xs
  | .kl xs => some xs
  | _ => none
theorem frozenL_sq {Γ : Cfg} {D : Wd} {x : AV} {u : V} {xs : List AV} (r : Rep Γ.K D x u) (e : frozenL x = some xs) : ∃ a, u = .ref a ∧ ∀ D', Ext D D' → ∃ us, SqL Γ.K D'.H a us ∧ RepL Γ.K D' xs us := by
  cases x with
  | lst ys =>
    cases e
    obtain ⟨a, us, e1, _⟩ := id r
    refine ⟨a, e1, fun D' x' => ?_⟩
    obtain ⟨b, us', e2, ⟨_, t⟩, q⟩ := Rep.ext x' _ _ r
    rw [e1] at e2; cases e2
    exact ⟨us', SqL.of t, q⟩
  | kl ys =>
    cases e
    obtain ⟨a, us, e1, _⟩ := id r
    refine ⟨a, e1, fun D' x' => ?_⟩
    obtain ⟨b, us', e2, t, q⟩ := Rep.ext x' _ _ r
    rw [e1] at e2; cases e2
    exact ⟨us', t.sq, q⟩
  | _ => cases e
theorem tup_sq {Γ : Cfg} {D : Wd} {u : V} {xs : List AV} (r : Rep Γ.K D (.tup xs) u) : ∃ a, u = .ref a ∧ ∀ D', Ext D D' → ∃ us, SqT Γ.K D'.H a us ∧ RepL Γ.K D' xs us := by
  obtain ⟨a, us, e1, _⟩ := id r
  refine ⟨a, e1, fun D' x' => ?_⟩
  obtain ⟨b, us', e2, t, q⟩ := Rep.ext x' _ _ r
  rw [e1] at e2; cases e2
  exact ⟨us', t.sq, q⟩
theorem its_enT {Γ : Cfg} {D : Wd} {b : Addr} {xs : List AV} (k0 : Nat) {us : List V} (ht : RepL Γ.K D xs us) (all : ∀ D', Ext D D' → ∃ us, SqT Γ.K D'.H b us ∧ RepL Γ.K D' xs us) : ItS Γ D (.snap (enumL k0 xs)) (ItE Γ.K b k0 us.length) := its_pairs fun D' h' i x' R' => by
  obtain ⟨us', t, q⟩ := all D' x'
  have el : us'.length = us.length := by rw [q.length, ht.length]
  rw [enumL_get]
  cases hv : xs[i]? with
  | none => exact ⟨us', t, el, by rw [ht.length]; exact List.getElem?_eq_none_iff.mp hv⟩
  | some v =>
    obtain ⟨y, ey, ry⟩ := RepL.get q hv
    refine ⟨⟨us', y, t, el, ey⟩, fun z H' ⟨T, w', e3, e4, e5, hz⟩ => ?_⟩
    have e6 := Option.some.inj ((hz us' t).symm.trans ey)
    subst e6
    exact ⟨T, _, [.int ((k0 : Int) + (i : Int)), w'], e3, e4, e5, rfl, ⟨.int ((k0 : Int) + (i : Int)), _, rfl, by rw [Int.natCast_add]; exact rfl, ⟨w', [], rfl, ry, rfl⟩⟩⟩
def opEnum : List AV → AH → Out Src := fun xs h => match xs with
  | [.tup xs] => .ok (.snap (enumL 0 xs)) h
  | [x] => match frozenL x with
    | some xs => .ok (.snap (enumL 0 xs)) h
    | none => .bad
  | _ => .bad
theorem si_enum {x : Str} {elts : List Expr} {kk : Nat} {tpos : Pos} {e : Expr} {f : EvA} {p pos : Pos} (hxr : x = sEnum) (hx : x ∈ S.free) (hg : glB L.sc x = true) (ha : SA S L [e] f) (hs : notStar e = true) : SI S L (.Tuple elts kk tpos) (.Call (.Name x p) [e] [] pos) (eiOf opEnum f) := by
  subst hxr
  intro Γ G k X W so c
  refine PI.weak (pi_enA (gl_of c hg) (by rw [c.mg]; exact so.free _ hx) (ha Γ G k X W so c) (starEach_cons hs)) fun σ H R ⟨D, h, env, a, o⟩ => ?_
  refine ⟨D, h, env, a, (OutOk.bind (R1 := fun D _ => RepL Γ.K D) o).mono fun u H' ⟨D1, v1, h1, e1, x1, r1, q1, o1⟩ => ?_⟩
  rw [c.K]
  unfold opEnum at o1
  split at o1
  · rename_i xs
    obtain ⟨u', e, ru⟩ := q1.one
    subst e
    obtain ⟨b, e2, all⟩ := tup_sq ru
    subst e2
    obtain ⟨us, t, qq⟩ := all D1 (Ext.refl _)
    have q := o1 D1 (ItE Γ.K b 0 us.length) (Ext.refl D1) r1 (its_enT 0 qq all)
    rw [e1] at q t
    exact ⟨b, us, rfl, .inr ⟨t, q⟩⟩
  · split at o1
    · rename_i xs hxs
      obtain ⟨u', e, ru⟩ := q1.one
      subst e
      obtain ⟨b, e2, all⟩ := frozenL_sq ru hxs
      subst e2
      have i2 : ItS Γ D1 (.snap (enumL 0 xs)) (Ite Γ.K b) := its_pairs fun D' h' i x' R' => by
        obtain ⟨us, t, q⟩ := all D' x'
        rw [enumL_get]
        cases hv : xs[i]? with
        | none => exact ⟨us, t, by rw [q.length]; exact List.getElem?_eq_none_iff.mp hv⟩
        | some v =>
          obtain ⟨y, ey, ry⟩ := RepL.get q hv
          refine ⟨⟨us, y, t, ey⟩, fun z H' ⟨T, w', e3, e4, e5, hz⟩ => ?_⟩
          have e6 := Option.some.inj ((hz us t).symm.trans ey)
          subst e6
          exact ⟨T, _, [.int i, w'], e3, e4, e5, rfl, ⟨.int i, _, rfl, by rw [Nat.zero_add]; exact rfl, ⟨w', [], rfl, ry, rfl⟩⟩⟩
      obtain ⟨us, t, _⟩ := all D1 (Ext.refl _)
      have q := o1 D1 (Ite Γ.K b) (Ext.refl D1) r1 i2
      rw [e1] at q t
      exact ⟨b, us, rfl, .inl ⟨t, q⟩⟩
    · exact o1.elim
  · exact o1.elim
def opEnumS (k0 : Nat) : List AV → AH → Out Src := fun xs h => match xs with
  | [.tup xs] => .ok (.snap (enumL k0 xs)) h
  | _ => .bad
def sStart : Str := "start"
theorem si_enumS {x y : Str} {elts : List Expr} {kk k0 : Nat} {tpos : Pos} {e kv : Expr} {f : EvA} {p pos kp : Pos} (hxr : x = sEnum) (hyr : y = sStart) (hx : x ∈ S.free) (hg : glB L.sc x = true) (ha : SA S L [e] f) (hk : ∀ X : Cx, PE X kv (tC (.int (k0 : Int)))) (h1 : k0 < 1000) (hs : notStar e = true) :
    SI S L (.Tuple elts kk tpos) (.Call (.Name x p) [e] [⟨some y, kv, kp⟩] pos) (eiOf (opEnumS k0) f) := by
  subst hxr; subst hyr
  intro Γ G k X W so c
  refine PI.weak (pi_enS (k0 := (k0 : Int)) (gl_of c hg) (by rw [c.mg]; exact so.free _ hx) (ha Γ G k X W so c) (hk X) (by omega) (by omega) (starEach_cons hs)) fun σ H R ⟨D, h, env, a, o⟩ => ?_
  refine ⟨D, h, env, a, (OutOk.bind (R1 := fun D _ => RepL Γ.K D) o).mono fun u H' ⟨D1, v1, h1, e1, x1, r1, q1, o1⟩ => ?_⟩
  rw [c.K]
  unfold opEnumS at o1
  split at o1
  · rename_i xs
    obtain ⟨u', e, ru⟩ := q1.one
    subst e
    obtain ⟨b, e2, all⟩ := tup_sq ru
    subst e2
    obtain ⟨us, t, qq⟩ := all D1 (Ext.refl _)
    have q := o1 D1 (ItE Γ.K b k0 us.length) (Ext.refl D1) r1 (its_enT k0 qq all)
    rw [e1] at q t
    exact ⟨b, us, rfl, t, q⟩
  · exact o1.elim
def zipA : List AV → List AV → List AV
  | x :: xs, y :: ys => .tup [x, y] :: zipA xs ys
  | _, _ => []
theorem zipA_get : ∀ (xs ys : List AV) (i : Nat), (zipA xs ys)[i]? = match xs[i]?, ys[i]? with
    | some x, some y => some (AV.tup [x, y])
    | _, _ => none
  | [], ys, i => by cases ys <;> simp [zipA]
  | x :: xs, [], i => by
    simp only [zipA]
    cases (x :: xs)[i]? <;> simp
  | x :: xs, y :: ys, 0 => by simp [zipA]
  | x :: xs, y :: ys, i + 1 => by
    have ih := zipA_get xs ys i
    show (zipA xs ys)[i]? = _
    rw [ih]
    rfl
def opZip : List AV → AH → Out Src := fun xs h => match xs with
  | [.tup xs, .tup ys] => .ok (.snap (zipA xs ys)) h
  | [x, y] => match frozenL x, frozenL y with
    | some xs, some ys => .ok (.snap (zipA xs ys)) h
    | _, _ => .bad
  | _ => .bad
theorem its_zip {Γ : Cfg} {D : Wd} {xs ys : List AV} {Sq : Hp → Addr → List V → Prop} {a b : Addr} {J : It}
    (hgo : ∀ i H, J.go i H ↔ ∃ (us ws : List V) (x y : V), Sq H a us ∧ Sq H b ws ∧ us[i]? = some x ∧ ws[i]? = some y)
    (hyl : ∀ i H v H', J.yld i H v H' ↔ ∃ T x y, v = .ref T ∧ H T = none ∧ H' = upd H T (.tup [x, y]) ∧ (∀ us, Sq H a us → us[i]? = some x) ∧ ∀ ws, Sq H b ws → ws[i]? = some y)
    (hst : ∀ i H, J.stop i H ↔ ∃ us ws : List V, Sq H a us ∧ Sq H b ws ∧ (us.length ≤ i ∨ ws.length ≤ i))
    (ha : ∀ D', Ext D D' → ∃ us, Sq D'.H a us ∧ RepL Γ.K D' xs us) (hb : ∀ D', Ext D D' → ∃ us, Sq D'.H b us ∧ RepL Γ.K D' ys us) : ItS Γ D (.snap (zipA xs ys)) J := by
  refine its_pairs fun D' h' i x' R' => ?_
  obtain ⟨us, t, q⟩ := ha D' x'
  obtain ⟨ws, t2, q2⟩ := hb D' x'
  rw [zipA_get]
  cases hv : xs[i]? with
  | none => exact (hst _ _).mpr ⟨us, ws, t, t2, .inl (by rw [q.length]; exact List.getElem?_eq_none_iff.mp hv)⟩
  | some v =>
    cases hw : ys[i]? with
    | none => exact (hst _ _).mpr ⟨us, ws, t, t2, .inr (by rw [q2.length]; exact List.getElem?_eq_none_iff.mp hw)⟩
    | some w' =>
      obtain ⟨y, ey, ry⟩ := RepL.get q hv
      obtain ⟨z, ez, rz⟩ := RepL.get q2 hw
      refine ⟨(hgo _ _).mpr ⟨us, ws, y, z, t, t2, ey, ez⟩, fun o H' hy => ?_⟩
      obtain ⟨T, y', z', e3, e4, e5, h1, h2⟩ := (hyl _ _ _ _).mp hy
      have e6 := Option.some.inj ((h1 us t).symm.trans ey)
      have e7 := Option.some.inj ((h2 ws t2).symm.trans ez)
      subst e6; subst e7
      exact ⟨T, _, [y', z'], e3, e4, e5, rfl, ⟨y', _, rfl, ry, ⟨z', [], rfl, rz, rfl⟩⟩⟩
theorem si_zip {x : Str} {elts : List Expr} {kk : Nat} {tpos : Pos} {e e' : Expr} {f : EvA} {p pos : Pos} (hxr : x = sZip) (hx : x ∈ S.free) (hg : glB L.sc x = true) (ha : SA S L [e, e'] f) (hs : notStar e = true) (hs' : notStar e' = true) : SI S L (.Tuple elts kk tpos) (.Call (.Name x p) [e, e'] [] pos) (eiOf opZip f) := by
  subst hxr
  intro Γ G k X W so c
  have hal : [e'].all notStar = true := by simp [hs']
  refine PI.weak (RZ.pi_zipA (gl_of c hg) (by rw [c.mg]; exact so.free _ hx) (ha Γ G k X W so c) (starEach_cons hs) (starEach_plain hal)) fun σ H R ⟨D, h, env, a, o⟩ => ?_
  refine ⟨D, h, env, a, (OutOk.bind (R1 := fun D _ => RepL Γ.K D) o).mono fun u H' ⟨D1, v1, h1, e1, x1, r1, q1, o1⟩ => ?_⟩
  rw [c.K]
  unfold opZip at o1
  split at o1
  · obtain ⟨u', w', e, ru, rw'⟩ := q1.two
    subst e
    obtain ⟨b, e2, all⟩ := tup_sq ru
    obtain ⟨b', e2', all'⟩ := tup_sq rw'
    subst e2; subst e2'
    obtain ⟨us, t, _⟩ := all D1 (Ext.refl _)
    obtain ⟨us', t', _⟩ := all' D1 (Ext.refl _)
    have q := o1 D1 (RZ.ItzT Γ.K b b') (Ext.refl D1) r1 (its_zip (Sq := SqT Γ.K) (fun _ _ => Iff.rfl) (fun _ _ _ _ => Iff.rfl) (fun _ _ => Iff.rfl) all all')
    rw [e1] at q t t'
    exact ⟨b, b', us, us', rfl, .inr ⟨t, t', q⟩⟩
  · split at o1
    · rename_i h2 h3
      obtain ⟨u', w', e, ru, rw'⟩ := q1.two
      subst e
      obtain ⟨b, e2, all⟩ := frozenL_sq ru h2
      obtain ⟨b', e2', all'⟩ := frozenL_sq rw' h3
      subst e2; subst e2'
      obtain ⟨us, t, _⟩ := all D1 (Ext.refl _)
      obtain ⟨us', t', _⟩ := all' D1 (Ext.refl _)
      have q := o1 D1 (Itz Γ.K b b') (Ext.refl D1) r1 (its_zip (Sq := SqL Γ.K) (fun _ _ => Iff.rfl) (fun _ _ _ _ => Iff.rfl) (fun _ _ => Iff.rfl) all all')
      rw [e1] at q t t'
      exact ⟨b, b', us, us', rfl, .inl ⟨t, t', q⟩⟩
    · exact o1.elim
  · exact o1.elim
end
end Pv
end
section
set_option Elab.async false
set_option linter.all false
set_option maxRecDepth 100000
set_option autoImplicit false
namespace Pv
open PySem PySem.Spec PyProof.Rows L2

/-! ### targets -/
inductive Tg where
  | nm (i : Nat)
  | tp (is : List Nat)
def setsA : List Nat → List AV → Env1 → Env1
  | i :: is, x :: xs, env => setsA is xs (env.set i (some x))
  | _, _, env => env
def setTg : Tg → AV → Env1 → Option Env1
  | .nm i, v, env => some (env.set i (some v))
  | .tp is, .tup xs, env => if xs.length = is.length then some (setsA is xs env) else none
  | _, _, _ => none
def Tg.slots : Tg → List Nat
  | .nm i => [i]
  | .tp is => is
def gNames : List Nat → TGs
  | [] => gNil
  | i :: is => gCons (gName i) (gNames is)
def gTg (K : PySem.W.Frag) : Tg → TG
  | .nm i => gName i
  | .tp is => gTup K is.length (gNames is)
/-- only the slots is were set -/
def SetBy (is : List Nat) (σ σ' : L2.St) : Prop := σ'.length = σ.length ∧ ∀ j, j ∉ is → σ'[j]? = σ[j]?
theorem SetBy.refl (is : List Nat) (σ : L2.St) : SetBy is σ σ := ⟨rfl, fun _ _ => rfl⟩
theorem SetBy.set {is : List Nat} {σ : L2.St} {i : Nat} {v : V} (h : i ∈ is) : SetBy is σ (σ.set i (some v)) :=
  ⟨by simp, fun j hj => List.getElem?_set_ne fun e => hj (by rw [← e]; exact h)⟩
theorem SetBy.trans {is : List Nat} {a b c : L2.St} (h : SetBy is a b) (g : SetBy is b c) : SetBy is a c := ⟨g.1.trans h.1, fun j hj => (g.2 j hj).trans (h.2 j hj)⟩
theorem wipe_get (σ : L2.St) : ∀ (vs : List Nat) (j : Nat), (wipe σ vs)[j]? = if j ∈ vs ∧ j < σ.length then some none else σ[j]?
  | [], j => by simp [wipe]
  | v :: vs, j => by
    unfold wipe
    have ih := wipe_get σ vs j
    by_cases h : v = j
    · subst h
      by_cases hl : v < σ.length
      · rw [List.getElem?_set_self (by rw [wipe_length]; exact hl), if_pos ⟨List.mem_cons_self, hl⟩]
      · rw [List.getElem?_eq_none (by rw [List.length_set, wipe_length]; omega), if_neg (fun z => hl z.2), List.getElem?_eq_none (by omega)]
    · rw [List.getElem?_set_ne h, ih]
      by_cases hl : j ∈ vs ∧ j < σ.length
      · rw [if_pos hl, if_pos ⟨List.mem_cons_of_mem _ hl.1, hl.2⟩]
      · rw [if_neg hl, if_neg fun z => hl ⟨(List.mem_cons.mp z.1).resolve_left (fun e => h e.symm), z.2⟩]
theorem SetBy.wipe {is vs : List Nat} {σ σ' : L2.St} (h : SetBy is (wipe σ vs) σ') (hs : ∀ i ∈ is, i ∈ vs) : wipe σ' vs = wipe σ vs := by
  have el : σ'.length = σ.length := by rw [h.1, wipe_length]
  apply List.ext_getElem?
  intro j
  rw [wipe_get, wipe_get, el]
  by_cases hj : j ∈ vs ∧ j < σ.length
  · rw [if_pos hj, if_pos hj]
  · rw [if_neg hj, if_neg hj]
    by_cases hv : j ∈ vs
    · have : ¬ j < σ.length := fun z => hj ⟨hv, z⟩
      rw [List.getElem?_eq_none (by omega), List.getElem?_eq_none (by omega)]
    · rw [h.2 j fun z => hv (hs j z), wipe_get, if_neg hj]
theorem gNames_of {K : PySem.W.Frag} {D : Wd} {all : List Nat} {H : Hp} {Q : L2.St → Hp → Prop} : ∀ (is : List Nat) (xs : List AV) (us : List V) (env : Env1) (σ : L2.St), RepL K D xs us → xs.length = is.length → EnvR K D env σ → (∀ i ∈ is, i ∈ all) →
    (∀ σ', EnvR K D (setsA is xs env) σ' → SetBy all σ σ' → Q σ' H) → gNames is us σ H Q
  | [], xs, us, env, σ, r, e, en, _, h => by
    have ex : xs = [] := List.length_eq_zero_iff.mp e
    subst ex
    have eu : us = [] := r
    exact ⟨eu, h σ en (SetBy.refl _ _)⟩
  | i :: is, [], us, env, σ, r, e, en, _, h => by simp at e
  | i :: is, x :: xs, us, env, σ, r, e, en, hs, h => by
    obtain ⟨u, us', e1, r1, r2⟩ := r
    refine ⟨u, us', e1, gNames_of is xs us' (env.set i (some x)) (σ.set i (some u)) r2 (by simpa using e) (en.set i r1) (fun j hj => hs j (List.mem_cons_of_mem _ hj)) fun σ' en' sb => h σ' en' ?_⟩
    exact (SetBy.set (hs i List.mem_cons_self)).trans sb
theorem gTg_of {K : PySem.W.Frag} {D : Wd} {t : Tg} {x : AV} {u : V} {env env' : Env1} {σ : L2.St} {Q : L2.St → Hp → Prop} (r : Rep K D x u) (en : EnvR K D env σ) (e : setTg t x env = some env')
    (h : ∀ σ', EnvR K D env' σ' → SetBy t.slots σ σ' → Q σ' D.H) : gTg K t u σ D.H Q := by
  cases t with
  | nm i =>
    cases e
    exact h _ (en.set i r) (SetBy.set (List.mem_singleton.mpr rfl))
  | tp is =>
    cases x with
    | tup xs =>
      simp only [setTg] at e
      split at e
      · rename_i hl
        cases e
        obtain ⟨a, us, e1, t, q⟩ := r
        exact ⟨a, us, e1, t.sq, by rw [q.length, hl], gNames_of is xs us env σ q hl en (fun _ h => h) h⟩
      · cases e
    | _ => cases e
def SG (L : Lc) (tg : Expr) (t : Tg) : Prop := ∀ (Γ : Cfg) (k : Nat) (X : Cx) (W : WX), CtxP Γ k L X W → PG X tg (gTg X.K t)
theorem loc_of {Γ : Cfg} {k : Nat} {L : Lc} {X : Cx} {W : WX} (c : CtxP Γ k L X W) {x : Str} (h : locB L x = true) : Loc X.env.scope x ∧ (X.fn x = true ∨ X.env.scope.names.lookup x = some .local) := by
  unfold locB at h
  rw [Bool.or_eq_true, Bool.and_eq_true] at h
  rcases h with h | ⟨h, h2⟩
  · have e := of_decide_eq_true h
    rw [← c.sc] at e
    exact ⟨.inl e, .inr e⟩
  · have e := of_decide_eq_true h
    rw [← c.sc] at e
    exact ⟨.inr e, .inl (c.cells x h2)⟩
theorem sg_nm {L : Lc} {i : Nat} {x : Str} {pos : Pos} (hN : L.N[i]? = some x) (hl : locB L x = true) : SG L (.Name x pos) (.nm i) := by
  intro Γ k X W c
  obtain ⟨h1, h2⟩ := loc_of c hl
  exact pg_name (i := i) (x := x) (by rw [c.hN]; exact c.nd) (by rw [c.hN]; exact hN) h1 h2
def SGs (L : Lc) (es : List Expr) (is : List Nat) : Prop := ∀ (Γ : Cfg) (k : Nat) (X : Cx) (W : WX), CtxP Γ k L X W → PGs X es (gNames is)
def isName : Expr → Bool
  | .Name .. => true
  | _ => false
theorem each_name {e : Expr} {es : List Expr} {env : Env} (h : isName e = true) : (assignEach (e :: es) env).map (·.2) = assign e env :: (assignEach es env).map (·.2) := by
  cases e <;> first | rfl | cases h
theorem each_len : ∀ {es : List Expr} {env : Env}, es.all isName = true → (assignEach es env).length = es.length ∧ (assignEach es env).findIdx? (·.1) = none
  | [], _, _ => ⟨rfl, rfl⟩
  | e :: es, env, h => by
    rw [List.all_cons, Bool.and_eq_true] at h
    obtain ⟨h1, h2⟩ := each_len (es := es) (env := env) h.2
    cases e with
    | Name x p =>
      refine ⟨by show (assignEach es env).length + 1 = _; rw [h1]; rfl, ?_⟩
      show ((false, _) :: assignEach es env).findIdx? (·.1) = none
      rw [List.findIdx?_cons]
      simp [h2]
    | _ => cases h.1
theorem sgs_nil {L : Lc} : SGs L [] [] := fun _ _ _ _ _ => pgs_nil
theorem sgs_cons {L : Lc} {e : Expr} {es : List Expr} {i : Nat} {is : List Nat} (h1 : SG L e (.nm i)) (h2 : SGs L es is) (hn : isName e = true) : SGs L (e :: es) (i :: is) := fun Γ k X W c =>
  pgs_cons (h1 Γ k X W c) (h2 Γ k X W c) (each_name hn)
theorem sg_tp {L : Lc} {es : List Expr} {is : List Nat} {j : Nat} {pos : Pos} (h : SGs L es is) (hn : es.all isName = true) (hl : es.length = is.length) (hh : L.hot = false) : SG L (.Tuple es j pos) (.tp is) := fun Γ k X W c =>
  pg_tup (c.calm hh) (h Γ k X W c) ((each_len hn).1.trans hl) (each_len hn).2

/-! ### statements -/
def SOk (Γ : Cfg) (D : Wd) (o : SOut) (E : Ends) (W : WX) : Prop := match o with
  | .nx env h => ∀ (D' : Wd) (σ : L2.St), Ext D D' → Rel Γ.K D' h → EnvR Γ.K D' env σ → E.nx σ D'.H
  | .ret v h => ∀ (D' : Wd) (u : V), Ext D D' → Rel Γ.K D' h → Rep Γ.K D' v u → E.rt u D'.H
  | .brk env h => ∀ (D' : Wd) (σ : L2.St), Ext D D' → Rel Γ.K D' h → EnvR Γ.K D' env σ → E.bk σ D'.H
  | .ct env h => ∀ (D' : Wd) (σ : L2.St), Ext D D' → Rel Γ.K D' h → EnvR Γ.K D' env σ → E.ct σ D'.H
  | .exc e env h => ∀ (D' : Wd) (σ : L2.St) (cls : Value) (d : Option Addr), Ext D D' → Rel Γ.K D' h → EnvR Γ.K D' env σ → RepX Γ D' e cls d → W cls d σ D'.H
  | .bad => False
theorem SOk.ext {Γ : Cfg} {D D' : Wd} {o : SOut} {E : Ends} {W : WX} (x : Ext D D') (h : SOk Γ D o E W) : SOk Γ D' o E W := by
  cases o with
  | nx env hh => exact fun D2 s x2 r q => h D2 s (x.trans x2) r q
  | ret v hh => exact fun D2 s x2 r q => h D2 s (x.trans x2) r q
  | brk env hh => exact fun D2 s x2 r q => h D2 s (x.trans x2) r q
  | ct env hh => exact fun D2 s x2 r q => h D2 s (x.trans x2) r q
  | exc e env hh => exact fun D2 s c d x2 r q => h D2 s c d (x.trans x2) r q
  | bad => exact h
def Out.s {α : Type} (o : Out α) (env : Env1) (k : α → AH → SOut) : SOut := match o with
  | .ok v h => k v h
  | .exc e h => .exc e env h
  | .bad => .bad
theorem SOk.bind {α β : Type} {Γ : Cfg} {D : Wd} {o : Out α} {env : Env1} {k : α → AH → SOut} {E : Ends} {W : WX} {R : Wd → AH → α → β → Prop} {σ : L2.St} (en : EnvR Γ.K D env σ) (h : SOk Γ D (o.s env k) E W) :
    OutOk Γ D o R (fun u H' => ∃ (D' : Wd) (v : α) (h' : AH), D'.H = H' ∧ Ext D D' ∧ Rel Γ.K D' h' ∧ R D' h' v u ∧ SOk Γ D' (k v h') E W) (fun c d H' => W c d σ H') := by
  cases o with
  | ok v hh => exact fun D2 u x2 r q => ⟨D2, v, hh, rfl, x2, r, q, SOk.ext x2 h⟩
  | exc e hh => exact fun D2 c d x2 r q => h D2 σ c d x2 r (en.ext x2) q
  | bad => exact h
def tSv (Γ : Cfg) (W : WX) (f : Env1 → AH → SOut) : TS := fun E σ H => ∃ (D : Wd) (h : AH) (env : Env1), At Γ D h env σ H ∧ SOk Γ D (f env h) E W
structure CtxS (Γ : Cfg) (k : Nat) (L : Lc) (X : Cx) (W : WX) : Prop extends CtxP Γ k L X W where
  pass : PassesOwn (model X.prog X.w) X.A X.env X.xe
  stk : X.stack = X.env :: X.outer
  fr : X.env.frame = some X.env.locals
def SS (S : Stat) (L : Lc) (st : Stmt) (f : EvS) : Prop := ∀ (Γ : Cfg) (G : GT) (k : Nat) (X : Cx) (W : WX), StatOk Γ S G k → CtxS Γ k L X W → PS X st (tSv Γ W (f G))
def SSs (S : Stat) (L : Lc) (st : List Stmt) (f : EvS) : Prop := ∀ (Γ : Cfg) (G : GT) (k : Nat) (X : Cx) (W : WX), StatOk Γ S G k → CtxS Γ k L X W → PSs X st (tSv Γ W (f G))
section
variable {S : Stat} {L : Lc}
def esNx : EvS := fun _ env h => .nx env h
def esSeq (f g : EvS) : EvS := fun G env h => match f G env h with
  | .nx env' h' => g G env' h'
  | r => r
theorem SOk.nx {Γ : Cfg} {D : Wd} {h : AH} {env : Env1} {σ : L2.St} {H : Hp} {E : Ends} {W : WX} (a : At Γ D h env σ H) (o : SOk Γ D (.nx env h) E W) : E.nx σ H := by
  have q := o D σ (Ext.refl D) a.rel a.env
  rw [a.hp] at q
  exact q
theorem ss_pass {pos : Pos} : SS S L (.Pass pos) esNx := fun Γ G k X W so c => PS.weak ps_pass fun E σ H ⟨D, h, env, a, o⟩ => SOk.nx a o
theorem ss_doc {x : Str} {j : Nat} {pos pos' : Pos} : SS S L (.Expr (.Constant (.str x) j pos) pos') esNx := fun Γ G k X W so c => PS.weak ps_doc fun E σ H ⟨D, h, env, a, o⟩ => SOk.nx a o
def esBrk : EvS := fun _ env h => .brk env h
def esCt : EvS := fun _ env h => .ct env h
theorem ss_brk {pos : Pos} : SS S L (.Break pos) esBrk := fun Γ G k X W so c => PS.weak ps_break fun E σ H ⟨D, h, env, a, o⟩ => by
  have q := o D σ (Ext.refl D) a.rel a.env
  rw [a.hp] at q
  exact q
theorem ss_ct {pos : Pos} : SS S L (.Continue pos) esCt := fun Γ G k X W so c => PS.weak ps_continue fun E σ H ⟨D, h, env, a, o⟩ => by
  have q := o D σ (Ext.refl D) a.rel a.env
  rw [a.hp] at q
  exact q
theorem sss_nil : SSs S L [] esNx := fun Γ G k X W so c => PSs.weak pss_nil fun E σ H ⟨D, h, env, a, o⟩ => SOk.nx a o
theorem sss_one {st : Stmt} {f : EvS} (h1 : SS S L st f) : SSs S L [st] f := fun Γ G k X W so c => pss_one (h1 Γ G k X W so c)
theorem sss_cons {st : Stmt} {sts : List Stmt} {f g : EvS} (h1 : SS S L st f) (h2 : SSs S L sts g) : SSs S L (st :: sts) (esSeq f g) := by
  intro Γ G k X W so c
  refine PSs.weak (pss_cons (h1 Γ G k X W so c) (h2 Γ G k X W so c)) fun E σ H ⟨D, h, env, a, o⟩ => ⟨D, h, env, a, ?_⟩
  unfold esSeq at o
  cases e : f G env h with
  | nx env' h' =>
    rw [e] at o
    exact fun D' σ' x' r' en' => ⟨D', h', env', ⟨rfl, r', en'⟩, SOk.ext x' o⟩
  | ret v h' => rw [e] at o; exact o
  | brk env' h' => rw [e] at o; exact o
  | ct env' h' => rw [e] at o; exact o
  | exc e' env' h' => rw [e] at o; exact o
  | bad => rw [e] at o; exact o
def esDrop (f : EvE) : EvS := fun G env h => (f G env h).s env fun _ h1 => .nx env h1
theorem ss_expr {e : Expr} {f : EvE} {pos : Pos} (he : SE S L e f) (hc : notComp e = true) : SS S L (.Expr e pos) (esDrop f) := by
  intro Γ G k X W so c
  refine PS.weak (ps_expr (he Γ G k X W so c.toCtxP) (swaps_of hc)) fun E σ H ⟨D, h, env, a, o⟩ => ?_
  exact ⟨D, h, env, a, (SOk.bind (R := fun D _ => Rep Γ.K D) a.env o).mono fun u H' ⟨D1, v1, h1, e1, x1, r1, q1, o1⟩ => SOk.nx (a.next e1 x1 r1) o1⟩
def esRet (f : EvE) : EvS := fun G env h => (f G env h).s env fun v h1 => .ret v h1
theorem ss_ret {e : Expr} {f : EvE} {pos : Pos} (he : SE S L e f) : SS S L (.Return (some e) pos) (esRet f) := by
  intro Γ G k X W so c
  refine PS.weak (ps_ret (he Γ G k X W so c.toCtxP)) fun E σ H ⟨D, h, env, a, o⟩ => ?_
  refine ⟨D, h, env, a, (SOk.bind (R := fun D _ => Rep Γ.K D) a.env o).mono fun u H' ⟨D1, v1, h1, e1, x1, r1, q1, o1⟩ => ?_⟩
  have q := o1 D1 u (Ext.refl _) r1 q1
  rw [e1] at q
  exact q
def esRetN : EvS := fun _ _ h => .ret .non h
theorem ss_retN {pos : Pos} : SS S L (.Return none pos) esRetN := by
  intro Γ G k X W so c
  refine PS.weak ps_retN fun E σ H ⟨D, h, env, a, o⟩ => ?_
  have q := o D .non (Ext.refl _) a.rel rfl
  rw [a.hp] at q
  exact q
def esIf (t : EvT) (f g : EvS) : EvS := fun G env h => (t G env h).s env fun b h1 => if b = true then f G env h1 else g G env h1
theorem ss_if {e : Expr} {t : EvT} {as bs : List Stmt} {f g : EvS} {pos : Pos} (ht : ST S L e t) (ha : SSs S L as f) (hb : SSs S L bs g) : SS S L (.If e as bs pos) (esIf t f g) := by
  intro Γ G k X W so c
  refine PS.weak (ps_if (ht Γ G k X W so c.toCtxP) (ha Γ G k X W so c) (hb Γ G k X W so c)) fun E σ H ⟨D, h, env, a, o⟩ => ?_
  refine ⟨D, h, env, a, (SOk.bind (R := fun _ _ (b c : Bool) => b = c) a.env o).mono fun u H' ⟨D1, v1, h1, e1, x1, r1, q1, o1⟩ => ?_⟩
  subst q1
  cases v1 with
  | true => exact ⟨D1, h1, env, a.next e1 x1 r1, o1⟩
  | false => exact ⟨D1, h1, env, a.next e1 x1 r1, o1⟩
/-! assignments -/
def esSet (t : Tg) (f : EvE) : EvS := fun G env h => (f G env h).s env fun v h1 => match setTg t v env with
  | some env' => .nx env' h1
  | none => .bad
theorem asg_of {Γ : Cfg} {W : WX} {t : Tg} {f : EvE} {G : GT} (E : Ends) (σ : L2.St) (H : Hp) (o : tSv Γ W (esSet t f G) E σ H) : tAsg (tEv Γ W (f G)) (gTg Γ.K t) E σ H := by
  obtain ⟨D, h, env, a, o⟩ := o
  refine ⟨D, h, env, a, (SOk.bind (R := fun D _ => Rep Γ.K D) a.env o).mono fun u H' ⟨D1, v1, h1, e1, x1, r1, q1, o1⟩ => ?_⟩
  split at o1
  · rename_i env' he
    have q := gTg_of (Q := E.nx) q1 (a.env.ext x1) he fun σ' en' _ => o1 D1 σ' (Ext.refl _) r1 en'
    rw [e1] at q
    exact q
  · exact o1.elim
theorem ss_set {x : Str} {i : Nat} {e : Expr} {f : EvE} {p pos : Pos} (hN : L.N[i]? = some x) (hl : locB L x = true) (he : SE S L e f) (hc : notComp e = true) : SS S L (.Assign [.Name x p] e pos) (esSet (.nm i) f) := by
  intro Γ G k X W so c
  obtain ⟨h1, h2⟩ := loc_of c.toCtxP hl
  exact PS.weak (ps_set (i := i) (by rw [c.hN]; exact c.nd) (by rw [c.hN]; exact hN) h1 (he Γ G k X W so c.toCtxP) (swaps_of hc) h2) fun E σ H o => asg_of E σ H o
def notTup : Expr → Bool
  | .Tuple .. => false
  | _ => true
theorem swapped_none {ts : List Expr} {e : Expr} {env : Env} (h : notTup e = true) : swappedStores ts e env = pure none := by
  cases e with
  | Tuple => cases h
  | _ => unfold swappedStores; rcases ts with _ | ⟨t, _ | ⟨t2, ts⟩⟩ <;> first | rfl | (cases t <;> rfl)
theorem assignEach_tup {es : List Expr} {j : Nat} {p : Pos} {env : Env} : (assignEach [Expr.Tuple es j p] env).map (·.2) = [assign (.Tuple es j p) env] := rfl
theorem ss_unp {es : List Expr} {is : List Nat} {j : Nat} {e : Expr} {f : EvE} {p pos : Pos} (hg : SG L (.Tuple es j p) (.tp is)) (he : SE S L e f) (hc : notComp e = true) (hw : ∀ env : Env, env.scope = L.sc → swappedStores [.Tuple es j p] e env = pure none) :
    SS S L (.Assign [.Tuple es j p] e pos) (esSet (.tp is) f) := by
  intro Γ G k X W so c
  refine PS.weak (ps_asg (he Γ G k X W so c.toCtxP) (hg Γ k X W c.toCtxP) (swaps_of (t := some (.Tuple es j p)) (l := pos.line) (env := X.env) hc : swapsWith e (some (Expr.Tuple es j p)) pos.line X.env = pure false) (hw _ c.sc) assignEach_tup) fun E σ H o => ?_
  rw [c.K]
  exact asg_of E σ H o
/-! a, b = x, y -/
def esPar (is : List Nat) (f : EvA) : EvS := fun G env h => (f G env h).s env fun vs h1 => if vs.length = is.length then .nx (setsA is vs env) h1 else .bad
def kindB (sc : Scope) : Bool := decide (sc.kind = .function)
theorem swapped2 {x y : Str} {px py p p2 : Pos} {a b : Expr} {j j2 : Nat} {env : Env} (hk : kindB env.scope = true) (hx : env.scope.names.lookup x = some .local) (hy : env.scope.names.lookup y = some .local) (hl : (py.line == px.line) = true) (hxy : (x == y) = false)
    (ha : notStar a = true) (hb : notStar b = true) (hf : ([a, b].all (foldedForSure 8)) = false) (hc : ([a, b].all (constantsAlone 8)) = false) : swappedStores [.Tuple [.Name x px, .Name y py] j p] (.Tuple [a, b] j2 p2) env = pure (some [x, y]) := by
  have hb' : env.blockKind = .function := by unfold Env.blockKind; rw [of_decide_eq_true hk]; rfl
  have hx' : env.kindOf x = some .local := hx
  have hy' : env.kindOf y = some .local := hy
  have hxy' : (y == x) = false := by
    cases e : y == x with
    | false => rfl
    | true => rw [beq_iff_eq.mp e] at hxy; simp at hxy
  unfold swappedStores
  simp only [pure_bind, hb', List.length_cons, List.length_nil, List.any_cons, List.any_nil, hf, hc, List.filterMap_cons, List.filterMap_nil, hx', hy', Expr.pos, hl, List.head?_cons, Option.map_some, Option.getD_some, beq_self_eq_true, Bool.and_self, if_true]
  simp [List.eraseDups, List.eraseDupsBy, List.eraseDupsBy.loop, hxy, hxy']
  intro q
  exfalso
  rcases q with q | q
  · split at q
    · cases ha
    · cases q
  · split at q
    · cases hb
    · cases q
end
end Pv
end
section
set_option Elab.async false
set_option linter.all false
set_option maxRecDepth 100000
set_option autoImplicit false
namespace Pv
open PySem PySem.Spec PyProof.Rows L2
section
variable {S : Stat} {L : Lc}
theorem RepL.three {K : PySem.W.Frag} {D : Wd} {x y z : AV} {us : List V} (r : RepL K D [x, y, z] us) : ∃ u v w, us = [u, v, w] ∧ Rep K D x u ∧ Rep K D y v ∧ Rep K D z w := by
  obtain ⟨u, t, e, r1, r2⟩ := r
  obtain ⟨v, w, e2, r3, r4⟩ := RepL.two r2
  exact ⟨u, v, w, by rw [e, e2], r1, r3, r4⟩
def esPar2 (i j : Nat) (f : EvA) : EvS := fun G env h => (f G env h).s env fun vs h1 => match vs with
  | [x, y] => .nx ((env.set i (some x)).set j (some y)) h1
  | _ => .bad
def esPar3 (i j l : Nat) (f : EvA) : EvS := fun G env h => (f G env h).s env fun vs h1 => match vs with
  | [x, y, z] => .nx (((env.set i (some x)).set j (some y)).set l (some z)) h1
  | _ => .bad
def locOnly (L : Lc) (x : Str) : Bool := decide (L.sc.names.lookup x = some .local)
theorem ss_par2 {x y : Str} {i j : Nat} {a b : Expr} {f : EvA} {px py p p2 pos : Pos} {k1 k2 : Nat} (hi : L.N[i]? = some x) (hj : L.N[j]? = some y) (hij : (i == j) = false) (hx : locOnly L x = true) (hy : locOnly L y = true) (hk : kindB L.sc = true) (hl : (py.line == px.line) = true) (hxy : (x == y) = false)
    (ha : notStar a = true) (hb : notStar b = true) (hf : ([a, b].all (foldedForSure 8)) = false) (hc : ([a, b].all (constantsAlone 8)) = false) (hA : SA S L [a, b] f) (hh : L.hot = false) :
    SS S L (.Assign [.Tuple [.Name x px, .Name y py] k1 p] (.Tuple [a, b] k2 p2) pos) (esPar2 i j f) := by
  intro Γ G k X W so c
  have hx' : X.env.scope.names.lookup x = some .local := by rw [c.sc]; exact of_decide_eq_true hx
  have hy' : X.env.scope.names.lookup y = some .local := by rw [c.sc]; exact of_decide_eq_true hy
  refine PS.weak (ps_par (i := i) (j := j) (c.calm hh) (by rw [c.hN]; exact c.nd) (by rw [c.hN]; exact hi) (by rw [c.hN]; exact hj) (fun e => by rw [e] at hij; simp at hij) hx' hy' (hA Γ G k X W so c.toCtxP)
    (swapped2 (by rw [c.sc]; exact hk) hx' hy' hl hxy ha hb hf hc)) fun E σ H ⟨D, h, env, a, o⟩ => ?_
  refine ⟨D, h, env, a, (SOk.bind (R := fun D _ => RepL Γ.K D) a.env o).mono fun us H' ⟨D1, v1, h1, e1, x1, r1, q1, o1⟩ => ?_⟩
  split at o1
  · obtain ⟨u, v, e2, ru, rv⟩ := q1.two
    refine ⟨u, v, e2, ?_⟩
    have q := o1 D1 _ (Ext.refl _) r1 (((a.env.ext x1).set i ru).set j rv)
    rw [e1] at q
    exact q
  · exact o1.elim
theorem swapped3 {x y z : Str} {px py pz p p2 : Pos} {a b c : Expr} {j j2 : Nat} {env : Env} (hk : kindB env.scope = true) (hx : env.scope.names.lookup x = some .local) (hy : env.scope.names.lookup y = some .local) (hz : env.scope.names.lookup z = some .local) (hl : (py.line == px.line) = true) (hl2 : (pz.line == px.line) = true) (hxy : (x == y) = false) (hxz : (x == z) = false) (hyz : (y == z) = false)
    (ha : notStar a = true) (hb : notStar b = true) (hc' : notStar c = true) (hf : ([a, b, c].all (foldedForSure 8)) = false) (hc : ([a, b, c].all (constantsAlone 8)) = false) : swappedStores [.Tuple [.Name x px, .Name y py, .Name z pz] j p] (.Tuple [a, b, c] j2 p2) env = pure (some [x, y, z]) := by
  have hb' : env.blockKind = .function := by unfold Env.blockKind; rw [of_decide_eq_true hk]; rfl
  have hx' : env.kindOf x = some .local := hx
  have hy' : env.kindOf y = some .local := hy
  have hz' : env.kindOf z = some .local := hz
  have sym : ∀ {x y : Str}, (x == y) = false → (y == x) = false := fun {x y} h => by
    cases e : y == x with
    | false => rfl
    | true => rw [beq_iff_eq.mp e] at h; simp at h
  have h1 := sym hxy
  have h2 := sym hxz
  have h3 := sym hyz
  unfold swappedStores
  simp only [pure_bind, hb', List.length_cons, List.length_nil, List.any_cons, List.any_nil, hf, hc, List.filterMap_cons, List.filterMap_nil, hx', hy', hz', Expr.pos, hl, hl2, List.head?_cons, Option.map_some, Option.getD_some, beq_self_eq_true, Bool.and_self, if_true]
  simp [List.eraseDups, List.eraseDupsBy, List.eraseDupsBy.loop, hxy, hxz, hyz, h1, h2, h3]
  intro q
  exfalso
  rcases q with q | q | q
  · split at q
    · cases ha
    · cases q
  · split at q
    · cases hb
    · cases q
  · split at q
    · cases hc'
    · cases q
theorem ss_par3 {x y z : Str} {i j l : Nat} {a b d : Expr} {f : EvA} {px py pz p p2 pos : Pos} {k1 k2 : Nat} (hi : L.N[i]? = some x) (hj : L.N[j]? = some y) (hl' : L.N[l]? = some z) (hij : (i == j) = false) (hil : (i == l) = false) (hjl : (j == l) = false) (hx : locOnly L x = true) (hy : locOnly L y = true) (hz : locOnly L z = true) (hk : kindB L.sc = true)
    (hl : (py.line == px.line) = true) (hl2 : (pz.line == px.line) = true) (hxy : (x == y) = false) (hxz : (x == z) = false) (hyz : (y == z) = false)
    (ha : notStar a = true) (hb : notStar b = true) (hd : notStar d = true) (hf : ([a, b, d].all (foldedForSure 8)) = false) (hc : ([a, b, d].all (constantsAlone 8)) = false) (hA : SA S L [a, b, d] f) (hh : L.hot = false) :
    SS S L (.Assign [.Tuple [.Name x px, .Name y py, .Name z pz] k1 p] (.Tuple [a, b, d] k2 p2) pos) (esPar3 i j l f) := by
  intro Γ G k X W so c
  have hx' : X.env.scope.names.lookup x = some .local := by rw [c.sc]; exact of_decide_eq_true hx
  have hy' : X.env.scope.names.lookup y = some .local := by rw [c.sc]; exact of_decide_eq_true hy
  have hz' : X.env.scope.names.lookup z = some .local := by rw [c.sc]; exact of_decide_eq_true hz
  have ne : ∀ {a b : Nat}, (a == b) = false → a ≠ b := fun {a b} h e => by rw [e] at h; simp at h
  refine PS.weak (ps_par3 (i := i) (j := j) (l := l) (c.calm hh) (by rw [c.hN]; exact c.nd) (by rw [c.hN]; exact hi) (by rw [c.hN]; exact hj) (by rw [c.hN]; exact hl') (ne hij) (ne hil) (ne hjl) hx' hy' hz' (hA Γ G k X W so c.toCtxP)
    (swapped3 (by rw [c.sc]; exact hk) hx' hy' hz' hl hl2 hxy hxz hyz ha hb hd hf hc)) fun E σ H ⟨D, h, env, a, o⟩ => ?_
  refine ⟨D, h, env, a, (SOk.bind (R := fun D _ => RepL Γ.K D) a.env o).mono fun us H' ⟨D1, v1, h1, e1, x1, r1, q1, o1⟩ => ?_⟩
  split at o1
  · obtain ⟨u, v, w, e2, ru, rv, rw'⟩ := q1.three
    refine ⟨u, v, w, e2, ?_⟩
    have q := o1 D1 _ (Ext.refl _) r1 ((((a.env.ext x1).set i ru).set j rv).set l rw')
    rw [e1] at q
    exact q
  · exact o1.elim
/-! x += e: numbers and texts -/
def esAug (i : Nat) (op : Op2) (f : EvE) : EvS := fun G env h => match env[i]? with
  | some (some x) => ((f G env h).bind fun y h1 => op x y h1).s env fun z h2 => .nx (env.set i (some z)) h2
  | _ => .bad
def IpS (op : Operator) (oo : Op2) : Prop := ∃ r : PySem.W.Frag → R2, (∀ X : Cx, OpR X (inplaceOp op) (r X.K)) ∧ OpS oo r
def iaddOp : Op2 := fun x y h => match x, y with
  | .int i, .int j => .ok (.int (i + j)) h
  | .str i, .str j => if i.length + j.length ≤ sizeLine then .ok (.str (i ++ j)) h else .bad
  | _, _ => .bad
theorem ips_add : IpS .Add iaddOp := by
  refine ⟨fun _ x y H Q => (∃ i j, x = .int i ∧ y = .int j ∧ Q (.int (i + j)) H) ∨ (∃ i j, x = .str i ∧ y = .str j ∧ i.length + j.length ≤ sizeLine ∧ Q (.str (i ++ j)) H), fun X => OpR.or iop_add iop_add_str, ?_⟩
  intro Γ D h x y u v Q Wx R rx ry o
  unfold iaddOp at o
  split at o
  · cases rx; cases ry; exact .inl ⟨_, _, rfl, rfl, fin (v := .int _) R rfl o⟩
  · cases rx; cases ry
    split at o
    · rename_i hz
      exact .inr ⟨_, _, rfl, rfl, hz, fin (v := .str _) R rfl o⟩
    · exact o.elim
  · exact o.elim
theorem ips_sub : IpS .Sub subOp := ⟨rSubA, fun X => iop_sub, so_sub⟩
theorem ss_aug {x : Str} {i : Nat} {op : Operator} {oo : Op2} {e : Expr} {f : EvE} {p pos : Pos} (ho : IpS op oo) (hN : L.N[i]? = some x) (hl : locB L x = true) (he : SE S L e f) : SS S L (.AugAssign (.Name x p) op e pos) (esAug i oo f) := by
  obtain ⟨r, h1, h2⟩ := ho
  intro Γ G k X W so c
  obtain ⟨hx1, hx2⟩ := loc_of c.toCtxP hl
  refine PS.weak (ps_aug (i := i) (x := x) (ti := r X.K) (by rw [c.hN]; exact c.nd) (by rw [c.hN]; exact hN) hx1 (he Γ G k X W so c.toCtxP) (h1 X) hx2) fun E σ H ⟨D, h, env, a, o⟩ => ?_
  unfold esAug at o
  split at o
  · rename_i v hv
    obtain ⟨u, eu, ru⟩ := a.env.2 i v hv
    refine ⟨u, eu, D, h, env, a, (OutOk.bind (R1 := fun D _ => Rep Γ.K D) (SOk.bind (R := fun D _ => Rep Γ.K D) a.env o)).mono fun w H' ⟨D1, v1, hh1, e1, x1, r1, q1, o1⟩ => ?_⟩
    rw [c.K, ← e1]
    refine h2 Γ D1 hh1 v v1 u w (fun z H2 => E.nx (σ.set i (some z)) H2) (fun c d H' => W c d σ H') r1 (Rep.ext x1 _ _ ru) q1 (o1.mono fun z H2 ⟨D2, v2, hh2, e2, x2, r2, q2, o2⟩ => ?_)
    have q := o2 D2 _ (Ext.refl _) r2 ((a.env.ext x2).set i q2)
    rw [e2] at q
    exact q
  · exact o.elim
/-! x[i] = e -/
def setOp (x y v : AV) (h : AH) : Out Unit := match x, y with
  | .ref n, .int i => match h[n]? with
    | some (.lst xs) => match ixN xs.length i with
      | some j => if pureA v = true then .ok () (h.set n (.lst (xs.set j v))) else .bad
      | none => .bad
    | _ => .bad
  | _, _ => .bad
def esSetIx (f g l : EvE) : EvS := fun G env h => (l G env h).s env fun v h1 => (f G env h1).s env fun x h2 => (g G env h2).s env fun y h3 => (setOp x y v h3).s env fun _ h4 => .nx env h4
theorem SOk.sbind {α β : Type} {Γ : Cfg} {D : Wd} {o : Out α} {env : Env1} {k : α → AH → SOut} {E : Ends} {W : WX} {R : Wd → AH → α → β → Prop} {σ : L2.St} (en : EnvR Γ.K D env σ) (h : SOk Γ D (o.s env k) E W) {Q : β → Hp → Prop} (q : ∀ (D' : Wd) (v : α) (h' : AH) (u : β), Ext D D' → Rel Γ.K D' h' → R D' h' v u → SOk Γ D' (k v h') E W → Q u D'.H) :
    OutOk Γ D o R Q (fun c d H' => W c d σ H') := (SOk.bind en h).mono fun u H' ⟨D', v, h', e, x, r, rr, o⟩ => by
  rw [← e]
  exact q D' v h' u x r rr o
theorem ss_setix {a b e : Expr} {f g l : EvE} {p pos : Pos} (ha : SE S L a f) (hb : SE S L b g) (he : SE S L e l) (hc : notComp e = true) (ht : notTup e = true) (hsl : notSlice b = true) : SS S L (.Assign [.Subscript a b p] e pos) (esSetIx f g l) := by
  intro Γ G k X W so c
  have hasg : ∀ v, assign (.Subscript a b p) X.env v = (do
      let ov ← holding [v] (eval a X.env)
      let iv ← holding [v, ov] (eval b X.env)
      standAt p
      holding [v, ov, iv] (setItem ov iv v)
      release [v, ov, iv] []) := by
    intro v
    cases b <;> first | rfl | cases hsl
  refine PS.weak (ps_asg (he Γ G k X W so c.toCtxP) (pg_sub (ha Γ G k X W so c.toCtxP) (hb Γ G k X W so c.toCtxP) (set_list (X := X)) hasg) (swaps_of (t := some (.Subscript a b p)) (l := pos.line) (env := X.env) hc : swapsWith e (some (Expr.Subscript a b p)) pos.line X.env = pure false) (swapped_none ht) rfl) fun E σ H ⟨D, h, env, a, o⟩ => ?_
  refine ⟨D, h, env, a, SOk.sbind (R := fun D _ => Rep Γ.K D) a.env o fun D1 v1 h1 u1 x1 r1 q1 o1 => ?_⟩
  refine ⟨D1, h1, env, ⟨rfl, r1, a.env.ext x1⟩, SOk.sbind (R := fun D _ => Rep Γ.K D) (a.env.ext x1) o1 fun D2 v2 h2 u2 x2 r2 q2 o2 => ?_⟩
  refine ⟨D2, h2, env, ⟨rfl, r2, (a.env.ext x1).ext x2⟩, SOk.sbind (R := fun D _ => Rep Γ.K D) ((a.env.ext x1).ext x2) o2 fun D3 v3 h3 u3 x3 r3 q3 o3 => ?_⟩
  have en3 := ((a.env.ext x1).ext x2).ext x3
  have q2' := Rep.ext x3 _ _ q2
  have q1' := Rep.ext x3 _ _ (Rep.ext x2 _ _ q1)
  unfold setOp at o3
  cases v2 with
  | ref n =>
    cases v3 with
    | int i =>
      simp only at o3
      split at o3
      · rename_i xs hcell
        split at o3
        · rename_i j hj
          split at o3
          · rename_i hpu
            obtain ⟨b, e2, e3, us, t, q⟩ := ref_lst r3 q2' hcell
            subst e2
            have e4 : u3 = .int i := q3
            subst e4
            refine ⟨b, us, i, j, rfl, rfl, t, by rw [q.length]; exact hj, ?_⟩
            have hx := Ext.wr r3 e3 (.lst (us.set j u1))
            exact o3 (D3.wr b (.lst (us.set j u1))) σ hx (Rel.wr r3 e3 ⟨_, upd_same, RepL.set (Rep.ext hx _ _ q1') j (RepL.ext hx _ _ q)⟩ (pureL_set (r3.pure _ (List.mem_of_getElem? hcell)) hpu)) (en3.ext hx)
          · exact o3.elim
        · exact o3.elim
      · exact o3.elim
    | _ => exact o3.elim
  | _ => cases v3 <;> exact o3.elim
/-! xs.append(e) -/
def sAppend : Str := "append"
def appOp (x v : AV) (h : AH) : Out AV := match x with
  | .ref n => match h[n]? with
    | some (.lst xs) => if pureA v = true ∧ xs.length < 100000 then .ok .non (h.set n (.lst (xs ++ [v]))) else .bad
    | _ => .bad
  | _ => .bad
def evApp (f g : EvE) : EvE := fun G env h => (f G env h).bind fun x h1 => match x with
  | .ref n => match h1[n]? with
    | some (.lst _) => (g G env h1).bind fun v h2 => appOp (.ref n) v h2
    | _ => .bad
  | _ => .bad
theorem se_append {m : Str} {a e : Expr} {f g : EvE} {p pos : Pos} (hm : m = sAppend) (ha : SE S L a f) (he : SE S L e g) (hb : baseOk a = true) (hs : notStar e = true) (hl : (p.endLine == pos.line) = true) : SE S L (.Call (.Attribute a m p) [e] [] pos) (evApp f g) := by
  subst hm
  intro Γ G k X W so c
  have few : ((backTo pos (starEach [e] X.env)).all (fun x => !x.1) && (backToKw pos (keywordEach [] X.env)).all (fun x => x.1.isSome)
      && decide (([e]).length + ([] : List Keyword).length + (if ([] : List Keyword).isEmpty then 0 else 1) < 30)) = true := by
    rw [starEach_cons hs]; rfl
  refine PE.weak (pe_bm PySem.F.plainAttrs_list PySem.F.slot_list_append PySem.F.type_list_append mt_append (ha Γ G k X W so c) (pa_cons (he Γ G k X W so c) pa_nil (starEach_cons hs)) (base_of hb) few hl (starEach_cons hs)) fun σ H Q ⟨D, h, env, a, o⟩ => ?_
  refine ⟨D, h, env, a, (OutOk.bind (R1 := fun D _ => Rep Γ.K D) o).mono fun u H' ⟨D1, v1, h1, e1, x1, r1, q1, o1⟩ => ?_⟩
  split at o1
  · rename_i n
    split at o1
    · rename_i xs hcell
      obtain ⟨b, e2, e3, us, t, q⟩ := ref_lst r1 q1 hcell
      subst e2
      have ty : tyV X.K "list" (.ref b) H' := .inl ⟨rfl, us, SqL.of (by rw [← e1]; exact t)⟩
      refine ⟨ty, D1, h1, env, a.next e1 x1 r1, (OutOk.bind (R1 := fun D _ => Rep Γ.K D) o1).mono fun v H2 ⟨D2, v2, h2, e4, x2, r2, q2, o2⟩ => ?_⟩
      unfold appOp at o2
      simp only at o2
      split at o2
      · rename_i ys hcell2
        split at o2
        · rename_i hp
          obtain ⟨ws, t2, q3⟩ := r2.cell n _ b hcell2 (x2.get e3)
          have hx := Ext.wr r2 (x2.get e3) (.lst (ws ++ [v]))
          have lt : ws.length < sizeLine := by
            rw [q3.length, sizeLine_eq]
            omega
          rw [← e4]
          refine ⟨b, ws, v, rfl, rfl, t2, lt, ?_⟩
          exact o2 (D2.wr b (.lst (ws ++ [v]))) .non hx (Rel.wr r2 (x2.get e3) ⟨_, upd_same, RepL.append (RepL.ext hx _ _ q3) (RepL.cons (Rep.ext hx _ _ q2) rfl)⟩ (pureL_append.mpr ⟨r2.pure _ (List.mem_of_getElem? hcell2), pureL_cons.mpr ⟨hp.1, rfl⟩⟩)) rfl
        · exact o2.elim
      · exact o2.elim
    · exact o1.elim
  · exact o1.elim

/-! ### loops -/
def wfuel : Nat := 2 ^ 200
def whileL (t : EvT) (b : EvS) (G : GT) : Nat → Env1 → AH → SOut
  | 0, _, _ => .bad
  | n + 1, env, h => match t G env h with
    | .ok true h1 => match b G env h1 with
      | .nx env' h' => whileL t b G n env' h'
      | .ct env' h' => whileL t b G n env' h'
      | .brk env' h' => .nx env' h'
      | r => r
    | .ok false h1 => .nx env h1
    | .exc e h1 => .exc e env h1
    | .bad => .bad
def esWhile (t : EvT) (b : EvS) : EvS := fun G env h => whileL t b G wfuel env h
theorem ss_while {e : Expr} {t : EvT} {bs : List Stmt} {b : EvS} {pos : Pos} (ht : ST S L e t) (hb : SSs S L bs b) : SS S L (.While e bs [] pos) (esWhile t b) := by
  intro Γ G k X W so c
  refine PS.weak (ps_while c.pass (ht Γ G k X W so c.toCtxP) (hb Γ G k X W so c)) fun E σ H ⟨D, h, env, a, o⟩ => ?_
  refine ⟨fun n σ H => ∃ (D : Wd) (h : AH) (env : Env1), At Γ D h env σ H ∧ SOk Γ D (whileL t b G n env h) E W, ⟨wfuel, D, h, env, a, o⟩, fun n σ H ⟨D, h, env, a, o⟩ => ?_⟩
  cases n with
  | zero => exact o.elim
  | succ n =>
    refine ⟨D, h, env, a, ?_⟩
    unfold whileL at o
    cases et : t G env h with
    | ok v h1 =>
      rw [et] at o
      cases v with
      | true =>
        intro D' u x' r' eu
        subst eu
        rw [if_pos rfl]
        refine ⟨fun σ' H' => ∃ (D : Wd) (h : AH) (env : Env1), At Γ D h env σ' H' ∧ SOk Γ D (whileL t b G n env h) E W, fun σ' H' w => ⟨n, Nat.lt_succ_self n, w⟩, D', h1, env, ⟨rfl, r', a.env.ext x'⟩, ?_⟩
        cases eb : b G env h1 with
        | nx env' h' => simp only [eb] at o; exact fun D2 σ2 x2 r2 en2 => ⟨D2, h', env', ⟨rfl, r2, en2⟩, SOk.ext (x'.trans x2) o⟩
        | ct env' h' => simp only [eb] at o; exact fun D2 σ2 x2 r2 en2 => ⟨D2, h', env', ⟨rfl, r2, en2⟩, SOk.ext (x'.trans x2) o⟩
        | brk env' h' => simp only [eb] at o; exact fun D2 σ2 x2 r2 en2 => o D2 σ2 (x'.trans x2) r2 en2
        | ret v h' => simp only [eb] at o; exact fun D2 σ2 x2 r2 en2 => o D2 σ2 (x'.trans x2) r2 en2
        | exc e' env' h' => simp only [eb] at o; exact fun D2 σ2 cl d x2 r2 en2 q => o D2 σ2 cl d (x'.trans x2) r2 en2 q
        | bad => simp only [eb] at o; exact o.elim
      | false =>
        intro D' u x' r' eu
        subst eu
        rw [if_neg Bool.false_ne_true]
        exact o D' σ x' r' (a.env.ext x')
    | exc e' h1 =>
      rw [et] at o
      exact fun D' cl d x' r' q => o D' σ cl d x' r' (a.env.ext x') q
    | bad => rw [et] at o; exact o
def forL (src : Src) (tg : Tg) (b : EvS) (G : GT) : Nat → Nat → Env1 → AH → SOut
  | fuel, i, env, h => match srcAt src h i with
    | none => .bad
    | some none => .nx env h
    | some (some v) => match fuel with
      | 0 => .bad
      | fuel + 1 => match setTg tg v env with
        | none => .bad
        | some env1 => match b G env1 h with
          | .nx env' h' => forL src tg b G fuel (i + 1) env' h'
          | .ct env' h' => forL src tg b G fuel (i + 1) env' h'
          | .brk env' h' => .nx env' h'
          | r => r
def esFor (s : EvI) (tg : Tg) (b : EvS) : EvS := fun G env h => (s G env h).s env fun src h1 => forL src tg b G (srcLen src h1) 0 env h1
theorem ss_for {tg e : Expr} {s : EvI} {t : Tg} {bs : List Stmt} {b : EvS} {pos : Pos} (hs : SI S L tg e s) (hg : SG L tg t) (hb : SSs S L bs b) (hn : notSet e = true) (hh : L.hot = false) : SS S L (.For tg e bs [] pos) (esFor s t b) := by
  intro Γ G k X W so c
  refine PS.weak (ps_for c.pass (c.calm hh) (hs Γ G k X W so c.toCtxP) (hg Γ k X W c.toCtxP) (hb Γ G k X W so c) (folded_of hn)) fun E σ H ⟨D, h, env, a, o⟩ => ?_
  refine ⟨D, h, env, a, SOk.sbind (R := fun D _ src J => ItS Γ D src J) a.env o fun D1 src h1 J x1 r1 its o1 => ?_⟩
  refine ⟨fun i n σ H => ∃ (D : Wd) (h : AH) (env : Env1), At Γ D h env σ H ∧ Ext D1 D ∧ SOk Γ D (forL src t b G n i env h) E W, ⟨srcLen src h1, D1, h1, env, ⟨rfl, r1, a.env.ext x1⟩, Ext.refl _, o1⟩, fun i n σ H ⟨D2, h2, env2, a2, x2, o2⟩ => ?_⟩
  have it := its D2 h2 i x2 a2.rel
  unfold forL at o2
  split at o2
  · exact o2.elim
  · rename_i hsrc
    rw [hsrc] at it
    left
    have q := o2 D2 σ (Ext.refl _) a2.rel a2.env
    rw [a2.hp] at q it
    exact ⟨it, q⟩
  · rename_i v hsrc
    rw [hsrc] at it
    cases n with
    | zero => exact o2.elim
    | succ n =>
      simp only at o2
      obtain ⟨go, yl⟩ := it
      right
      refine ⟨by rw [← a2.hp]; exact go, fun σ' H' => ∃ (D : Wd) (h : AH) (env : Env1), At Γ D h env σ' H' ∧ Ext D1 D ∧ SOk Γ D (forL src t b G n (i + 1) env h) E W, fun σ' H' w => ⟨n, Nat.lt_succ_self n, w⟩, fun x H' y => ?_⟩
      rw [← a2.hp] at y
      obtain ⟨D3, e3, x3, r3, q3⟩ := yl x H' y
      subst e3
      split at o2
      · exact o2.elim
      · rename_i env1 he
        rw [c.K]
        refine gTg_of q3 (a2.env.ext x3) he fun σ' en' _ => ⟨D3, h2, env1, ⟨rfl, r3, en'⟩, ?_⟩
        cases eb : b G env1 h2 with
        | nx env' h' => simp only [eb] at o2; exact fun D4 σ4 x4 r4 en4 => ⟨D4, h', env', ⟨rfl, r4, en4⟩, (x2.trans x3).trans x4, SOk.ext (x3.trans x4) o2⟩
        | ct env' h' => simp only [eb] at o2; exact fun D4 σ4 x4 r4 en4 => ⟨D4, h', env', ⟨rfl, r4, en4⟩, (x2.trans x3).trans x4, SOk.ext (x3.trans x4) o2⟩
        | brk env' h' => simp only [eb] at o2; exact fun D4 σ4 x4 r4 en4 => o2 D4 σ4 (x3.trans x4) r4 en4
        | ret v h' => simp only [eb] at o2; exact fun D4 σ4 x4 r4 en4 => o2 D4 σ4 (x3.trans x4) r4 en4
        | exc e' env' h' => simp only [eb] at o2; exact fun D4 σ4 cl d x4 r4 en4 q => o2 D4 σ4 cl d (x3.trans x4) r4 en4 q
        | bad => simp only [eb] at o2; exact o2.elim
end
end Pv
end
section
set_option Elab.async false
set_option linter.all false
set_option maxRecDepth 100000
set_option autoImplicit false
namespace Pv
open PySem PySem.Spec PyProof.Rows L2
section
variable {S : Stat} {L : Lc}
/-! ### comprehensions -/
def wipeE (env : Env1) : List Nat → Env1
  | [] => env
  | v :: vs => (wipeE env vs).set v none
def lcL (src : Src) (tg : Tg) (tt : EvT) (te : EvE) (G : GT) (n0 : Nat) (env : Env1) : Nat → Nat → AH → Out Unit
  | fuel, i, h => match srcAt src h i with
    | none => .bad
    | some none => .ok () h
    | some (some v) => match fuel with
      | 0 => .bad
      | fuel + 1 => match setTg tg v env with
        | none => .bad
        | some env1 => match tt G env1 h with
          | .ok true h1 => match te G env1 h1 with
            | .ok y h2 => match h2[n0]? with
              | some (.lst acc) => if pureA y = true ∧ acc.length < 100000 then lcL src tg tt te G n0 env fuel (i + 1) (h2.set n0 (.lst (acc ++ [y]))) else .bad
              | _ => .bad
            | _ => .bad
          | .ok false h1 => lcL src tg tt te G n0 env fuel (i + 1) h1
          | _ => .bad
def lcFin (cell : Bool) (n0 : Nat) (h : AH) : Out AV := if cell = true then .ok (.ref n0) h else
  if h.length = n0 + 1 then match h[n0]? with
    | some (.lst acc) => .ok (.lst acc) (h.take n0)
    | _ => .bad else .bad
def evLc (cell : Bool) (s : EvI) (tg : Tg) (tt : EvT) (te : EvE) (own : List Nat) : EvE := fun G env h => (s G env h).bind fun src h1 =>
  (lcL src tg tt te G h1.length (wipeE env own) (srcLen src h1) 0 (h1 ++ [.lst []])).bind fun _ h2 => lcFin cell h1.length h2
theorem wipeE_len (env : Env1) : ∀ vs, (wipeE env vs).length = env.length
  | [] => rfl
  | v :: vs => by unfold wipeE; rw [List.length_set, wipeE_len env vs]
theorem EnvR.none {K : PySem.W.Frag} {D : Wd} {env : Env1} {σ : L2.St} (h : EnvR K D env σ) (i : Nat) : EnvR K D (env.set i none) (σ.set i none) := by
  refine ⟨by simp [h.1], fun j w e => ?_⟩
  by_cases hj : i = j
  · subst hj
    by_cases hi : i < env.length
    · rw [List.getElem?_set_self hi] at e
      cases e
    · rw [List.getElem?_eq_none (by simpa using hi)] at e
      cases e
  · rw [List.getElem?_set_ne hj] at e
    obtain ⟨u', e', r'⟩ := h.2 j w e
    exact ⟨u', by rw [List.getElem?_set_ne hj]; exact e', r'⟩
theorem EnvR.wipe {K : PySem.W.Frag} {D : Wd} {env : Env1} {σ : L2.St} (h : EnvR K D env σ) : ∀ vs, EnvR K D (wipeE env vs) (wipe σ vs)
  | [] => h
  | v :: vs => (EnvR.wipe h vs).none v
def blkL (L : Lc) (scope : Scope) : Lc := ⟨L.N, relS scope L.sc, L.hot, fun x => scope.names.lookup x == some .cell⟩
theorem relabel_eq (scope : Scope) (env : Env) : relabel scope env = relS scope env.scope := rfl
theorem ctx_blk {Γ : Cfg} {k : Nat} {X : Cx} {W : WX} (c : CtxP Γ k L X W) (scope : Scope) (s : Shared) (H : Hp) (C : Addr) (cl : List (Str × Addr)) (fp : List Addr) : CtxP Γ k (blkL L scope) (X.blk s H scope (compEnvC scope cl C X.env) fp) (fun _ _ _ _ => False) where
  prog := c.prog
  w := c.w
  K := c.K
  mg := c.mg
  base := c.base
  hN := c.hN
  nd := c.nd
  sc := by
    show relabel scope X.env = relS scope L.sc
    rw [relabel_eq, c.sc]
  cells := fun x h => h
  room := c.room
  grd := c.grd
  un := c.un
  calm := c.calm
  takes := L2.takes0
def evTs (t : Option EvT) : EvT := match t with
  | some t => t
  | none => fun _ _ h => .ok true h
def STs (S : Stat) (L : Lc) (es : List Expr) (f : EvT) : Prop := ∀ (Γ : Cfg) (G : GT) (k : Nat) (X : Cx) (W : WX), StatOk Γ S G k → CtxP Γ k L X W → PTs X es (tTv Γ W (f G))
theorem PTs.weak {X : Cx} {e : List Expr} {t t' : TT} (h : PTs X e t) (q : ∀ σ H Q, t' σ H Q → t σ H Q) : PTs X e t' := ⟨fun pins s σ H Q I hw => h.run pins s σ H Q I (q σ H Q hw)⟩
def etYes : EvT := fun _ _ h => .ok true h
theorem sts_nil : STs S L [] etYes := fun Γ G k X W so c => PTs.weak pts_nil fun σ H Q ⟨D, h, env, a, o⟩ => by
  have q := finB a.rel o
  rw [a.hp] at q
  exact q
theorem sts_one {e : Expr} {f : EvT} (h : ST S L e f) : STs S L [e] f := fun Γ G k X W so c => pts_one (h Γ G k X W so c)
theorem prefix_eq {α : Type} {a b : List α} (h : a <+: b) (e : b.length = a.length) : b = a := by
  obtain ⟨r, e'⟩ := h
  subst e'
  simp at e
  rw [e, List.append_nil]
theorem lc_of {Γ : Cfg} {G : GT} {W : WX} {cell : Bool} {s : EvI} {tg : Tg} {tt : EvT} {te : EvE} {own : List Nat} (hown : ∀ i ∈ tg.slots, i ∈ own) (σ : L2.St) (H : Hp) (Q : VK) (o : tEv Γ W (evLc cell s tg tt te own G) σ H Q) :
    tLc (tIv Γ W (s G)) (gTg Γ.K tg) (tTv Γ (fun _ _ _ _ => False) (tt G)) (tEv Γ (fun _ _ _ _ => False) (te G)) own σ H Q := by
  obtain ⟨D, h, env, a, o⟩ := o
  refine ⟨D, h, env, a, (OutOk.bind (R1 := fun D _ src J => ItS Γ D src J) o).mono fun J H' ⟨D1, src, h1, e1, x1, r1, its, o1⟩ => ?_⟩
  subst e1
  intro p hp
  have xc := Ext.cel r1 hp (.lst [])
  have rc : Rel Γ.K (D1.cel p (.lst [])) (h1 ++ [.lst []]) := Rel.cel r1 hp ⟨[], upd_same, rfl⟩ rfl
  have atp : (D1.cel p (.lst [])).m[h1.length]? = some p := by
    show (D1.m ++ [p])[h1.length]? = some p
    rw [← r1.len]
    simp
  have en1 := a.env.ext x1
  refine ⟨fun i n H => ∃ (Dw : Wd) (hw : AH), Dw.H = H ∧ Rel Γ.K Dw hw ∧ Ext (D1.cel p (.lst [])) Dw ∧ OutOk Γ D1 ((lcL src tg tt te G h1.length (wipeE env own) n i hw).bind fun _ h2 => lcFin cell h1.length h2) (fun D _ => Rep Γ.K D) Q (fun c d H' => W c d σ H'),
    ⟨srcLen src h1, D1.cel p (.lst []), _, rfl, rc, Ext.refl _, o1⟩, fun i n H ⟨Dw, hw, eH, rw', xw, ow⟩ => ?_⟩
  subst eH
  have it := its Dw hw i (xc.trans xw) rw'
  have wp : Dw.m[h1.length]? = some p := xw.get atp
  unfold lcL at ow
  split at ow
  · exact ow.elim
  · rename_i hsrc
    rw [hsrc] at it
    refine .inl ⟨it, ?_⟩
    have ow : OutOk Γ D1 (lcFin cell h1.length hw) (fun D _ => Rep Γ.K D) Q (fun c d H' => W c d σ H') := ow
    unfold lcFin at ow
    split at ow
    · exact ow Dw (.ref p) (xc.trans xw) rw' ⟨p, rfl, wp⟩
    · split at ow
      · rename_i hlen
        split at ow
        · rename_i acc hacc
          obtain ⟨us, t, q⟩ := rw'.cell _ _ p hacc wp
          have rf := Rel.freeze rw' wp (Nat.le_refl _)
          have hm : Dw.m = D1.m ++ [p] := prefix_eq xw.m (by rw [rw'.len, hlen]; show h1.length + 1 = (D1.m ++ [p]).length; simp [r1.len])
          refine ow ⟨fun b => Dw.F b ∨ b = p, Dw.m.take h1.length, Dw.H⟩ (.ref p) ⟨fun b f => ⟨.inl ((xc.trans xw).fz b f).1, ((xc.trans xw).fz b f).2⟩, ?_⟩ rf ⟨p, us, rfl, ⟨.inr rfl, t⟩, RepL.pure (D := Dw) (D' := ⟨fun b => Dw.F b ∨ b = p, Dw.m.take h1.length, Dw.H⟩) (fun b f => ⟨Or.inl f, rfl⟩) _ _ (rw'.pure _ (List.mem_of_getElem? hacc)) q⟩
          show D1.m <+: Dw.m.take h1.length
          rw [hm, ← r1.len, List.take_left']
          · exact List.prefix_refl _
          · rfl
        · exact ow.elim
      · exact ow.elim
  · rename_i v hsrc
    rw [hsrc] at it
    obtain ⟨go, yl⟩ := it
    cases n with
    | zero => exact ow.elim
    | succ n =>
      simp only at ow
      refine .inr ⟨go, fun H => ∃ (Dw : Wd) (hw : AH), Dw.H = H ∧ Rel Γ.K Dw hw ∧ Ext (D1.cel p (.lst [])) Dw ∧ OutOk Γ D1 ((lcL src tg tt te G h1.length (wipeE env own) n (i + 1) hw).bind fun _ h2 => lcFin cell h1.length h2) (fun D _ => Rep Γ.K D) Q (fun c d H' => W c d σ H'), fun H' w => ⟨n, Nat.lt_succ_self n, w⟩, fun x H' y => ?_⟩
      obtain ⟨D3, e3, x3, r3, q3⟩ := yl x H' y
      subst e3
      cases hset : setTg tg v (wipeE env own) with
      | none => rw [hset] at ow; exact ow.elim
      | some env1 =>
        rw [hset] at ow
        simp only at ow
        have enw : EnvR Γ.K D3 (wipeE env own) (wipe σ own) := ((en1.wipe own).ext ((xc.trans xw).trans x3))
        refine gTg_of q3 enw hset fun σ' en' sb => ⟨SetBy.wipe sb hown, D3, hw, env1, ⟨rfl, r3, en'⟩, ?_⟩
        cases et : tt G env1 hw with
        | ok b h2 =>
          rw [et] at ow
          intro D4 u x4 r4 eb
          subst eb
          cases b with
          | true =>
            rw [if_pos rfl]
            refine ⟨D4, h2, env1, ⟨rfl, r4, en'.ext x4⟩, ?_⟩
            simp only at ow
            cases ee : te G env1 h2 with
            | ok z h3 =>
              rw [ee] at ow
              intro D5 w x5 r5 rz
              simp only at ow
              split at ow
              · rename_i acc hacc
                split at ow
                · rename_i hz
                  have w5 : D5.m[h1.length]? = some p := (((xw.trans x3).trans x4).trans x5).get atp
                  obtain ⟨us, t, q⟩ := r5.cell _ _ p hacc w5
                  have hx := Ext.wr r5 w5 (.lst (us ++ [w]))
                  refine ⟨us, t, by rw [q.length, sizeLine_eq]; omega, D5.wr p (.lst (us ++ [w])), _, rfl, Rel.wr (c := .lst (acc ++ [z])) r5 w5 ⟨_, upd_same, RepL.append (RepL.ext hx _ _ q) (RepL.cons (Rep.ext hx _ _ rz) rfl)⟩ (pureL_append.mpr ⟨r5.pure _ (List.mem_of_getElem? hacc), pureL_cons.mpr ⟨hz.1, rfl⟩⟩), ((((xw.trans x3).trans x4).trans x5).trans hx), ow⟩
                · exact ow.elim
              · exact ow.elim
            | exc e h3 => rw [ee] at ow; exact ow.elim
            | bad => rw [ee] at ow; exact ow.elim
          | false =>
            rw [if_neg Bool.false_ne_true]
            exact ⟨D4, h2, rfl, r4, (xw.trans x3).trans x4, ow⟩
        | exc e h2 => rw [et] at ow; exact ow.elim
        | bad => rw [et] at ow; exact ow.elim
theorem lc_mono {wi : TI} {g g' : TG} {tt : TT} {te : TE} {vs : List Nat} {σ : L2.St} {H : Hp} {Q : VK} (h : tLc wi g tt te vs σ H Q) (hg : g = g') : tLc wi g' tt te vs σ H Q := by rw [← hg]; exact h
theorem se_lc {cell : Bool} {elt tg e : Expr} {ifs : List Expr} {scope : Scope} {own : List (Str × Nat)} {s : EvI} {t : Tg} {tt : EvT} {te : EvE} {pos : Pos} (hs : SI S L tg e s) (hb : blkC L.N L.sc scope own = true) (hg : SG (blkL L scope) tg t) (ht : STs S (blkL L scope) ifs tt) (he : SE S (blkL L scope) elt te)
    (hn : notSet e = true) (hh : L.hot = false) (hown : ∀ i ∈ t.slots, i ∈ own.map (·.2)) : SE S L (.ListComp elt [⟨tg, e, ifs, 0⟩] scope pos) (evLc cell s t tt te (own.map (·.2))) := by
  intro Γ G k X W so c
  refine PE.weak (pe_lc (own := own) (g := gTg X.K t) (c.calm hh) (by rw [c.hN]; exact c.nd) (hs Γ G k X W so c) (by rw [c.hN, c.sc]; exact blkOk_by hb) (fun s' H' C cl fp => hg Γ k _ _ (ctx_blk c scope s' H' C cl fp)) (fun s' H' C cl fp => ht Γ G k _ _ so (ctx_blk c scope s' H' C cl fp)) (fun s' H' C cl fp => he Γ G k _ _ so (ctx_blk c scope s' H' C cl fp)) (folded_of hn)) fun σ H Q o => ?_
  exact lc_mono (lc_of hown σ H Q o) (by rw [← c.K])
theorem ss_setLc {cell : Bool} {x : Str} {i : Nat} {elt tg e : Expr} {ifs : List Expr} {scope : Scope} {own : List (Str × Nat)} {s : EvI} {t : Tg} {tt : EvT} {te : EvE} {py pos spos : Pos} (hs : SI S L tg e s) (hb : blkC L.N L.sc scope own = true) (hg : SG (blkL L scope) tg t) (ht : STs S (blkL L scope) ifs tt) (he : SE S (blkL L scope) elt te)
    (hn : notSet e = true) (hh : L.hot = false) (hown : ∀ i ∈ t.slots, i ∈ own.map (·.2)) (hN : L.N[i]? = some x) (hx : locOnly L x = true) (hk : kindB L.sc = true) (hl : (py.line == pos.line) = true) (ha : (scope.names.any fun (n, k) => n == x && (k == .local || k == .cell)) = false) :
    SS S L (.Assign [.Name x py] (.ListComp elt [⟨tg, e, ifs, 0⟩] scope pos) spos) (esSet (.nm i) (evLc cell s t tt te (own.map (·.2)))) := by
  intro Γ G k X W so c
  have c' := c.toCtxP
  have hx' : X.env.scope.names.lookup x = some .local := by rw [c.sc]; exact of_decide_eq_true hx
  refine PS.weak (ps_setLc (i := i) (own := own) (g := gTg X.K t) (c.calm hh) (by rw [c.hN]; exact c.nd) (by rw [c.hN]; exact hN) hx' (sw_true (by rw [c.sc]; exact of_decide_eq_true hk) hx' hl ha) (hs Γ G k X W so c') (by rw [c.hN, c.sc]; exact blkOk_by hb) (fun s' H' C cl fp => hg Γ k _ _ (ctx_blk c' scope s' H' C cl fp)) (fun s' H' C cl fp => ht Γ G k _ _ so (ctx_blk c' scope s' H' C cl fp)) (fun s' H' C cl fp => he Γ G k _ _ so (ctx_blk c' scope s' H' C cl fp)) (folded_of hn)) fun E σ H o => ?_
  have q := asg_of E σ H o
  exact lc_mono (lc_of hown σ H _ q) (by rw [← c.K])
end
end Pv
end
section
set_option Elab.async false
set_option linter.all false
set_option maxRecDepth 100000
set_option autoImplicit false
namespace Pv
open PySem PySem.Spec PyProof.Rows L2
section
variable {S : Stat} {L : Lc}
def esBad : EvS := fun _ _ _ => .bad
theorem ss_bad {st : Stmt} : SS S L st esBad := fun Γ G k X W so c => PS.weak ps_never fun E σ H ⟨D, h, env, a, o⟩ => o.elim
def evBad : EvE := fun _ _ _ => .bad
theorem pe_never {X : Cx} {e : Expr} : PE X e (fun _ _ _ => False) := ⟨fun _ _ _ _ _ _ h => h.elim⟩
theorem se_bad {e : Expr} : SE S L e evBad := fun Γ G k X W so c => PE.weak pe_never fun σ H Q ⟨D, h, env, a, o⟩ => o.elim

def evDict0 : EvE := fun _ _ h => .ok (.dct [] []) h
theorem se_dict0 {pos : Pos} : SE S L (.Dict [] [] pos) evDict0 := fun Γ G k X W so c => PE.weak pe_dnewK fun σ H Q ⟨D, h, env, a, o⟩ => by
  intro p hp
  rw [← a.hp] at hp ⊢
  exact o (D.frz p (.dK [])) (.ref p) (Ext.frz a.rel hp _) (Rel.frz a.rel hp _) ⟨p, [], rfl, ⟨.inr rfl, upd_same⟩, rfl, rfl⟩

/-! ### a def -/
def finD (rc : Bool) (n0 : Nat) (v : AV) (h : AH) : Out AV := match v with
  | .ref n => if n < n0 then .ok v (h.take n0) else match h[n]? with
    | some (.lst xs) => if rc = true then .ok (.ref n0) (h.take n0 ++ [.lst xs]) else .ok (.lst xs) (h.take n0)
    | _ => .bad
  | v => if pureA v = true then .ok v (h.take n0) else .bad
def runDef (rc : Bool) (n : Nat) (b : EvS) (G : GT) : List AV → AH → Out AV := fun args h => match b G (args.map some ++ List.replicate (n - args.length) none) h with
  | .ret v h' => finD rc h.length v h'
  | .nx _ h' => .ok .non (h'.take h.length)
  | .exc e _ h' => match e.val with
    | none => .exc e (h'.take h.length)
    | some v => if pureA v = true then .exc e (h'.take h.length) else .bad
  | _ => .bad
theorem prefix_take {α : Type} {a b : List α} (h : a <+: b) : b.take a.length = a := by
  obtain ⟨r, e⟩ := h
  rw [← e, List.take_left']
  rfl
theorem back {Γ : Cfg} {D D' : Wd} {h h' : AH} (R : Rel Γ.K D h) (x : Ext D D') (R' : Rel Γ.K D' h') : Ext D ⟨D'.F, D'.m.take h.length, D'.H⟩ ∧ Rel Γ.K ⟨D'.F, D'.m.take h.length, D'.H⟩ (h'.take h.length) := by
  refine ⟨⟨x.fz, ?_⟩, R'.cut _⟩
  show D.m <+: D'.m.take h.length
  rw [← R.len, prefix_take x.m]
  exact List.prefix_refl _
theorem finD_of {Γ : Cfg} {rc : Bool} {D D' : Wd} {h h' : AH} {v : AV} {u : V} {Q : VK} {E : XK} (R : Rel Γ.K D h) (x : Ext D D') (R' : Rel Γ.K D' h') (r : Rep Γ.K D' v u) (o : OutOk Γ D (finD rc h.length v h') (fun D _ => Rep Γ.K D) Q E) : Q u D'.H := by
  obtain ⟨x2, R2⟩ := back R x R'
  have go : pureA v = true → OutOk Γ D (.ok v (h'.take h.length)) (fun D _ => Rep Γ.K D) Q E → Q u D'.H := fun p o => o ⟨D'.F, D'.m.take h.length, D'.H⟩ u x2 R2 (Rep.pure (D := D') (D' := ⟨D'.F, D'.m.take h.length, D'.H⟩) (fun _ f => ⟨f, rfl⟩) v u p r)
  unfold finD at o
  split at o
  · rename_i n
    split at o
    · rename_i hn
      obtain ⟨a, e, g⟩ := r
      refine o ⟨D'.F, D'.m.take h.length, D'.H⟩ u x2 R2 ⟨a, e, ?_⟩
      show (D'.m.take h.length)[n]? = some a
      rw [List.getElem?_take_of_lt hn]
      exact g
    · rename_i hn
      split at o
      · rename_i xs hc
        obtain ⟨a, e, g, us, t, q⟩ := ref_lst R' r hc
        subst e
        have pu := R'.pure _ (List.mem_of_getElem? hc)
        split at o
        · refine o ⟨D'.F, D'.m.take h.length ++ [a], D'.H⟩ (.ref a) ⟨x.fz, ?_⟩ ?_ ⟨a, rfl, ?_⟩
          · show D.m <+: D'.m.take h.length ++ [a]
            rw [← R.len, prefix_take x.m]
            exact ⟨[a], rfl⟩
          · have lt : (D'.m.take h.length).length = (h'.take h.length).length := R2.len
            refine ⟨by show (D'.m.take h.length ++ [a]).length = _; simp only [List.length_append, List.length_singleton, lt], ?_, fun i c b e1 e2 => ?_, R'.fz, fun b hb => ?_, fun c hcm => ?_⟩
            · show (D'.m.take h.length ++ [a]).Nodup
              rw [List.nodup_append]
              refine ⟨R2.nd, by simp, fun y hy z hz => ?_⟩
              have ez : z = a := by simpa using hz
              subst ez
              intro ey
              subst ey
              obtain ⟨i, hi⟩ := List.getElem?_of_mem hy
              have hij : i < h.length := by
                have := (List.getElem?_eq_some_iff.mp hi).1
                simp only [List.length_take] at this
                omega
              rw [List.getElem?_take_of_lt hij] at hi
              have := Rel.wr.nodup_ix' R'.nd hi g
              omega
            · have e2 : (D'.m.take h.length ++ [a])[i]? = some b := e2
              by_cases hi : i < (h'.take h.length).length
              · rw [List.getElem?_append_left hi] at e1
                rw [List.getElem?_append_left (by rw [lt]; exact hi)] at e2
                exact (R2.cell i c b e1 e2).pure (R2.pure c (List.mem_of_getElem? e1)) (fun b f => ⟨f, rfl⟩) rfl
              · rw [List.getElem?_append_right (by omega)] at e1
                rw [List.getElem?_append_right (by rw [lt]; omega), lt] at e2
                have e0 : i - (h'.take h.length).length = 0 := by
                  have := (List.getElem?_eq_some_iff.mp e1).1
                  simp only [List.length_singleton] at this
                  omega
                rw [e0] at e1 e2
                have e3 : Cell.lst xs = c := by simpa using e1
                have e4 : a = b := by simpa using e2
                subst e3; subst e4
                exact ⟨us, t, RepL.pure (D := D') (D' := ⟨D'.F, D'.m.take h.length ++ [a], D'.H⟩) (fun b f => ⟨f, rfl⟩) _ _ pu q⟩
            · have hb : b ∈ D'.m.take h.length ++ [a] := hb
              rcases List.mem_append.mp hb with z | z
              · exact R2.dis b z
              · rw [List.mem_singleton.mp z]; exact R'.dis a (List.mem_of_getElem? g)
            · rcases List.mem_append.mp hcm with z | z
              · exact R2.pure c z
              · rw [List.mem_singleton.mp z]; exact pu
          · show (D'.m.take h.length ++ [a])[h.length]? = some a
            have e5 : (D'.m.take h.length).length = h.length := by rw [← R.len, prefix_take x.m]
            rw [List.getElem?_append_right (by omega), e5, Nat.sub_self]
            rfl
        · refine o ⟨fun b => D'.F b ∨ b = a, D'.m.take h.length, D'.H⟩ (.ref a) ⟨fun b f => ⟨.inl (x.fz b f).1, (x.fz b f).2⟩, x2.m⟩ (Rel.freeze R' g (by omega)) ⟨a, us, rfl, ⟨.inr rfl, t⟩, RepL.pure (D := D') (D' := ⟨fun b => D'.F b ∨ b = a, D'.m.take h.length, D'.H⟩) (fun b f => ⟨Or.inl f, rfl⟩) _ _ pu q⟩
      · exact o.elim
  · split at o
    · rename_i hp
      exact go hp o
    · exact o.elim
def lcOf (N : List Str) (sc : Scope) : Lc := ⟨N, sc, false, fun x => sc.names.lookup x == some .cell⟩
theorem start_env {K : PySem.W.Frag} {D : Wd} {as : List AV} {vs : List V} {N : List Str} (r : RepL K D as vs) (hN : vs.length ≤ N.length) : EnvR K D (as.map some ++ List.replicate (N.length - as.length) none) (L2.start N vs) := by
  have el := r.length
  refine ⟨by unfold L2.start; simp [el], fun i v e => ?_⟩
  by_cases hi : i < as.length
  · rw [List.getElem?_append_left (by simpa using hi), List.getElem?_map] at e
    obtain ⟨w, e1, e2⟩ := Option.map_eq_some_iff.mp e
    have e3 : w = v := by simpa using e2
    subst e3
    obtain ⟨u, e4, q⟩ := RepL.get r e1
    refine ⟨u, ?_, q⟩
    unfold L2.start
    rw [List.getElem?_append_left (by simpa [el] using hi), List.getElem?_map, e4]
    rfl
  · rw [List.getElem?_append_right (by simpa using hi)] at e
    have := List.mem_of_getElem? e
    rw [List.mem_replicate] at this
    cases this.2
set_option maxHeartbeats 4000000 in
theorem fn_g {Γ : Cfg} {S : Stat} {G : GT} {k : Nat} {rc : Bool} {x qual : Str} {st : Stmt} {f : Addr} {fd : FuncData} {N ps : List Str} {b : EvS} (F : Fun Γ.K x qual st f fd) (sc : FnScope N ps (defScope st)) (hb : SSs S (lcOf N (defScope st)) (defBody st) b) (so : StatOk Γ S G k) (hlen : ps.length ≤ N.length) :
    FnG Γ.P Γ.w Γ.K Γ.mg Γ.base (L2.CX Γ.P Γ.w) (k + 1) f fd ps (spOf Γ ps.length (runDef rc N.length b G)) := by
  obtain ⟨oc, od, kV, doc, pm, an, cdv, ct, osl, rfl, lk, hcd⟩ := F.ex
  refine ⟨fun vs H Q E h => h.1, fun A outer s H args us vs Q E hgd hr e0 hbt r hsp => ?_⟩
  obtain ⟨hl, D, h, as, eD, R, ra, o⟩ := hsp
  have kept : ∀ b o, Γ.base.get? b = some o → s.heap.get? b = some o := fun b o e => (e0.bs b o e).1
  have KX := e0.mod.kin.keeps kept
  have kinds : ∀ y ∈ ps.zip us, (defScope st).names.lookup y.1 = some .local ∨ ((defScope st).names.lookup y.1 = some .cell ∧ ((cellsFrom (s.heap.objs.size + 1) (defScope st).names []).lookup y.1).isSome = true) := fun y hy =>
    (sc.par y.1 (List.of_mem_zip hy).1).imp id fun q => ⟨q, PySem.W.cellsFrom_some _ _ _ (.inl q)⟩
  refine codeAny_call_function hr.depth (KX _ _ lk) rfl sc.co sc.gen rfl (PySem.W.codeRec_of KX hcd) (hbt _ _ _ _ (wpAny_newFunctionEnv_cells sc.kind kinds fun env he s1 xc => ?_))
  subst he
  refine ⟨(e0.mod.nolimit.keeps kept).keeps xc.toInCall.keep, codeAny_func ?_⟩
  have I := inv_start (CX := L2.CX Γ.P Γ.w) (P := Γ.P) (w := Γ.w) (mg := Γ.mg) (N := N) (E := E) sc hr.hd e0 hl r xc
  have hr' : Room k (A.deeper (envOfC qual (defScope st) s.heap.objs.size f cdv)) := hr.deeper _
  have hun := hr.un
  have ctx : CtxS Γ k (lcOf N (defScope st)) (cxOf (L2.CX Γ.P Γ.w) Γ.P Γ.w Γ.K Γ.mg Γ.base N qual (defScope st) f cdv A outer s H E) (fun cls d _ H => E cls d H) :=
    { prog := rfl, w := rfl, K := rfl, mg := rfl, base := rfl, hN := rfl, nd := sc.nd, sc := rfl, cells := fun _ _ => rfl, room := fun _ => hr', grd := hgd, un := by
        show (A.deeper (envOfC qual (defScope st) s.heap.objs.size f cdv)).units + 200 < cLine
        have := hr'.un
        omega
      calm := fun _ => rfl, takes := takes_of rfl rfl rfl rfl, pass := passes_of rfl, stk := rfl, fr := rfl }
  have ends : ∀ {s' : Shared} {σ' : L2.St} {H' : Hp} {v : V} {u : Value}, Inv (cxOf (L2.CX Γ.P Γ.w) Γ.P Γ.w Γ.K Γ.mg Γ.base N qual (defScope st) f cdv A outer s H E) [] σ' H' s' → RelV v u → Q v H' → CE outer Γ.P Γ.w H s Q u s' :=
    fun {s' σ' H' v u} J rv q => ⟨v, H', J.os, J.bare, J.base, J.hok, rv, q⟩
  have hrun := (hb Γ G k _ _ so ctx).run [] s1 (L2.start N vs) H { nx := fun _ H' => Q .non H', rt := Q } I ⟨D, h, _, ⟨eD, R, start_env (N := N) ra (by omega)⟩, ?_⟩
  · refine wpAny_mono hrun (fun fl s' hs => ?_) fun e s' hs => hs
    cases fl with
    | ret u =>
      obtain ⟨v, σ', H', J, rv, q⟩ := hs
      exact ends J rv q
    | next =>
      obtain ⟨σ', H', J, q⟩ := hs
      exact ends (v := V.non) (u := Value.none) J rfl q
    | brk =>
      obtain ⟨_, _, _, q⟩ := hs
      exact q.elim
    | cont =>
      obtain ⟨_, _, _, q⟩ := hs
      exact q.elim
  · unfold runDef at o
    cases eb : b G (as.map some ++ List.replicate (N.length - as.length) none) h with
    | ret v h' => rw [eb] at o; exact fun D' u x' R' r' => finD_of R x' R' r' o
    | nx env' h' =>
      rw [eb] at o
      intro D' σ' x' R' en'
      obtain ⟨x2, R2⟩ := back R x' R'
      exact o ⟨D'.F, D'.m.take h.length, D'.H⟩ .non x2 R2 rfl
    | exc e env' h' =>
      rw [eb] at o
      intro D' σ' cls d x' R' en' rx
      obtain ⟨x2, R2⟩ := back R x' R'
      simp only at o
      split at o
      · rename_i hv
        exact o ⟨D'.F, D'.m.take h.length, D'.H⟩ cls d x2 R2 ⟨rx.1, fun v ev => by rw [hv] at ev; cases ev⟩
      · rename_i v hv
        split at o
        · rename_i hp
          refine o ⟨D'.F, D'.m.take h.length, D'.H⟩ cls d x2 R2 ⟨rx.1, fun w ew => ?_⟩
          obtain ⟨dd, u, e1, e2, e3, q⟩ := rx.2 w ew
          rw [hv] at ew
          cases ew
          exact ⟨dd, u, e1, e2, e3, Rep.pure (D := D') (D' := ⟨D'.F, D'.m.take h.length, D'.H⟩) (fun _ f => ⟨f, rfl⟩) _ u hp q⟩
        · exact o.elim
    | brk env' h' => rw [eb] at o; exact o.elim
    | ct env' h' => rw [eb] at o; exact o.elim
    | bad => rw [eb] at o; exact o.elim
end
end Pv
end
section
set_option Elab.async false
set_option linter.all false
set_option maxRecDepth 100000
set_option autoImplicit false
namespace Pv
open PySem PySem.Spec PyProof.Rows L2

/-! ### from the text to what it means -/
def ixOf : (N : List Str) → (x : Str) → Option { i : Nat // N[i]? = some x }
  | [], _ => none
  | y :: N, x => if h : y = x then some ⟨0, by rw [h]; rfl⟩ else match ixOf N x with
    | some ⟨i, hi⟩ => some ⟨i + 1, hi⟩
    | none => none
structure BltR (hot : Bool) (x : Str) where
  id : String
  p0 : List AV → AH → Out AV
  r : PySem.W.Frag → List V → Hp → VK → Prop
  hc : ∀ X : Cx, X.A.units + 200 < cLine → X.A.guards = some [] → (hot = false → X.calm = true) → CallR X (.builtin id) (r X.K)
  hs : OpN p0 r
  hv : bootBuiltins x = some (.builtin id)
structure TyR (hot : Bool) (x : Str) where
  T : String
  p0 : List AV → AH → Out AV
  r : PySem.W.Frag → List V → Hp → VK → Prop
  hc : ∀ X : Cx, X.A.units + 200 < cLine → X.A.guards = some [] → (hot = false → X.calm = true) → CallR X (.type T) (r X.K)
  hs : OpN p0 r
  hv : bootBuiltins x = some (.type T)
def sLen : Str := "len"
def sAbs : Str := "abs"
def sMax : Str := "max"
def sMin : Str := "min"
def sRepr : Str := "repr"
def sAll : Str := "all"
def sAny : Str := "any"
def sSum : Str := "sum"
def sInt : Str := "int"
def sBool : Str := "bool"
def sTuple : Str := "tuple"
def sList : Str := "list"
def sStr : Str := "str"
def sDict : Str := "dict"
def sIsi : Str := "isinstance"
theorem boot_len : bootBuiltins sLen = some (.builtin "len") := by decide +kernel
theorem boot_abs : bootBuiltins sAbs = some (.builtin "abs") := by decide +kernel
theorem boot_max : bootBuiltins sMax = some (.builtin "max") := by decide +kernel
theorem boot_min : bootBuiltins sMin = some (.builtin "min") := by decide +kernel
theorem boot_repr : bootBuiltins sRepr = some (.builtin "repr") := by decide +kernel
theorem boot_all : bootBuiltins sAll = some (.builtin "all") := by decide +kernel
theorem boot_any : bootBuiltins sAny = some (.builtin "any") := by decide +kernel
theorem boot_sum : bootBuiltins sSum = some (.builtin "sum") := by decide +kernel
theorem boot_int : bootBuiltins sInt = some (.type "int") := by decide +kernel
theorem boot_bool : bootBuiltins sBool = some (.type "bool") := by decide +kernel
theorem boot_tuple : bootBuiltins sTuple = some (.type "tuple") := by decide +kernel
theorem boot_list : bootBuiltins sList = some (.type "list") := by decide +kernel
theorem boot_str : bootBuiltins sStr = some (.type "str") := by decide +kernel
theorem boot_dict : bootBuiltins sDict = some (.type "dict") := by decide +kernel
theorem boot_isi : bootBuiltins sIsi = some (.builtin "isinstance") := by decide +kernel
def bltOf (hot : Bool) (x : Str) : Option (BltR hot x) :=
  if h : x = sLen then some ⟨"len", opLen, rLenA, fun X _ _ _ => call_lenA, on_len, by rw [h]; exact boot_len⟩
  else if h : x = sAbs then some ⟨"abs", opAbs, fun _ => _, fun X _ _ _ => call_abs, on_abs, by rw [h]; exact boot_abs⟩
  else if h : x = sMax ∧ hot = false then some ⟨"max", opMax, fun _ => _, fun X _ _ c => call_max2 (c h.2), on_max, by rw [h.1]; exact boot_max⟩
  else if h : x = sMin ∧ hot = false then some ⟨"min", opMin, fun _ => _, fun X _ _ c => call_min2 (c h.2), on_min, by rw [h.1]; exact boot_min⟩
  else if h : x = sRepr then some ⟨"repr", reprOp, rRepr, fun X u g _ => call_reprA u g, on_repr, by rw [h]; exact boot_repr⟩
  else if h : x = sAll ∧ hot = false then some ⟨"all", opBls fun bs => bs.all id, rAll, fun X _ _ c => cr_all (c h.2), on_bls _, by rw [h.1]; exact boot_all⟩
  else if h : x = sAny ∧ hot = false then some ⟨"any", opBls fun bs => bs.any id, rAny, fun X _ _ c => cr_any (c h.2), on_bls _, by rw [h.1]; exact boot_any⟩
  else if h : x = sSum ∧ hot = false then some ⟨"sum", opSum, rSum, fun X _ _ c => cr_sum (c h.2), on_sum, by rw [h.1]; exact boot_sum⟩
  else none
def tyOfN (hot : Bool) (x : Str) : Option (TyR hot x) :=
  if h : x = sInt then some ⟨"int", opInt, fun _ => _, fun X _ _ _ => call_int1, on_int, by rw [h]; exact boot_int⟩
  else if h : x = sBool then some ⟨"bool", opBool, fun _ => _, fun X _ _ _ => call_bool1, on_bool, by rw [h]; exact boot_bool⟩
  else if h : x = sTuple then some ⟨"tuple", opTuple, _, fun X _ _ _ => call_tuple_of, on_tuple, by rw [h]; exact boot_tuple⟩
  else if h : x = sList then some ⟨"list", opList, _, fun X _ _ _ => call_list_of, on_list, by rw [h]; exact boot_list⟩
  else none
def clsOf (x : Str) : Option { T : Ty // T ≠ .non ∧ bootBuiltins x = some (.type T.nm) } :=
  if h : x = sInt then some ⟨.int, by decide, by rw [h]; exact boot_int⟩
  else if h : x = sBool then some ⟨.bl, by decide, by rw [h]; exact boot_bool⟩
  else if h : x = sTuple then some ⟨.tup, by decide, by rw [h]; exact boot_tuple⟩
  else if h : x = sList then some ⟨.lst, by decide, by rw [h]; exact boot_list⟩
  else if h : x = sStr then some ⟨.str, by decide, by rw [h]; exact boot_str⟩
  else if h : x = sDict then some ⟨.dct, by decide, by rw [h]; exact boot_dict⟩
  else none
section
variable (S : Stat)
abbrev CE (L : Lc) (e : Expr) := Option { f : EvE // SE S L e f }
abbrev CT (L : Lc) (e : Expr) := Option { f : EvT // ST S L e f }
abbrev CA (L : Lc) (es : List Expr) := Option { f : EvA // SA S L es f }
variable {S}
def compA {L : Lc} (rec : (e : Expr) → CE S L e) : (es : List Expr) → CA S L es
  | [] => some ⟨evNil, sa_nil⟩
  | .Starred a p :: es => match rec a, compA rec es with
    | some ⟨f, hf⟩, some ⟨g, hg⟩ => some ⟨evStar f g, sa_star hf hg⟩
    | _, _ => none
  | e :: es => match rec e, compA rec es with
    | some ⟨f, hf⟩, some ⟨g, hg⟩ => if h : notStar e = true then some ⟨evCons f g, sa_cons hf hg h⟩ else none
    | _, _ => none
def compBool {L : Lc} (rec : (e : Expr) → CE S L e) (op : BoolOp) (pos : Pos) : (es : List Expr) → CE S L (.BoolOp op es pos)
  | [] => none
  | [a] => match rec a with
    | some ⟨f, hf⟩ => some ⟨f, se_one hf⟩
    | none => none
  | a :: b :: es => match rec a, compBool rec op pos (b :: es) with
    | some ⟨f, hf⟩, some ⟨g, hg⟩ => match op, hg with
      | .And, hg => some ⟨evAnd f g, se_and hf hg⟩
      | .Or, hg => some ⟨evOr f g, se_or hf hg⟩
    | _, _ => none
def compBoolT {L : Lc} (rec : (e : Expr) → CT S L e) (op : BoolOp) (pos : Pos) : (es : List Expr) → Option { f : EvT // SW S L (.BoolOp op es pos) f }
  | [] => none
  | [a] => match rec a with
    | some ⟨f, hf⟩ => some ⟨f, sw_one hf⟩
    | none => none
  | a :: b :: es => match rec a, compBoolT rec op pos (b :: es) with
    | some ⟨f, hf⟩, some ⟨g, hg⟩ => match op, hg with
      | .And, hg => some ⟨etAnd f g, sw_and hf hg⟩
      | .Or, hg => some ⟨etOr f g, sw_or hf hg⟩
    | _, _ => none
def compT {L : Lc} (rec : (e : Expr) → CE S L e) : Nat → (e : Expr) → CT S L e
  | 0, _ => none
  | n + 1, e => match e with
    | .UnaryOp .Not a pos => match compT rec n a with
      | some ⟨f, hf⟩ => some ⟨etNot f, st_not hf⟩
      | none => none
    | .BoolOp op es pos => match compBoolT (compT rec n) op pos es with
      | some ⟨f, hf⟩ => some ⟨f, hf.st⟩
      | none => none
    | .Compare a [op] [b] pos => match rec a, rec b with
      | some ⟨f, hf⟩, some ⟨g, hg⟩ => if h : notSet b = true then some ⟨_, st_cmp (cmpOf op).2 hf hg h⟩ else none
      | _, _ => none
    | .Compare a [o1, o2] [b, d] pos => match rec a, rec b, rec d with
      | some ⟨f, hf⟩, some ⟨g, hg⟩, some ⟨l, hl⟩ => if h : notSet d = true then some ⟨_, st_chain (cmpOf o1).2 (cmpOf o2).2 hf hg hl h⟩ else none
      | _, _, _ => none
    | e => match rec e with
      | some ⟨f, hf⟩ => if h : plainTest e = true then some ⟨etOf f, st_val hf h⟩ else none
      | none => none
def compO {L : Lc} (rec : (e : Expr) → CE S L e) : (e : Option Expr) → Option { f : GT → Env1 → AH → Out (Option Int) // SO S L e f }
  | none => some ⟨eoNone, so_none⟩
  | some e => match rec e with
    | some ⟨f, hf⟩ => some ⟨eoSome f, so_some hf⟩
    | none => none
def compG1 (L : Lc) : (e : Expr) → Option { i : Nat // SG L e (.nm i) }
  | .Name x pos => match ixOf L.N x with
    | some ⟨i, hi⟩ => if h : locB L x = true then some ⟨i, sg_nm hi h⟩ else none
    | none => none
  | _ => none
def compGs (L : Lc) : (es : List Expr) → Option { is : List Nat // SGs L es is ∧ es.all isName = true ∧ es.length = is.length }
  | [] => some ⟨[], sgs_nil, rfl, rfl⟩
  | e :: es => match compG1 L e, compGs L es with
    | some ⟨i, hi⟩, some ⟨is, h1, h2, h3⟩ => if h : isName e = true then some ⟨i :: is, sgs_cons hi h1 h, by rw [List.all_cons, h, h2]; rfl, by rw [List.length_cons, List.length_cons, h3]⟩ else none
    | _, _ => none
def compG (L : Lc) : (e : Expr) → Option { t : Tg // SG L e t }
  | .Tuple es j pos => match compGs L es with
    | some ⟨is, h1, h2, h3⟩ => if h : L.hot = false then some ⟨.tp is, sg_tp h1 h2 h3 h⟩ else none
    | none => none
  | e => match compG1 L e with
    | some ⟨i, hi⟩ => some ⟨.nm i, hi⟩
    | none => none
def memB (x : Str) (l : List Str) : Bool := l.any fun y => decide (y = x)
theorem mem_of {x : Str} {l : List Str} (h : memB x l = true) : x ∈ l := by
  obtain ⟨y, h1, h2⟩ := List.any_eq_true.mp h
  rw [← of_decide_eq_true h2]
  exact h1
/-- what is walked -/
def compI {L : Lc} (rec : (e : Expr) → CE S L e) (tg : Expr) : (e : Expr) → Option { f : EvI // SI S L tg e f }
  | .Call (.Name x p) [a] [] pos =>
    if hr : x = sRange then match rec a with
      | some ⟨f, hf⟩ => if h : memB x S.free = true ∧ glB L.sc x = true ∧ notStar a = true then some ⟨_, si_rng1 hr (mem_of h.1) h.2.1 (sa_cons hf sa_nil h.2.2) h.2.2⟩ else none
      | none => none
    else if hr : x = sRev then match rec a with
      | some ⟨f, hf⟩ => if h : memB x S.free = true ∧ glB L.sc x = true ∧ notStar a = true then some ⟨_, si_rev hr (mem_of h.1) h.2.1 hf h.2.2⟩ else none
      | none => none
    else if hr : x = sEnum then match tg with
      | .Tuple elts kk tpos => match rec a with
        | some ⟨f, hf⟩ => if h : memB x S.free = true ∧ glB L.sc x = true ∧ notStar a = true then some ⟨_, si_enum hr (mem_of h.1) h.2.1 (sa_cons hf sa_nil h.2.2) h.2.2⟩ else none
        | none => none
      | _ => none
    else match rec (.Call (.Name x p) [a] [] pos) with
      | some ⟨f, hf⟩ => some ⟨eiSeq f, si_seq hf⟩
      | none => none
  | .Call (.Name x p) [a] [⟨some y, .Constant (.int i) j cp, kp⟩] pos =>
    if hr : x = sEnum ∧ y = sStart then match tg with
      | .Tuple elts kk tpos => match rec a with
        | some ⟨f, hf⟩ => if h : memB x S.free = true ∧ glB L.sc x = true ∧ notStar a = true ∧ (0 ≤ i ∧ i < 1000) then
            some ⟨_, si_enumS (k0 := i.toNat) hr.1 hr.2 (mem_of h.1) h.2.1 (sa_cons hf sa_nil h.2.2.1) (fun X => by rw [Int.toNat_of_nonneg h.2.2.2.1]; exact pe_int) (by omega) h.2.2.1⟩ else none
        | none => none
      | _ => none
    else none
  | .Call (.Name x p) [a, b] [] pos =>
    if hr : x = sRange then match rec a, rec b with
      | some ⟨f, hf⟩, some ⟨g, hg⟩ => if h : memB x S.free = true ∧ glB L.sc x = true ∧ notStar a = true ∧ notStar b = true then some ⟨_, si_rng2 hr (mem_of h.1) h.2.1 (sa_cons hf (sa_cons hg sa_nil h.2.2.2) h.2.2.1) h.2.2.1 h.2.2.2⟩ else none
      | _, _ => none
    else if hr : x = sZip then match tg with
      | .Tuple elts kk tpos => match rec a, rec b with
        | some ⟨f, hf⟩, some ⟨g, hg⟩ => if h : memB x S.free = true ∧ glB L.sc x = true ∧ notStar a = true ∧ notStar b = true then some ⟨_, si_zip hr (mem_of h.1) h.2.1 (sa_cons hf (sa_cons hg sa_nil h.2.2.2) h.2.2.1) h.2.2.1 h.2.2.2⟩ else none
        | _, _ => none
      | _ => none
    else match rec (.Call (.Name x p) [a, b] [] pos) with
      | some ⟨f, hf⟩ => some ⟨eiSeq f, si_seq hf⟩
      | none => none
  | e => match rec e with
    | some ⟨f, hf⟩ => some ⟨eiSeq f, si_seq hf⟩
    | none => none
def compTs {L : Lc} (rec : (e : Expr) → CE S L e) : (es : List Expr) → Option { f : EvT // STs S L es f }
  | [] => some ⟨etYes, sts_nil⟩
  | [e] => match compT rec 40 e with
    | some ⟨f, hf⟩ => some ⟨f, sts_one hf⟩
    | none => none
  | _ => none
/-- the block's own names, with their places -/
def ownOf (N : List Str) (scope : Scope) : List (Str × Nat) := scope.names.filterMap fun (x, k) => if k == .local || k == .cell then (ixOf N x).map fun i => (x, i.1) else none
structure LcR (S : Stat) (L : Lc) (elt tg e : Expr) (ifs : List Expr) (scope : Scope) where
  s : EvI
  t : Tg
  tt : EvT
  te : EvE
  hs : SI S L tg e s
  hb : blkC L.N L.sc scope (ownOf L.N scope) = true
  hg : SG (blkL L scope) tg t
  ht : STs S (blkL L scope) ifs tt
  he : SE S (blkL L scope) elt te
  hn : notSet e = true
  hh : L.hot = false
  ho : ∀ i ∈ t.slots, i ∈ (ownOf L.N scope).map (·.2)
def compLc {L : Lc} (rec : (L : Lc) → (e : Expr) → CE S L e) (elt tg e : Expr) (ifs : List Expr) (scope : Scope) : Option (LcR S L elt tg e ifs scope) :=
  match compI (rec L) tg e, compG (blkL L scope) tg, compTs (rec (blkL L scope)) ifs, rec (blkL L scope) elt with
  | some ⟨s, hs⟩, some ⟨t, hg⟩, some ⟨tt, ht⟩, some ⟨te, he⟩ =>
    if hb : blkC L.N L.sc scope (ownOf L.N scope) = true then if hn : notSet e = true then if hh : L.hot = false then if ho : ∀ i ∈ t.slots, i ∈ (ownOf L.N scope).map (·.2) then some ⟨s, t, tt, te, hs, hb, hg, ht, he, hn, hh, ho⟩ else none else none else none else none
  | _, _, _, _ => none
def compCall {L : Lc} (rec : (e : Expr) → CE S L e) (x : Str) (p : Pos) (e : Expr) (es : List Expr) (pos : Pos) : CE S L (.Call (.Name x p) (e :: es) [] pos) :=
  match compA rec (e :: es) with
  | none => none
  | some ⟨f, hf⟩ => if h : glB L.sc x = true ∧ okName x = true ∧ (e :: es).all notStar = true then
      match hx : S.fns.lookup x with
      | some (i, n) => if hh : L.hot = false then some ⟨_, se_call hx h.1 h.2.1 hf h.2.2 hh⟩ else none
      | none => if hm : memB x S.free = true then
          match bltOf L.hot x with
          | some r => some ⟨_, se_blt r.hc r.hs (mem_of hm) r.hv h.1 h.2.1 hf h.2.2⟩
          | none => match tyOfN L.hot x with
            | some r => some ⟨_, se_ty r.hc r.hs (mem_of hm) r.hv h.1 h.2.1 hf h.2.2⟩
            | none => none
        else if hm : memB x S.gcds = true then match e, es, hf, h with
          | a, [b], hf, h => some ⟨_, se_gcd on_gcd (mem_of hm) h.1 h.2.1 hf h.2.2⟩
          | _, _, _, _ => none
        else none
    else none
def binOf (op : Operator) : Option { oo : Op2 // ∃ r : PySem.W.Frag → R2, (∀ X : Cx, OpR X (binaryOp op) (r X.K)) ∧ OpS oo r } := match op with
  | .Add => some ⟨addOp, rAddA, fun X => op_addA, so_add⟩
  | .Sub => some ⟨subOp, rSubA, fun X => op_sub, so_sub⟩
  | .Mult => some ⟨mulOp, rMulA, fun X => op_mulB, so_mul⟩
  | .Mod => some ⟨modOp, rModA, fun X => op_mod, so_mod⟩
  | .FloorDiv => some ⟨fdivOp, rFdivA, fun X => op_fdivW, so_fdiv⟩
  | .Pow => some ⟨powOp, rPowA, fun X => op_powA, so_pow⟩
  | _ => none
theorem se_bin' {L : Lc} {op : Operator} {oo : Op2} {a b : Expr} {f g : EvE} {pos : Pos} (ho : ∃ r : PySem.W.Frag → R2, (∀ X : Cx, OpR X (binaryOp op) (r X.K)) ∧ OpS oo r) (ha : SE S L a f) (hb : SE S L b g) : SE S L (.BinOp a op b pos) (evOp oo f g) := by
  obtain ⟨r, h1, h2⟩ := ho
  exact se_bin (fun X _ => h1 X) h2 ha hb
def compE (S : Stat) : Nat → (L : Lc) → (e : Expr) → CE S L e
  | 0, _, _ => none
  | n + 1, L, e => match e with
    | .Name x pos => match ixOf L.N x with
      | some ⟨i, hi⟩ => if h : visB L.sc x = true ∧ okName x = true then some ⟨evVar i, se_var hi h.1 h.2⟩ else match hx : S.consts.lookup x with
        | some v => if h : glB L.sc x = true ∧ okName x = true then some ⟨evC v, se_glob hx h.1 h.2⟩ else none
        | none => none
      | none => match hx : S.consts.lookup x with
        | some v => if h : glB L.sc x = true ∧ okName x = true then some ⟨evC v, se_glob hx h.1 h.2⟩ else none
        | none => none
    | .Constant (.int i) j pos => some ⟨evC (.int i), se_c (fun _ => pe_int) fun _ _ => rfl⟩
    | .Constant (.bool b) j pos => some ⟨evC (.bl b), se_c (fun _ => pe_bl) fun _ _ => rfl⟩
    | .Constant (.str x) j pos => some ⟨evC (.str x), se_c (fun _ => pe_str) fun _ _ => rfl⟩
    | .Dict [] [] pos => some ⟨evDict0, se_dict0⟩
    | .Constant .none j pos => some ⟨evC .non, se_c (fun _ => pe_non) fun _ _ => rfl⟩
    | .BinOp a op b pos => match binOf op, compE S n L a, compE S n L b with
      | some ⟨oo, ho⟩, some ⟨f, hf⟩, some ⟨g, hg⟩ => some ⟨evOp oo f g, se_bin' ho hf hg⟩
      | _, _, _ => none
    | .UnaryOp .USub a pos => match compE S n L a with
      | some ⟨f, hf⟩ => some ⟨evOf1 negOp f, se_neg hf⟩
      | none => none
    | .UnaryOp .Not a pos => match compE S n L a with
      | some ⟨f, hf⟩ => some ⟨evOf1 notOp f, se_not hf⟩
      | none => none
    | .BoolOp op es pos => compBool (compE S n L) op pos es
    | .IfExp t a b pos => match compT (compE S n L) n t, compE S n L a, compE S n L b with
      | some ⟨t, ht⟩, some ⟨f, hf⟩, some ⟨g, hg⟩ => some ⟨evIf t f g, se_if ht hf hg⟩
      | _, _, _ => none
    | .Compare a [op] [b] pos => match compE S n L a, compE S n L b with
      | some ⟨f, hf⟩, some ⟨g, hg⟩ => if h : notSet b = true then some ⟨_, se_cmp (cmpOf op).2 hf hg h⟩ else none
      | _, _ => none
    | .Compare a [o1, o2] [b, d] pos => match compE S n L a, compE S n L b, compE S n L d with
      | some ⟨f, hf⟩, some ⟨g, hg⟩, some ⟨l, hl⟩ => if h : notSet d = true then some ⟨_, se_chain (cmpOf o1).2 (cmpOf o2).2 hf hg hl h⟩ else none
      | _, _, _ => none
    | .Tuple es j pos => match compA (compE S n L) es with
      | some ⟨f, hf⟩ => some ⟨evOf opTup f, se_tup hf⟩
      | none => none
    | .List es pos => match compA (compE S n L) es with
      | some ⟨f, hf⟩ => some ⟨evOf opLst f, se_lst hf⟩
      | none => none
    | .Subscript a (.Slice lo hi none p2) pos => match compE S n L a, compO (compE S n L) lo, compO (compE S n L) hi with
      | some ⟨f, hf⟩, some ⟨g, hg⟩, some ⟨l, hl⟩ => some ⟨evSl f g l, se_sl hf hg hl⟩
      | _, _, _ => none
    | .Subscript a b pos => match compE S n L a, compE S n L b with
      | some ⟨f, hf⟩, some ⟨g, hg⟩ => if h : notSlice b = true then some ⟨evOp ixOp f g, se_ix hf hg h⟩ else none
      | _, _ => none
    | .ListComp elt [⟨tg, e, ifs, 0⟩] scope pos => match compLc (compE S n) elt tg e ifs scope with
      | some r => some ⟨evLc false r.s r.t r.tt r.te _, se_lc r.hs r.hb r.hg r.ht r.he r.hn r.hh r.ho⟩
      | none => none
    | .Call (.Name x p) [a, .Name y p1] [] pos =>
      if hi : x = sIsi then match clsOf y, compE S n L a with
        | some ⟨T, hT, hy⟩, some ⟨f, hf⟩ => if h : memB x S.free = true ∧ memB y S.free = true ∧ glB L.sc x = true ∧ glB L.sc y = true ∧ okName x = true ∧ okName y = true ∧ notStar a = true then
            some ⟨evOf1 (isiOp T) f, se_isi hT hy (by rw [hi]; exact boot_isi) (mem_of h.1) (mem_of h.2.1) h.2.2.1 h.2.2.2.1 h.2.2.2.2.1 h.2.2.2.2.2.1 hf h.2.2.2.2.2.2⟩ else none
        | _, _ => none
      else compCall (compE S n L) x p a [.Name y p1] pos
    | .Call (.Name x p) (e :: es) [] pos => compCall (compE S n L) x p e es pos
    | .Call (.Attribute a m p) [e] [] pos => if hm : m = sAppend then match compE S n L a, compE S n L e with
        | some ⟨f, hf⟩, some ⟨g, hg⟩ => if h : baseOk a = true ∧ notStar e = true ∧ (p.endLine == pos.line) = true then some ⟨evApp f g, se_append hm hf hg h.1 h.2.1 h.2.2⟩ else none
        | _, _ => none
      else none
    | _ => none

/-! ### statements -/
abbrev CS (S : Stat) (L : Lc) (st : Stmt) := Option { f : EvS // SS S L st f }
abbrev CSs (S : Stat) (L : Lc) (st : List Stmt) := Option { f : EvS // SSs S L st f }
def compSs {S : Stat} {L : Lc} (rec : (st : Stmt) → CS S L st) : (sts : List Stmt) → CSs S L sts
  | [] => some ⟨esNx, sss_nil⟩
  | [st] => match rec st with
    | some ⟨f, hf⟩ => some ⟨f, sss_one hf⟩
    | none => none
  | st :: st2 :: sts => match rec st, compSs rec (st2 :: sts) with
    | some ⟨f, hf⟩, some ⟨g, hg⟩ => some ⟨esSeq f g, sss_cons hf hg⟩
    | _, _ => none
def ipOf (op : Operator) : Option { oo : Op2 // IpS op oo } := match op with
  | .Add => some ⟨iaddOp, ips_add⟩
  | .Sub => some ⟨subOp, ips_sub⟩
  | _ => none
/-- a value that is to be a cell -/
def compCell {S : Stat} {L : Lc} (n : Nat) : (e : Expr) → Option { f : EvE // SE S L e f ∧ notComp e = true }
  | .List es pos => match compA (compE S n L) es with
    | some ⟨f, hf⟩ => some ⟨evOf opCel f, se_cel hf, rfl⟩
    | none => none
  | e => match compE S n L e with
    | some ⟨f, hf⟩ => if h : notComp e = true then some ⟨f, hf, h⟩ else none
    | none => none
/-- mu: the names of lists that are changed; rc: a list that is made for the return is to be changed by the caller -/
def compS (S : Stat) (mu : List Str) (rc : Bool) (L : Lc) : Nat → (st : Stmt) → CS S L st
  | 0, _ => none
  | n + 1, st => match st with
    | .Pass pos => some ⟨esNx, ss_pass⟩
    | .Break pos => some ⟨esBrk, ss_brk⟩
    | .Continue pos => some ⟨esCt, ss_ct⟩
    | .Raise e c pos => some ⟨esBad, ss_bad⟩
    | .Return none pos => some ⟨esRetN, ss_retN⟩
    | .Return (some e) pos => if rc = true then match compCell (S := S) (L := L) 40 e with
        | some ⟨f, hf, _⟩ => some ⟨esRet f, ss_ret hf⟩
        | none => none
      else match compE S 40 L e with
        | some ⟨f, hf⟩ => some ⟨esRet f, ss_ret hf⟩
        | none => none
    | .Expr (.Constant (.str x) j pos) pos' => some ⟨esNx, ss_doc⟩
    | .Expr e pos => match compE S 40 L e with
      | some ⟨f, hf⟩ => if h : notComp e = true then some ⟨esDrop f, ss_expr hf h⟩ else none
      | none => none
    | .If e as bs pos => match compT (compE S 40 L) 40 e, compSs (compS S mu rc L n) as, compSs (compS S mu rc L n) bs with
      | some ⟨t, ht⟩, some ⟨f, hf⟩, some ⟨g, hg⟩ => some ⟨esIf t f g, ss_if ht hf hg⟩
      | _, _, _ => none
    | .While e bs [] pos => match compT (compE S 40 L) 40 e, compSs (compS S mu rc L n) bs with
      | some ⟨t, ht⟩, some ⟨f, hf⟩ => some ⟨esWhile t f, ss_while ht hf⟩
      | _, _ => none
    | .For tg e bs [] pos => match compI (compE S 40 L) tg e, compG L tg, compSs (compS S mu rc L n) bs with
      | some ⟨s, hs⟩, some ⟨t, ht⟩, some ⟨f, hf⟩ => if h : notSet e = true ∧ L.hot = false then some ⟨esFor s t f, ss_for hs ht hf h.1 h.2⟩ else none
      | _, _, _ => none
    | .Assign [.Name x p] (.ListComp elt [⟨tg, e, ifs, 0⟩] scope cp) pos => match compLc (compE S 40) elt tg e ifs scope, ixOf L.N x with
      | some r, some ⟨i, hi⟩ => if h : locOnly L x = true ∧ kindB L.sc = true ∧ (p.line == cp.line) = true ∧ (scope.names.any fun (n, k) => n == x && (k == .local || k == .cell)) = false then
          some ⟨_, ss_setLc (cell := memB x mu) r.hs r.hb r.hg r.ht r.he r.hn r.hh r.ho hi h.1 h.2.1 h.2.2.1 h.2.2.2⟩ else none
      | _, _ => none
    | .Assign [.Name x p] e pos => match ixOf L.N x with
      | some ⟨i, hi⟩ => if h : locB L x = true then if memB x mu = true then match compCell (S := S) (L := L) 40 e with
            | some ⟨f, hf, hc⟩ => some ⟨_, ss_set hi h hf hc⟩
            | none => none
          else match compE S 40 L e with
            | some ⟨f, hf⟩ => if hc : notComp e = true then some ⟨_, ss_set hi h hf hc⟩ else none
            | none => none
        else none
      | none => none
    | .Assign [.Tuple [.Name x px, .Name y py] k1 p] (.Tuple [a, b] k2 p2) pos => match ixOf L.N x, ixOf L.N y, compA (compE S 40 L) [a, b] with
      | some ⟨i, hi⟩, some ⟨j, hj⟩, some ⟨f, hf⟩ => if h : (i == j) = false ∧ locOnly L x = true ∧ locOnly L y = true ∧ kindB L.sc = true ∧ (py.line == px.line) = true ∧ (x == y) = false ∧ notStar a = true ∧ notStar b = true ∧ ([a, b].all (foldedForSure 8)) = false ∧ ([a, b].all (constantsAlone 8)) = false ∧ L.hot = false then
          some ⟨_, ss_par2 hi hj h.1 h.2.1 h.2.2.1 h.2.2.2.1 h.2.2.2.2.1 h.2.2.2.2.2.1 h.2.2.2.2.2.2.1 h.2.2.2.2.2.2.2.1 h.2.2.2.2.2.2.2.2.1 h.2.2.2.2.2.2.2.2.2.1 hf h.2.2.2.2.2.2.2.2.2.2⟩ else none
      | _, _, _ => none
    | .Assign [.Tuple [.Name x px, .Name y py, .Name z pz] k1 p] (.Tuple [a, b, d] k2 p2) pos => match ixOf L.N x, ixOf L.N y, ixOf L.N z, compA (compE S 40 L) [a, b, d] with
      | some ⟨i, hi⟩, some ⟨j, hj⟩, some ⟨l, hl⟩, some ⟨f, hf⟩ => if h : ((i == j) = false ∧ (i == l) = false ∧ (j == l) = false) ∧ (locOnly L x = true ∧ locOnly L y = true ∧ locOnly L z = true ∧ kindB L.sc = true) ∧ ((py.line == px.line) = true ∧ (pz.line == px.line) = true) ∧ ((x == y) = false ∧ (x == z) = false ∧ (y == z) = false) ∧ (notStar a = true ∧ notStar b = true ∧ notStar d = true) ∧ ([a, b, d].all (foldedForSure 8)) = false ∧ ([a, b, d].all (constantsAlone 8)) = false ∧ L.hot = false then
          some ⟨_, ss_par3 hi hj hl h.1.1 h.1.2.1 h.1.2.2 h.2.1.1 h.2.1.2.1 h.2.1.2.2.1 h.2.1.2.2.2 h.2.2.1.1 h.2.2.1.2 h.2.2.2.1.1 h.2.2.2.1.2.1 h.2.2.2.1.2.2 h.2.2.2.2.1.1 h.2.2.2.2.1.2.1 h.2.2.2.2.1.2.2 h.2.2.2.2.2.1 h.2.2.2.2.2.2.1 hf h.2.2.2.2.2.2.2⟩ else none
      | _, _, _, _ => none
    | .Assign [.Tuple es j p] e pos => match compG L (.Tuple es j p), compE S 40 L e with
      | some ⟨.tp is, hg⟩, some ⟨f, hf⟩ => if h : notComp e = true ∧ notTup e = true then some ⟨_, ss_unp hg hf h.1 fun env _ => swapped_none h.2⟩ else none
      | _, _ => none
    | .Assign [.Subscript a b p] e pos => match compE S 40 L a, compE S 40 L b, compE S 40 L e with
      | some ⟨f, hf⟩, some ⟨g, hg⟩, some ⟨l, hl⟩ => if h : notComp e = true ∧ notTup e = true ∧ notSlice b = true then some ⟨_, ss_setix hf hg hl h.1 h.2.1 h.2.2⟩ else none
      | _, _, _ => none
    | .AugAssign (.Name x p) op e pos => match ixOf L.N x, ipOf op, compE S 40 L e with
      | some ⟨i, hi⟩, some ⟨oo, ho⟩, some ⟨f, hf⟩ => if h : locB L x = true then some ⟨_, ss_aug ho hi h hf⟩ else none
      | _, _, _ => none
    | _ => none
end
end Pv
end
section
set_option Elab.async false
set_option linter.all false
set_option maxRecDepth 100000
set_option autoImplicit false
namespace Pv
open PySem PySem.Spec PyProof.Rows L2

theorem got {α : Type} {P : α → Prop} {o : Option { f : α // P f }} {f : α} (h : o.map (·.1) = some f) : P f := by
  cases o with
  | none => cases h
  | some x =>
    have e : x.1 = f := Option.some.inj h
    rw [← e]
    exact x.2
/-! ### the law's own call -/
section
variable {P : Program} {w : World} {K : PySem.W.Frag} {mg mb : Str → Option Value} {k : Nat} {fa a : Addr} {fd : FuncData} {x : Str} {g : List AV → AH → Out AV} {s₁ : Shared} {vs : List Value} {ns : List Int} {cls : Nat → Value} {fld : Nat → Str}
/-- the heap H tells nothing but the script, at a -/
structure Lone (K : PySem.W.Frag) (s : Shared) (a : Addr) (ns : List Int) (H : Hp) : Prop where
  ok : ∀ b u, H b = some u → b = a ∧ ∃ o, u = .frz o (.lst (ns.map V.int)) ∧ K.lookup a = none
theorem law_go {H : Hp} (lone : Lone K s₁ a ns H) (hok : HOk P w H s₁.heap) (rep : ∀ Γ : Cfg, Γ.K = K → Rep Γ.K ⟨fun b => H b ≠ none, [], H⟩ (.kl (ns.map AV.int)) (.ref a))
    (KX : K.In s₁.heap) (hns : s₁.heap.Ns mainGlobals mg) (hb : s₁.heap.Ns builtinsNs mb) (hbb : ∀ x : Str, x ≠ "__name__" → mb x = bootBuiltins x) (hlim : s₁.heap.NoLimit) (hg : s₁.gens = #[])
    (ha : s₁.heap.get? a = some { cls := .type "list", data := .seq vs.toArray }) (hr : Room k callerA) (hbind : ∀ (s : Shared) (u : Value), BindsTo s fd ⟨[u], []⟩ [(x, u)])
    (F : ∀ base : Heap, K.In base → base.Ns mainGlobals mg → FnG P w K mg base (L2.CX P w) k fa fd [x] (spOf ⟨P, w, K, mg, base, cls, fld⟩ 1 g)) (holds : g [.kl (ns.map AV.int)] [] = .ok (.bl true) []) :
    codeAny (model P w) callerA (.call (.ref fa) ⟨[.ref a], []⟩) (fun r s' => r = .ok (.ret (.bool true)) ∧ PySem.OldK s₁.heap s'.heap ∧ s'.os = s₁.os ∧ AllBare s'.gens) s₁ := by
  have away : ∀ {b : Addr} {o : Obj}, s₁.heap.get? b = some o → (∀ vs n, o.data ≠ .seq vs n) → H b = none := fun {b o} e d => by
    cases q : H b with
    | none => rfl
    | some u =>
      have e' := (lone.ok b u q).1
      rw [e', ha] at e
      cases e
      exact absurd rfl (d _ _)
  have ns_of : ∀ {b : Addr} {m : Str → Option Value}, s₁.heap.Ns b m → (hidT s₁.heap H).Ns b m := fun {b m} ⟨o, es, ep, e, d, r⟩ => ⟨o, es, ep, hidT_get e (away e fun v n z => by rw [d] at z; cases z), d, r⟩
  have kin : K.In (hidT s₁.heap H) := fun b o e => hidT_get (KX b o e) (by
    cases q : H b with
    | none => rfl
    | some u =>
      obtain ⟨e1, _, _, e2⟩ := lone.ok b u q
      rw [e1, e2] at e
      cases e)
  have md : Mod K mg (hidT s₁.heap H) := ⟨kin, ns_of hns, ⟨mb, ns_of hb, hbb⟩, by obtain ⟨mc, h1, h2⟩ := hlim; exact ⟨mc, ns_of h1, h2⟩⟩
  have e0 : Env0 P w K mg (hidT s₁.heap H) callerA [] s₁ H := by
    refine ⟨rfl, md, fun b o e => of_hidT e, Nat.le_of_eq (hidT_size _ _), trivial, fun b hb => ?_, hok, .of_eq hg⟩
    cases (show b ∈ ([] : List Addr) from hb)
  have start : spOf ⟨P, w, K, mg, hidT s₁.heap H, cls, fld⟩ 1 g [.ref a] H (fun v _ => v = .bl true) fun _ _ _ => False := by
    refine ⟨rfl, ⟨fun b => H b ≠ none, [], H⟩, [], [.kl (ns.map AV.int)], rfl, ⟨rfl, List.nodup_nil, fun n c b e => by simp at e, fun b f => ?_, fun b hb => (by cases hb), fun c hc => (by cases hc)⟩, RepL.cons (rep _ rfl) rfl, ?_⟩
    · cases q : H b with
      | none => exact absurd q f
      | some u => exact ⟨u, q⟩
    · rw [holds]
      exact fun D' u _ _ r => r
  refine codeAny_mono ((F _ kin (ns_of hns)).go callerA [] s₁ H _ [.ref a] [.ref a] _ _ rfl hr e0 (hbind s₁ (.ref a)) (.cons rfl .nil) start) fun r s' h => ?_
  match r, h with
  | .ok (.ret u), ⟨v, H', os, bare, un, hok', rv, q⟩ =>
    have q' : v = .bl true := q
    subst q'
    have eu : u = Value.bool true := rv
    subst eu
    refine ⟨rfl, OldK.of_keep fun b o e => ?_, os, bare⟩
    cases q : H b with
    | none => exact un.keep b o e q (fun z => by cases (show b ∈ ([] : List Addr) from z)) (by simp)
    | some z =>
      obtain ⟨_, ob, ez, _⟩ := lone.ok b z q
      subst ez
      have t1 : s₁.heap.get? b = some ob := (hok b _ q).1
      have t2 : s'.heap.get? b = some ob := (hok' b _ (un.frzs b ob _ q)).1
      rw [t1] at e
      rw [← e]
      exact t2
  | .error e, h =>
    obtain ⟨_, _, _, _, _, _, _, _, _, _, _, _, z⟩ := h
    exact z.elim
theorem walk_g {l : PySem.W.OpenLaw} {n k : Nat} {q : Program} {loose : List Str} {XP : (Str → Option Value) → Heap → Prop} {YP : World → Heap → Prop} {d : DefRec} {K : Params → PySem.W.Frag} {x : Str} {g : List AV → AH → Out AV} {cls : (Str → Option Value) → Nat → Value} {fld : Nat → Str}
    (hn : l.most = some n) (hn2 : n ≤ sizeLine) (hdf : d.params.defaults = []) (hr : Room k callerA) (hY : ∀ (w : World) (h : Heap), YP w h → (K w.params).In h)
    (F : ∀ (w : World) (mg : Str → Option Value) (fa : Addr) (h : Heap), (K w.params).In h → h.Ns mainGlobals mg → mg d.name = some (.ref fa) →
      ∃ fd : FuncData, (∀ (s : Shared) (u : Value), BindsTo s fd ⟨[u], []⟩ [(x, u)]) ∧ ∀ base : Heap, (K w.params).In base → base.Ns mainGlobals mg → FnG l.prog w (K w.params) mg base (L2.CX l.prog w) k fa fd [x] (spOf ⟨l.prog, w, K w.params, mg, base, cls mg, fld⟩ 1 g))
    (holds : ∀ ns : List Int, ns.length ≤ n → g [.kl (ns.map AV.int)] [] = .ok (.bl true) []) : PySem.W.WalkO q loose XP YP l.row.toRowW d [] (fun f vs => PySem.call f vs) := by
  refine Att.attach_call hn hdf fun w s₀ s₁ mg mb fa o pm cd doc a vs ns G Y ho hd hcd hmg hobj hints hlen hg => ?_
  have KX := hY w _ Y
  obtain ⟨fd, hb, hF⟩ := F w mg fa _ KX G.T.g hmg
  have rv := vals_ints hints
  have hsz : ns.length ≤ sizeLine := Nat.le_trans hlen hn2
  cases hk : (K w.params).lookup a with
  | some o' =>
    have e := KX a o' hk
    rw [hobj] at e
    cases e
    refine law_go (H := fun _ => none) ⟨fun b u z => (by cases z)⟩ (fun b u z => (by cases z)) (fun Γ eK => ⟨a, ns.map V.int, rfl, .inr ?_, RepL.ints ns⟩) KX G.T.g G.T.b G.T.builtins G.T.nolimit hg hobj hr hb hF (holds ns hlen)
    rw [eK]
    exact ⟨_, vs.toArray, _, hk, rfl, rfl, rfl, by rw [List.size_toArray, hints.length]; exact hsz, by simpa using rv⟩
  | none =>
    refine law_go (H := fun b => if b = a then some (.frz { cls := .type "list", data := .seq vs.toArray } (.lst (ns.map V.int))) else none) ⟨fun b u z => ?_⟩ (fun b u z => ?_) (fun Γ eK => ⟨a, ns.map V.int, rfl, .inl ⟨?_, _, if_pos rfl⟩, RepL.ints ns⟩) KX G.T.g G.T.b G.T.builtins G.T.nolimit hg hobj hr hb hF (holds ns hlen)
    · by_cases h : b = a
      · have z' := (if_pos h).symm.trans z
        exact ⟨h, _, (Option.some.inj z').symm, hk⟩
      · have z' := (if_neg h).symm.trans z
        cases z'
    · by_cases h : b = a
      · have z' := (if_pos h).symm.trans z
        have ez := Option.some.inj z'
        subst ez
        subst h
        exact ⟨hobj, by rw [List.length_map]; exact hsz, vs, _, rv, hobj⟩
      · have z' := (if_neg h).symm.trans z
        cases z'
    · show (if a = a then _ else none) ≠ none
      rw [if_pos rfl]
      intro z
      cases z
end

/-! ### what the head tells -/
structure FnF (K : PySem.W.Frag) (x : Str) (st : Stmt) : Prop where
  ex : ∃ (f : Addr) (oc : Value) (od : Option Addr) (kV doc pm : Value) (an : Option Addr) (cd ct : Value) (sl : Array (Option Value)), PySem.W.nsIn K mainGlobals x = some (some (.ref f)) ∧
    K.lookup f = some ⟨oc, od, .func (PySem.W.fnOf x x (defArgs st) (defBody st) (defScope st) .none kV doc pm an cd ct), sl⟩ ∧ PySem.W.codeIn K cd x = true ∧ PySem.W.keepIn K (.ref f) = true
theorem fnF_mk {K : PySem.W.Frag} {x : Str} {st : Stmt} {f : Addr} {oc : Value} {od : Option Addr} {kV doc pm : Value} {an : Option Addr} {cd ct : Value} {sl : Array (Option Value)} (a : PySem.W.nsIn K mainGlobals x = some (some (.ref f)))
    (l : K.lookup f = some ⟨oc, od, .func (PySem.W.fnOf x x (defArgs st) (defBody st) (defScope st) .none kV doc pm an cd ct), sl⟩) (c : PySem.W.codeIn K cd x = true) (k : PySem.W.keepIn K (.ref f) = true) : FnF K x st := ⟨f, oc, od, kV, doc, pm, an, cd, ct, sl, a, l, c, k⟩
def Ent (Γ : Cfg) (k : Nat) (x : Str) (n : Nat) (g : List AV → AH → Out AV) : Prop := ∃ (f : Addr) (fd : FuncData) (ps : List Str), Γ.mg x = some (.ref f) ∧ PySem.W.keepIn Γ.K (.ref f) = true ∧ Binds Γ.K fd ps [] ∧ FnG Γ.P Γ.w Γ.K Γ.mg Γ.base (L2.CX Γ.P Γ.w) k f fd ps (spOf Γ n g)
def BindOk (x : Str) (st : Stmt) (ps : List Str) : Prop := ∀ (kV doc pm : Value) (an : Option Addr) (cdv ct : Value) (us : List Value), us.length = ps.length → bindArgs (PySem.W.fnOf x x (defArgs st) (defBody st) (defScope st) .none kV doc pm an cdv ct) ⟨us, []⟩ = pure (ps.zip us)
structure Base (Γ : Cfg) : Prop where
  kin : Γ.K.In Γ.base
  ns : Γ.base.Ns mainGlobals Γ.mg
theorem ent_s {Γ : Cfg} {S : Stat} {G : GT} {k : Nat} {x : Str} {st : Stmt} {N ps : List Str} {rc : Bool} {b : EvS} (B : Base Γ) (F : FnF Γ.K x st) (sc : FnScope N ps (defScope st)) (hb : SSs S (lcOf N (defScope st)) (defBody st) b) (bind : BindOk x st ps) (so : StatOk Γ S G k) (hlen : ps.length ≤ N.length) :
    Ent Γ (k + 1) x ps.length (runDef rc N.length b G) := by
  obtain ⟨f, oc, od, kV, doc, pm, an, cd, ct, sl, a, l, c, kp⟩ := F.ex
  have Fu := fun_mk (st := st) l c kp
  exact ⟨f, _, ps, PySem.W.mg_of B.kin B.ns a, kp, Fu.binds bind, fn_g Fu sc hb so hlen⟩
theorem ent_0 {Γ : Cfg} {x : Str} {st : Stmt} {ps : List Str} {n : Nat} (B : Base Γ) (F : FnF Γ.K x st) (bind : BindOk x st ps) (hn : n = ps.length) : Ent Γ 0 x n (fun _ _ => .bad) := by
  obtain ⟨f, oc, od, kV, doc, pm, an, cd, ct, sl, a, l, c, kp⟩ := F.ex
  have Fu := fun_mk (st := st) l c kp
  refine ⟨f, _, ps, PySem.W.mg_of B.kin B.ns a, kp, Fu.binds bind, fun vs H Q E h => h.1.trans hn, fun A outer s H args us vs Q E hgd hr e0 hbt r hsp => ?_⟩
  obtain ⟨_, D, h, as, _, _, _, o⟩ := hsp
  exact o.elim
theorem mem_lookup' {β : Type} {x : Str} {v : β} : ∀ {l : List (Str × β)}, l.lookup x = some v → (x, v) ∈ l
  | [], h => by cases h
  | (y, w) :: l, h => by
    rw [List.lookup_cons] at h
    cases e : x == y with
    | true =>
      rw [e] at h
      have e1 := beq_iff_eq.mp e
      have e2 : w = v := Option.some.inj h
      rw [e1, e2]
      exact List.mem_cons_self
    | false =>
      rw [e] at h
      exact List.mem_cons_of_mem _ (mem_lookup' h)
theorem stat_mk {Γ : Cfg} {S : Stat} {G : GT} {k : Nat} (fn : ∀ p ∈ S.fns, Ent Γ k p.1 p.2.2 (G p.2.1)) (const : ∀ p ∈ S.consts, ∃ (V : V) (u : Value), Γ.mg p.1 = some u ∧ RelV V u ∧ ∀ D, Rep Γ.K D p.2 V) (free : ∀ x ∈ S.free, Γ.mg x = none) (gcd : ∀ x, x ∈ S.gcds → Γ.mg x = some (.builtin "math.gcd")) : StatOk Γ S G k :=
  ⟨fun x i n h => fn _ (mem_lookup' h), fun x v h => const _ (mem_lookup' h), fun x h => free x h, gcd⟩
theorem const_int {Γ : Cfg} {x : Str} {i : Int} {t : Tok} (B : Base Γ) (a : PySem.W.nsIn Γ.K mainGlobals x = some (some (.int i t))) : ∃ (V : V) (u : Value), Γ.mg x = some u ∧ RelV V u ∧ ∀ D, Rep Γ.K D (.int i) V :=
  ⟨.int i, _, PySem.W.mg_of B.kin B.ns a, ⟨t, rfl⟩, fun _ => rfl⟩
theorem free_of {Γ : Cfg} {x : Str} (B : Base Γ) (a : PySem.W.nsIn Γ.K mainGlobals x = some none) : Γ.mg x = none := PySem.W.mg_none_of B.kin B.ns a
theorem gcd_of {Γ : Cfg} {x : Str} (B : Base Γ) (a : PySem.W.nsIn Γ.K mainGlobals x = some (some (.builtin "math.gcd"))) : Γ.mg x = some (.builtin "math.gcd") := PySem.W.mg_of B.kin B.ns a
theorem all_nil {α : Type} {P : α → Prop} : ∀ x ∈ ([] : List α), P x := fun _ h => by cases h
theorem all_cons {α : Type} {P : α → Prop} {a : α} {l : List α} (h : P a) (t : ∀ x ∈ l, P x) : ∀ x ∈ a :: l, P x := fun x hx => by
  rcases List.mem_cons.mp hx with e | e
  · rw [e]; exact h
  · exact t x e
theorem law_f {P : Program} {w : World} {K : PySem.W.Frag} {mg : Str → Option Value} {fa : Addr} {h : Heap} {cls : Nat → Value} {fld : Nat → Str} {x p : Str} {st : Stmt} {N : List Str} {b : EvS} {S : Stat} {G : GT} {k : Nat} (KX : K.In h) (Gn : h.Ns mainGlobals mg) (hmg : mg x = some (.ref fa)) (F : FnF K x st) (bind : BindOk x st [p])
    (sc : FnScope N [p] (defScope st)) (hb : SSs S (lcOf N (defScope st)) (defBody st) b) (hN : 1 ≤ N.length) (so : ∀ Γ : Cfg, Γ.K = K → Base Γ → StatOk Γ S G k) :
    ∃ fd : FuncData, (∀ (s : Shared) (u : Value), BindsTo s fd ⟨[u], []⟩ [(p, u)]) ∧ ∀ base : Heap, K.In base → base.Ns mainGlobals mg → FnG P w K mg base (L2.CX P w) (k + 1) fa fd [p] (spOf ⟨P, w, K, mg, base, cls, fld⟩ 1 (runDef false N.length b G)) := by
  obtain ⟨f, oc, od, kV, doc, pm, an, cd, ct, sl, a, l, c, kp⟩ := F.ex
  have e := hmg.symm.trans (PySem.W.mg_of KX Gn a)
  cases e
  have Fu := fun_mk (st := st) l c kp
  refine ⟨_, fun s u => .of_eq (bind kV doc pm an cd ct [u] rfl), fun base h1 h2 => ?_⟩
  exact fn_g (Γ := ⟨P, w, K, mg, base, cls, fld⟩) Fu sc hb (so _ rfl ⟨h1, h2⟩) hN
end Pv
end
section
set_option Elab.async false
set_option linter.all false
set_option maxRecDepth 100000
set_option autoImplicit false
namespace Pv
open PySem PySem.Spec PyProof.Rows L2

/-! ### to reckon -/
section
variable {G : GT} {env : Env1} {h : AH}
@[simp] theorem x_bind_ok {α β : Type} {v : α} {f : α → AH → Out β} : (Out.ok v h).bind f = f v h := id rfl
@[simp] theorem x_bind_exc {α β : Type} {e : Exn} {f : α → AH → Out β} : (Out.exc e h : Out α).bind f = .exc e h := id rfl
@[simp] theorem x_bind_bad {α β : Type} {f : α → AH → Out β} : (Out.bad : Out α).bind f = .bad := id rfl
@[simp] theorem x_s_ok {α : Type} {v : α} {k : α → AH → SOut} : (Out.ok v h).s env k = k v h := id rfl
@[simp] theorem x_s_exc {α : Type} {e : Exn} {k : α → AH → SOut} : (Out.exc e h : Out α).s env k = .exc e env h := id rfl
@[simp] theorem x_s_bad {α : Type} {k : α → AH → SOut} : (Out.bad : Out α).s env k = .bad := id rfl
@[simp] theorem x_var {i : Nat} : evVar i G env h = match env[i]? with | some (some v) => .ok v h | _ => .bad := id rfl
@[simp] theorem x_c {v : AV} : evC v G env h = .ok v h := id rfl
@[simp] theorem x_op {op : Op2} {f g : EvE} : evOp op f g G env h = (f G env h).bind fun x h1 => (g G env h1).bind fun y h2 => op x y h2 := id rfl
@[simp] theorem x_of {p : List AV → AH → Out AV} {f : EvA} : evOf p f G env h = (f G env h).bind p := id rfl
@[simp] theorem x_of1 {p : AV → AH → Out AV} {f : EvE} : evOf1 p f G env h = (f G env h).bind p := id rfl
@[simp] theorem x_nil : evNil G env h = .ok [] h := id rfl
@[simp] theorem x_cons {f : EvE} {g : EvA} : evCons f g G env h = (f G env h).bind fun x h1 => (g G env h1).bind fun xs h2 => .ok (x :: xs) h2 := id rfl
@[simp] theorem x_star {f : EvE} {g : EvA} : evStar f g G env h = (f G env h).bind fun x h1 => match itemsF x with
  | some ys => (g G env h1).bind fun xs h2 => .ok (ys ++ xs) h2
  | none => .bad := id rfl
@[simp] theorem o_itfT {xs : List AV} : itemsF (.tup xs) = some xs := id rfl
@[simp] theorem o_itfL {xs : List AV} : itemsF (.lst xs) = some xs := id rfl
@[simp] theorem o_enumT {xs : List AV} : opEnum [.tup xs] h = .ok (.snap (enumL 0 xs)) h := id rfl
@[simp] theorem o_enumS {k : Nat} {xs : List AV} : opEnumS k [.tup xs] h = .ok (.snap (enumL k xs)) h := id rfl
@[simp] theorem o_zipT {xs ys : List AV} : opZip [.tup xs, .tup ys] h = .ok (.snap (zipA xs ys)) h := id rfl
@[simp] theorem o_mulT {xs : List AV} {k : Int} : mulOp (.tup xs) (.int k) h = if xs ≠ [] ∧ -1000 ≤ k ∧ k ≤ 1000 ∧ xs.length ≤ 1000 then .ok (.tup (List.replicate k.toNat xs).flatten) h else .bad := id rfl
@[simp] theorem x_call {n i : Nat} {f : EvA} : evCall n i f G env h = (f G env h).bind (opCall n i G) := id rfl
@[simp] theorem x_opCall {n i : Nat} {xs : List AV} : opCall n i G xs h = if xs.length = n then G i xs h else .bad := id rfl
@[simp] theorem x_and {f g : EvE} : evAnd f g G env h = (f G env h).bind fun x h1 => match x with | .bl b => if b = true then g G env h1 else .ok (.bl false) h1 | _ => .bad := id rfl
@[simp] theorem x_or {f g : EvE} : evOr f g G env h = (f G env h).bind fun x h1 => match x with | .bl b => if b = true then .ok (.bl true) h1 else g G env h1 | _ => .bad := id rfl
@[simp] theorem x_if {t : EvT} {f g : EvE} : evIf t f g G env h = (t G env h).bind fun b h1 => if b = true then f G env h1 else g G env h1 := id rfl
@[simp] theorem x_chain {o1 o2 : Op2} {f g l : EvE} : evChain o1 o2 f g l G env h = (f G env h).bind fun x h1 => (g G env h1).bind fun y h2 => (o1 x y h2).bind fun z h3 => match z with
  | .bl b => if b = true then (l G env h3).bind fun w h4 => o2 y w h4 else .ok (.bl false) h3
  | _ => .bad := id rfl
@[simp] theorem x_sl {f : EvE} {g l : GT → Env1 → AH → Out (Option Int)} : evSl f g l G env h = (f G env h).bind fun x h1 => (g G env h1).bind fun lo h2 => (l G env h2).bind fun hi h3 => slOp x lo hi h3 := id rfl
@[simp] theorem x_oN : eoNone G env h = .ok none h := id rfl
@[simp] theorem x_oS {f : EvE} : eoSome f G env h = (f G env h).bind fun x h1 => match x with | .int i => .ok (some i) h1 | _ => .bad := id rfl
@[simp] theorem x_dict0 : evDict0 G env h = .ok (.dct [] []) h := id rfl
@[simp] theorem x_tand {f g : EvT} : etAnd f g G env h = (f G env h).bind fun b h1 => if b = true then g G env h1 else .ok false h1 := id rfl
@[simp] theorem x_tor {f g : EvT} : etOr f g G env h = (f G env h).bind fun b h1 => if b = true then .ok true h1 else g G env h1 := id rfl
@[simp] theorem x_tnot {f : EvT} : etNot f G env h = (f G env h).bind fun b h1 => .ok (!b) h1 := id rfl
@[simp] theorem x_tof {f : EvE} : etOf f G env h = (f G env h).bind fun x h1 => match truB h1 x with | some b => .ok b h1 | none => .bad := id rfl
@[simp] theorem x_tb {f : EvE} : etB f G env h = (f G env h).bind fun x h1 => match x with | .bl b => .ok b h1 | _ => .bad := id rfl
@[simp] theorem x_tyes : etYes G env h = .ok true h := id rfl
@[simp] theorem x_nx : esNx G env h = .nx env h := id rfl
@[simp] theorem x_bad : esBad G env h = .bad := id rfl
@[simp] theorem x_brk : esBrk G env h = .brk env h := id rfl
@[simp] theorem x_ct : esCt G env h = .ct env h := id rfl
@[simp] theorem x_seq {f g : EvS} : esSeq f g G env h = match f G env h with | .nx env' h' => g G env' h' | r => r := id rfl
@[simp] theorem x_drop {f : EvE} : esDrop f G env h = (f G env h).s env fun _ h1 => .nx env h1 := id rfl
@[simp] theorem x_ret {f : EvE} : esRet f G env h = (f G env h).s env fun v h1 => .ret v h1 := id rfl
@[simp] theorem x_retN : esRetN G env h = .ret .non h := id rfl
@[simp] theorem x_sif {t : EvT} {f g : EvS} : esIf t f g G env h = (t G env h).s env fun b h1 => if b = true then f G env h1 else g G env h1 := id rfl
@[simp] theorem x_set {t : Tg} {f : EvE} : esSet t f G env h = (f G env h).s env fun v h1 => match setTg t v env with | some env' => .nx env' h1 | none => .bad := id rfl
@[simp] theorem x_par2 {i j : Nat} {f : EvA} : esPar2 i j f G env h = (f G env h).s env fun vs h1 => match vs with | [x, y] => .nx ((env.set i (some x)).set j (some y)) h1 | _ => .bad := id rfl
@[simp] theorem x_par3 {i j l : Nat} {f : EvA} : esPar3 i j l f G env h = (f G env h).s env fun vs h1 => match vs with | [x, y, z] => .nx (((env.set i (some x)).set j (some y)).set l (some z)) h1 | _ => .bad := id rfl
@[simp] theorem x_setix {f g l : EvE} : esSetIx f g l G env h = (l G env h).s env fun v h1 => (f G env h1).s env fun x h2 => (g G env h2).s env fun y h3 => (setOp x y v h3).s env fun _ h4 => .nx env h4 := id rfl
@[simp] theorem x_app {f g : EvE} : evApp f g G env h = (f G env h).bind fun x h1 => match x with
  | .ref n => match h1[n]? with
    | some (.lst _) => (g G env h1).bind fun v h2 => appOp (.ref n) v h2
    | _ => .bad
  | _ => .bad := id rfl
@[simp] theorem x_lc {cell : Bool} {s : EvI} {tg : Tg} {tt : EvT} {te : EvE} {own : List Nat} : evLc cell s tg tt te own G env h = (s G env h).bind fun src h1 =>
  (lcL src tg tt te G h1.length (wipeE env own) (srcLen src h1) 0 (h1 ++ [.lst []])).bind fun _ h2 => lcFin cell h1.length h2 := id rfl
@[simp] theorem x_for {s : EvI} {tg : Tg} {b : EvS} : esFor s tg b G env h = (s G env h).s env fun src h1 => forL src tg b G (srcLen src h1) 0 env h1 := id rfl
@[simp] theorem x_while {t : EvT} {b : EvS} : esWhile t b G env h = whileL t b G wfuel env h := id rfl
@[simp] theorem x_iseq {f : EvE} : eiSeq f G env h = (f G env h).bind srcOf := id rfl
@[simp] theorem x_iof {p : List AV → AH → Out Src} {f : EvA} : eiOf p f G env h = (f G env h).bind p := id rfl
@[simp] theorem x_irev {f : EvE} : eiRev f G env h = (f G env h).bind revOp := id rfl
/-! operators -/
@[simp] theorem o_tnm {i : Nat} {v : AV} : setTg (.nm i) v env = some (env.set i (some v)) := id rfl
@[simp] theorem o_ttp {is : List Nat} {xs : List AV} : setTg (.tp is) (.tup xs) env = if xs.length = is.length then some (setsA is xs env) else none := id rfl
@[simp] theorem o_sets1 {i : Nat} {is : List Nat} {x : AV} {xs : List AV} : setsA (i :: is) (x :: xs) env = setsA is xs (env.set i (some x)) := id rfl
@[simp] theorem o_sets0 {xs : List AV} : setsA [] xs env = env := by cases xs <;> rfl
@[simp] theorem o_add {i j : Int} : addOp (.int i) (.int j) h = .ok (.int (i + j)) h := id rfl
@[simp] theorem o_addT {xs ys : List AV} : addOp (.tup xs) (.tup ys) h = if xs.length + ys.length ≤ sizeLine then .ok (.tup (xs ++ ys)) h else .bad := id rfl
@[simp] theorem o_addL {xs ys : List AV} : addOp (.lst xs) (.lst ys) h = if xs.length + ys.length ≤ sizeLine then .ok (.lst (xs ++ ys)) h else .bad := id rfl
@[simp] theorem o_addS {x y : Str} : addOp (.str x) (.str y) h = if x.length + y.length ≤ sizeLine then .ok (.str (x ++ y)) h else .bad := id rfl
@[simp] theorem o_sub {i j : Int} : subOp (.int i) (.int j) h = .ok (.int (i - j)) h := id rfl
@[simp] theorem o_mul {i j : Int} : mulOp (.int i) (.int j) h = if mulOk i j = true then .ok (.int (i * j)) h else .bad := id rfl
@[simp] theorem o_mod {i j : Int} : modOp (.int i) (.int j) h = if 0 < j then .ok (.int (i % j)) h else .bad := id rfl
@[simp] theorem o_div {i j : Int} : fdivOp (.int i) (.int j) h = if divOk j = true then .ok (.int (i / j)) h else .bad := id rfl
@[simp] theorem o_pow {i j : Int} : powOp (.int i) (.int j) h = if powOk i j = true then .ok (.int (i ^ j.toNat)) h else .bad := id rfl
@[simp] theorem o_neg {i : Int} : negOp (.int i) h = .ok (.int (-i)) h := id rfl
@[simp] theorem o_not {b : Bool} : notOp (.bl b) h = .ok (.bl (!b)) h := id rfl
@[simp] theorem o_lt {i j : Int} : ltOp (.int i) (.int j) h = .ok (.bl (decide (i < j))) h := id rfl
@[simp] theorem o_ltT {xs ys : List AV} : ltOp (.tup xs) (.tup ys) h = match intsOf xs, intsOf ys with | some ns, some ms => .ok (.bl (HT.lexLt ns ms)) h | _, _ => .bad := id rfl
@[simp] theorem o_le {i j : Int} : leOp (.int i) (.int j) h = .ok (.bl (decide (i ≤ j))) h := id rfl
@[simp] theorem o_gt {i j : Int} : gtOp (.int i) (.int j) h = .ok (.bl (decide (j < i))) h := id rfl
@[simp] theorem o_ge {i j : Int} : geOp (.int i) (.int j) h = .ok (.bl (decide (j ≤ i))) h := id rfl
@[simp] theorem o_is {x : AV} : isOp x .non h = .ok (.bl (isN x)) h := by cases x <;> rfl
@[simp] theorem o_isnot {x : AV} : isNotOp x .non h = .ok (.bl (!isN x)) h := by cases x <;> rfl
@[simp] theorem o_eq {x y : AV} : eqOp x y h = match eqB h x y with | some b => .ok (.bl b) h | none => .bad := id rfl
@[simp] theorem o_ne {x y : AV} : neOp x y h = match eqB h x y with | some b => .ok (.bl (!b)) h | none => .bad := id rfl
@[simp] theorem o_eqI {i j : Int} : eqB h (.int i) (.int j) = some (decide (i = j)) := by
  rw [← Bool.beq_eq_decide_eq]
  simp [eqB, toPy1, toPy, SeqAt.shaped, PyData.canLay0, PyData.depth, PyData.eqv]
@[simp] theorem o_eqBl {i j : Bool} : eqB h (.bl i) (.bl j) = some (i == j) := by
  simp [eqB, toPy1, toPy, SeqAt.shaped, PyData.canLay0, PyData.depth, PyData.eqv]
@[simp] theorem o_ixT {xs : List AV} {i : Int} : ixOp (.tup xs) (.int i) h = match atI xs i with | some v => .ok v h | none => .bad := id rfl
@[simp] theorem o_ixL {xs : List AV} {i : Int} : ixOp (.lst xs) (.int i) h = match atI xs i with | some v => .ok v h | none => .bad := id rfl
@[simp] theorem o_ixK {xs : List AV} {i : Int} : ixOp (.kl xs) (.int i) h = match atI xs i with | some v => .ok v h | none => .bad := id rfl
@[simp] theorem o_ixR {n : Nat} {i : Int} : ixOp (.ref n) (.int i) h = match h[n]? with
    | some (.lst xs) => (match atI xs i with | some v => .ok v h | none => .bad)
    | _ => .bad := by
  unfold ixOp itemsOf
  cases e : h[n]? with
  | none => simp only [e]
  | some c => cases c <;> simp only [e] <;> rfl
@[simp] theorem o_in {b : Bool} {x y : AV} : inOp b x y h = match itemsOf h y with | some ys => if flatA x = true ∧ ys.all flatA = true then .ok (.bl (if b then !inA x ys else inA x ys)) h else .bad | none => .bad := id rfl
@[simp] theorem o_itT {xs : List AV} : itemsOf h (.tup xs) = some xs := id rfl
@[simp] theorem o_itL {xs : List AV} : itemsOf h (.lst xs) = some xs := id rfl
@[simp] theorem o_itK {xs : List AV} : itemsOf h (.kl xs) = some xs := id rfl
@[simp] theorem o_itR {n : Nat} : itemsOf h (.ref n) = match h[n]? with | some (.lst xs) => some xs | _ => none := id rfl
@[simp] theorem o_tup {xs : List AV} : opTup xs h = if xs.length ≤ 1000 then .ok (.tup xs) h else .bad := id rfl
@[simp] theorem o_lst {xs : List AV} : opLst xs h = if xs.length ≤ 1000 then .ok (.lst xs) h else .bad := id rfl
@[simp] theorem o_cel {xs : List AV} : opCel xs h = if xs.length ≤ 1000 ∧ pureL xs = true then .ok (.ref h.length) (h ++ [.lst xs]) else .bad := id rfl
@[simp] theorem o_lenT {xs : List AV} : opLen [.tup xs] h = .ok (.int xs.length) h := id rfl
@[simp] theorem o_lenL {xs : List AV} : opLen [.lst xs] h = .ok (.int xs.length) h := id rfl
@[simp] theorem o_lenK {xs : List AV} : opLen [.kl xs] h = .ok (.int xs.length) h := id rfl
@[simp] theorem o_int {i : Int} : opInt [.int i] h = .ok (.int i) h := id rfl
@[simp] theorem o_intB {b : Bool} : opInt [.bl b] h = .ok (.int (if b then 1 else 0)) h := id rfl
@[simp] theorem o_abs {i : Int} : opAbs [.int i] h = .ok (.int (if i < 0 then -i else i)) h := id rfl
@[simp] theorem o_max {i j : Int} : opMax [.int i, .int j] h = .ok (.int (if j > i then j else i)) h := id rfl
@[simp] theorem o_min {i j : Int} : opMin [.int i, .int j] h = .ok (.int (if j < i then j else i)) h := id rfl
@[simp] theorem o_gcd {i j : Int} : opGcd [.int i, .int j] h = .ok (.int ((Nat.gcd i.natAbs j.natAbs : Nat) : Int)) h := id rfl
@[simp] theorem o_isi {T : Ty} {x : AV} : isiOp T x h = match tyOf h x with | some t => .ok (.bl (isTy t T)) h | none => .bad := id rfl
@[simp] theorem o_rng1 {j : Int} : opRng1 [.int j] h = if -(2 ^ 62) ≤ j ∧ j < 2 ^ 62 then .ok (.rng 0 j.toNat) h else .bad := id rfl
@[simp] theorem o_rng2 {i j : Int} : opRng2 [.int i, .int j] h = if -(2 ^ 62) ≤ i ∧ i < 2 ^ 62 ∧ -(2 ^ 62) ≤ j ∧ j < 2 ^ 62 then .ok (.rng i (j - i).toNat) h else .bad := id rfl
@[simp] theorem o_srcT {xs : List AV} : srcOf (.tup xs) h = .ok (.snap xs) h := id rfl
@[simp] theorem o_srcL {xs : List AV} : srcOf (.lst xs) h = .ok (.snap xs) h := id rfl
@[simp] theorem o_srcK {xs : List AV} : srcOf (.kl xs) h = .ok (.snap xs) h := id rfl
@[simp] theorem o_slT {xs : List AV} {lo hi : Option Int} : slOp (.tup xs) lo hi h = .ok (.tup (cutA xs lo hi)) h := id rfl
@[simp] theorem o_tuple {x : AV} : opTuple [x] h = match itemsOf h x with | some xs => .ok (.tup xs) h | none => .bad := id rfl
@[simp] theorem o_list {x : AV} : opList [x] h = match itemsOf h x with | some xs => .ok (.lst xs) h | none => .bad := id rfl
@[simp] theorem o_set {n : Nat} {i : Int} {v : AV} : setOp (.ref n) (.int i) v h = match h[n]? with
    | some (.lst xs) => match ixN xs.length i with
      | some j => if pureA v = true then .ok () (h.set n (.lst (xs.set j v))) else .bad
      | none => .bad
    | _ => .bad := id rfl
@[simp] theorem o_truB {b : Bool} : truB h (.bl b) = some b := id rfl
@[simp] theorem o_pureI {i : Int} : pureA (.int i) = true := id rfl
@[simp] theorem o_pureB {i : Bool} : pureA (.bl i) = true := id rfl
@[simp] theorem o_pureS {i : Str} : pureA (.str i) = true := id rfl
@[simp] theorem o_pureN : pureA .non = true := id rfl
@[simp] theorem o_pureT {xs : List AV} : pureA (.tup xs) = pureL xs := id rfl
@[simp] theorem o_pureL {xs : List AV} : pureA (.lst xs) = pureL xs := id rfl
@[simp] theorem o_pureD {ks : List Key} {xs : List AV} : pureA (.dct ks xs) = pureL xs := id rfl
@[simp] theorem o_pureR {n : Nat} : pureA (.ref n) = false := id rfl
@[simp] theorem o_pl0 : pureL [] = true := id rfl
@[simp] theorem o_pl1 {x : AV} {xs : List AV} : pureL (x :: xs) = (pureA x && pureL xs) := id rfl
@[simp] theorem ite_ok {c : Prop} [Decidable c] {a b : Bool} : (if c then Out.ok (AV.bl a) h else Out.ok (AV.bl b) h) = Out.ok (AV.bl (if c then a else b)) h := by split <;> rfl
@[simp] theorem ite_okB {c : Prop} [Decidable c] {a b : Bool} : (if c then Out.ok a h else Out.ok b h) = Out.ok (if c then a else b) h := by split <;> rfl
@[simp] theorem ite_okI {c : Prop} [Decidable c] {a b : Int} : (if c then Out.ok (AV.int a) h else Out.ok (AV.int b) h) = Out.ok (AV.int (if c then a else b)) h := by split <;> rfl
end
theorem ixB0 {xs : List AV} {x : AV} : atI (x :: xs) 0 = some x := by
  unfold atI ixN
  rw [if_pos (Int.le_refl 0), if_pos (by simp only [List.length_cons]; omega)]
  rfl
theorem ixB1 {xs : List AV} {x y : AV} : atI (x :: y :: xs) 1 = some y := by
  unfold atI ixN
  rw [if_pos (by decide), if_pos (by simp only [List.length_cons]; omega)]
  rfl
theorem ixB2 {xs : List AV} {x y z : AV} : atI (x :: y :: z :: xs) 2 = some z := by
  unfold atI ixN
  rw [if_pos (by decide), if_pos (by simp only [List.length_cons]; omega)]
  rfl
/-! the end of a def -/
@[simp] theorem f_pure {rc : Bool} {n0 : Nat} {h : AH} {v : AV} (p : pureA v = true) : finD rc n0 v h = .ok v (h.take n0) := by
  cases v with
  | ref n => cases p
  | _ => exact (if_pos p : (if _ = true then Out.ok _ (h.take n0) else Out.bad) = _)
@[simp] theorem f_ref {rc : Bool} {n0 n : Nat} {h : AH} (p : n < n0) : finD rc n0 (.ref n) h = .ok (.ref n) (h.take n0) := if_pos p
@[simp] theorem take_set_len {h : AH} {n : Nat} {c : Cell} : (h.set n c).take h.length = h.set n c := by
  rw [List.take_of_length_le]
  simp
@[simp] theorem take_app_len {h : AH} {c : List Cell} : (h ++ c).take h.length = h := by simp
theorem run_eq {rc : Bool} {n : Nat} {b : EvS} {G : GT} {args : List AV} {h : AH} {v : AV} {h' : AH} (e : b G (args.map some ++ List.replicate (n - args.length) none) h = .ret v h') : runDef rc n b G args h = finD rc h.length v h' := by
  unfold runDef
  rw [e]
theorem run_nx {rc : Bool} {n : Nat} {b : EvS} {G : GT} {args : List AV} {h : AH} {env : Env1} {h' : AH} (e : b G (args.map some ++ List.replicate (n - args.length) none) h = .nx env h') : runDef rc n b G args h = .ok .non (h'.take h.length) := by
  unfold runDef
  rw [e]
/-- a def whose value needs no cell, and that changes none -/
theorem run_pure {rc : Bool} {n : Nat} {b : EvS} {G : GT} {args : List AV} {h : AH} {v : AV} (p : pureA v = true) (e : b G (args.map some ++ List.replicate (n - args.length) none) h = .ret v h) : runDef rc n b G args h = .ok v h := by
  rw [run_eq e, f_pure p, List.take_length]
theorem run_cell {rc : Bool} {n : Nat} {b : EvS} {G : GT} {args : List AV} {h : AH} {v : AV} {h' : AH} (p : pureA v = true) (hl : h'.length = h.length) (e : b G (args.map some ++ List.replicate (n - args.length) none) h = .ret v h') : runDef rc n b G args h = .ok v h' := by
  rw [run_eq e, f_pure p, List.take_of_length_le (Nat.le_of_eq hl)]
end Pv
end
section
set_option Elab.async false
set_option linter.all false
set_option maxRecDepth 100000
set_option autoImplicit false
namespace Pv.K03
open PySem PySem.Spec PyProof.Rows L2

def topS (i : Nat) : Stmt := PySem.Challenge.pw_pauseplay_k03_whole_points_behind_pauses.main.body.getD i (.Pass ⟨0, 0, 0, 0⟩)
def S : Stat where
  fns := [(("lowest_terms" : Str), (0 : Nat), (2 : Nat)), (("lowest_point" : Str), (1 : Nat), (2 : Nat)), (("point_later" : Str), (2 : Nat), (2 : Nat)), (("point_back" : Str), (3 : Nat), (2 : Nat)), (("point_shown" : Str), (4 : Nat), (3 : Nat)), (("is_whole" : Str), (5 : Nat), (1 : Nat)), (("is_whole_between" : Str), (6 : Nat), (3 : Nat)), (("is_pair" : Str), (7 : Nat), (1 : Nat)), (("is_ascending" : Str), (8 : Nat), (3 : Nat)), (("is_fraction" : Str), (9 : Nat), (1 : Nat)), (("is_pause" : Str), (10 : Nat), (1 : Nat)), (("check_pause" : Str), (11 : Nat), (1 : Nat)), (("check_clocks" : Str), (12 : Nat), (1 : Nat)), (("is_some_point" : Str), (13 : Nat), (1 : Nat)), (("is_point" : Str), (14 : Nat), (2 : Nat)), (("check_point" : Str), (15 : Nat), (1 : Nat)), (("are_same" : Str), (16 : Nat), (2 : Nat)), (("later" : Str), (17 : Nat), (2 : Nat)), (("set_back" : Str), (18 : Nat), (2 : Nat)), (("check_shown" : Str), (19 : Nat), (2 : Nat)), (("shown" : Str), (20 : Nat), (3 : Nat)), (("_law_spins" : Str), (21 : Nat), (2 : Nat)), (("_law_spin" : Str), (22 : Nat), (2 : Nat)), (("_law_among" : Str), (23 : Nat), (2 : Nat)), (("_law_shown" : Str), (24 : Nat), (2 : Nat)), (("_law_later" : Str), (25 : Nat), (3 : Nat)), (("_law_set_back" : Str), (26 : Nat), (2 : Nat)), (("_law_point_drawn" : Str), (27 : Nat), (3 : Nat)), (("_law_pause_drawn" : Str), (28 : Nat), (2 : Nat)), (("_law_shared" : Str), (29 : Nat), (1 : Nat)), (("_law_plain" : Str), (30 : Nat), (1 : Nat)), (("_law_is_point" : Str), (31 : Nat), (2 : Nat)), (("_law_some_point" : Str), (32 : Nat), (2 : Nat)), (("_law_right" : Str), (33 : Nat), (1 : Nat)), (("law" : Str), (34 : Nat), (1 : Nat))]
  consts := [("TOO_GREAT", (.int (1000000000000000000000000000000000000000000000000000000000000))), ("MOST_CLOCKS", (.int (4)))]
  free := [("abs" : Str), ("all" : Str), ("bool" : Str), ("enumerate" : Str), ("int" : Str), ("isinstance" : Str), ("len" : Str), ("list" : Str), ("max" : Str), ("min" : Str), ("range" : Str), ("repr" : Str), ("tuple" : Str), ("zip" : Str)]
  gcds := ["gcd"]
  exs := []
/-! lowest_terms -/
abbrev s0 : Stmt := topS 2
def N0 : List Str := ["top", "bottom", "divisor"]
def P0 : List Str := ["top", "bottom"]
def b0 : EvS := (esSeq (esSet (.nm 2) (evOf opGcd (evCons (evVar 0) (evCons (evVar 1) evNil)))) (esRet (evOf opTup (evCons (evOp fdivOp (evVar 0) (evVar 2)) (evCons (evOp fdivOp (evVar 1) (evVar 2)) evNil)))))
theorem sc0 : FnScope N0 P0 (defScope s0) := ⟨rfl, rfl, rfl, by decide +kernel, rfl, by decide +kernel, by decide +kernel⟩
theorem h0 : SSs S (lcOf N0 (defScope s0)) (defBody s0) b0 := got (o := compSs (compS S [] false (lcOf N0 (defScope s0)) 40) (defBody s0)) (by kernel_rfl)
/-! lowest_point -/
abbrev s1 : Stmt := topS 3
def N1 : List Str := ["bottom", "values", "divisor", "value"]
def P1 : List Str := ["bottom", "values"]
def b1 : EvS := (esSeq (esSet (.nm 2) (evVar 0)) (esSeq (esFor (eiSeq (evVar 1)) (.nm 3) (esSet (.nm 2) (evOf opGcd (evCons (evVar 2) (evCons (evVar 3) evNil))))) (esRet (evOf opTup (evCons (evOp fdivOp (evVar 0) (evVar 2)) (evCons (evOf opTuple (evCons (evLc false (eiSeq (evVar 1)) (.nm 3) etYes (evOp fdivOp (evVar 3) (evVar 2)) [3]) evNil)) evNil))))))
theorem sc1 : FnScope N1 P1 (defScope s1) := ⟨rfl, rfl, rfl, by decide +kernel, rfl, by decide +kernel, by decide +kernel⟩
theorem h1 : SSs S (lcOf N1 (defScope s1)) (defBody s1) b1 := got (o := compSs (compS S [] false (lcOf N1 (defScope s1)) 40) (defBody s1)) (by kernel_rfl)
/-! point_later -/
abbrev s2 : Stmt := topS 4
def N2 : List Str := ["point", "pause", "bottom", "values", "grown", "value"]
def P2 : List Str := ["point", "pause"]
def b2 : EvS := (esSeq (esSet (.tp [2, 3]) (evVar 0)) (esSeq (esSet (.nm 4) (evOp mulOp (evOp ixOp (evVar 1) (evC (.int 0))) (evVar 2))) (esRet (evCall 2 1 (evCons (evOp mulOp (evVar 2) (evOp ixOp (evVar 1) (evC (.int 1)))) (evCons (evLc false (eiSeq (evVar 3)) (.nm 5) etYes (evOp addOp (evOp mulOp (evVar 5) (evOp ixOp (evVar 1) (evC (.int 1)))) (evVar 4)) [5]) evNil))))))
theorem sc2 : FnScope N2 P2 (defScope s2) := ⟨rfl, rfl, rfl, by decide +kernel, rfl, by decide +kernel, by decide +kernel⟩
theorem h2 : SSs S (lcOf N2 (defScope s2)) (defBody s2) b2 := got (o := compSs (compS S [] false (lcOf N2 (defScope s2)) 40) (defBody s2)) (by kernel_rfl)
/-! point_back -/
abbrev s3 : Stmt := topS 5
def N3 : List Str := ["point", "clocks", "bottom", "values", "at", "value"]
def P3 : List Str := ["point", "clocks"]
def b3 : EvS := (esSeq (esSet (.tp [2, 3]) (evVar 0)) (esRet (evCall 2 1 (evCons (evVar 2) (evCons (evLc false (eiOf (opEnumS 1) (evCons (evVar 3) evNil)) (.tp [4, 5]) etYes (evIf (etB (evOp (inOp false) (evVar 4) (evVar 1))) (evC (.int 0)) (evVar 5)) [4, 5]) evNil)))))
theorem sc3 : FnScope N3 P3 (defScope s3) := ⟨rfl, rfl, rfl, by decide +kernel, rfl, by decide +kernel, by decide +kernel⟩
theorem h3 : SSs S (lcOf N3 (defScope s3)) (defBody s3) b3 := got (o := compSs (compS S [] false (lcOf N3 (defScope s3)) 40) (defBody s3)) (by kernel_rfl)
/-! point_shown -/
abbrev s4 : Stmt := topS 6
def N4 : List Str := ["point", "one", "other", "bottom", "values", "all_values"]
def P4 : List Str := ["point", "one", "other"]
def b4 : EvS := (esSeq (esSet (.tp [3, 4]) (evVar 0)) (esSeq (esSet (.nm 5) (evOf opTup (evCons (evC (.int 0)) (evStar (evVar 4) evNil)))) (esRet (evCall 2 0 (evCons (evOp subOp (evOp ixOp (evVar 5) (evVar 1)) (evOp ixOp (evVar 5) (evVar 2))) (evCons (evVar 3) evNil))))))
theorem sc4 : FnScope N4 P4 (defScope s4) := ⟨rfl, rfl, rfl, by decide +kernel, rfl, by decide +kernel, by decide +kernel⟩
theorem h4 : SSs S (lcOf N4 (defScope s4)) (defBody s4) b4 := got (o := compSs (compS S [] false (lcOf N4 (defScope s4)) 40) (defBody s4)) (by kernel_rfl)
/-! is_whole -/
abbrev s5 : Stmt := topS 9
def N5 : List Str := ["value"]
def P5 : List Str := ["value"]
def b5 : EvS := (esRet (evAnd (evOf1 (isiOp .int) (evVar 0)) (evAnd (evOf1 notOp (evOf1 (isiOp .bl) (evVar 0))) (evChain ltOp ltOp (evOf1 negOp (evC (.int (1000000000000000000000000000000000000000000000000000000000000)))) (evVar 0) (evC (.int (1000000000000000000000000000000000000000000000000000000000000)))))))
theorem sc5 : FnScope N5 P5 (defScope s5) := ⟨rfl, rfl, rfl, by decide +kernel, rfl, by decide +kernel, by decide +kernel⟩
theorem h5 : SSs S (lcOf N5 (defScope s5)) (defBody s5) b5 := got (o := compSs (compS S [] false (lcOf N5 (defScope s5)) 40) (defBody s5)) (by kernel_rfl)
/-! is_whole_between -/
abbrev s6 : Stmt := topS 10
def N6 : List Str := ["value", "least", "greatest"]
def P6 : List Str := ["value", "least", "greatest"]
def b6 : EvS := (esRet (evAnd (evCall 1 5 (evCons (evVar 0) evNil)) (evChain leOp leOp (evVar 1) (evVar 0) (evVar 2))))
theorem sc6 : FnScope N6 P6 (defScope s6) := ⟨rfl, rfl, rfl, by decide +kernel, rfl, by decide +kernel, by decide +kernel⟩
theorem h6 : SSs S (lcOf N6 (defScope s6)) (defBody s6) b6 := got (o := compSs (compS S [] false (lcOf N6 (defScope s6)) 40) (defBody s6)) (by kernel_rfl)
/-! is_pair -/
abbrev s7 : Stmt := topS 11
def N7 : List Str := ["value"]
def P7 : List Str := ["value"]
def b7 : EvS := (esRet (evAnd (evOf1 (isiOp .tup) (evVar 0)) (evOp eqOp (evOf opLen (evCons (evVar 0) evNil)) (evC (.int 2)))))
theorem sc7 : FnScope N7 P7 (defScope s7) := ⟨rfl, rfl, rfl, by decide +kernel, rfl, by decide +kernel, by decide +kernel⟩
theorem h7 : SSs S (lcOf N7 (defScope s7)) (defBody s7) b7 := got (o := compSs (compS S [] false (lcOf N7 (defScope s7)) 40) (defBody s7)) (by kernel_rfl)
/-! is_ascending -/
abbrev s8 : Stmt := topS 12
def N8 : List Str := ["value", "least", "greatest", "item", "following"]
def P8 : List Str := ["value", "least", "greatest"]
def b8 : EvS := (esSeq (esIf (etNot (etOf (evOf1 (isiOp .tup) (evVar 0)))) (esRet (evC (.bl false))) esNx) (esSeq (esIf (etNot (etOf (evOf (opBls fun bs => bs.all id) (evCons (evLc false (eiSeq (evVar 0)) (.nm 3) etYes (evCall 3 6 (evCons (evVar 3) (evCons (evVar 1) (evCons (evVar 2) evNil)))) [3]) evNil)))) (esRet (evC (.bl false))) esNx) (esRet (evOf (opBls fun bs => bs.all id) (evCons (evLc false (eiOf opZip (evCons (evVar 0) (evCons (evSl (evVar 0) (eoSome (evC (.int 1))) eoNone) evNil))) (.tp [3, 4]) etYes (evOp ltOp (evVar 3) (evVar 4)) [3, 4]) evNil)))))
theorem sc8 : FnScope N8 P8 (defScope s8) := ⟨rfl, rfl, rfl, by decide +kernel, rfl, by decide +kernel, by decide +kernel⟩
theorem h8 : SSs S (lcOf N8 (defScope s8)) (defBody s8) b8 := got (o := compSs (compS S [] false (lcOf N8 (defScope s8)) 40) (defBody s8)) (by kernel_rfl)
/-! is_fraction -/
abbrev s9 : Stmt := topS 20
def N9 : List Str := ["value"]
def P9 : List Str := ["value"]
def b9 : EvS := (esRet (evAnd (evCall 1 7 (evCons (evVar 0) evNil)) (evAnd (evCall 1 5 (evCons (evOp ixOp (evVar 0) (evC (.int 0))) evNil)) (evAnd (evCall 1 5 (evCons (evOp ixOp (evVar 0) (evC (.int 1))) evNil)) (evOp geOp (evOp ixOp (evVar 0) (evC (.int 1))) (evC (.int 1)))))))
theorem sc9 : FnScope N9 P9 (defScope s9) := ⟨rfl, rfl, rfl, by decide +kernel, rfl, by decide +kernel, by decide +kernel⟩
theorem h9 : SSs S (lcOf N9 (defScope s9)) (defBody s9) b9 := got (o := compSs (compS S [] false (lcOf N9 (defScope s9)) 40) (defBody s9)) (by kernel_rfl)
/-! is_pause -/
abbrev s10 : Stmt := topS 21
def N10 : List Str := ["value"]
def P10 : List Str := ["value"]
def b10 : EvS := (esRet (evAnd (evCall 1 9 (evCons (evVar 0) evNil)) (evOp geOp (evOp ixOp (evVar 0) (evC (.int 0))) (evC (.int 0)))))
theorem sc10 : FnScope N10 P10 (defScope s10) := ⟨rfl, rfl, rfl, by decide +kernel, rfl, by decide +kernel, by decide +kernel⟩
theorem h10 : SSs S (lcOf N10 (defScope s10)) (defBody s10) b10 := got (o := compSs (compS S [] false (lcOf N10 (defScope s10)) 40) (defBody s10)) (by kernel_rfl)
/-! check_pause -/
abbrev s11 : Stmt := topS 22
def N11 : List Str := ["value"]
def P11 : List Str := ["value"]
def b11 : EvS := (esIf (etNot (etOf (evCall 1 10 (evCons (evVar 0) evNil)))) esBad esNx)
theorem sc11 : FnScope N11 P11 (defScope s11) := ⟨rfl, rfl, rfl, by decide +kernel, rfl, by decide +kernel, by decide +kernel⟩
theorem h11 : SSs S (lcOf N11 (defScope s11)) (defBody s11) b11 := got (o := compSs (compS S [] false (lcOf N11 (defScope s11)) 40) (defBody s11)) (by kernel_rfl)
/-! check_clocks -/
abbrev s12 : Stmt := topS 23
def N12 : List Str := ["clocks"]
def P12 : List Str := ["clocks"]
def b12 : EvS := (esIf (etNot (etOf (evCall 3 6 (evCons (evVar 0) (evCons (evC (.int 0)) (evCons (evC (.int (4))) evNil)))))) esBad esNx)
theorem sc12 : FnScope N12 P12 (defScope s12) := ⟨rfl, rfl, rfl, by decide +kernel, rfl, by decide +kernel, by decide +kernel⟩
theorem h12 : SSs S (lcOf N12 (defScope s12)) (defBody s12) b12 := got (o := compSs (compS S [] false (lcOf N12 (defScope s12)) 40) (defBody s12)) (by kernel_rfl)
/-! is_some_point -/
abbrev s13 : Stmt := topS 24
def N13 : List Str := ["value", "bottom", "values", "item"]
def P13 : List Str := ["value"]
def b13 : EvS := (esSeq (esIf (etNot (etOf (evCall 1 7 (evCons (evVar 0) evNil)))) (esRet (evC (.bl false))) esNx) (esSeq (esSet (.tp [1, 2]) (evVar 0)) (esSeq (esIf (etNot (etAnd (etOf (evCall 1 5 (evCons (evVar 1) evNil))) (etAnd (etB (evOp geOp (evVar 1) (evC (.int 1)))) (etAnd (etOf (evOf1 (isiOp .tup) (evVar 2))) (etB (evOp leOp (evOf opLen (evCons (evVar 2) evNil)) (evC (.int (4))))))))) (esRet (evC (.bl false))) esNx) (esRet (evOf (opBls fun bs => bs.all id) (evCons (evLc false (eiSeq (evVar 2)) (.nm 3) etYes (evAnd (evCall 1 5 (evCons (evVar 3) evNil)) (evOp geOp (evVar 3) (evC (.int 0)))) [3]) evNil))))))
theorem sc13 : FnScope N13 P13 (defScope s13) := ⟨rfl, rfl, rfl, by decide +kernel, rfl, by decide +kernel, by decide +kernel⟩
theorem h13 : SSs S (lcOf N13 (defScope s13)) (defBody s13) b13 := got (o := compSs (compS S [] false (lcOf N13 (defScope s13)) 40) (defBody s13)) (by kernel_rfl)
/-! is_point -/
abbrev s14 : Stmt := topS 25
def N14 : List Str := ["clocks", "value"]
def P14 : List Str := ["clocks", "value"]
def b14 : EvS := (esSeq (esDrop (evCall 1 12 (evCons (evVar 0) evNil))) (esRet (evAnd (evCall 1 13 (evCons (evVar 1) evNil)) (evOp eqOp (evOf opLen (evCons (evOp ixOp (evVar 1) (evC (.int 1))) evNil)) (evVar 0)))))
theorem sc14 : FnScope N14 P14 (defScope s14) := ⟨rfl, rfl, rfl, by decide +kernel, rfl, by decide +kernel, by decide +kernel⟩
theorem h14 : SSs S (lcOf N14 (defScope s14)) (defBody s14) b14 := got (o := compSs (compS S [] false (lcOf N14 (defScope s14)) 40) (defBody s14)) (by kernel_rfl)
/-! check_point -/
abbrev s15 : Stmt := topS 26
def N15 : List Str := ["value"]
def P15 : List Str := ["value"]
def b15 : EvS := (esIf (etNot (etOf (evCall 1 13 (evCons (evVar 0) evNil)))) esBad esNx)
theorem sc15 : FnScope N15 P15 (defScope s15) := ⟨rfl, rfl, rfl, by decide +kernel, rfl, by decide +kernel, by decide +kernel⟩
theorem h15 : SSs S (lcOf N15 (defScope s15)) (defBody s15) b15 := got (o := compSs (compS S [] false (lcOf N15 (defScope s15)) 40) (defBody s15)) (by kernel_rfl)
/-! are_same -/
abbrev s16 : Stmt := topS 27
def N16 : List Str := ["one", "other"]
def P16 : List Str := ["one", "other"]
def b16 : EvS := (esSeq (esDrop (evCall 1 15 (evCons (evVar 0) evNil))) (esSeq (esDrop (evCall 1 15 (evCons (evVar 1) evNil))) (esSeq (esIf (etB (evOp neOp (evOf opLen (evCons (evOp ixOp (evVar 0) (evC (.int 1))) evNil)) (evOf opLen (evCons (evOp ixOp (evVar 1) (evC (.int 1))) evNil)))) esBad esNx) (esRet (evOp eqOp (evCall 2 1 (evCons (evOp ixOp (evVar 0) (evC (.int 0))) (evCons (evOp ixOp (evVar 0) (evC (.int 1))) evNil))) (evCall 2 1 (evCons (evOp ixOp (evVar 1) (evC (.int 0))) (evCons (evOp ixOp (evVar 1) (evC (.int 1))) evNil))))))))
theorem sc16 : FnScope N16 P16 (defScope s16) := ⟨rfl, rfl, rfl, by decide +kernel, rfl, by decide +kernel, by decide +kernel⟩
theorem h16 : SSs S (lcOf N16 (defScope s16)) (defBody s16) b16 := got (o := compSs (compS S [] false (lcOf N16 (defScope s16)) 40) (defBody s16)) (by kernel_rfl)
/-! later -/
abbrev s17 : Stmt := topS 28
def N17 : List Str := ["point", "pause"]
def P17 : List Str := ["point", "pause"]
def b17 : EvS := (esSeq (esDrop (evCall 1 15 (evCons (evVar 0) evNil))) (esSeq (esDrop (evCall 1 11 (evCons (evVar 1) evNil))) (esRet (evCall 2 2 (evCons (evVar 0) (evCons (evVar 1) evNil))))))
theorem sc17 : FnScope N17 P17 (defScope s17) := ⟨rfl, rfl, rfl, by decide +kernel, rfl, by decide +kernel, by decide +kernel⟩
theorem h17 : SSs S (lcOf N17 (defScope s17)) (defBody s17) b17 := got (o := compSs (compS S [] false (lcOf N17 (defScope s17)) 40) (defBody s17)) (by kernel_rfl)
/-! set_back -/
abbrev s18 : Stmt := topS 29
def N18 : List Str := ["point", "clocks"]
def P18 : List Str := ["point", "clocks"]
def b18 : EvS := (esSeq (esDrop (evCall 1 15 (evCons (evVar 0) evNil))) (esSeq (esIf (etNot (etOf (evCall 3 8 (evCons (evVar 1) (evCons (evC (.int 1)) (evCons (evOf opLen (evCons (evOp ixOp (evVar 0) (evC (.int 1))) evNil)) evNil)))))) esBad esNx) (esRet (evCall 2 3 (evCons (evVar 0) (evCons (evVar 1) evNil))))))
theorem sc18 : FnScope N18 P18 (defScope s18) := ⟨rfl, rfl, rfl, by decide +kernel, rfl, by decide +kernel, by decide +kernel⟩
theorem h18 : SSs S (lcOf N18 (defScope s18)) (defBody s18) b18 := got (o := compSs (compS S [] false (lcOf N18 (defScope s18)) 40) (defBody s18)) (by kernel_rfl)
/-! check_shown -/
abbrev s19 : Stmt := topS 30
def N19 : List Str := ["point", "clock"]
def P19 : List Str := ["point", "clock"]
def b19 : EvS := (esIf (etNot (etOf (evCall 3 6 (evCons (evVar 1) (evCons (evC (.int 0)) (evCons (evOf opLen (evCons (evOp ixOp (evVar 0) (evC (.int 1))) evNil)) evNil)))))) esBad esNx)
theorem sc19 : FnScope N19 P19 (defScope s19) := ⟨rfl, rfl, rfl, by decide +kernel, rfl, by decide +kernel, by decide +kernel⟩
theorem h19 : SSs S (lcOf N19 (defScope s19)) (defBody s19) b19 := got (o := compSs (compS S [] false (lcOf N19 (defScope s19)) 40) (defBody s19)) (by kernel_rfl)
/-! shown -/
abbrev s20 : Stmt := topS 31
def N20 : List Str := ["point", "one", "other"]
def P20 : List Str := ["point", "one", "other"]
def b20 : EvS := (esSeq (esDrop (evCall 1 15 (evCons (evVar 0) evNil))) (esSeq (esDrop (evCall 2 19 (evCons (evVar 0) (evCons (evVar 1) evNil)))) (esSeq (esDrop (evCall 2 19 (evCons (evVar 0) (evCons (evVar 2) evNil)))) (esRet (evCall 3 4 (evCons (evVar 0) (evCons (evVar 1) (evCons (evVar 2) evNil))))))))
theorem sc20 : FnScope N20 P20 (defScope s20) := ⟨rfl, rfl, rfl, by decide +kernel, rfl, by decide +kernel, by decide +kernel⟩
theorem h20 : SSs S (lcOf N20 (defScope s20)) (defBody s20) b20 := got (o := compSs (compS S [] false (lcOf N20 (defScope s20)) 40) (defBody s20)) (by kernel_rfl)
/-! _law_spins -/
abbrev s21 : Stmt := topS 33
def N21 : List Str := ["script", "spot", "cell", "great"]
def P21 : List Str := ["script", "spot"]
def b21 : EvS := (esSeq (esSet (.nm 2) (evIf (etB (evOp ltOp (evVar 1) (evOf opLen (evCons (evVar 0) evNil)))) (evOf opInt (evCons (evOp ixOp (evVar 0) (evVar 1)) evNil)) (evOp addOp (evOp mulOp (evC (.int 311)) (evVar 1)) (evC (.int 97))))) (esSeq (esSet (.nm 3) (evOp modOp (evOf opInt (evCons (evOf opAbs (evCons (evVar 2) evNil)) evNil)) (evOp powOp (evOp powOp (evC (.int 10)) (evC (.int 54))) (evC (.int 6))))) (esRet (evOf opCel (evCons (evOf opMax (evCons (evC (.int 0)) (evCons (evOp subOp (evVar 3) (evOp powOp (evC (.int 10)) (evC (.int 16)))) evNil))) (evCons (evOp addOp (evOp addOp (evOp addOp (evOp mulOp (evOp modOp (evOf opInt (evCons (evVar 3) evNil)) (evC (.int 2305843009213693921))) (evC (.int 73))) (evOp mulOp (evC (.int 967)) (evVar 1))) (evOp mulOp (evC (.int 43)) (evOf opInt (evCons (evOp ltOp (evVar 2) (evC (.int 0))) evNil)))) (evC (.int 23))) (evCons (evC (.int 0)) evNil)))))))
theorem sc21 : FnScope N21 P21 (defScope s21) := ⟨rfl, rfl, rfl, by decide +kernel, rfl, by decide +kernel, by decide +kernel⟩
theorem h21 : SSs S (lcOf N21 (defScope s21)) (defBody s21) b21 := got (o := compSs (compS S [] true (lcOf N21 (defScope s21)) 40) (defBody s21)) (by kernel_rfl)
/-! _law_spin -/
abbrev s22 : Stmt := topS 34
def N22 : List Str := ["spins", "total", "one", "two", "found"]
def P22 : List Str := ["spins", "total"]
def b22 : EvS := (esSeq (esIf (etB (evOp gtOp (evOp ixOp (evVar 0) (evC (.int 0))) (evC (.int 0)))) (esSeq (esSet (.nm 4) (evOp modOp (evOf opInt (evCons (evOp ixOp (evVar 0) (evC (.int 0))) evNil)) (evVar 1))) (esSeq (esSetIx (evVar 0) (evC (.int 0)) (evOp fdivOp (evOp ixOp (evVar 0) (evC (.int 0))) (evVar 1))) (esRet (evVar 4)))) esNx) (esSeq (esSetIx (evVar 0) (evC (.int 2)) (evOp addOp (evOp ixOp (evVar 0) (evC (.int 2))) (evC (.int 1)))) (esSeq (esSet (.nm 2) (evOp modOp (evOf opInt (evCons (evOp addOp (evOp ixOp (evVar 0) (evC (.int 1))) (evOp mulOp (evC (.int 32452867)) (evOp ixOp (evVar 0) (evC (.int 2))))) evNil)) (evC (.int 2305843009213693951)))) (esSeq (esSet (.nm 3) (evOp addOp (evOp mulOp (evOp modOp (evOf opInt (evCons (evOp addOp (evOp mulOp (evVar 2) (evVar 2)) (evOp mulOp (evC (.int 131)) (evOp ixOp (evVar 0) (evC (.int 2))))) evNil)) (evC (.int 2305843009213693907))) (evC (.int 49979687))) (evVar 2))) (esRet (evOp modOp (evOf opInt (evCons (evOp fdivOp (evVar 3) (evC (.int 65579))) evNil)) (evVar 1)))))))
theorem sc22 : FnScope N22 P22 (defScope s22) := ⟨rfl, rfl, rfl, by decide +kernel, rfl, by decide +kernel, by decide +kernel⟩
theorem h22 : SSs S (lcOf N22 (defScope s22)) (defBody s22) b22 := got (o := compSs (compS S [] false (lcOf N22 (defScope s22)) 40) (defBody s22)) (by kernel_rfl)
/-! _law_among -/
abbrev s23 : Stmt := topS 35
def N23 : List Str := ["spins", "items"]
def P23 : List Str := ["spins", "items"]
def b23 : EvS := (esRet (evOp ixOp (evVar 1) (evCall 2 22 (evCons (evVar 0) (evCons (evOf opLen (evCons (evVar 1) evNil)) evNil)))))
theorem sc23 : FnScope N23 P23 (defScope s23) := ⟨rfl, rfl, rfl, by decide +kernel, rfl, by decide +kernel, by decide +kernel⟩
theorem h23 : SSs S (lcOf N23 (defScope s23)) (defBody s23) b23 := got (o := compSs (compS S [] false (lcOf N23 (defScope s23)) 40) (defBody s23)) (by kernel_rfl)
/-! _law_shown -/
abbrev s24 : Stmt := topS 36
def N24 : List Str := ["point", "at"]
def P24 : List Str := ["point", "at"]
def b24 : EvS := (esRet (evIf (etB (evOp gtOp (evVar 1) (evC (.int 0)))) (evOp ixOp (evOp ixOp (evVar 0) (evC (.int 1))) (evOp subOp (evVar 1) (evC (.int 1)))) (evC (.int 0))))
theorem sc24 : FnScope N24 P24 (defScope s24) := ⟨rfl, rfl, rfl, by decide +kernel, rfl, by decide +kernel, by decide +kernel⟩
theorem h24 : SSs S (lcOf N24 (defScope s24)) (defBody s24) b24 := got (o := compSs (compS S [] false (lcOf N24 (defScope s24)) 40) (defBody s24)) (by kernel_rfl)
/-! _law_later -/
abbrev s25 : Stmt := topS 37
def N25 : List Str := ["point", "top", "bottom", "value"]
def P25 : List Str := ["point", "top", "bottom"]
def b25 : EvS := (esRet (evOf opTup (evCons (evOp mulOp (evOp ixOp (evVar 0) (evC (.int 0))) (evVar 2)) (evCons (evOf opTuple (evCons (evLc false (eiSeq (evOp ixOp (evVar 0) (evC (.int 1)))) (.nm 3) etYes (evOp addOp (evOp mulOp (evVar 3) (evVar 2)) (evOp mulOp (evVar 1) (evOp ixOp (evVar 0) (evC (.int 0))))) [3]) evNil)) evNil))))
theorem sc25 : FnScope N25 P25 (defScope s25) := ⟨rfl, rfl, rfl, by decide +kernel, rfl, by decide +kernel, by decide +kernel⟩
theorem h25 : SSs S (lcOf N25 (defScope s25)) (defBody s25) b25 := got (o := compSs (compS S [] false (lcOf N25 (defScope s25)) 40) (defBody s25)) (by kernel_rfl)
/-! _law_set_back -/
abbrev s26 : Stmt := topS 38
def N26 : List Str := ["point", "clocks", "at", "value"]
def P26 : List Str := ["point", "clocks"]
def b26 : EvS := (esRet (evOf opTup (evCons (evOp ixOp (evVar 0) (evC (.int 0))) (evCons (evOf opTuple (evCons (evLc false (eiOf opEnum (evCons (evOp ixOp (evVar 0) (evC (.int 1))) evNil)) (.tp [2, 3]) etYes (evIf (etB (evOp (inOp false) (evOp addOp (evVar 2) (evC (.int 1))) (evVar 1))) (evC (.int 0)) (evVar 3)) [2, 3]) evNil)) evNil))))
theorem sc26 : FnScope N26 P26 (defScope s26) := ⟨rfl, rfl, rfl, by decide +kernel, rfl, by decide +kernel, by decide +kernel⟩
theorem h26 : SSs S (lcOf N26 (defScope s26)) (defBody s26) b26 := got (o := compSs (compS S [] false (lcOf N26 (defScope s26)) 40) (defBody s26)) (by kernel_rfl)
/-! _law_point_drawn -/
abbrev s27 : Stmt := topS 39
def N27 : List Str := ["spins", "clocks", "most", "q", "values", "at"]
def P27 : List Str := ["spins", "clocks", "most"]
def b27 : EvS := (esSeq (esSet (.nm 3) (evCall 2 23 (evCons (evVar 0) (evCons (evOf opLst (evCons (evC (.int 1)) (evCons (evC (.int 1)) (evCons (evC (.int 2)) (evCons (evC (.int 2)) (evCons (evC (.int 3)) (evCons (evC (.int 4)) (evCons (evC (.int 6)) (evCons (evC (.int 12)) evNil))))))))) evNil)))) (esSeq (esSet (.nm 4) (evLc true (eiOf opRng1 (evCons (evVar 1) evNil)) (.nm 5) etYes (evCall 2 22 (evCons (evVar 0) (evCons (evOp addOp (evOp mulOp (evVar 2) (evVar 3)) (evC (.int 2))) evNil))) [5])) (esSeq (esIf (etAnd (etB (evOp gtOp (evVar 1) (evC (.int 1)))) (etB (evOp eqOp (evCall 2 22 (evCons (evVar 0) (evCons (evC (.int 3)) evNil))) (evC (.int 0))))) (esSetIx (evVar 4) (evCall 2 22 (evCons (evVar 0) (evCons (evVar 1) evNil))) (evOp modOp (evCall 2 23 (evCons (evVar 0) (evCons (evVar 4) evNil))) (evVar 3))) esNx) (esRet (evOf opTup (evCons (evVar 3) (evCons (evOf opTuple (evCons (evVar 4) evNil)) evNil)))))))
theorem sc27 : FnScope N27 P27 (defScope s27) := ⟨rfl, rfl, rfl, by decide +kernel, rfl, by decide +kernel, by decide +kernel⟩
theorem h27 : SSs S (lcOf N27 (defScope s27)) (defBody s27) b27 := got (o := compSs (compS S ["values"] false (lcOf N27 (defScope s27)) 40) (defBody s27)) (by kernel_rfl)
/-! _law_pause_drawn -/
abbrev s28 : Stmt := topS 40
def N28 : List Str := ["spins", "most", "q"]
def P28 : List Str := ["spins", "most"]
def b28 : EvS := (esSeq (esSet (.nm 2) (evCall 2 23 (evCons (evVar 0) (evCons (evOf opLst (evCons (evC (.int 1)) (evCons (evC (.int 1)) (evCons (evC (.int 2)) (evCons (evC (.int 3)) (evCons (evC (.int 4)) evNil)))))) evNil)))) (esRet (evOf opTup (evCons (evCall 2 23 (evCons (evVar 0) (evCons (evOf opLst (evCons (evC (.int 0)) (evCons (evCall 2 22 (evCons (evVar 0) (evCons (evOp addOp (evOp mulOp (evVar 2) (evVar 1)) (evC (.int 1))) evNil))) (evCons (evCall 2 22 (evCons (evVar 0) (evCons (evOp mulOp (evC (.int 2)) (evVar 2)) evNil))) evNil)))) evNil))) (evCons (evVar 2) evNil)))))
theorem sc28 : FnScope N28 P28 (defScope s28) := ⟨rfl, rfl, rfl, by decide +kernel, rfl, by decide +kernel, by decide +kernel⟩
theorem h28 : SSs S (lcOf N28 (defScope s28)) (defBody s28) b28 := got (o := compSs (compS S [] false (lcOf N28 (defScope s28)) 40) (defBody s28)) (by kernel_rfl)
/-! _law_shared -/
abbrev s29 : Stmt := topS 41
def N29 : List Str := ["numbers", "found", "number"]
def P29 : List Str := ["numbers"]
def b29 : EvS := (esSeq (esSet (.nm 1) (evOp ixOp (evVar 0) (evC (.int 0)))) (esSeq (esFor (eiSeq (evSl (evVar 0) (eoSome (evC (.int 1))) eoNone)) (.nm 2) (esWhile (etB (evOp gtOp (evVar 2) (evC (.int 0)))) (esPar2 1 2 (evCons (evVar 2) (evCons (evOp modOp (evVar 1) (evVar 2)) evNil))))) (esRet (evVar 1))))
theorem sc29 : FnScope N29 P29 (defScope s29) := ⟨rfl, rfl, rfl, by decide +kernel, rfl, by decide +kernel, by decide +kernel⟩
theorem h29 : SSs S (lcOf N29 (defScope s29)) (defBody s29) b29 := got (o := compSs (compS S [] false (lcOf N29 (defScope s29)) 40) (defBody s29)) (by kernel_rfl)
/-! _law_plain -/
abbrev s30 : Stmt := topS 42
def N30 : List Str := ["point", "shared", "value"]
def P30 : List Str := ["point"]
def b30 : EvS := (esSeq (esSet (.nm 1) (evCall 1 29 (evCons (evOp addOp (evOf opTup (evCons (evOp ixOp (evVar 0) (evC (.int 0))) evNil)) (evOp ixOp (evVar 0) (evC (.int 1)))) evNil))) (esRet (evOf opTup (evCons (evOp fdivOp (evOp ixOp (evVar 0) (evC (.int 0))) (evVar 1)) (evCons (evOf opTuple (evCons (evLc false (eiSeq (evOp ixOp (evVar 0) (evC (.int 1)))) (.nm 2) etYes (evOp fdivOp (evVar 2) (evVar 1)) [2]) evNil)) evNil)))))
theorem sc30 : FnScope N30 P30 (defScope s30) := ⟨rfl, rfl, rfl, by decide +kernel, rfl, by decide +kernel, by decide +kernel⟩
theorem h30 : SSs S (lcOf N30 (defScope s30)) (defBody s30) b30 := got (o := compSs (compS S [] false (lcOf N30 (defScope s30)) 40) (defBody s30)) (by kernel_rfl)
/-! _law_is_point -/
abbrev s31 : Stmt := topS 43
def N31 : List Str := ["clocks", "value", "number"]
def P31 : List Str := ["clocks", "value"]
def b31 : EvS := (esSeq (esIf (etOr (etNot (etOf (evOf1 (isiOp .tup) (evVar 1)))) (etOr (etB (evOp neOp (evOf opLen (evCons (evVar 1) evNil)) (evC (.int 2)))) (etOr (etNot (etOf (evOf1 (isiOp .tup) (evOp ixOp (evVar 1) (evC (.int 1)))))) (etB (evOp neOp (evOf opLen (evCons (evOp ixOp (evVar 1) (evC (.int 1))) evNil)) (evVar 0)))))) (esRet (evC (.bl false))) esNx) (esSeq (esFor (eiSeq (evOp addOp (evOf opTup (evCons (evOp ixOp (evVar 1) (evC (.int 0))) evNil)) (evOp ixOp (evVar 1) (evC (.int 1))))) (.nm 2) (esIf (etOr (etOf (evOf1 (isiOp .bl) (evVar 2))) (etOr (etNot (etOf (evOf1 (isiOp .int) (evVar 2)))) (etNot (etB (evChain leOp ltOp (evC (.int 0)) (evVar 2) (evOp powOp (evC (.int 10)) (evC (.int 60)))))))) (esRet (evC (.bl false))) esNx)) (esRet (evOp geOp (evOp ixOp (evVar 1) (evC (.int 0))) (evC (.int 1))))))
theorem sc31 : FnScope N31 P31 (defScope s31) := ⟨rfl, rfl, rfl, by decide +kernel, rfl, by decide +kernel, by decide +kernel⟩
theorem h31 : SSs S (lcOf N31 (defScope s31)) (defBody s31) b31 := got (o := compSs (compS S [] false (lcOf N31 (defScope s31)) 40) (defBody s31)) (by kernel_rfl)
/-! _law_some_point -/
abbrev s32 : Stmt := topS 44
def N32 : List Str := ["spins", "clocks", "q", "at"]
def P32 : List Str := ["spins", "clocks"]
def b32 : EvS := (esSeq (esIf (etB (evOp gtOp (evCall 2 22 (evCons (evVar 0) (evCons (evC (.int 5)) evNil))) (evC (.int 0)))) (esRet (evCall 3 27 (evCons (evVar 0) (evCons (evVar 1) (evCons (evC (.int 5)) evNil))))) esNx) (esSeq (esSet (.nm 2) (evOp addOp (evC (.int 1)) (evCall 2 22 (evCons (evVar 0) (evCons (evOp powOp (evC (.int 10)) (evC (.int 20))) evNil))))) (esRet (evOf opTup (evCons (evVar 2) (evCons (evOf opTuple (evCons (evLc false (eiOf opRng1 (evCons (evVar 1) evNil)) (.nm 3) etYes (evCall 2 22 (evCons (evVar 0) (evCons (evOp powOp (evC (.int 10)) (evC (.int 22))) evNil))) [3]) evNil)) evNil))))))
theorem sc32 : FnScope N32 P32 (defScope s32) := ⟨rfl, rfl, rfl, by decide +kernel, rfl, by decide +kernel, by decide +kernel⟩
theorem h32 : SSs S (lcOf N32 (defScope s32)) (defBody s32) b32 := got (o := compSs (compS S [] false (lcOf N32 (defScope s32)) 40) (defBody s32)) (by kernel_rfl)
/-! _law_right -/
abbrev s33 : Stmt := topS 45
def N33 : List Str := ["spins", "clocks", "point", "pause", "more", "behind", "both", "some", "one", "wide", "far", "near", "other", "told", "less", "shared", "clock", "value"]
def P33 : List Str := ["spins"]
def b33 : EvS := (esSeq (esSet (.nm 1) (evCall 2 22 (evCons (evVar 0) (evCons (evC (.int 5)) evNil)))) (esSeq (esPar3 2 3 4 (evCons (evCall 2 32 (evCons (evVar 0) (evCons (evVar 1) evNil))) (evCons (evCall 2 28 (evCons (evVar 0) (evCons (evC (.int 5)) evNil))) (evCons (evCall 2 28 (evCons (evVar 0) (evCons (evC (.int 5)) evNil))) evNil)))) (esSeq (esSet (.nm 5) (evCall 2 17 (evCons (evVar 2) (evCons (evVar 3) evNil)))) (esSeq (esIf (etB (evOp neOp (evVar 5) (evCall 1 30 (evCons (evCall 3 25 (evCons (evVar 2) (evCons (evOp ixOp (evVar 3) (evC (.int 0))) (evCons (evOp ixOp (evVar 3) (evC (.int 1))) evNil)))) evNil)))) (esRet (evC (.bl false))) esNx) (esSeq (esSet (.nm 6) (evOf opTup (evCons (evOp addOp (evOp mulOp (evOp ixOp (evVar 3) (evC (.int 0))) (evOp ixOp (evVar 4) (evC (.int 1)))) (evOp mulOp (evOp ixOp (evVar 4) (evC (.int 0))) (evOp ixOp (evVar 3) (evC (.int 1))))) (evCons (evOp mulOp (evOp ixOp (evVar 3) (evC (.int 1))) (evOp ixOp (evVar 4) (evC (.int 1)))) evNil)))) (esSeq (esIf (etOr (etB (evOp neOp (evCall 2 17 (evCons (evVar 5) (evCons (evVar 4) evNil))) (evCall 2 17 (evCons (evVar 2) (evCons (evVar 6) evNil))))) (etB (evOp neOp (evCall 2 17 (evCons (evVar 2) (evCons (evOf opTup (evCons (evC (.int 0)) (evCons (evC (.int 7)) evNil))) evNil))) (evCall 1 30 (evCons (evVar 2) evNil))))) (esRet (evC (.bl false))) esNx) (esSeq (esSet (.nm 7) (evOf opTuple (evCons (evLc false (eiOf opRng2 (evCons (evC (.int 1)) (evCons (evOp addOp (evVar 1) (evC (.int 1))) evNil))) (.nm 16) (etB (evOp eqOp (evCall 2 22 (evCons (evVar 0) (evCons (evC (.int 2)) evNil))) (evC (.int 0)))) (evVar 16) [16]) evNil))) (esSeq (esIf (etOr (etB (evOp neOp (evCall 2 18 (evCons (evVar 2) (evCons (evVar 7) evNil))) (evCall 1 30 (evCons (evCall 2 26 (evCons (evVar 2) (evCons (evVar 7) evNil))) evNil)))) (etB (evOp neOp (evCall 2 18 (evCons (evCall 2 18 (evCons (evVar 2) (evCons (evVar 7) evNil))) (evCons (evVar 7) evNil))) (evCall 2 18 (evCons (evVar 2) (evCons (evVar 7) evNil)))))) (esRet (evC (.bl false))) esNx) (esSeq (esFor (eiOf opRng1 (evCons (evOp addOp (evVar 1) (evC (.int 1))) evNil)) (.nm 8) (esFor (eiOf opRng1 (evCons (evOp addOp (evVar 1) (evC (.int 1))) evNil)) (.nm 12) (esSeq (esSet (.nm 13) (evCall 3 20 (evCons (evVar 2) (evCons (evVar 8) (evCons (evVar 12) evNil))))) (esSeq (esSet (.nm 14) (evOp subOp (evCall 2 24 (evCons (evVar 2) (evCons (evVar 8) evNil))) (evCall 2 24 (evCons (evVar 2) (evCons (evVar 12) evNil))))) (esSeq (esSet (.nm 15) (evCall 1 29 (evCons (evOf opTup (evCons (evOp ixOp (evVar 2) (evC (.int 0))) (evCons (evOf opAbs (evCons (evVar 14) evNil)) evNil))) evNil))) (esSeq (esIf (etB (evOp neOp (evVar 13) (evOf opTup (evCons (evOp fdivOp (evVar 14) (evVar 15)) (evCons (evOp fdivOp (evOp ixOp (evVar 2) (evC (.int 0))) (evVar 15)) evNil))))) (esRet (evC (.bl false))) esNx) (esIf (etAnd (etB (evOp neOp (evCall 3 20 (evCons (evVar 5) (evCons (evVar 8) (evCons (evVar 12) evNil)))) (evVar 13))) (etB (evOp gtOp (evOp mulOp (evVar 8) (evVar 12)) (evC (.int 0))))) (esRet (evC (.bl false))) esNx))))))) (esSeq (esSet (.nm 9) (evOf opTup (evCons (evOp mulOp (evOp ixOp (evVar 2) (evC (.int 0))) (evC (.int 3))) (evCons (evOf opTuple (evCons (evLc false (eiSeq (evOp ixOp (evVar 2) (evC (.int 1)))) (.nm 17) etYes (evOp mulOp (evC (.int 3)) (evVar 17)) [17]) evNil)) evNil)))) (esSeq (esSet (.nm 10) (evOf opTup (evCons (evOp ixOp (evVar 2) (evC (.int 0))) (evCons (evOf opTuple (evCons (evLc false (eiSeq (evOp ixOp (evVar 2) (evC (.int 1)))) (.nm 17) etYes (evOp addOp (evVar 17) (evC (.int 1))) [17]) evNil)) evNil)))) (esSeq (esIf (etOr (etNot (etOf (evCall 2 16 (evCons (evVar 2) (evCons (evVar 9) evNil))))) (etB (evOp neOp (evCall 2 16 (evCons (evVar 9) (evCons (evVar 10) evNil))) (evOp eqOp (evVar 1) (evC (.int 0)))))) (esRet (evC (.bl false))) esNx) (esSeq (esSet (.nm 11) (evOf opLst (evCons (evVar 2) (evCons (evVar 9) (evCons (evVar 10) (evCons (evOf opList (evCons (evVar 2) evNil)) (evCons (evSl (evVar 2) eoNone (eoSome (evC (.int 1)))) (evCons (evOp addOp (evVar 2) (evOf opTup (evCons (evC (.int 0)) evNil))) (evCons (evOf opTup (evCons (evC (.int 0)) (evCons (evOp ixOp (evVar 2) (evC (.int 1))) evNil))) (evCons (evOf opTup (evCons (evOp ixOp (evVar 2) (evC (.int 0))) (evCons (evOf opList (evCons (evOp ixOp (evVar 2) (evC (.int 1))) evNil)) evNil))) (evCons (evC .non) (evCons (evC (.int 3)) (evCons (evC (.str "point")) (evCons evDict0 evNil)))))))))))))) (esSeq (esSet (.nm 11) (evOp addOp (evVar 11) (evOf opLst (evCons (evOf opTup (evCons (evOp ixOp (evVar 2) (evC (.int 0))) (evCons (evOp addOp (evOp ixOp (evVar 2) (evC (.int 1))) (evOf opTup (evCons (evC (.int 0)) evNil))) evNil))) (evCons (evOf opTup (evCons (evC (.bl true)) (evCons (evOp ixOp (evVar 2) (evC (.int 1))) evNil))) (evCons (evOf opTup (evCons (evOp ixOp (evVar 2) (evC (.int 0))) (evCons (evSl (evOp ixOp (evVar 2) (evC (.int 1))) (eoSome (evC (.int 1))) eoNone) evNil))) (evCons (evOf opTup (evCons (evOp ixOp (evVar 2) (evC (.int 0))) (evCons (evOp mulOp (evOf opTup (evCons (evOp subOp (evC (.int 0)) (evC (.int 1))) evNil)) (evVar 1)) evNil))) evNil))))))) (esSeq (esSet (.nm 11) (evOp addOp (evVar 11) (evOf opLst (evCons (evOf opTup (evCons (evOp powOp (evC (.int 10)) (evC (.int 60))) (evCons (evOp ixOp (evVar 2) (evC (.int 1))) evNil))) (evCons (evOf opTup (evCons (evC (.int 1)) (evCons (evOp mulOp (evOf opTup (evCons (evC (.bl true)) evNil)) (evVar 1)) evNil))) (evCons (evOf opTup (evCons (evC (.int 1)) (evCons (evOp mulOp (evOf opTup (evCons (evC (.str "0")) evNil)) (evVar 1)) evNil))) (evCons (evOf opTup (evCons (evOf1 negOp (evC (.int 1))) (evCons (evOp ixOp (evVar 2) (evC (.int 1))) evNil))) evNil))))))) (esRet (evOp eqOp (evLc false (eiSeq (evVar 11)) (.nm 17) (etB (evOp neOp (evOf reprOp (evCons (evCall 2 14 (evCons (evVar 1) (evCons (evVar 17) evNil))) evNil)) (evOf reprOp (evCons (evCall 2 31 (evCons (evVar 1) (evCons (evVar 17) evNil))) evNil)))) (evVar 17) [17]) (evOf opLst evNil))))))))))))))))))
theorem sc33 : FnScope N33 P33 (defScope s33) := ⟨rfl, rfl, rfl, by decide +kernel, rfl, by decide +kernel, by decide +kernel⟩
theorem h33 : SSs S (lcOf N33 (defScope s33)) (defBody s33) b33 := got (o := compSs (compS S [] false (lcOf N33 (defScope s33)) 40) (defBody s33)) (by kernel_rfl)
/-! law -/
abbrev s34 : Stmt := topS 46
def N34 : List Str := ["script", "spot", "told", "spins", "turn"]
def P34 : List Str := ["script"]
def b34 : EvS := (esSeq (esFor (eiOf opRng1 (evCons (evOf opMax (evCons (evC (.int 1)) (evCons (evOf opMin (evCons (evC (.int 3)) (evCons (evOf opLen (evCons (evVar 0) evNil)) evNil))) evNil))) evNil)) (.nm 1) (esSeq (esSet (.nm 3) (evCall 2 21 (evCons (evVar 0) (evCons (evVar 1) evNil)))) (esFor (eiOf opRng1 (evCons (evC (.int 6)) evNil)) (.nm 4) (esIf (etNot (etOf (evCall 1 33 (evCons (evVar 3) evNil)))) (esRet (evC (.bl false))) esNx)))) (esSeq (esSet (.nm 2) (evOf opLst (evCons (evCall 2 17 (evCons (evOf opTup (evCons (evC (.int 2)) (evCons (evOf opTup (evCons (evC (.int 1)) (evCons (evC (.int 4)) evNil))) evNil))) (evCons (evOf opTup (evCons (evC (.int 1)) (evCons (evC (.int 3)) evNil))) evNil))) (evCons (evCall 2 18 (evCons (evOf opTup (evCons (evC (.int 2)) (evCons (evOf opTup (evCons (evC (.int 1)) (evCons (evC (.int 4)) evNil))) evNil))) (evCons (evOf opTup (evCons (evC (.int 1)) evNil)) evNil))) (evCons (evCall 2 18 (evCons (evOf opTup (evCons (evC (.int 2)) (evCons (evOf opTup (evCons (evC (.int 1)) (evCons (evC (.int 4)) evNil))) evNil))) (evCons (evOf opTup evNil) evNil))) (evCons (evCall 2 17 (evCons (evOf opTup (evCons (evC (.int 6)) (evCons (evOf opTup evNil) evNil))) (evCons (evOf opTup (evCons (evC (.int 1)) (evCons (evC (.int 4)) evNil))) evNil))) evNil)))))) (esRet (evOp eqOp (evVar 2) (evOf opLst (evCons (evOf opTup (evCons (evC (.int 6)) (evCons (evOf opTup (evCons (evC (.int 5)) (evCons (evC (.int 14)) evNil))) evNil))) (evCons (evOf opTup (evCons (evC (.int 1)) (evCons (evOf opTup (evCons (evC (.int 0)) (evCons (evC (.int 2)) evNil))) evNil))) (evCons (evOf opTup (evCons (evC (.int 2)) (evCons (evOf opTup (evCons (evC (.int 1)) (evCons (evC (.int 4)) evNil))) evNil))) (evCons (evOf opTup (evCons (evC (.int 1)) (evCons (evOf opTup evNil) evNil))) evNil)))))))))
theorem sc34 : FnScope N34 P34 (defScope s34) := ⟨rfl, rfl, rfl, by decide +kernel, rfl, by decide +kernel, by decide +kernel⟩
theorem h34 : SSs S (lcOf N34 (defScope s34)) (defBody s34) b34 := got (o := compSs (compS S ["spins"] false (lcOf N34 (defScope s34)) 40) (defBody s34)) (by kernel_rfl)
def step (G : GT) : GT := fun i => match i with
  | 0 => runDef false 3 b0 G
  | 1 => runDef false 4 b1 G
  | 2 => runDef false 6 b2 G
  | 3 => runDef false 6 b3 G
  | 4 => runDef false 6 b4 G
  | 5 => runDef false 1 b5 G
  | 6 => runDef false 3 b6 G
  | 7 => runDef false 1 b7 G
  | 8 => runDef false 5 b8 G
  | 9 => runDef false 1 b9 G
  | 10 => runDef false 1 b10 G
  | 11 => runDef false 1 b11 G
  | 12 => runDef false 1 b12 G
  | 13 => runDef false 4 b13 G
  | 14 => runDef false 2 b14 G
  | 15 => runDef false 1 b15 G
  | 16 => runDef false 2 b16 G
  | 17 => runDef false 2 b17 G
  | 18 => runDef false 2 b18 G
  | 19 => runDef false 2 b19 G
  | 20 => runDef false 3 b20 G
  | 21 => runDef true 4 b21 G
  | 22 => runDef false 5 b22 G
  | 23 => runDef false 2 b23 G
  | 24 => runDef false 2 b24 G
  | 25 => runDef false 4 b25 G
  | 26 => runDef false 4 b26 G
  | 27 => runDef false 6 b27 G
  | 28 => runDef false 3 b28 G
  | 29 => runDef false 3 b29 G
  | 30 => runDef false 3 b30 G
  | 31 => runDef false 3 b31 G
  | 32 => runDef false 4 b32 G
  | 33 => runDef false 18 b33 G
  | 34 => runDef false 5 b34 G
  | _ => fun _ _ => .bad
def GK : Nat → GT
  | 0 => fun _ _ _ => .bad
  | k + 1 => step (GK k)
theorem e0 (k : Nat) (args : List AV) (h : AH) : GK (k + 1) 0 args h = runDef false 3 b0 (GK k) args h := rfl
theorem e1 (k : Nat) (args : List AV) (h : AH) : GK (k + 1) 1 args h = runDef false 4 b1 (GK k) args h := rfl
theorem e2 (k : Nat) (args : List AV) (h : AH) : GK (k + 1) 2 args h = runDef false 6 b2 (GK k) args h := rfl
theorem e3 (k : Nat) (args : List AV) (h : AH) : GK (k + 1) 3 args h = runDef false 6 b3 (GK k) args h := rfl
theorem e4 (k : Nat) (args : List AV) (h : AH) : GK (k + 1) 4 args h = runDef false 6 b4 (GK k) args h := rfl
theorem e5 (k : Nat) (args : List AV) (h : AH) : GK (k + 1) 5 args h = runDef false 1 b5 (GK k) args h := rfl
theorem e6 (k : Nat) (args : List AV) (h : AH) : GK (k + 1) 6 args h = runDef false 3 b6 (GK k) args h := rfl
theorem e7 (k : Nat) (args : List AV) (h : AH) : GK (k + 1) 7 args h = runDef false 1 b7 (GK k) args h := rfl
theorem e8 (k : Nat) (args : List AV) (h : AH) : GK (k + 1) 8 args h = runDef false 5 b8 (GK k) args h := rfl
theorem e9 (k : Nat) (args : List AV) (h : AH) : GK (k + 1) 9 args h = runDef false 1 b9 (GK k) args h := rfl
theorem e10 (k : Nat) (args : List AV) (h : AH) : GK (k + 1) 10 args h = runDef false 1 b10 (GK k) args h := rfl
theorem e11 (k : Nat) (args : List AV) (h : AH) : GK (k + 1) 11 args h = runDef false 1 b11 (GK k) args h := rfl
theorem e12 (k : Nat) (args : List AV) (h : AH) : GK (k + 1) 12 args h = runDef false 1 b12 (GK k) args h := rfl
theorem e13 (k : Nat) (args : List AV) (h : AH) : GK (k + 1) 13 args h = runDef false 4 b13 (GK k) args h := rfl
theorem e14 (k : Nat) (args : List AV) (h : AH) : GK (k + 1) 14 args h = runDef false 2 b14 (GK k) args h := rfl
theorem e15 (k : Nat) (args : List AV) (h : AH) : GK (k + 1) 15 args h = runDef false 1 b15 (GK k) args h := rfl
theorem e16 (k : Nat) (args : List AV) (h : AH) : GK (k + 1) 16 args h = runDef false 2 b16 (GK k) args h := rfl
theorem e17 (k : Nat) (args : List AV) (h : AH) : GK (k + 1) 17 args h = runDef false 2 b17 (GK k) args h := rfl
theorem e18 (k : Nat) (args : List AV) (h : AH) : GK (k + 1) 18 args h = runDef false 2 b18 (GK k) args h := rfl
theorem e19 (k : Nat) (args : List AV) (h : AH) : GK (k + 1) 19 args h = runDef false 2 b19 (GK k) args h := rfl
theorem e20 (k : Nat) (args : List AV) (h : AH) : GK (k + 1) 20 args h = runDef false 3 b20 (GK k) args h := rfl
theorem e21 (k : Nat) (args : List AV) (h : AH) : GK (k + 1) 21 args h = runDef true 4 b21 (GK k) args h := rfl
theorem e22 (k : Nat) (args : List AV) (h : AH) : GK (k + 1) 22 args h = runDef false 5 b22 (GK k) args h := rfl
theorem e23 (k : Nat) (args : List AV) (h : AH) : GK (k + 1) 23 args h = runDef false 2 b23 (GK k) args h := rfl
theorem e24 (k : Nat) (args : List AV) (h : AH) : GK (k + 1) 24 args h = runDef false 2 b24 (GK k) args h := rfl
theorem e25 (k : Nat) (args : List AV) (h : AH) : GK (k + 1) 25 args h = runDef false 4 b25 (GK k) args h := rfl
theorem e26 (k : Nat) (args : List AV) (h : AH) : GK (k + 1) 26 args h = runDef false 4 b26 (GK k) args h := rfl
theorem e27 (k : Nat) (args : List AV) (h : AH) : GK (k + 1) 27 args h = runDef false 6 b27 (GK k) args h := rfl
theorem e28 (k : Nat) (args : List AV) (h : AH) : GK (k + 1) 28 args h = runDef false 3 b28 (GK k) args h := rfl
theorem e29 (k : Nat) (args : List AV) (h : AH) : GK (k + 1) 29 args h = runDef false 3 b29 (GK k) args h := rfl
theorem e30 (k : Nat) (args : List AV) (h : AH) : GK (k + 1) 30 args h = runDef false 3 b30 (GK k) args h := rfl
theorem e31 (k : Nat) (args : List AV) (h : AH) : GK (k + 1) 31 args h = runDef false 3 b31 (GK k) args h := rfl
theorem e32 (k : Nat) (args : List AV) (h : AH) : GK (k + 1) 32 args h = runDef false 4 b32 (GK k) args h := rfl
theorem e33 (k : Nat) (args : List AV) (h : AH) : GK (k + 1) 33 args h = runDef false 18 b33 (GK k) args h := rfl
theorem e34 (k : Nat) (args : List AV) (h : AH) : GK (k + 1) 34 args h = runDef false 5 b34 (GK k) args h := rfl
/-- what the head tells of this text -/
structure Head (K : PySem.W.Frag) : Prop where
  f0 : FnF K "lowest_terms" s0
  f1 : FnF K "lowest_point" s1
  f2 : FnF K "point_later" s2
  f3 : FnF K "point_back" s3
  f4 : FnF K "point_shown" s4
  f5 : FnF K "is_whole" s5
  f6 : FnF K "is_whole_between" s6
  f7 : FnF K "is_pair" s7
  f8 : FnF K "is_ascending" s8
  f9 : FnF K "is_fraction" s9
  f10 : FnF K "is_pause" s10
  f11 : FnF K "check_pause" s11
  f12 : FnF K "check_clocks" s12
  f13 : FnF K "is_some_point" s13
  f14 : FnF K "is_point" s14
  f15 : FnF K "check_point" s15
  f16 : FnF K "are_same" s16
  f17 : FnF K "later" s17
  f18 : FnF K "set_back" s18
  f19 : FnF K "check_shown" s19
  f20 : FnF K "shown" s20
  f21 : FnF K "_law_spins" s21
  f22 : FnF K "_law_spin" s22
  f23 : FnF K "_law_among" s23
  f24 : FnF K "_law_shown" s24
  f25 : FnF K "_law_later" s25
  f26 : FnF K "_law_set_back" s26
  f27 : FnF K "_law_point_drawn" s27
  f28 : FnF K "_law_pause_drawn" s28
  f29 : FnF K "_law_shared" s29
  f30 : FnF K "_law_plain" s30
  f31 : FnF K "_law_is_point" s31
  f32 : FnF K "_law_some_point" s32
  f33 : FnF K "_law_right" s33
  f34 : FnF K "law" s34
  z_abs : PySem.W.nsIn K mainGlobals "abs" = some none
  z_all : PySem.W.nsIn K mainGlobals "all" = some none
  z_bool : PySem.W.nsIn K mainGlobals "bool" = some none
  z_enumerate : PySem.W.nsIn K mainGlobals "enumerate" = some none
  z_int : PySem.W.nsIn K mainGlobals "int" = some none
  z_isinstance : PySem.W.nsIn K mainGlobals "isinstance" = some none
  z_len : PySem.W.nsIn K mainGlobals "len" = some none
  z_list : PySem.W.nsIn K mainGlobals "list" = some none
  z_max : PySem.W.nsIn K mainGlobals "max" = some none
  z_min : PySem.W.nsIn K mainGlobals "min" = some none
  z_range : PySem.W.nsIn K mainGlobals "range" = some none
  z_repr : PySem.W.nsIn K mainGlobals "repr" = some none
  z_tuple : PySem.W.nsIn K mainGlobals "tuple" = some none
  z_zip : PySem.W.nsIn K mainGlobals "zip" = some none
  c_TOO_GREAT : ∃ t, PySem.W.nsIn K mainGlobals "TOO_GREAT" = some (some (.int (1000000000000000000000000000000000000000000000000000000000000) t))
  c_MOST_CLOCKS : ∃ t, PySem.W.nsIn K mainGlobals "MOST_CLOCKS" = some (some (.int (4) t))
  g_gcd : PySem.W.nsIn K mainGlobals "gcd" = some (some (.builtin "math.gcd"))
theorem bi0 : BindOk "lowest_terms" s0 P0 := fun _ _ _ _ _ _ us hl => match us, hl with | [_, _], _ => rfl
theorem bi1 : BindOk "lowest_point" s1 P1 := fun _ _ _ _ _ _ us hl => match us, hl with | [_, _], _ => rfl
theorem bi2 : BindOk "point_later" s2 P2 := fun _ _ _ _ _ _ us hl => match us, hl with | [_, _], _ => rfl
theorem bi3 : BindOk "point_back" s3 P3 := fun _ _ _ _ _ _ us hl => match us, hl with | [_, _], _ => rfl
theorem bi4 : BindOk "point_shown" s4 P4 := fun _ _ _ _ _ _ us hl => match us, hl with | [_, _, _], _ => rfl
theorem bi5 : BindOk "is_whole" s5 P5 := fun _ _ _ _ _ _ us hl => match us, hl with | [_], _ => rfl
theorem bi6 : BindOk "is_whole_between" s6 P6 := fun _ _ _ _ _ _ us hl => match us, hl with | [_, _, _], _ => rfl
theorem bi7 : BindOk "is_pair" s7 P7 := fun _ _ _ _ _ _ us hl => match us, hl with | [_], _ => rfl
theorem bi8 : BindOk "is_ascending" s8 P8 := fun _ _ _ _ _ _ us hl => match us, hl with | [_, _, _], _ => rfl
theorem bi9 : BindOk "is_fraction" s9 P9 := fun _ _ _ _ _ _ us hl => match us, hl with | [_], _ => rfl
theorem bi10 : BindOk "is_pause" s10 P10 := fun _ _ _ _ _ _ us hl => match us, hl with | [_], _ => rfl
theorem bi11 : BindOk "check_pause" s11 P11 := fun _ _ _ _ _ _ us hl => match us, hl with | [_], _ => rfl
theorem bi12 : BindOk "check_clocks" s12 P12 := fun _ _ _ _ _ _ us hl => match us, hl with | [_], _ => rfl
theorem bi13 : BindOk "is_some_point" s13 P13 := fun _ _ _ _ _ _ us hl => match us, hl with | [_], _ => rfl
theorem bi14 : BindOk "is_point" s14 P14 := fun _ _ _ _ _ _ us hl => match us, hl with | [_, _], _ => rfl
theorem bi15 : BindOk "check_point" s15 P15 := fun _ _ _ _ _ _ us hl => match us, hl with | [_], _ => rfl
theorem bi16 : BindOk "are_same" s16 P16 := fun _ _ _ _ _ _ us hl => match us, hl with | [_, _], _ => rfl
theorem bi17 : BindOk "later" s17 P17 := fun _ _ _ _ _ _ us hl => match us, hl with | [_, _], _ => rfl
theorem bi18 : BindOk "set_back" s18 P18 := fun _ _ _ _ _ _ us hl => match us, hl with | [_, _], _ => rfl
theorem bi19 : BindOk "check_shown" s19 P19 := fun _ _ _ _ _ _ us hl => match us, hl with | [_, _], _ => rfl
theorem bi20 : BindOk "shown" s20 P20 := fun _ _ _ _ _ _ us hl => match us, hl with | [_, _, _], _ => rfl
theorem bi21 : BindOk "_law_spins" s21 P21 := fun _ _ _ _ _ _ us hl => match us, hl with | [_, _], _ => rfl
theorem bi22 : BindOk "_law_spin" s22 P22 := fun _ _ _ _ _ _ us hl => match us, hl with | [_, _], _ => rfl
theorem bi23 : BindOk "_law_among" s23 P23 := fun _ _ _ _ _ _ us hl => match us, hl with | [_, _], _ => rfl
theorem bi24 : BindOk "_law_shown" s24 P24 := fun _ _ _ _ _ _ us hl => match us, hl with | [_, _], _ => rfl
theorem bi25 : BindOk "_law_later" s25 P25 := fun _ _ _ _ _ _ us hl => match us, hl with | [_, _, _], _ => rfl
theorem bi26 : BindOk "_law_set_back" s26 P26 := fun _ _ _ _ _ _ us hl => match us, hl with | [_, _], _ => rfl
theorem bi27 : BindOk "_law_point_drawn" s27 P27 := fun _ _ _ _ _ _ us hl => match us, hl with | [_, _, _], _ => rfl
theorem bi28 : BindOk "_law_pause_drawn" s28 P28 := fun _ _ _ _ _ _ us hl => match us, hl with | [_, _], _ => rfl
theorem bi29 : BindOk "_law_shared" s29 P29 := fun _ _ _ _ _ _ us hl => match us, hl with | [_], _ => rfl
theorem bi30 : BindOk "_law_plain" s30 P30 := fun _ _ _ _ _ _ us hl => match us, hl with | [_], _ => rfl
theorem bi31 : BindOk "_law_is_point" s31 P31 := fun _ _ _ _ _ _ us hl => match us, hl with | [_, _], _ => rfl
theorem bi32 : BindOk "_law_some_point" s32 P32 := fun _ _ _ _ _ _ us hl => match us, hl with | [_, _], _ => rfl
theorem bi33 : BindOk "_law_right" s33 P33 := fun _ _ _ _ _ _ us hl => match us, hl with | [_], _ => rfl
theorem bi34 : BindOk "law" s34 P34 := fun _ _ _ _ _ _ us hl => match us, hl with | [_], _ => rfl
theorem rest {Γ : Cfg} (B : Base Γ) (Hd : Head Γ.K) {G : GT} {k : Nat} (fn : ∀ p ∈ S.fns, Ent Γ k p.1 p.2.2 (G p.2.1)) : StatOk Γ S G k :=
  stat_mk fn (all_cons (let ⟨_, e⟩ := Hd.c_TOO_GREAT; const_int B e) (all_cons (let ⟨_, e⟩ := Hd.c_MOST_CLOCKS; const_int B e) all_nil)) (all_cons (free_of B Hd.z_abs) (all_cons (free_of B Hd.z_all) (all_cons (free_of B Hd.z_bool) (all_cons (free_of B Hd.z_enumerate) (all_cons (free_of B Hd.z_int) (all_cons (free_of B Hd.z_isinstance) (all_cons (free_of B Hd.z_len) (all_cons (free_of B Hd.z_list) (all_cons (free_of B Hd.z_max) (all_cons (free_of B Hd.z_min) (all_cons (free_of B Hd.z_range) (all_cons (free_of B Hd.z_repr) (all_cons (free_of B Hd.z_tuple) (all_cons (free_of B Hd.z_zip) all_nil)))))))))))))) (all_cons (gcd_of B Hd.g_gcd) all_nil)
theorem stat {Γ : Cfg} (B : Base Γ) (Hd : Head Γ.K) : ∀ k, StatOk Γ S (GK k) k
  | 0 => rest B Hd (all_cons (ent_0 (ps := P0) B Hd.f0 bi0 rfl) (all_cons (ent_0 (ps := P1) B Hd.f1 bi1 rfl) (all_cons (ent_0 (ps := P2) B Hd.f2 bi2 rfl) (all_cons (ent_0 (ps := P3) B Hd.f3 bi3 rfl) (all_cons (ent_0 (ps := P4) B Hd.f4 bi4 rfl) (all_cons (ent_0 (ps := P5) B Hd.f5 bi5 rfl) (all_cons (ent_0 (ps := P6) B Hd.f6 bi6 rfl) (all_cons (ent_0 (ps := P7) B Hd.f7 bi7 rfl) (all_cons (ent_0 (ps := P8) B Hd.f8 bi8 rfl) (all_cons (ent_0 (ps := P9) B Hd.f9 bi9 rfl) (all_cons (ent_0 (ps := P10) B Hd.f10 bi10 rfl) (all_cons (ent_0 (ps := P11) B Hd.f11 bi11 rfl) (all_cons (ent_0 (ps := P12) B Hd.f12 bi12 rfl) (all_cons (ent_0 (ps := P13) B Hd.f13 bi13 rfl) (all_cons (ent_0 (ps := P14) B Hd.f14 bi14 rfl) (all_cons (ent_0 (ps := P15) B Hd.f15 bi15 rfl) (all_cons (ent_0 (ps := P16) B Hd.f16 bi16 rfl) (all_cons (ent_0 (ps := P17) B Hd.f17 bi17 rfl) (all_cons (ent_0 (ps := P18) B Hd.f18 bi18 rfl) (all_cons (ent_0 (ps := P19) B Hd.f19 bi19 rfl) (all_cons (ent_0 (ps := P20) B Hd.f20 bi20 rfl) (all_cons (ent_0 (ps := P21) B Hd.f21 bi21 rfl) (all_cons (ent_0 (ps := P22) B Hd.f22 bi22 rfl) (all_cons (ent_0 (ps := P23) B Hd.f23 bi23 rfl) (all_cons (ent_0 (ps := P24) B Hd.f24 bi24 rfl) (all_cons (ent_0 (ps := P25) B Hd.f25 bi25 rfl) (all_cons (ent_0 (ps := P26) B Hd.f26 bi26 rfl) (all_cons (ent_0 (ps := P27) B Hd.f27 bi27 rfl) (all_cons (ent_0 (ps := P28) B Hd.f28 bi28 rfl) (all_cons (ent_0 (ps := P29) B Hd.f29 bi29 rfl) (all_cons (ent_0 (ps := P30) B Hd.f30 bi30 rfl) (all_cons (ent_0 (ps := P31) B Hd.f31 bi31 rfl) (all_cons (ent_0 (ps := P32) B Hd.f32 bi32 rfl) (all_cons (ent_0 (ps := P33) B Hd.f33 bi33 rfl) (all_cons (ent_0 (ps := P34) B Hd.f34 bi34 rfl) all_nil)))))))))))))))))))))))))))))))))))
  | k + 1 => rest B Hd (all_cons (ent_s (rc := false) B Hd.f0 sc0 h0 bi0 (stat B Hd k) (by decide)) (all_cons (ent_s (rc := false) B Hd.f1 sc1 h1 bi1 (stat B Hd k) (by decide)) (all_cons (ent_s (rc := false) B Hd.f2 sc2 h2 bi2 (stat B Hd k) (by decide)) (all_cons (ent_s (rc := false) B Hd.f3 sc3 h3 bi3 (stat B Hd k) (by decide)) (all_cons (ent_s (rc := false) B Hd.f4 sc4 h4 bi4 (stat B Hd k) (by decide)) (all_cons (ent_s (rc := false) B Hd.f5 sc5 h5 bi5 (stat B Hd k) (by decide)) (all_cons (ent_s (rc := false) B Hd.f6 sc6 h6 bi6 (stat B Hd k) (by decide)) (all_cons (ent_s (rc := false) B Hd.f7 sc7 h7 bi7 (stat B Hd k) (by decide)) (all_cons (ent_s (rc := false) B Hd.f8 sc8 h8 bi8 (stat B Hd k) (by decide)) (all_cons (ent_s (rc := false) B Hd.f9 sc9 h9 bi9 (stat B Hd k) (by decide)) (all_cons (ent_s (rc := false) B Hd.f10 sc10 h10 bi10 (stat B Hd k) (by decide)) (all_cons (ent_s (rc := false) B Hd.f11 sc11 h11 bi11 (stat B Hd k) (by decide)) (all_cons (ent_s (rc := false) B Hd.f12 sc12 h12 bi12 (stat B Hd k) (by decide)) (all_cons (ent_s (rc := false) B Hd.f13 sc13 h13 bi13 (stat B Hd k) (by decide)) (all_cons (ent_s (rc := false) B Hd.f14 sc14 h14 bi14 (stat B Hd k) (by decide)) (all_cons (ent_s (rc := false) B Hd.f15 sc15 h15 bi15 (stat B Hd k) (by decide)) (all_cons (ent_s (rc := false) B Hd.f16 sc16 h16 bi16 (stat B Hd k) (by decide)) (all_cons (ent_s (rc := false) B Hd.f17 sc17 h17 bi17 (stat B Hd k) (by decide)) (all_cons (ent_s (rc := false) B Hd.f18 sc18 h18 bi18 (stat B Hd k) (by decide)) (all_cons (ent_s (rc := false) B Hd.f19 sc19 h19 bi19 (stat B Hd k) (by decide)) (all_cons (ent_s (rc := false) B Hd.f20 sc20 h20 bi20 (stat B Hd k) (by decide)) (all_cons (ent_s (rc := true) B Hd.f21 sc21 h21 bi21 (stat B Hd k) (by decide)) (all_cons (ent_s (rc := false) B Hd.f22 sc22 h22 bi22 (stat B Hd k) (by decide)) (all_cons (ent_s (rc := false) B Hd.f23 sc23 h23 bi23 (stat B Hd k) (by decide)) (all_cons (ent_s (rc := false) B Hd.f24 sc24 h24 bi24 (stat B Hd k) (by decide)) (all_cons (ent_s (rc := false) B Hd.f25 sc25 h25 bi25 (stat B Hd k) (by decide)) (all_cons (ent_s (rc := false) B Hd.f26 sc26 h26 bi26 (stat B Hd k) (by decide)) (all_cons (ent_s (rc := false) B Hd.f27 sc27 h27 bi27 (stat B Hd k) (by decide)) (all_cons (ent_s (rc := false) B Hd.f28 sc28 h28 bi28 (stat B Hd k) (by decide)) (all_cons (ent_s (rc := false) B Hd.f29 sc29 h29 bi29 (stat B Hd k) (by decide)) (all_cons (ent_s (rc := false) B Hd.f30 sc30 h30 bi30 (stat B Hd k) (by decide)) (all_cons (ent_s (rc := false) B Hd.f31 sc31 h31 bi31 (stat B Hd k) (by decide)) (all_cons (ent_s (rc := false) B Hd.f32 sc32 h32 bi32 (stat B Hd k) (by decide)) (all_cons (ent_s (rc := false) B Hd.f33 sc33 h33 bi33 (stat B Hd k) (by decide)) (all_cons (ent_s (rc := false) B Hd.f34 sc34 h34 bi34 (stat B Hd k) (by decide)) all_nil)))))))))))))))))))))))))))))))))))
end Pv.K03
end
section
set_option Elab.async false
set_option linter.all false
set_option maxRecDepth 100000
set_option maxHeartbeats 4000000
namespace Pv.K03
open PySem PySem.Spec PyProof.Rows L2
/-! ### points as numbers -/
abbrev iv (vs : List Int) : List AV := vs.map AV.int
def pt (q : Int) (vs : List Int) : AV := .tup [.int q, .tup (iv vs)]
def g2 (a b : Int) : Int := ((Nat.gcd a.natAbs b.natAbs : Nat) : Int)
def gcdL (q : Int) (vs : List Int) : Int := vs.foldl g2 q
theorem g2_pos {a b : Int} (h : 0 < a) : 0 < g2 a b := by
  unfold g2
  have := Nat.gcd_pos_of_pos_left b.natAbs (show 0 < a.natAbs by omega)
  omega
theorem g2_dvd_left (a b : Int) : g2 a b ∣ a := Int.natAbs_dvd_natAbs.mp (by unfold g2; rw [Int.natAbs_natCast]; exact Nat.gcd_dvd_left _ _)
theorem g2_dvd_right (a b : Int) : g2 a b ∣ b := Int.natAbs_dvd_natAbs.mp (by unfold g2; rw [Int.natAbs_natCast]; exact Nat.gcd_dvd_right _ _)
theorem g2_scale {k a b : Int} (h : 0 < k) : g2 (k * a) (k * b) = k * g2 a b := by
  unfold g2
  rw [Int.natAbs_mul, Int.natAbs_mul, Nat.gcd_mul_left, Int.natCast_mul]
  congr 1
  omega
theorem gcdL_pos : ∀ (vs : List Int) {q : Int}, 0 < q → 0 < gcdL q vs
  | [], q, h => h
  | v :: vs, q, h => gcdL_pos vs (g2_pos h)
theorem gcdL_dvd : ∀ (vs : List Int) (q : Int), gcdL q vs ∣ q ∧ ∀ v ∈ vs, gcdL q vs ∣ v
  | [], q => ⟨Int.dvd_refl _, fun v h => by cases h⟩
  | w :: vs, q => by
    obtain ⟨h1, h2⟩ := gcdL_dvd vs (g2 q w)
    refine ⟨Int.dvd_trans h1 (g2_dvd_left q w), fun v hv => ?_⟩
    rcases List.mem_cons.mp hv with e | e
    · rw [e]; exact Int.dvd_trans h1 (g2_dvd_right q w)
    · exact h2 v e
theorem gcdL_scale {k : Int} (hk : 0 < k) : ∀ (vs : List Int) (q : Int), gcdL (k * q) (vs.map fun v => k * v) = k * gcdL q vs
  | [], q => rfl
  | w :: vs, q => by
    show gcdL (g2 (k * q) (k * w)) (vs.map fun v => k * v) = k * gcdL (g2 q w) vs
    rw [g2_scale hk]
    exact gcdL_scale hk vs _
theorem gcdL_le {q : Int} (h : 0 < q) (vs : List Int) : gcdL q vs ≤ q := Int.le_of_dvd h (gcdL_dvd vs q).1
def lpQ (q : Int) (vs : List Int) : Int := q / gcdL q vs
def lpV (q : Int) (vs : List Int) : List Int := vs.map fun v => v / gcdL q vs
def lpt (q : Int) (vs : List Int) : AV := pt (lpQ q vs) (lpV q vs)
theorem lpQ_scale {k q : Int} {vs : List Int} (hk : 0 < k) : lpQ (k * q) (vs.map fun v => k * v) = lpQ q vs := by
  unfold lpQ
  rw [gcdL_scale hk, Int.mul_ediv_mul_of_pos _ _ hk]
theorem lpV_scale {k q : Int} {vs : List Int} (hk : 0 < k) : lpV (k * q) (vs.map fun v => k * v) = lpV q vs := by
  unfold lpV
  rw [gcdL_scale hk, List.map_map]
  exact List.map_congr_left fun v _ => Int.mul_ediv_mul_of_pos _ _ hk
theorem lpt_scale {k q : Int} {vs : List Int} (hk : 0 < k) : lpt (k * q) (vs.map fun v => k * v) = lpt q vs := by
  unfold lpt
  rw [lpQ_scale hk, lpV_scale hk]
/-- a point is its lowest terms, so many times -/
theorem lp_back {q : Int} {vs : List Int} : gcdL q vs * lpQ q vs = q ∧ (lpV q vs).map (fun v => gcdL q vs * v) = vs := by
  obtain ⟨h1, h2⟩ := gcdL_dvd vs q
  refine ⟨Int.mul_ediv_cancel' h1, ?_⟩
  unfold lpV
  rw [List.map_map]
  have : ∀ v ∈ vs, ((fun v => gcdL q vs * v) ∘ fun v => v / gcdL q vs) v = v := fun v hv => Int.mul_ediv_cancel' (h2 v hv)
  rw [List.map_congr_left this, List.map_id']
theorem lpQ_pos {q : Int} {vs : List Int} (h : 0 < q) : 0 < lpQ q vs := by
  have e := (lp_back (q := q) (vs := vs)).1
  have g := gcdL_pos vs h
  rcases Int.lt_trichotomy (lpQ q vs) 0 with c | c | c
  · have := Int.mul_neg_of_pos_of_neg g c
    omega
  · rw [c, Int.mul_zero] at e; omega
  · exact c
theorem lpQ_le {q : Int} {vs : List Int} (h : 0 < q) : lpQ q vs ≤ q := Int.ediv_le_self _ (Int.le_of_lt h)
theorem lpV_mem {q : Int} {vs : List Int} (h : 0 < q) {B : Int} (hv : ∀ v ∈ vs, 0 ≤ v ∧ v < B) : ∀ v ∈ lpV q vs, 0 ≤ v ∧ v < B := by
  intro w hw
  obtain ⟨v, m, e⟩ := List.mem_map.mp hw
  subst e
  obtain ⟨a, b⟩ := hv v m
  refine ⟨Int.ediv_nonneg a (Int.le_of_lt (gcdL_pos vs h)), Int.lt_of_le_of_lt (Int.ediv_le_self _ a) b⟩
theorem lpV_len {q : Int} {vs : List Int} : (lpV q vs).length = vs.length := List.length_map ..
/-- what a point becomes behind a pause, not yet in lowest terms -/
def latV (q : Int) (vs : List Int) (p b : Int) : List Int := vs.map fun v => v * b + p * q
theorem lat_lp {q : Int} {vs : List Int} {p b : Int} (h : 0 < q) : lpt (lpQ q vs * b) (latV (lpQ q vs) (lpV q vs) p b) = lpt (q * b) (latV q vs p b) := by
  obtain ⟨e1, e2⟩ := lp_back (q := q) (vs := vs)
  have g := gcdL_pos vs h
  rw [← lpt_scale g]
  have e3 : gcdL q vs * (lpQ q vs * b) = q * b := by rw [← Int.mul_assoc, e1]
  rw [e3]
  congr 1
  unfold latV
  rw [List.map_map]
  conv => rhs; rw [← e2]
  rw [List.map_map]
  refine List.map_congr_left fun v _ => ?_
  show gcdL q vs * (v * b + p * lpQ q vs) = gcdL q vs * v * b + p * q
  have e4 : gcdL q vs * (v * b + p * lpQ q vs) = gcdL q vs * v * b + p * (gcdL q vs * lpQ q vs) := by
    rw [Int.mul_add, Int.mul_assoc, ← Int.mul_assoc (gcdL q vs) p, Int.mul_comm (gcdL q vs) p, Int.mul_assoc]
  rw [e4, e1]
theorem lat_lat {q : Int} {vs : List Int} {p b p2 b2 : Int} : latV (q * b) (latV q vs p b) p2 b2 = latV q vs (p * b2 + p2 * b) (b * b2) := by
  unfold latV
  rw [List.map_map]
  refine List.map_congr_left fun v _ => ?_
  show (v * b + p * q) * b2 + p2 * (q * b) = v * (b * b2) + (p * b2 + p2 * b) * q
  rw [Int.add_mul, Int.add_mul, Int.mul_assoc v b b2, Int.mul_assoc p q b2, Int.mul_comm q b2, ← Int.mul_assoc p b2 q, Int.mul_comm q b, ← Int.mul_assoc p2 b q, Int.add_assoc]
end Pv.K03
end
section
set_option Elab.async false
set_option linter.all false
set_option maxRecDepth 100000
set_option maxHeartbeats 4000000
namespace Pv.K03
open PySem PySem.Spec PyProof.Rows L2
/-! ### draws -/
def SpAt (h : AH) (n : Nat) : Prop := ∃ a b c : Int, h[n]? = some (.lst [.int a, .int b, .int c])
def Sp (n : Nat) (h h' : AH) : Prop := ∃ a b c : Int, h' = h.set n (.lst [.int a, .int b, .int c])
theorem SpAt.lt {h : AH} {n : Nat} (s : SpAt h n) : n < h.length := by
  obtain ⟨a, b, c, e⟩ := s
  exact (List.getElem?_eq_some_iff.mp e).1
theorem Sp.at {h h' : AH} {n : Nat} (s : SpAt h n) (p : Sp n h h') : SpAt h' n := by
  obtain ⟨a, b, c, e⟩ := p
  subst e
  exact ⟨a, b, c, List.getElem?_set_self s.lt⟩
theorem Sp.trans {h h' h'' : AH} {n : Nat} (p : Sp n h h') (q : Sp n h' h'') : Sp n h h'' := by
  obtain ⟨a, b, c, e⟩ := p
  obtain ⟨a', b', c', e'⟩ := q
  subst e; subst e'
  exact ⟨a', b', c', by rw [List.set_set]⟩
theorem Sp.len {h h' : AH} {n : Nat} (p : Sp n h h') : h'.length = h.length := by
  obtain ⟨a, b, c, e⟩ := p
  subst e
  simp
theorem Sp.take {h h' : AH} {n : Nat} (p : Sp n h h') : h'.take h.length = h' := by
  rw [List.take_of_length_le]
  rw [p.len]
  exact Nat.le_refl _
theorem Sp.other {h h' : AH} {n j : Nat} (p : Sp n h h') (hj : n ≠ j) : h'[j]? = h[j]? := by
  obtain ⟨a, b, c, e⟩ := p
  subst e
  exact List.getElem?_set_ne hj
def TOk (t : Int) : Prop := 0 < t ∧ t.natAbs.log2 < 9000
theorem TOk.small {t : Int} (h0 : 0 < t) (h : t < 2 ^ 60) : TOk t := by
  refine ⟨h0, ?_⟩
  have e : t.natAbs ≠ 0 := by omega
  have := (Nat.log2_lt e).mpr (show t.natAbs < 2 ^ 60 by omega)
  omega
theorem mulL {i j : Int} (h1 : -(2 ^ 64) < i) (h2 : i < 2 ^ 64) : mulOk i j = true := decide_eq_true (.inl ⟨h1, h2⟩)
theorem mulR {i j : Int} (h1 : -(2 ^ 64) < j) (h2 : j < 2 ^ 64) : mulOk i j = true := decide_eq_true (.inr (.inl ⟨h1, h2⟩))
theorem spin_ok (k : Nat) (h : AH) (n : Nat) (t : Int) (s : SpAt h n) (ht : TOk t) : ∃ (r : Int) (h' : AH), 0 ≤ r ∧ r < t ∧ GK (k + 1) 22 [.ref n, .int t] h = .ok (.int r) h' ∧ Sp n h h' := by
  have hs : ∀ c : Cell, (h.set n c)[n]? = some c := fun c => List.getElem?_set_self s.lt
  obtain ⟨a, b, c, e⟩ := s
  obtain ⟨t0, t1⟩ := ht
  have hdiv : divOk t = true := decide_eq_true ⟨t0, t1⟩
  rw [e22]
  by_cases ha : 0 < a
  · refine ⟨a % t, h.set n (.lst [.int (a / t), .int b, .int c]), Int.emod_nonneg _ (by omega), Int.emod_lt_of_pos _ t0, ?_, ⟨_, _, _, rfl⟩⟩
    refine run_cell (by rfl) (by simp) ?_
    simp [b22, e, ha, t0, hdiv, hs, ixB0, ixN]
  · have m1 : mulOk 32452867 (c + 1) = true := mulL (by decide) (by decide)
    have p1 : (0 : Int) ≤ (b + 32452867 * (c + 1)) % 2305843009213693951 := Int.emod_nonneg _ (by decide)
    have p2 : (b + 32452867 * (c + 1)) % 2305843009213693951 < 2305843009213693951 := Int.emod_lt_of_pos _ (by decide)
    have m2 : mulOk ((b + 32452867 * (c + 1)) % 2305843009213693951) ((b + 32452867 * (c + 1)) % 2305843009213693951) = true := mulL (by omega) (by omega)
    have m3 : mulOk 131 (c + 1) = true := mulL (by decide) (by decide)
    have m4 : ∀ x : Int, mulOk x 49979687 = true := fun x => mulR (by decide) (by decide)
    have d1 : divOk 65579 = true := by decide +kernel
    refine ⟨((((b + 32452867 * (c + 1)) % 2305843009213693951) * ((b + 32452867 * (c + 1)) % 2305843009213693951) + 131 * (c + 1)) % 2305843009213693907 * 49979687 + (b + 32452867 * (c + 1)) % 2305843009213693951) / 65579 % t, h.set n (.lst [.int a, .int b, .int (c + 1)]), Int.emod_nonneg _ (by omega), Int.emod_lt_of_pos _ t0, ?_, ⟨_, _, _, rfl⟩⟩
    refine run_cell (by rfl) (by simp) ?_
    simp [b22, e, ha, t0, hs, ixB0, ixB1, ixB2, ixN, m1, m2, m3, m4, d1]
theorem atI_some {xs : List AV} {r : Int} (h0 : 0 ≤ r) (h1 : r < xs.length) : ∃ v, atI xs r = some v ∧ v ∈ xs := by
  have hr : r.toNat < xs.length := by omega
  refine ⟨xs[r.toNat], ?_, List.getElem_mem hr⟩
  unfold atI ixN
  rw [if_pos h0, if_pos h1]
  exact List.getElem?_eq_getElem hr
theorem pure_mem {v : AV} : ∀ {xs : List AV}, pureL xs = true → v ∈ xs → pureA v = true
  | x :: xs, p, m => by
    have p' := pureL_cons.mp p
    rcases List.mem_cons.mp m with e | e
    · rw [e]; exact p'.1
    · exact pure_mem p'.2 e
theorem among_ok (k : Nat) (h : AH) (n : Nat) (xs : List AV) (s : SpAt h n) (h0 : 0 < xs.length) (h1 : xs.length ≤ 1000) (p : pureL xs = true) : ∃ (v : AV) (h' : AH), v ∈ xs ∧ GK (k + 2) 23 [.ref n, .lst xs] h = .ok v h' ∧ Sp n h h' := by
  obtain ⟨r, h', r0, r1, e, sp⟩ := spin_ok k h n xs.length s (TOk.small (by omega) (by omega))
  obtain ⟨v, ev, mv⟩ := atI_some r0 r1
  refine ⟨v, h', mv, ?_, sp⟩
  rw [e23]
  refine run_cell (pure_mem p mv) sp.len ?_
  simp [b23, e, ev]
theorem spins_ok (k : Nat) (h : AH) (ns : List Int) (spot : Int) (hs : 0 ≤ spot) (hs2 : spot < 1000) : ∃ a b c : Int, GK (k + 1) 21 [.kl (ns.map AV.int), .int spot] h = .ok (.ref h.length) (h ++ [.lst [.int a, .int b, .int c]]) := by
  rw [e21]
  have q : ∃ cell : Int, (if spot < (ns.length : Int) then (atI (ns.map AV.int) spot) else some (.int (311 * spot + 97))) = some (.int cell) := by
    by_cases hl : spot < (ns.length : Int)
    · rw [if_pos hl]
      obtain ⟨v, ev, mv⟩ := atI_some (xs := ns.map AV.int) hs (by simpa using hl)
      obtain ⟨i, _, ei⟩ := List.mem_map.mp mv
      exact ⟨i, by rw [ev, ← ei]⟩
    · rw [if_neg hl]
      exact ⟨_, rfl⟩
  obtain ⟨cell, q⟩ := q
  have m0 : mulOk 311 spot = true := mulL (by decide) (by decide)
  have m1 : ∀ x : Int, mulOk x 73 = true := fun x => mulR (by decide) (by decide)
  have m2 : mulOk 967 spot = true := mulL (by decide) (by decide)
  have m3 : ∀ x : Int, mulOk 43 x = true := fun x => mulL (by decide) (by decide)
  have w1 : powOk 10 54 = true := by decide +kernel
  have w2 : powOk (10 ^ 54) 6 = true := by decide +kernel
  have w3 : powOk 10 16 = true := by decide +kernel
  have g : (0 : Int) < (10 ^ 54) ^ 6 := by decide +kernel
  have cases : ∃ a b c : Int, b21 (GK k) [some (.kl (ns.map AV.int)), some (.int spot), none, none] h = .ret (.ref h.length) (h ++ [.lst [.int a, .int b, .int c]]) := by
    by_cases hl : spot < (ns.length : Int)
    · rw [if_pos hl] at q
      simp [b21, q, hl, m1, m2, m3, w1, w2, w3, g, -Int.reducePow]
    · rw [if_neg hl] at q
      simp [b21, hl, m0, m1, m2, m3, w1, w2, w3, g, -Int.reducePow]
  obtain ⟨a, b, c, e⟩ := cases
  refine ⟨a, b, c, (run_eq e).trans ?_⟩
  unfold finD
  simp
/-! ### loops over a known row -/
theorem snap_at {xs : List AV} {h : AH} {i : Nat} : srcAt (.snap xs) h i = some xs[i]? := rfl
theorem for_inv {tg : Tg} {b : EvS} {G : GT} {xs : List AV} (I : Env1 → AH → Prop) (st : ∀ v ∈ xs, ∀ env h, I env h → ∃ env1, setTg tg v env = some env1 ∧ ∃ env' h', b G env1 h = .nx env' h' ∧ I env' h') : ∀ (fuel i : Nat) (env : Env1) (h : AH), xs.length ≤ fuel + i → I env h → ∃ env' h', forL (.snap xs) tg b G fuel i env h = .nx env' h' ∧ I env' h'
  | fuel, i, env, h, hl, hI => by
    by_cases hi : i < xs.length
    · obtain ⟨env1, e1, env', h', e2, I2⟩ := st xs[i] (List.getElem_mem hi) env h hI
      cases fuel with
      | zero => omega
      | succ fuel =>
        obtain ⟨env2, h2, e3, I3⟩ := for_inv I st fuel (i + 1) env' h' (by omega) I2
        refine ⟨env2, h2, ?_, I3⟩
        unfold forL
        simp only [snap_at, List.getElem?_eq_getElem hi, e1, e2]
        exact e3
    · refine ⟨env, h, ?_, hI⟩
      unfold forL
      simp only [snap_at, List.getElem?_eq_none (Nat.le_of_not_lt hi)]
theorem for_rng {tg : Tg} {b : EvS} {G : GT} {lo : Int} {n : Nat} (I : Env1 → AH → Prop) (st : ∀ i : Nat, i < n → ∀ env h, I env h → ∃ env1, setTg tg (.int (lo + i)) env = some env1 ∧ ∃ env' h', b G env1 h = .nx env' h' ∧ I env' h') : ∀ (fuel i : Nat) (env : Env1) (h : AH), n ≤ fuel + i → I env h → ∃ env' h', forL (.rng lo n) tg b G fuel i env h = .nx env' h' ∧ I env' h'
  | fuel, i, env, h, hl, hI => by
    by_cases hi : i < n
    · obtain ⟨env1, e1, env', h', e2, I2⟩ := st i hi env h hI
      cases fuel with
      | zero => omega
      | succ fuel =>
        obtain ⟨env2, h2, e3, I3⟩ := for_rng I st fuel (i + 1) env' h' (by omega) I2
        refine ⟨env2, h2, ?_, I3⟩
        unfold forL
        simp only [srcAt, if_pos hi, e1, e2]
        exact e3
    · refine ⟨env, h, ?_, hI⟩
      unfold forL
      simp only [srcAt, if_neg hi]
theorem lc_go {tg : Tg} {tt : EvT} {te : EvE} {G : GT} {env : Env1} {h : AH} {xs : List AV} {p : AV → Bool} {f : AV → AV} (hx : xs.length ≤ 1000)
    (st : ∀ v ∈ xs, ∀ c, ∃ env1, setTg tg v env = some env1 ∧ tt G env1 (h ++ [c]) = .ok (p v) (h ++ [c]) ∧ (p v = true → te G env1 (h ++ [c]) = .ok (f v) (h ++ [c]) ∧ pureA (f v) = true)) :
    ∀ (fuel i : Nat) (acc : List AV), xs.length ≤ fuel + i → acc.length ≤ i → lcL (.snap xs) tg tt te G h.length env fuel i (h ++ [.lst acc]) = .ok () (h ++ [.lst (acc ++ ((xs.drop i).filter p).map f)])
  | fuel, i, acc, hl, ha => by
    by_cases hi : i < xs.length
    · obtain ⟨env1, e1, e2, e3⟩ := st xs[i] (List.getElem_mem hi) (.lst acc)
      have ed : xs.drop i = xs[i] :: xs.drop (i + 1) := List.drop_eq_getElem_cons hi
      cases fuel with
      | zero => omega
      | succ fuel =>
        unfold lcL
        simp only [snap_at, List.getElem?_eq_getElem hi, e1, e2]
        by_cases hp : p xs[i] = true
        · obtain ⟨e4, e5⟩ := e3 hp
          have := lc_go hx st fuel (i + 1) (acc ++ [f xs[i]]) (by omega) (by simp; omega)
          simp only [hp, e4]
          simp only [List.getElem?_concat_length, e5, true_and]
          rw [if_pos (by omega), List.set_append_right _ _ (Nat.le_refl _), Nat.sub_self, List.set_cons_zero, this, ed, List.filter_cons_of_pos hp]
          simp
        · have hp' : p xs[i] = false := by simpa using hp
          have := lc_go hx st fuel (i + 1) acc (by omega) (by omega)
          simp only [hp']
          rw [this, ed, List.filter_cons_of_neg hp]
    · have en : xs.drop i = [] := List.drop_eq_nil_of_le (Nat.le_of_not_lt hi)
      unfold lcL
      simp only [snap_at, List.getElem?_eq_none (Nat.le_of_not_lt hi), en, List.filter_nil, List.map_nil, List.append_nil]
theorem lc_ok {s : EvI} {tg : Tg} {tt : EvT} {te : EvE} {own : List Nat} {G : GT} {env : Env1} {h : AH} {xs : List AV} (p : AV → Bool) (f : AV → AV) (es : s G env h = .ok (.snap xs) h) (hx : xs.length ≤ 1000)
    (st : ∀ v ∈ xs, ∀ c, ∃ env1, setTg tg v (wipeE env own) = some env1 ∧ tt G env1 (h ++ [c]) = .ok (p v) (h ++ [c]) ∧ (p v = true → te G env1 (h ++ [c]) = .ok (f v) (h ++ [c]) ∧ pureA (f v) = true)) :
    evLc false s tg tt te own G env h = .ok (.lst ((xs.filter p).map f)) h := by
  have := lc_go hx st xs.length 0 [] (by omega) (by simp)
  simp only [evLc, es, x_bind_ok, srcLen]
  rw [this, x_bind_ok]
  simp [lcFin]
theorem lc_map {s : EvI} {tg : Tg} {te : EvE} {own : List Nat} {G : GT} {env : Env1} {h : AH} {xs : List AV} (f : AV → AV) (es : s G env h = .ok (.snap xs) h) (hx : xs.length ≤ 1000)
    (st : ∀ v ∈ xs, ∀ c, ∃ env1, setTg tg v (wipeE env own) = some env1 ∧ te G env1 (h ++ [c]) = .ok (f v) (h ++ [c]) ∧ pureA (f v) = true) :
    evLc false s tg etYes te own G env h = .ok (.lst (xs.map f)) h := by
  have := lc_ok (tt := etYes) (own := own) (te := te) (tg := tg) (fun _ => true) f es hx fun v hv c => by
    obtain ⟨env1, e1, e2, e3⟩ := st v hv c
    exact ⟨env1, e1, rfl, fun _ => ⟨e2, e3⟩⟩
  rw [this, List.filter_eq_self.mpr fun _ _ => rfl]
end Pv.K03
end
section
set_option Elab.async false
set_option linter.all false
set_option maxRecDepth 100000
set_option maxHeartbeats 4000000
namespace Pv.K03
open PySem PySem.Spec PyProof.Rows L2
theorem TOk.big {t : Int} (h0 : 0 < t) (h : t < 2 ^ 2000) : TOk t := by
  refine ⟨h0, ?_⟩
  have e : t.natAbs ≠ 0 := by omega
  have := (Nat.log2_lt e).mpr (show t.natAbs < 2 ^ 2000 by omega)
  omega
def Wh (i : Int) : Prop := -(10 ^ 60) < i ∧ i < 10 ^ 60
theorem big_mul {x y : Int} (hx : Wh x) (hy : Wh y) : mulOk x y = true := by
  unfold Wh at hx hy
  refine decide_eq_true (.inr (.inr ?_))
  have l : ∀ z : Int, z.natAbs < 2 ^ 200 → z.natAbs.log2 < 200 := fun z hz => by
    by_cases e : z.natAbs = 0
    · rw [e]; decide
    · exact (Nat.log2_lt e).mpr hz
  have l1 := l x (by omega)
  have l2 := l y (by omega)
  omega
theorem div_ok {d : Int} (h : 0 < d) (w : Wh d) : divOk d = true := decide_eq_true (TOk.big h (by unfold Wh at w; omega))
theorem is_whole_int (k : Nat) (i : Int) (h : AH) : GK (k + 1) 5 [.int i] h = .ok (.bl (decide (-(10 ^ 60) < i) && decide (i < 10 ^ 60))) h := by
  rw [e5]
  refine run_pure (by rfl) ?_
  simp [b5, tyOf, isTy]
theorem is_whole_ok (k : Nat) (i : Int) (h : AH) (hw : Wh i) : GK (k + 1) 5 [.int i] h = .ok (.bl true) h := by
  rw [is_whole_int, decide_eq_true hw.1, decide_eq_true hw.2]; rfl
theorem is_pair_tup (k : Nat) (x y : AV) (h : AH) : GK (k + 1) 7 [.tup [x, y]] h = .ok (.bl true) h := by
  rw [e7]
  refine run_pure (by rfl) ?_
  simp [b7, tyOf, isTy]
theorem between_ok (k : Nat) (i a b : Int) (h : AH) (hw : Wh i) : GK (k + 2) 6 [.int i, .int a, .int b] h = .ok (.bl (decide (a ≤ i) && decide (i ≤ b))) h := by
  rw [e6]
  refine run_pure (by rfl) ?_
  simp [b6, is_whole_ok, hw]
/-! lowest terms -/
theorem for_ix {tg : Tg} {b : EvS} {G : GT} {xs : List AV} (I : Nat → Env1 → AH → Prop) (st : ∀ i v, xs[i]? = some v → ∀ env h, I i env h → ∃ env1, setTg tg v env = some env1 ∧ ∃ env' h', b G env1 h = .nx env' h' ∧ I (i + 1) env' h') : ∀ (fuel i : Nat) (env : Env1) (h : AH), xs.length = fuel + i → I i env h → ∃ env' h', forL (.snap xs) tg b G fuel i env h = .nx env' h' ∧ I xs.length env' h'
  | 0, i, env, h, hl, hI => by
    refine ⟨env, h, ?_, ?_⟩
    · unfold forL
      simp only [snap_at, List.getElem?_eq_none (show xs.length ≤ i by omega)]
    · rw [hl, Nat.zero_add]; exact hI
  | fuel + 1, i, env, h, hl, hI => by
    have hi : i < xs.length := by omega
    obtain ⟨env1, e1, env', h', e2, I2⟩ := st i xs[i] (List.getElem?_eq_getElem hi) env h hI
    obtain ⟨env2, h2, e3, I3⟩ := for_ix I st fuel (i + 1) env' h' (by omega) I2
    refine ⟨env2, h2, ?_, I3⟩
    unfold forL
    simp only [snap_at, List.getElem?_eq_getElem hi, e1, e2]
    exact e3
theorem iv_at {vs : List Int} {i : Nat} {v : AV} (e : (iv vs)[i]? = some v) : ∃ x, vs[i]? = some x ∧ v = .int x := by
  simp only [List.getElem?_map, Option.map_eq_some_iff] at e
  obtain ⟨x, e1, e2⟩ := e
  exact ⟨x, e1, e2.symm⟩
theorem gcdL_take {q : Int} {vs : List Int} {i : Nat} {x : Int} (e : vs[i]? = some x) : gcdL q (vs.take (i + 1)) = g2 (gcdL q (vs.take i)) x := by
  unfold gcdL
  rw [List.take_succ, e, List.foldl_append]
  rfl
theorem srcLen_snap {xs : List AV} {h : AH} : srcLen (.snap xs) h = xs.length := rfl
theorem src_iv {x : AV} {vs : List Int} (hx : x = .tup (iv vs) ∨ x = .lst (iv vs)) (h : AH) : srcOf x h = .ok (.snap (iv vs)) h := by
  rcases hx with e | e <;> subst e <;> rfl
theorem pure_iv : ∀ (vs : List Int), pureL (iv vs) = true
  | [] => rfl
  | v :: vs => by
    show (pureA (.int v) && pureL (iv vs)) = true
    rw [pure_iv vs]; rfl
theorem pure_pt (q : Int) (vs : List Int) : pureA (pt q vs) = true := by
  show (pureA (.int q) && (pureL (iv vs) && true)) = true
  rw [pure_iv]; rfl
theorem iv_map {vs : List Int} (f : AV → AV) (g : Int → Int) (e : ∀ i, f (.int i) = .int (g i)) : (iv vs).map f = iv (vs.map g) := by
  show (vs.map AV.int).map f = (vs.map g).map AV.int
  simp only [List.map_map]
  exact List.map_congr_left fun v _ => e v
def divA (d : Int) (v : AV) : AV := match v with | .int i => .int (i / d) | _ => .non
theorem lowest_ok (k : Nat) (h : AH) (q : Int) (vs : List Int) (x : AV) (hx : x = .tup (iv vs) ∨ x = .lst (iv vs)) (hq : 0 < q) (hw : Wh q) (hl : vs.length ≤ 4) : GK (k + 1) 1 [.int q, x] h = .ok (lpt q vs) h := by
  rw [e1]
  refine run_pure (pure_pt _ _) ?_
  have gp := gcdL_pos vs hq
  have gl := gcdL_le hq vs
  have dv : divOk (gcdL q vs) = true := div_ok gp (by unfold Wh at hw ⊢; omega)
  let I : Nat → Env1 → AH → Prop := fun i env h' => (∃ e3, env = [some (.int q), some x, some (.int (gcdL q (vs.take i))), e3]) ∧ h' = h
  have st : ∀ i v, (iv vs)[i]? = some v → ∀ env g, I i env g → ∃ env1, setTg (.nm 3) v env = some env1 ∧ ∃ env' g', ((esSet (.nm 2) (evOf opGcd (evCons (evVar 2) (evCons (evVar 3) evNil)))) : EvS) (GK k) env1 g = .nx env' g' ∧ I (i + 1) env' g' := by
    intro i v hv env g ⟨⟨e3, he⟩, hg⟩
    subst he; subst hg
    obtain ⟨y, e1, e2⟩ := iv_at hv
    subst e2
    refine ⟨_, rfl, [some (.int q), some x, some (.int (gcdL q (vs.take (i + 1)))), some (.int y)], g, ?_, ⟨_, rfl⟩, rfl⟩
    rw [gcdL_take e1]
    simp [g2]
  obtain ⟨env', h', e1, ⟨u3, he⟩, hh⟩ := for_ix I st (iv vs).length 0 [some (.int q), some x, some (.int q), none] h (by simp) ⟨⟨_, rfl⟩, rfl⟩
  subst he; subst hh
  have hll : (iv vs).length = vs.length := List.length_map ..
  rw [hll, List.take_length] at e1
  have e2 : evLc false (eiSeq (evVar 1)) (.nm 3) etYes (evOp fdivOp (evVar 3) (evVar 2)) [3] (GK k) [some (.int q), some x, some (.int (gcdL q vs)), u3] h' = .ok (.lst (iv (lpV q vs))) h' := by
    have := lc_map (s := eiSeq (evVar 1)) (tg := .nm 3) (te := evOp fdivOp (evVar 3) (evVar 2)) (own := [3]) (G := GK k) (env := [some (.int q), some x, some (.int (gcdL q vs)), u3]) (h := h') (xs := iv vs) (divA (gcdL q vs)) (by simp [src_iv hx]) (by rw [hll]; omega) (by
      intro v hv c
      obtain ⟨y, _, e⟩ := List.mem_map.mp hv
      subst e
      exact ⟨_, rfl, by simp [wipeE, dv, divA], rfl⟩)
    rw [this, iv_map _ (fun v => v / gcdL q vs) fun i => rfl]
    rfl
  simp [b1, src_iv hx, srcLen_snap, hll, e1, dv, -x_lc, e2, lpt, lpQ, pt]

/-! points -/
def PtOk (q : Int) (vs : List Int) : Prop := (1 ≤ q ∧ q < 10 ^ 60) ∧ vs.length ≤ 4 ∧ ∀ v ∈ vs, 0 ≤ v ∧ v < 10 ^ 60
theorem ix0 (x y : AV) (h : AH) : ixOp (.tup [x, y]) (.int 0) h = .ok x h := rfl
theorem ix1 (x y : AV) (h : AH) : ixOp (.tup [x, y]) (.int 1) h = .ok y h := rfl
theorem blsOf_map : ∀ (xs : List AV) (f : AV → Bool), blsOf (xs.map fun v => AV.bl (f v)) = some (xs.map f)
  | [], f => rfl
  | x :: xs, f => by
    simp only [List.map_cons, blsOf, blsOf_map xs f]
    rfl
theorem opBls_lst (g : List Bool → Bool) (xs : List AV) (f : AV → Bool) (h : AH) : opBls g [.lst (xs.map fun v => AV.bl (f v))] h = .ok (.bl (g (xs.map f))) h := by
  have e : (lstOf h (.lst (xs.map fun v => AV.bl (f v)))).bind blsOf = some (xs.map f) := blsOf_map xs f
  unfold opBls
  simp only [e]
def geoB (v : AV) : Bool := match v with | .int i => (decide (-(10 ^ 60) < i) && decide (i < 10 ^ 60)) && decide (0 ≤ i) | _ => false
theorem some_point_ok (k : Nat) (h : AH) (q : Int) (vs : List Int) (p : PtOk q vs) : GK (k + 2) 13 [pt q vs] h = .ok (.bl true) h := by
  obtain ⟨p1, p2, p3⟩ := p
  rw [e13]
  refine run_pure (by rfl) ?_
  have wq : Wh q := by unfold Wh; omega
  have e2 : evLc false (eiSeq (evVar 2)) (.nm 3) etYes (evAnd (evCall 1 5 (evCons (evVar 3) evNil)) (evOp geOp (evVar 3) (evC (.int 0)))) [3] (GK (k + 1)) [some (pt q vs), some (.int q), some (.tup (iv vs)), none] h = .ok (.lst ((iv vs).map fun v => .bl (geoB v))) h := by
    refine lc_map (fun v => .bl (geoB v)) (by simp) (by simp; omega) ?_
    intro v hv c
    obtain ⟨y, hy, e⟩ := List.mem_map.mp hv
    subst e
    obtain ⟨y1, y2⟩ := p3 y hy
    have wy : Wh y := by unfold Wh; omega
    have gb : geoB (.int y) = true := by
      unfold Wh at wy
      simp [geoB]
      omega
    exact ⟨_, rfl, by simp [wipeE, is_whole_ok, wy, gb, y1], rfl⟩
  have e3 : ((iv vs).map geoB).all id = true := by
    rw [List.all_eq_true]
    intro b hb
    obtain ⟨v, hv, e⟩ := List.mem_map.mp hb
    obtain ⟨y, hy, e'⟩ := List.mem_map.mp hv
    subst e; subst e'
    obtain ⟨y1, y2⟩ := p3 y hy
    simp [geoB]
    omega
  have p2' : ((vs.length : Nat) : Int) ≤ 4 := by omega
  simp only [pt] at e2 ⊢
  simp [b13, is_pair_tup, is_whole_ok, wq, p1.1, tyOf, isTy, p2', -x_lc, e2, opBls_lst, e3, -List.map_map, -List.all_map]
theorem check_point_ok (k : Nat) (h : AH) (q : Int) (vs : List Int) (p : PtOk q vs) : GK (k + 3) 15 [pt q vs] h = .ok .non h := by
  rw [e15]
  refine (run_nx (env := [some (pt q vs)]) (h' := h) ?_).trans (by rw [List.take_length])
  simp [b15, some_point_ok, p]
def PaOk (p b : Int) : Prop := (0 ≤ p ∧ p < 10 ^ 60) ∧ 1 ≤ b ∧ b < 10 ^ 60
theorem check_pause_ok (k : Nat) (h : AH) (p b : Int) (hp : PaOk p b) : GK (k + 4) 11 [.tup [.int p, .int b]] h = .ok .non h := by
  obtain ⟨p1, p2⟩ := hp
  have wp : Wh p := by unfold Wh; omega
  have wb : Wh b := by unfold Wh; omega
  have e1 : GK (k + 2) 9 [.tup [.int p, .int b]] h = .ok (.bl true) h := by
    rw [e9]
    refine run_pure (by rfl) ?_
    simp [b9, is_pair_tup, is_whole_ok, wp, wb, p2.1, ixB0, ixB1]
  have e2 : GK (k + 3) 10 [.tup [.int p, .int b]] h = .ok (.bl true) h := by
    rw [e10]
    refine run_pure (by rfl) ?_
    simp [b10, e1, p1.1, ixB0]
  rw [e11]
  refine (run_nx (env := [some (.tup [.int p, .int b])]) (h' := h) ?_).trans (by rw [List.take_length])
  simp [b11, e2]
def latA (q p b : Int) (v : AV) : AV := match v with | .int i => .int (i * b + p * q) | _ => .non
theorem point_later_ok (k : Nat) (h : AH) (q : Int) (vs : List Int) (p b : Int) (hv : PtOk q vs) (hp : PaOk p b) (hw : q * b < 10 ^ 60) : GK (k + 2) 2 [pt q vs, .tup [.int p, .int b]] h = .ok (lpt (q * b) (latV q vs p b)) h := by
  obtain ⟨q1, q2, q3⟩ := hv
  obtain ⟨p1, p2⟩ := hp
  rw [e2]
  refine run_pure (pure_pt _ _) ?_
  have wq : Wh q := by unfold Wh; omega
  have wp : Wh p := by unfold Wh; omega
  have wb : Wh b := by unfold Wh; omega
  have m1 : mulOk p q = true := big_mul wp wq
  have m2 : mulOk q b = true := big_mul wq wb
  have q0 : 0 < q * b := Int.mul_pos (by omega) (by omega)
  have e1 : evLc false (eiSeq (evVar 3)) (.nm 5) etYes (evOp addOp (evOp mulOp (evVar 5) (evOp ixOp (evVar 1) (evC (.int 1)))) (evVar 4)) [5] (GK (k + 1)) [some (pt q vs), some (.tup [.int p, .int b]), some (.int q), some (.tup (iv vs)), some (.int (p * q)), none] h = .ok (.lst (iv (latV q vs p b))) h := by
    rw [show iv (latV q vs p b) = (iv vs).map (latA q p b) from (iv_map _ _ fun i => rfl).symm]
    refine lc_map (latA q p b) (by simp) (by simp; omega) ?_
    intro v hv c
    obtain ⟨y, hy, e⟩ := List.mem_map.mp hv
    subst e
    obtain ⟨y1, y2⟩ := q3 y hy
    have m3 : mulOk y b = true := big_mul (by unfold Wh; omega) wb
    exact ⟨_, rfl, by simp [wipeE, ixB1, m3, latA], rfl⟩
  have e2 := lowest_ok k h (q * b) (latV q vs p b) (.lst (iv (latV q vs p b))) (.inr rfl) q0 (by unfold Wh; omega) (by unfold latV; rw [List.length_map]; exact q2)
  simp only [pt] at e1 ⊢
  simp [b2, ixB0, ixB1, m1, m2, -x_lc, e1, e2]
theorem later_ok (k : Nat) (h : AH) (q : Int) (vs : List Int) (p b : Int) (hv : PtOk q vs) (hp : PaOk p b) (hw : q * b < 10 ^ 60) : GK (k + 5) 17 [pt q vs, .tup [.int p, .int b]] h = .ok (lpt (q * b) (latV q vs p b)) h := by
  rw [e17]
  refine run_pure (pure_pt _ _) ?_
  have e1 := check_point_ok (k + 1) h q vs hv
  have e2 := check_pause_ok k h p b hp
  have e3 := point_later_ok (k + 2) h q vs p b hv hp hw
  simp [b17, e1, e2, e3]
end Pv.K03
end
section
set_option Elab.async false
set_option linter.all false
set_option maxRecDepth 100000
set_option maxHeartbeats 4000000
namespace Pv.K03
open PySem PySem.Spec PyProof.Rows L2
/-! ### set back, shown, same -/
theorem eqA_i (a b : Int) : eqA (.int a) (.int b) = decide (a = b) := by
  show (a == b) = _
  rw [Bool.beq_eq_decide_eq]
theorem inA_iv (a : Int) : ∀ cs : List Int, inA (.int a) (iv cs) = decide (a ∈ cs)
  | [] => by simp [inA]
  | c :: cs => by
    have ih := inA_iv a cs
    unfold inA at ih ⊢
    show (eqA (.int c) (.int a) || (iv cs).any fun y => eqA y (.int a)) = _
    rw [ih, eqA_i, Bool.eq_iff_iff]
    simp only [Bool.or_eq_true, decide_eq_true_eq, List.mem_cons]
    exact ⟨fun h => h.imp Eq.symm id, fun h => h.imp Eq.symm id⟩
theorem flat_iv : ∀ cs : List Int, (iv cs).all flatA = true
  | [] => rfl
  | c :: cs => by
    show (flatA (.int c) && (iv cs).all flatA) = true
    rw [flat_iv cs]; rfl
def backV (cs : List Int) : Nat → List Int → List Int
  | _, [] => []
  | k, v :: vs => (if (k : Int) ∈ cs then 0 else v) :: backV cs (k + 1) vs
def backA (cs : List Int) (d : Int) (v : AV) : AV := match v with | .tup [.int a, .int x] => .int (if a + d ∈ cs then 0 else x) | _ => .non
theorem back_map (cs : List Int) (d : Nat) : ∀ (vs : List Int) (k : Nat), (enumL k (iv vs)).map (backA cs d) = iv (backV cs (k + d) vs)
  | [], _ => rfl
  | v :: vs, k => by
    have ih := back_map cs d vs (k + 1)
    show backA cs d (.tup [.int k, .int v]) :: (enumL (k + 1) (iv vs)).map (backA cs d) = .int (if ((k + d : Nat) : Int) ∈ cs then 0 else v) :: iv (backV cs (k + d + 1) vs)
    rw [ih, show k + 1 + d = k + d + 1 by omega]
    simp [backA]
theorem enum_mem : ∀ {vs : List Int} {k : Nat} {v : AV}, v ∈ enumL k (iv vs) → ∃ (a x : Int), v = .tup [.int a, .int x] ∧ (k : Int) ≤ a ∧ x ∈ vs ∧ a < (k : Int) + vs.length
  | [], _, _, h => by cases h
  | w :: vs, k, v, h => by
    rcases List.mem_cons.mp h with e | e
    · exact ⟨k, w, e, Int.le_refl _, List.mem_cons_self .., by simp only [List.length_cons]; omega⟩
    · obtain ⟨a, x, e1, e2, e3, e4⟩ := enum_mem e
      exact ⟨a, x, e1, by omega, List.mem_cons_of_mem _ e3, by simp only [List.length_cons]; omega⟩
theorem enumL_len : ∀ (xs : List AV) (k : Nat), (enumL k xs).length = xs.length
  | [], _ => rfl
  | x :: xs, k => by
    show (enumL (k + 1) xs).length + 1 = xs.length + 1
    rw [enumL_len]
theorem backV_len (cs : List Int) : ∀ (vs : List Int) (k : Nat), (backV cs k vs).length = vs.length
  | [], _ => rfl
  | v :: vs, k => by
    show (backV cs (k + 1) vs).length + 1 = vs.length + 1
    rw [backV_len]
theorem backV_mem {cs : List Int} {B : Int} (hB : 0 < B) : ∀ {vs : List Int} {k : Nat}, (∀ v ∈ vs, 0 ≤ v ∧ v < B) → ∀ v ∈ backV cs k vs, 0 ≤ v ∧ v < B
  | [], _, _, v, h => by cases h
  | w :: vs, k, hv, v, h => by
    rcases List.mem_cons.mp h with e | e
    · subst e
      split
      · exact ⟨Int.le_refl _, hB⟩
      · exact hv w (List.mem_cons_self ..)
    · exact backV_mem hB (fun x hx => hv x (List.mem_cons_of_mem _ hx)) v e
theorem backV_map {cs : List Int} (f : Int → Int) (f0 : f 0 = 0) : ∀ (vs : List Int) (k : Nat), backV cs k ((backV cs k vs).map f) = (backV cs k vs).map f
  | [], _ => rfl
  | v :: vs, k => by
    show (if (k : Int) ∈ cs then 0 else f (if (k : Int) ∈ cs then 0 else v)) :: backV cs (k + 1) ((backV cs (k + 1) vs).map f) = f (if (k : Int) ∈ cs then 0 else v) :: (backV cs (k + 1) vs).map f
    rw [backV_map f f0 vs (k + 1)]
    split <;> simp [f0]
/-- clocks of a point, ascending -/
def Asc (n : Nat) (cs : List Int) : Prop := cs.Pairwise (· < ·) ∧ (∀ c ∈ cs, 1 ≤ c ∧ c ≤ n) ∧ cs.length ≤ 4
theorem point_back_ok (k : Nat) (h : AH) (q : Int) (vs cs : List Int) (hv : PtOk q vs) : GK (k + 2) 3 [pt q vs, .tup (iv cs)] h = .ok (lpt q (backV cs 1 vs)) h := by
  obtain ⟨q1, q2, q3⟩ := hv
  rw [e3]
  refine run_pure (pure_pt _ _) ?_
  have e1 : evLc false (eiOf (opEnumS 1) (evCons (evVar 3) evNil)) (.tp [4, 5]) etYes (evIf (etB (evOp (inOp false) (evVar 4) (evVar 1))) (evC (.int 0)) (evVar 5)) [4, 5] (GK (k + 1)) [some (pt q vs), some (.tup (iv cs)), some (.int q), some (.tup (iv vs)), none, none] h = .ok (.lst (iv (backV cs 1 vs))) h := by
    have bm := back_map cs 0 vs 1
    rw [← bm]
    refine lc_map (backA cs (0 : Nat)) (by simp) (by rw [enumL_len]; simp; omega) ?_
    intro v hv c
    obtain ⟨a, x, e, _⟩ := enum_mem hv
    subst e
    exact ⟨_, rfl, by simp [wipeE, flat_iv, inA_iv, flatA, backA], rfl⟩
  have e2 := lowest_ok k h q (backV cs 1 vs) (.lst (iv (backV cs 1 vs))) (.inr rfl) (by omega) (by unfold Wh; omega) (by rw [backV_len]; exact q2)
  simp only [pt] at e1 ⊢
  simp [b3, -x_lc, e1, e2]
theorem zipA_asc : ∀ {cs : List Int}, cs.Pairwise (· < ·) → ∀ v ∈ zipA (iv cs) (iv cs.tail), ∃ a b : Int, v = .tup [.int a, .int b] ∧ a < b
  | [], _, v, h => by cases h
  | [c], _, v, h => by cases h
  | c :: d :: cs, hp, v, h => by
    rcases List.mem_cons.mp (show v ∈ .tup [.int c, .int d] :: zipA (iv (d :: cs)) (iv cs) from h) with e | e
    · exact ⟨c, d, e, (List.pairwise_cons.mp hp).1 d (List.mem_cons_self ..)⟩
    · exact zipA_asc (cs := d :: cs) (List.pairwise_cons.mp hp).2 v e
theorem cut1 (xs : List AV) : cutA xs (some 1) none = xs.tail := by
  cases xs with
  | nil => rfl
  | cons x xs =>
    have e : HT.sIx (x :: xs).length 0 (some 1) = 1 := by
      simp [HT.sIx]
      try omega
    unfold cutA
    rw [e]
    simp [HT.sIx]
theorem zipA_len : ∀ xs ys : List AV, (zipA xs ys).length ≤ xs.length
  | [], ys => by cases ys <;> simp [zipA]
  | x :: xs, [] => by simp [zipA]
  | x :: xs, y :: ys => by
    have := zipA_len xs ys
    simp [zipA]
    omega
theorem ascending_ok (k : Nat) (h : AH) (n : Nat) (cs : List Int) (hc : Asc n cs) (hn : n ≤ 4) : GK (k + 3) 8 [.tup (iv cs), .int 1, .int n] h = .ok (.bl true) h := by
  obtain ⟨c1, c2, c3⟩ := hc
  rw [e8]
  refine run_pure (by rfl) ?_
  have e1 : evLc false (eiSeq (evVar 0)) (.nm 3) etYes (evCall 3 6 (evCons (evVar 3) (evCons (evVar 1) (evCons (evVar 2) evNil)))) [3] (GK (k + 2)) [some (.tup (iv cs)), some (.int 1), some (.int n), none, none] h = .ok (.lst ((iv cs).map fun v => .bl ((fun _ => true) v))) h := by
    refine lc_map (fun _ => .bl true) (by simp) (by simp; omega) ?_
    intro v hv c
    obtain ⟨y, hy, e⟩ := List.mem_map.mp hv
    subst e
    obtain ⟨y1, y2⟩ := c2 y hy
    exact ⟨_, rfl, by simp [wipeE, between_ok, show Wh y by unfold Wh; omega, y1, y2], rfl⟩
  have e2 : evLc false (eiOf opZip (evCons (evVar 0) (evCons (evSl (evVar 0) (eoSome (evC (.int 1))) eoNone) evNil))) (.tp [3, 4]) etYes (evOp ltOp (evVar 3) (evVar 4)) [3, 4] (GK (k + 2)) [some (.tup (iv cs)), some (.int 1), some (.int n), none, none] h = .ok (.lst ((zipA (iv cs) (iv cs.tail)).map fun v => .bl ((fun _ => true) v))) h := by
    refine lc_map (fun _ => .bl true) ?_ (by have := zipA_len (iv cs) (iv cs.tail); simp at this ⊢; omega) ?_
    · simp [cut1]
    · intro v hv c
      obtain ⟨a, b, e, hab⟩ := zipA_asc c1 v hv
      subst e
      exact ⟨_, rfl, by simp [wipeE, hab], rfl⟩
  have t1 : ∀ ys : List AV, (ys.map fun _ => true).all id = true := fun ys => by simp
  simp [b8, tyOf, isTy, -x_lc, e1, e2, opBls_lst, -List.map_map, -List.all_map, t1]
theorem set_back_ok (k : Nat) (h : AH) (q : Int) (vs cs : List Int) (hv : PtOk q vs) (hc : Asc vs.length cs) : GK (k + 4) 18 [pt q vs, .tup (iv cs)] h = .ok (lpt q (backV cs 1 vs)) h := by
  rw [e18]
  refine run_pure (pure_pt _ _) ?_
  have e1 := check_point_ok k h q vs hv
  have e2 := ascending_ok k h vs.length cs hc hv.2.1
  have e3 := point_back_ok (k + 1) h q vs cs hv
  have i1 : ∀ g, ixOp (pt q vs) (.int 1) g = .ok (.tup (iv vs)) g := fun g => rfl
  simp [b18, e1, i1, e2, e3]
end Pv.K03
end
section
set_option Elab.async false
set_option linter.all false
set_option maxRecDepth 100000
set_option maxHeartbeats 4000000
namespace Pv.K03
open PySem PySem.Spec PyProof.Rows L2
/-! ### what clocks show -/
def fr (p q : Int) : AV := .tup [.int p, .int q]
def lt2 (d q : Int) : AV := fr (d / g2 d q) (q / g2 d q)
theorem g2_comm (a b : Int) : g2 a b = g2 b a := by unfold g2; rw [Nat.gcd_comm]
theorem g2_abs (a b : Int) : g2 a b = g2 a (if b < 0 then -b else b) := by
  unfold g2
  congr 2
  split <;> omega
theorem g2_posR {a b : Int} (h : 0 < b) : 0 < g2 a b := by rw [g2_comm]; exact g2_pos h
theorem g2_leR {a b : Int} (h : 0 < b) : g2 a b ≤ b := Int.le_of_dvd h (g2_dvd_right a b)
theorem lt2_scale {k d q : Int} (hk : 0 < k) : lt2 (k * d) (k * q) = lt2 d q := by
  unfold lt2
  rw [g2_scale hk, Int.mul_ediv_mul_of_pos _ _ hk, Int.mul_ediv_mul_of_pos _ _ hk]
theorem lowest_terms_ok (k : Nat) (h : AH) (d q : Int) (hq : 0 < q) (hw : q < 10 ^ 60) : GK (k + 1) 0 [.int d, .int q] h = .ok (lt2 d q) h := by
  rw [e0]
  refine run_pure (by rfl) ?_
  have gp := g2_posR (a := d) hq
  have gl := g2_leR (a := d) hq
  have dv : divOk (g2 d q) = true := div_ok gp (by unfold Wh; omega)
  have e : ((Nat.gcd d.natAbs q.natAbs : Nat) : Int) = g2 d q := rfl
  simp [b0, e, dv, lt2, fr]
/-- what clock i shows -/
def sh (vs : List Int) (i : Nat) : Int := (0 :: vs).getD i 0
theorem at_sh {vs : List Int} {i : Nat} (hi : i ≤ vs.length) : atI (.int 0 :: iv vs) (i : Int) = some (.int (sh vs i)) := by
  have e : (AV.int 0 :: iv vs) = iv (0 :: vs) := rfl
  have hl : i < (0 :: vs).length := by simp only [List.length_cons]; omega
  have hl' : i < (iv (0 :: vs)).length := by rw [List.length_map]; exact hl
  unfold atI ixN sh
  rw [e, if_pos (by omega), if_pos (by omega)]
  show (iv (0 :: vs))[(i : Int).toNat]? = _
  rw [Int.toNat_natCast, List.getElem?_map, List.getElem?_eq_getElem hl, List.getD_eq_getElem?_getD, List.getElem?_eq_getElem hl]
  rfl
theorem pt1 (q : Int) (vs : List Int) (g : AH) : ixOp (pt q vs) (.int 1) g = .ok (.tup (iv vs)) g := rfl
theorem pt0 (q : Int) (vs : List Int) (g : AH) : ixOp (pt q vs) (.int 0) g = .ok (.int q) g := rfl
theorem check_shown_ok (k : Nat) (h : AH) (q : Int) (vs : List Int) (i : Nat) (hi : i ≤ vs.length) (hl : vs.length ≤ 4) : GK (k + 3) 19 [pt q vs, .int i] h = .ok .non h := by
  rw [e19]
  refine (run_nx (env := [some (pt q vs), some (.int i)]) (h' := h) ?_).trans (by rw [List.take_length])
  have b := between_ok k i 0 vs.length h (by unfold Wh; omega)
  have c1 : decide ((0 : Int) ≤ i) = true := decide_eq_true (by omega)
  have c2 : decide ((i : Int) ≤ vs.length) = true := decide_eq_true (by omega)
  rw [c1, c2] at b
  simp [b19, pt1, b]
theorem point_shown_ok (k : Nat) (h : AH) (q : Int) (vs : List Int) (i j : Nat) (hv : PtOk q vs) (hi : i ≤ vs.length) (hj : j ≤ vs.length) : GK (k + 2) 4 [pt q vs, .int i, .int j] h = .ok (lt2 (sh vs i - sh vs j) q) h := by
  obtain ⟨q1, q2, q3⟩ := hv
  rw [e4]
  refine run_pure (by rfl) ?_
  have lo := lowest_terms_ok k h (sh vs i - sh vs j) q (by omega) q1.2
  have hl : (AV.int 0 :: iv vs).length ≤ 1000 := by
    rw [List.length_cons, List.length_map]
    omega
  have a1 := at_sh hi
  have a2 := at_sh hj
  have t1 : ∀ g, opTup (AV.int 0 :: (iv vs ++ [])) g = .ok (.tup (AV.int 0 :: iv vs)) g := fun g => by
    rw [List.append_nil]
    exact if_pos hl
  simp only [pt]
  simp [b4, -o_tup, -List.append_nil, t1, a1, a2, lo]
theorem shown_ok (k : Nat) (h : AH) (q : Int) (vs : List Int) (i j : Nat) (hv : PtOk q vs) (hi : i ≤ vs.length) (hj : j ≤ vs.length) : GK (k + 4) 20 [pt q vs, .int i, .int j] h = .ok (lt2 (sh vs i - sh vs j) q) h := by
  rw [e20]
  refine run_pure (by rfl) ?_
  have e1 := check_point_ok k h q vs hv
  have e2 := point_shown_ok (k + 1) h q vs i j hv hi hj
  have e3 := check_shown_ok k h q vs i hi hv.2.1
  have e4 := check_shown_ok k h q vs j hj hv.2.1
  simp [b20, e1, e2, e3, e4]
theorem eqB_of {h : AH} {x y : AV} {d e : PyData} (h1 : toPy1 h x = some d) (h2 : toPy1 h y = some e) (s1 : SeqAt.shaped d = true) (s2 : SeqAt.shaped e = true) : eqB h x y = some (PyData.eqv d e) := by
  unfold eqB
  simp only [h1, h2, s1, s2]
  rfl
theorem toPy_iv (h : AH) : ∀ vs : List Int, toPyL h (iv vs) = some (vs.map PyData.int)
  | [] => rfl
  | v :: vs => by
    show (match toPy h (.int v), toPyL h (iv vs) with | some d, some ds => some (d :: ds) | _, _ => none) = _
    rw [toPy_iv h vs]
    rfl
theorem eqv_iv : ∀ vs ws : List Int, PyData.eqvAll (vs.map PyData.int) (ws.map PyData.int) = decide (vs = ws)
  | [], [] => rfl
  | [], w :: ws => by simp [PyData.eqvAll]
  | v :: vs, [] => by simp [PyData.eqvAll]
  | v :: vs, w :: ws => by
    have ih := eqv_iv vs ws
    simp only [List.map_cons, PyData.eqvAll, ih, PyData.eqv]
    rw [Bool.beq_eq_decide_eq, Bool.eq_iff_iff]
    simp
theorem lay_iv : ∀ vs : List Int, PyData.canLayAll0 (vs.map PyData.int) = true
  | [] => rfl
  | v :: vs => by
    simp [PyData.canLayAll0, PyData.canLay0, lay_iv vs]
theorem dep_iv : ∀ vs : List Int, PyData.depthAll (vs.map PyData.int) = 0
  | [] => rfl
  | v :: vs => by
    simp [PyData.depthAll, PyData.depth, dep_iv vs]
theorem eq_pt (h : AH) (q r : Int) (vs ws : List Int) : eqB h (pt q vs) (pt r ws) = some (decide (q = r ∧ vs = ws)) := by
  have e : ∀ (q : Int) (vs : List Int), toPy1 h (pt q vs) = some (.tuple [.int q, .tuple (vs.map PyData.int)]) := fun q vs => by
    show ((match toPy h (.int q), (match (toPyL h (iv vs)).map PyData.tuple, toPyL h [] with | some d, some ds => some (d :: ds) | _, _ => none) with | some d, some ds => some (d :: ds) | _, _ => none)).map PyData.tuple = _
    rw [toPy_iv]
    rfl
  have s : ∀ (q : Int) (vs : List Int), SeqAt.shaped (.tuple [.int q, .tuple (vs.map PyData.int)]) = true := fun q vs => by
    simp [SeqAt.shaped, PyData.canLay0, PyData.canLayAll0, lay_iv, PyData.depth, PyData.depthAll, dep_iv]
  rw [eqB_of (e q vs) (e r ws) (s q vs) (s r ws)]
  congr 1
  simp only [PyData.eqv, PyData.eqvAll, eqv_iv]
  rw [Bool.beq_eq_decide_eq, Bool.eq_iff_iff]
  simp
theorem eq_fr (h : AH) (a b c d : Int) : eqB h (fr a b) (fr c d) = some (decide (a = c ∧ b = d)) := by
  have e : eqB h (fr a b) (fr c d) = some ((a == c) && ((b == d) && true)) := rfl
  rw [e, Bool.and_true, Bool.beq_eq_decide_eq, Bool.beq_eq_decide_eq, Bool.decide_and]
theorem same_ok (k : Nat) (h : AH) (q r : Int) (vs ws : List Int) (hv : PtOk q vs) (hw : PtOk r ws) (hl : vs.length = ws.length) : GK (k + 4) 16 [pt q vs, pt r ws] h = .ok (.bl (decide (lpQ q vs = lpQ r ws ∧ lpV q vs = lpV r ws))) h := by
  rw [e16]
  refine run_pure (by rfl) ?_
  have e1 := check_point_ok k h q vs hv
  have e2 := check_point_ok k h r ws hw
  have w : ∀ {q vs}, PtOk q vs → GK (k + 3) 1 [.int q, .tup (iv vs)] h = .ok (lpt q vs) h := fun {q vs} p => lowest_ok (k + 2) h q vs _ (.inl rfl) (by have := p.1; omega) (by have := p.1; unfold Wh; omega) p.2.1
  have e3 := w hv
  have e4 := w hw
  have e5 : eqB h (lpt q vs) (lpt r ws) = _ := eq_pt h _ _ _ _
  have hll : (iv vs).length = (iv ws).length := by rw [List.length_map, List.length_map, hl]
  simp [b16, e1, e2, pt0, pt1, hll, e3, e4, e5, hl]
end Pv.K03
end
section
set_option Elab.async false
set_option linter.all false
set_option maxRecDepth 100000
set_option maxHeartbeats 4000000
namespace Pv.K03
open PySem PySem.Spec PyProof.Rows L2
/-! ### the law's own sums -/
theorem euclid (k : Nat) (h : AH) (n : AV) : ∀ (m fuel : Nat) (a : Int), 0 ≤ a → m < fuel → whileL (etB (evOp gtOp (evVar 2) (evC (.int 0)))) (esPar2 1 2 (evCons (evVar 2) (evCons (evOp modOp (evVar 1) (evVar 2)) evNil))) (GK k) fuel [some n, some (.int a), some (.int (m : Int))] h = .nx [some n, some (.int (g2 a m)), some (.int 0)] h := by
  intro m
  induction m using Nat.strongRecOn with
  | _ m ih =>
    intro fuel a ha hf
    cases fuel with
    | zero => omega
    | succ fuel =>
      by_cases hm : m = 0
      · subst hm
        have e : g2 a 0 = a := by
          unfold g2
          simp
          omega
        unfold whileL
        simp [e]
      · have hp : (0 : Int) < m := by omega
        have hr0 : 0 ≤ a % (m : Int) := Int.emod_nonneg _ (by omega)
        have hrl : a % (m : Int) < m := Int.emod_lt_of_pos _ hp
        obtain ⟨r, er⟩ := Int.eq_ofNat_of_zero_le hr0
        have hr : r < m := by omega
        have step := ih r hr fuel (m : Int) (by omega) (by omega)
        have eg : g2 (m : Int) (r : Int) = g2 a m := by
          unfold g2
          rw [Int.natAbs_natCast, Int.natAbs_natCast, Nat.gcd_comm m r]
          have e1 : r = a.natAbs % m := by
            have : ((a.natAbs : Int)) = a := by omega
            have e2 : ((a.natAbs % m : Nat) : Int) = a % m := by rw [Int.natCast_emod, this]
            omega
          rw [e1, ← Nat.gcd_rec, Nat.gcd_comm]
        rw [eg] at step
        unfold whileL
        have hpn : 0 < m := by omega
        simp [hp, hpn, er, step]
theorem shared_ok (k : Nat) (h : AH) (q : Int) (vs : List Int) (hq : 0 < q) (hl : vs.length ≤ 10) (hv : ∀ v ∈ vs, 0 ≤ v ∧ v < 10 ^ 60) : GK (k + 1) 29 [.tup (iv (q :: vs))] h = .ok (.int (gcdL q vs)) h := by
  rw [e29]
  refine run_pure (by rfl) ?_
  let I : Nat → Env1 → AH → Prop := fun i env h' => (∃ e2, env = [some (.tup (iv (q :: vs))), some (.int (gcdL q (vs.take i))), e2]) ∧ h' = h
  have st : ∀ i v, (iv vs)[i]? = some v → ∀ env g, I i env g → ∃ env1, setTg (.nm 2) v env = some env1 ∧ ∃ env' g', ((esWhile (etB (evOp gtOp (evVar 2) (evC (.int 0)))) (esPar2 1 2 (evCons (evVar 2) (evCons (evOp modOp (evVar 1) (evVar 2)) evNil)))) : EvS) (GK k) env1 g = .nx env' g' ∧ I (i + 1) env' g' := by
    intro i v hv' env g ⟨⟨e2, he⟩, hg⟩
    subst he; subst hg
    obtain ⟨y, e1, e2⟩ := iv_at hv'
    subst e2
    obtain ⟨y0, y1⟩ := hv y (List.mem_of_getElem? e1)
    obtain ⟨m, em⟩ := Int.eq_ofNat_of_zero_le y0
    subst em
    refine ⟨_, rfl, [some (.tup (iv (q :: vs))), some (.int (gcdL q (vs.take (i + 1)))), some (.int 0)], g, ?_, ⟨_, rfl⟩, rfl⟩
    rw [gcdL_take e1]
    have gp := gcdL_pos (vs.take i) hq
    exact euclid k g _ m wfuel _ (by omega) (by
      have : m < 2 ^ 200 := by omega
      exact this)
  have hll : (iv vs).length = vs.length := List.length_map ..
  obtain ⟨env', h', e1, ⟨u2, he⟩, hh⟩ := for_ix I st (iv vs).length 0 [some (.tup (iv (q :: vs))), some (.int q), none] h (by simp) ⟨⟨_, rfl⟩, rfl⟩
  subst he; subst hh
  rw [hll, List.take_length] at e1
  have i0 : ∀ g, ixOp (.tup (iv (q :: vs))) (.int 0) g = .ok (.int q) g := fun g => by
    show (match atI (.int q :: iv vs) 0 with | some v => Out.ok v g | none => .bad) = _
    rw [ixB0]
  have c1 : cutA (iv (q :: vs)) (some 1) none = iv vs := cut1 _
  simp only [iv] at i0 c1 e1 hll ⊢
  simp only [b29, x_seq, x_set, x_op, x_var, x_c, x_bind_ok, x_s_ok, o_tnm, List.map_cons, List.map_nil, List.length_cons, List.length_nil, List.cons_append, List.nil_append, Nat.zero_add, Nat.reduceSub, List.replicate, List.getElem?_cons_zero, List.getElem?_cons_succ, List.set_cons_zero, List.set_cons_succ] at i0 c1 e1 hll ⊢
  simp [i0, c1, srcLen_snap, e1]
theorem plain_ok (k : Nat) (h : AH) (q : Int) (vs : List Int) (hq : 0 < q ∧ q < 10 ^ 60) (hl : vs.length ≤ 4) (hv : ∀ v ∈ vs, 0 ≤ v ∧ v < 10 ^ 60) : GK (k + 2) 30 [pt q vs] h = .ok (lpt q vs) h := by
  rw [e30]
  refine run_pure (pure_pt _ _) ?_
  have e1 : GK (k + 1) 29 [.tup (.int q :: iv vs)] h = .ok (.int (gcdL q vs)) h := shared_ok k h q vs hq.1 (by omega) hv
  have gp := gcdL_pos vs hq.1
  have gl := gcdL_le hq.1 vs
  have dv : divOk (gcdL q vs) = true := div_ok gp (by unfold Wh; omega)
  have hll : (iv vs).length = vs.length := List.length_map ..
  have e2 : evLc false (eiSeq (evOp ixOp (evVar 0) (evC (.int 1)))) (.nm 2) etYes (evOp fdivOp (evVar 2) (evVar 1)) [2] (GK (k + 1)) [some (pt q vs), some (.int (gcdL q vs)), none] h = .ok (.lst (iv (lpV q vs))) h := by
    have := lc_map (s := eiSeq (evOp ixOp (evVar 0) (evC (.int 1)))) (tg := .nm 2) (te := evOp fdivOp (evVar 2) (evVar 1)) (own := [2]) (G := GK (k + 1)) (env := [some (pt q vs), some (.int (gcdL q vs)), none]) (h := h) (xs := iv vs) (divA (gcdL q vs)) (by simp [pt1]) (by rw [hll]; omega) (by
      intro v hv c
      obtain ⟨y, _, e⟩ := List.mem_map.mp hv
      subst e
      exact ⟨_, rfl, by simp [wipeE, dv, divA], rfl⟩)
    rw [this, iv_map _ (fun v => v / gcdL q vs) fun i => rfl]
    rfl
  have sz : 1 + (iv vs).length ≤ sizeLine := by rw [hll]; exact line1000 (by omega)
  have ea : ∀ g, addOp (.tup [.int q]) (.tup (iv vs)) g = .ok (.tup (.int q :: iv vs)) g := fun g => if_pos sz
  simp [b30, pt0, pt1, -o_addT, ea, e1, -x_lc, e2, dv]
  rfl
theorem llater_ok (k : Nat) (h : AH) (q : Int) (vs : List Int) (p b : Int) (hv : PtOk q vs) (hp : PaOk p b) : GK (k + 1) 25 [pt q vs, .int p, .int b] h = .ok (pt (q * b) (latV q vs p b)) h := by
  obtain ⟨q1, q2, q3⟩ := hv
  obtain ⟨p1, p2⟩ := hp
  rw [e25]
  refine run_pure (pure_pt _ _) ?_
  have wq : Wh q := by unfold Wh; omega
  have wp : Wh p := by unfold Wh; omega
  have wb : Wh b := by unfold Wh; omega
  have m1 : mulOk p q = true := big_mul wp wq
  have m2 : mulOk q b = true := big_mul wq wb
  have e1 : evLc false (eiSeq (evOp ixOp (evVar 0) (evC (.int 1)))) (.nm 3) etYes (evOp addOp (evOp mulOp (evVar 3) (evVar 2)) (evOp mulOp (evVar 1) (evOp ixOp (evVar 0) (evC (.int 0))))) [3] (GK k) [some (pt q vs), some (.int p), some (.int b), none] h = .ok (.lst (iv (latV q vs p b))) h := by
    rw [show iv (latV q vs p b) = (iv vs).map (latA q p b) from (iv_map _ _ fun i => rfl).symm]
    refine lc_map (latA q p b) (by simp [pt1]) (by simp; omega) ?_
    intro v hv c
    obtain ⟨y, hy, e⟩ := List.mem_map.mp hv
    subst e
    obtain ⟨y1, y2⟩ := q3 y hy
    have m3 : mulOk y b = true := big_mul (by unfold Wh; omega) wb
    exact ⟨_, rfl, by simp [wipeE, pt0, m1, m3, latA], rfl⟩
  simp [b25, pt0, m2, -x_lc, e1]
  rfl
theorem lset_ok (k : Nat) (h : AH) (q : Int) (vs cs : List Int) (hv : PtOk q vs) : GK (k + 1) 26 [pt q vs, .tup (iv cs)] h = .ok (pt q (backV cs 1 vs)) h := by
  obtain ⟨q1, q2, q3⟩ := hv
  rw [e26]
  refine run_pure (pure_pt _ _) ?_
  have e1 : evLc false (eiOf opEnum (evCons (evOp ixOp (evVar 0) (evC (.int 1))) evNil)) (.tp [2, 3]) etYes (evIf (etB (evOp (inOp false) (evOp addOp (evVar 2) (evC (.int 1))) (evVar 1))) (evC (.int 0)) (evVar 3)) [2, 3] (GK k) [some (pt q vs), some (.tup (iv cs)), none, none] h = .ok (.lst (iv (backV cs 1 vs))) h := by
    have bm := back_map cs 1 vs 0
    rw [Nat.zero_add] at bm
    rw [← bm]
    refine lc_map (backA cs (1 : Nat)) (by simp [pt1]) (by rw [enumL_len]; simp; omega) ?_
    intro v hv c
    obtain ⟨a, x, e, _⟩ := enum_mem hv
    subst e
    exact ⟨_, rfl, by simp [wipeE, flat_iv, inA_iv, flatA, backA], rfl⟩
  simp [b26, pt0, -x_lc, e1]
  rfl
theorem lshown_ok (k : Nat) (h : AH) (q : Int) (vs : List Int) (i : Nat) (hi : i ≤ vs.length) : GK (k + 1) 24 [pt q vs, .int i] h = .ok (.int (sh vs i)) h := by
  rw [e24]
  refine run_pure (by rfl) ?_
  cases i with
  | zero => simp [b24, sh]
  | succ i =>
    have hp : (0 : Int) < ((i + 1 : Nat) : Int) := by omega
    have e : ((i + 1 : Nat) : Int) - 1 = (i : Int) := by omega
    have hl : i < vs.length := by omega
    have hll : (iv vs).length = vs.length := List.length_map ..
    have a1 : atI (iv vs) (i : Int) = some (.int (sh vs (i + 1))) := by
      unfold atI ixN sh
      rw [if_pos (by omega), if_pos (by omega)]
      show (iv vs)[(i : Int).toNat]? = _
      rw [Int.toNat_natCast, List.getElem?_map, List.getElem?_eq_getElem hl, List.getD_eq_getElem?_getD, List.getElem?_cons_succ, List.getElem?_eq_getElem hl]
      rfl
    simp only [b24, x_ret, x_if, x_tb, x_op, x_var, x_c, x_bind_ok, x_s_ok, List.map_cons, List.map_nil, List.length_cons, List.length_nil, List.cons_append, List.nil_append, Nat.zero_add, Nat.reduceSub, List.replicate, List.getElem?_cons_zero, List.getElem?_cons_succ, o_gt, decide_eq_true hp, if_true, pt1, o_sub, e, o_ixT, a1]
end Pv.K03
end
section
set_option Elab.async false
set_option linter.all false
set_option maxRecDepth 100000
set_option maxHeartbeats 4000000
namespace Pv.K03
open PySem PySem.Spec PyProof.Rows L2
/-! ### which values are points -/
def Sc (v : AV) : Prop := (∃ i : Int, v = .int i) ∨ (∃ b : Bool, v = .bl b) ∨ ∃ s : Str, v = .str s
def whB (v : AV) : Bool := match v with | .int i => decide (-(10 ^ 60) < i) && decide (i < 10 ^ 60) | _ => false
def ge1 (v : AV) : Bool := match v with | .int i => decide (1 ≤ i) | _ => false
theorem whole_sc (k : Nat) (v : AV) (h : AH) (s : Sc v) : GK (k + 1) 5 [v] h = .ok (.bl (whB v)) h := by
  rcases s with ⟨i, e⟩ | ⟨b, e⟩ | ⟨x, e⟩ <;> subst e
  · exact is_whole_int k i h
  · rw [e5]
    refine run_pure (by rfl) ?_
    simp [b5, tyOf, isTy, whB]
  · rw [e5]
    refine run_pure (by rfl) ?_
    simp [b5, tyOf, isTy, whB]
def spB (x0 : AV) (xs : List AV) : Bool := whB x0 && (ge1 x0 && (decide (xs.length ≤ 4) && xs.all geoB))
theorem geo_and (k : Nat) (v : AV) (h : AH) (s : Sc v) : ((GK (k + 1) 5 [v] h).bind fun x h1 => match x with | AV.bl b => if b = true then (geOp v (AV.int 0) h1) else Out.ok (AV.bl false) h1 | _ => Out.bad) = Out.ok (AV.bl (geoB v)) h := by
  rw [whole_sc k v h s]
  rcases s with ⟨i, e⟩ | ⟨b, e⟩ | ⟨x, e⟩ <;> subst e
  · show (if (decide (-(10 ^ 60) < i) && decide (i < 10 ^ 60)) = true then Out.ok (AV.bl (decide (0 ≤ i))) h else Out.ok (AV.bl false) h) = Out.ok (AV.bl ((decide (-(10 ^ 60) < i) && decide (i < 10 ^ 60)) && decide (0 ≤ i))) h
    cases (decide (-(10 ^ 60) < i) && decide (i < 10 ^ 60)) <;> rfl
  · rfl
  · rfl
theorem lc_geo (k : Nat) (h : AH) (x : AV) (x0 : AV) (xs : List AV) (hs : ∀ v ∈ xs, Sc v) (hl : xs.length ≤ 4) : evLc false (eiSeq (evVar 2)) (.nm 3) etYes (evAnd (evCall 1 5 (evCons (evVar 3) evNil)) (evOp geOp (evVar 3) (evC (.int 0)))) [3] (GK (k + 1)) [some x, some x0, some (.tup xs), none] h = .ok (.lst (xs.map fun v => .bl (geoB v))) h := by
  refine lc_map (fun v => .bl (geoB v)) (by simp) (by omega) ?_
  intro v hv c
  refine ⟨_, rfl, ?_, rfl⟩
  have := geo_and k v (h ++ [c]) (hs v hv)
  simp [wipeE]
  exact this
theorem some_sc (k : Nat) (h : AH) (x0 : AV) (xs : List AV) (s0 : Sc x0) (hs : ∀ v ∈ xs, Sc v) : GK (k + 2) 13 [.tup [x0, .tup xs]] h = .ok (.bl (spB x0 xs)) h := by
  rw [e13]
  refine run_pure (by rfl) ?_
  have e1 := whole_sc k x0 h s0
  by_cases hw : whB x0 = true
  · rw [hw] at e1
    obtain ⟨i, ei⟩ : ∃ i, x0 = .int i := by
      rcases s0 with ⟨i, e⟩ | ⟨b, e⟩ | ⟨x, e⟩
      · exact ⟨i, e⟩
      · subst e; cases hw
      · subst e; cases hw
    subst ei
    by_cases h1 : 1 ≤ i
    · by_cases h4 : xs.length ≤ 4
      · have e2 := lc_geo k h (.tup [.int i, .tup xs]) (.int i) xs hs h4
        have h4' : ((xs.length : Nat) : Int) ≤ 4 := by omega
        have r : spB (.int i) xs = (xs.map geoB).all id := by
          simp [spB, hw, ge1, h1, h4]
        rw [r]
        simp [b13, is_pair_tup, e1, h1, tyOf, isTy, h4, h4', -x_lc, e2, opBls_lst, -List.map_map, -List.all_map]
      · have h4' : ¬ ((xs.length : Nat) : Int) ≤ 4 := by omega
        have r : spB (.int i) xs = false := by simp [spB, h4]
        rw [r]
        simp [b13, is_pair_tup, e1, h1, tyOf, isTy, h4, h4']
    · have r : spB (.int i) xs = false := by simp [spB, ge1, h1]
      rw [r]
      simp [b13, is_pair_tup, e1, h1]
  · have hw' : whB x0 = false := by simpa using hw
    rw [hw'] at e1
    have r : spB x0 xs = false := by simp [spB, hw']
    rw [r]
    simp [b13, is_pair_tup, e1]
theorem check_clocks_ok (k : Nat) (h : AH) (n : Nat) (hn : n ≤ 4) : GK (k + 3) 12 [.int n] h = .ok .non h := by
  rw [e12]
  refine (run_nx (env := [some (.int n)]) (h' := h) ?_).trans (by rw [List.take_length])
  have b := between_ok k n 0 4 h (by unfold Wh; omega)
  have c1 : decide ((0 : Int) ≤ n) = true := decide_eq_true (by omega)
  have c2 : decide ((n : Int) ≤ 4) = true := decide_eq_true (by omega)
  rw [c1, c2] at b
  simp [b12, b]
theorem point_sc (k : Nat) (h : AH) (n : Nat) (hn : n ≤ 4) (x0 : AV) (xs : List AV) (s0 : Sc x0) (hs : ∀ v ∈ xs, Sc v) : GK (k + 4) 14 [.int n, .tup [x0, .tup xs]] h = .ok (.bl (spB x0 xs && decide (xs.length = n))) h := by
  rw [e14]
  refine run_pure (by rfl) ?_
  have e1 := check_clocks_ok k h n hn
  have e2 := some_sc (k + 1) h x0 xs s0 hs
  have e3 : decide (((xs.length : Nat) : Int) = n) = decide (xs.length = n) := decide_eq_decide.mpr (by omega)
  cases hb : spB x0 xs
  · rw [hb] at e2
    simp [b14, e1, e2]
  · rw [hb] at e2
    simp [b14, e1, e2, ixB1, e3]
theorem for_ret {tg : Tg} {b : EvS} {G : GT} {xs : List AV} {h : AH} {r : AV} (good : AV → Bool) (I : Env1 → Prop) (st : ∀ v ∈ xs, ∀ env, I env → ∃ env1, setTg tg v env = some env1 ∧ (good v = true → ∃ env', b G env1 h = .nx env' h ∧ I env') ∧ (good v = false → b G env1 h = .ret r h)) :
    ∀ (fuel i : Nat) (env : Env1), xs.length ≤ fuel + i → I env → ((xs.drop i).all good = true → ∃ env', forL (.snap xs) tg b G fuel i env h = .nx env' h ∧ I env') ∧ ((xs.drop i).all good = false → forL (.snap xs) tg b G fuel i env h = .ret r h)
  | fuel, i, env, hl, hI => by
    by_cases hi : i < xs.length
    · have ed : xs.drop i = xs[i] :: xs.drop (i + 1) := List.drop_eq_getElem_cons hi
      obtain ⟨env1, e1, g1, g2⟩ := st xs[i] (List.getElem_mem hi) env hI
      cases fuel with
      | zero => omega
      | succ fuel =>
        by_cases hg : good xs[i] = true
        · obtain ⟨env', e2, I2⟩ := g1 hg
          obtain ⟨a, c⟩ := for_ret good I st fuel (i + 1) env' (by omega) I2
          rw [ed, List.all_cons, hg, Bool.true_and]
          unfold forL
          simp only [snap_at, List.getElem?_eq_getElem hi, e1, e2]
          exact ⟨a, c⟩
        · have hg' : good xs[i] = false := by simpa using hg
          rw [ed, List.all_cons, hg', Bool.false_and]
          unfold forL
          simp only [snap_at, List.getElem?_eq_getElem hi, e1, g2 hg']
          exact ⟨fun z => (by cases z), fun _ => trivial⟩
    · rw [List.drop_eq_nil_of_le (Nat.le_of_not_lt hi)]
      unfold forL
      simp only [snap_at, List.getElem?_eq_none (Nat.le_of_not_lt hi)]
      exact ⟨fun _ => ⟨env, rfl, hI⟩, fun z => (by cases z)⟩
def lgB (v : AV) : Bool := match v with | .int i => decide (0 ≤ i) && decide (i < 10 ^ 60) | _ => false
theorem lpoint_sc (k : Nat) (h : AH) (n : Nat) (hn : n ≤ 4) (x0 : AV) (xs : List AV) (s0 : Sc x0) (hs : ∀ v ∈ xs, Sc v) (hx : xs.length ≤ 10) : GK (k + 1) 31 [.int n, .tup [x0, .tup xs]] h = .ok (.bl (decide (xs.length = n) && ((x0 :: xs).all lgB && ge1 x0))) h := by
  rw [e31]
  refine run_pure (by rfl) ?_
  have e3 : decide (((xs.length : Nat) : Int) = n) = decide (xs.length = n) := decide_eq_decide.mpr (by omega)
  have w1 : powOk 10 60 = true := by decide +kernel
  have sz : 1 + xs.length ≤ sizeLine := line1000 (by omega)
  have ea : ∀ g, addOp (.tup [x0]) (.tup xs) g = .ok (.tup (x0 :: xs)) g := fun g => if_pos sz
  by_cases hl : xs.length = n
  · rw [decide_eq_true hl] at e3 ⊢
    have st : ∀ v ∈ x0 :: xs, ∀ env, (∃ e2, env = [some (.int n), some (.tup [x0, .tup xs]), e2]) → ∃ env1, setTg (.nm 2) v env = some env1 ∧ (lgB v = true → ∃ env', ((esIf (etOr (etOf (evOf1 (isiOp .bl) (evVar 2))) (etOr (etNot (etOf (evOf1 (isiOp .int) (evVar 2)))) (etNot (etB (evChain leOp ltOp (evC (.int 0)) (evVar 2) (evOp powOp (evC (.int 10)) (evC (.int 60)))))))) (esRet (evC (.bl false))) esNx) : EvS) (GK k) env1 h = .nx env' h ∧ (∃ e2, env' = [some (.int n), some (.tup [x0, .tup xs]), e2])) ∧ (lgB v = false → ((esIf (etOr (etOf (evOf1 (isiOp .bl) (evVar 2))) (etOr (etNot (etOf (evOf1 (isiOp .int) (evVar 2)))) (etNot (etB (evChain leOp ltOp (evC (.int 0)) (evVar 2) (evOp powOp (evC (.int 10)) (evC (.int 60)))))))) (esRet (evC (.bl false))) esNx) : EvS) (GK k) env1 h = .ret (.bl false) h) := by
      intro v hv env ⟨e2, he⟩
      subst he
      have sv : Sc v := by
        rcases List.mem_cons.mp hv with e | e
        · rw [e]; exact s0
        · exact hs v e
      refine ⟨_, rfl, fun g => ⟨[some (.int n), some (.tup [x0, .tup xs]), some v], ?_, ⟨_, rfl⟩⟩, fun g => ?_⟩
      · rcases sv with ⟨i, e⟩ | ⟨b, e⟩ | ⟨x, e⟩ <;> subst e
        · have g' := Bool.and_eq_true_iff.mp g
          have g1 := of_decide_eq_true g'.1
          have g2 := of_decide_eq_true g'.2
          simp only [Int.reducePow] at g2
          simp [tyOf, isTy, w1, g1, g2]
        · cases g
        · cases g
      · rcases sv with ⟨i, e⟩ | ⟨b, e⟩ | ⟨x, e⟩ <;> subst e
        · by_cases g1 : 0 ≤ i
          · have g2 : ¬ i < 10 ^ 60 := by
              intro g2
              have : lgB (.int i) = true := by
                show (decide (0 ≤ i) && decide (i < 10 ^ 60)) = true
                rw [decide_eq_true g1, decide_eq_true g2]; rfl
              rw [this] at g; cases g
            simp only [Int.reducePow] at g2
            simp [tyOf, isTy, w1, g1, g2]
          · simp [tyOf, isTy, w1, g1]
        · simp [tyOf, isTy]
        · simp [tyOf, isTy]
    obtain ⟨ga, gb⟩ := for_ret (r := .bl false) lgB (fun env => ∃ e2, env = [some (.int n), some (.tup [x0, .tup xs]), e2]) st (xs.length + 1) 0 [some (.int n), some (.tup [x0, .tup xs]), none] (by simp) ⟨_, rfl⟩
    rw [List.drop_zero] at ga gb
    have hlen : (xs.length + 1 : Nat) = (x0 :: xs).length := rfl
    cases ha : (x0 :: xs).all lgB
    · have gb := gb ha
      simp [b31, tyOf, isTy, ixB0, ixB1, hl, ea, srcLen_snap, -o_addT, -List.all_cons]
      simp only [hl] at gb
      rw [gb]
    · obtain ⟨env', e1, ⟨u2, he⟩⟩ := ga ha
      subst he
      obtain ⟨i, ei⟩ : ∃ i, x0 = .int i := by
        rcases s0 with ⟨i, e⟩ | ⟨b, e⟩ | ⟨x, e⟩
        · exact ⟨i, e⟩
        · subst e; cases ha
        · subst e; cases ha
      subst ei
      simp only [hl] at e1
      simp [b31, tyOf, isTy, ixB0, ixB1, hl, ea, srcLen_snap, -o_addT, -List.all_cons, e1, ge1]
  · rw [decide_eq_false hl] at e3 ⊢
    have hl' : ¬ ((xs.length : Nat) : Int) = n := by omega
    simp [b31, tyOf, isTy, ixB1, hl, hl']
end Pv.K03
end
section
set_option Elab.async false
set_option linter.all false
set_option maxRecDepth 100000
set_option maxHeartbeats 4000000
namespace Pv.K03
open PySem PySem.Spec PyProof.Rows L2
def Alike (n : Nat) (v : AV) : Prop := ∀ k h, ∃ b, GK (k + 4) 14 [.int n, v] h = .ok (.bl b) h ∧ GK (k + 4) 31 [.int n, v] h = .ok (.bl b) h
theorem geo_lg (v : AV) : geoB v = lgB v := by
  cases v with
  | int i =>
    show ((decide (-(10 ^ 60) < i) && decide (i < 10 ^ 60)) && decide (0 ≤ i)) = (decide (0 ≤ i) && decide (i < 10 ^ 60))
    rw [Bool.eq_iff_iff]
    simp only [Bool.and_eq_true, decide_eq_true_eq]
    omega
  | _ => rfl
theorem wh_lg (v : AV) : (whB v && ge1 v) = (lgB v && ge1 v) := by
  cases v with
  | int i =>
    show ((decide (-(10 ^ 60) < i) && decide (i < 10 ^ 60)) && decide (1 ≤ i)) = ((decide (0 ≤ i) && decide (i < 10 ^ 60)) && decide (1 ≤ i))
    rw [Bool.eq_iff_iff]
    simp only [Bool.and_eq_true, decide_eq_true_eq]
    omega
  | _ => rfl
theorem alike_sc {n : Nat} (hn : n ≤ 4) (x0 : AV) (xs : List AV) (s0 : Sc x0) (hs : ∀ v ∈ xs, Sc v) (hx : xs.length ≤ 10) : Alike n (.tup [x0, .tup xs]) := by
  intro k h
  refine ⟨_, point_sc k h n hn x0 xs s0 hs, ?_⟩
  rw [lpoint_sc (k + 3) h n hn x0 xs s0 hs hx]
  congr 2
  have e : xs.all lgB = xs.all geoB := by
    congr 1
    exact (funext geo_lg).symm
  unfold spB
  rw [List.all_cons, e]
  have w := wh_lg x0
  by_cases hl : xs.length = n
  · rw [decide_eq_true hl, decide_eq_true (show xs.length ≤ 4 by omega)]
    revert w
    generalize whB x0 = a
    generalize ge1 x0 = b
    generalize lgB x0 = c
    generalize xs.all geoB = d
    revert a b c d
    decide
  · rw [decide_eq_false hl]
    simp
theorem alike_of {n : Nat} (hn : n ≤ 4) (v : AV) (e1 : ∀ k h, GK (k + 2) 13 [v] h = .ok (.bl false) h) (e2 : ∀ k h, GK (k + 1) 31 [.int n, v] h = .ok (.bl false) h) : Alike n v := by
  intro k h
  refine ⟨false, ?_, e2 (k + 3) h⟩
  rw [e14]
  refine run_pure (by rfl) ?_
  have c := check_clocks_ok k h n hn
  simp [b14, c, e1 (k + 1) h]
theorem pair_no (k : Nat) (h : AH) (v : AV) (e1 : GK (k + 1) 7 [v] h = .ok (.bl false) h) : GK (k + 2) 13 [v] h = .ok (.bl false) h := by
  rw [e13]
  refine run_pure (by rfl) ?_
  simp [b13, e1]
theorem alike_nt {n : Nat} (hn : n ≤ 4) (v : AV) (t : Ty) (e : ∀ h, tyOf h v = some t) (e1 : isTy t .tup = false) : Alike n v := by
  refine alike_of hn v (fun k h => pair_no k h v ?_) fun k h => ?_
  · rw [e7]
    refine run_pure (by rfl) ?_
    simp [b7, e, e1]
  · rw [e31]
    refine run_pure (by rfl) ?_
    simp [b31, e, e1]
theorem alike_len {n : Nat} (hn : n ≤ 4) (xs : List AV) (hl : xs.length ≠ 2) : Alike n (.tup xs) := by
  have hl' : ¬ ((xs.length : Nat) : Int) = 2 := by omega
  refine alike_of hn _ (fun k h => pair_no k h _ ?_) fun k h => ?_
  · rw [e7]
    refine run_pure (by rfl) ?_
    simp [b7, tyOf, isTy, hl']
  · rw [e31]
    refine run_pure (by rfl) ?_
    simp [b31, tyOf, isTy, hl']
theorem alike_pl {n : Nat} (hn : n ≤ 4) (q : Int) (xs : List AV) (hq : 1 ≤ q ∧ q < 10 ^ 60) : Alike n (.tup [.int q, .lst xs]) := by
  have wq : Wh q := by unfold Wh; omega
  refine alike_of hn _ (fun k h => ?_) fun k h => ?_
  · rw [e13]
    refine run_pure (by rfl) ?_
    simp [b13, is_pair_tup, is_whole_ok, wq, hq.1, tyOf, isTy]
  · rw [e31]
    refine run_pure (by rfl) ?_
    simp [b31, tyOf, isTy, ixB1]
/-! ### draws of rows -/
theorem Sp.app {h h' : AH} {n : Nat} {c : Cell} (hn : n < h.length) (p : Sp n (h ++ [c]) h') : ∃ h1, h' = h1 ++ [c] ∧ Sp n h h1 := by
  obtain ⟨a, b, d, e⟩ := p
  refine ⟨h.set n (.lst [.int a, .int b, .int d]), ?_, ⟨a, b, d, rfl⟩⟩
  rw [e, List.set_append_left _ _ hn]
theorem SpAt.app {h : AH} {n : Nat} {c : Cell} (s : SpAt h n) : SpAt (h ++ [c]) n := by
  have hn := s.lt
  obtain ⟨a, b, d, e⟩ := s
  exact ⟨a, b, d, by rw [List.getElem?_append_left hn, e]⟩
theorem Sp.refl {h : AH} {n : Nat} (s : SpAt h n) : Sp n h h := by
  have hl := s.lt
  obtain ⟨a, b, c, e⟩ := s
  obtain ⟨_, e2⟩ := List.getElem?_eq_some_iff.mp e
  exact ⟨a, b, c, by rw [← e2]; simp⟩
/-- a row drawn turn by turn -/
theorem lc_draw {tg : Tg} {tt : EvT} {te : EvE} {G : GT} {env : Env1} {lo : Int} {N n0 : Nat} (hN : N ≤ 1000) (J : Nat → List AV → AH → Prop)
    (st : ∀ i, i < N → ∀ acc h, J i acc h → h.length = n0 → acc.length ≤ i → ∃ env1, setTg tg (.int (lo + i)) env = some env1 ∧ ∃ h1, h1.length = n0 ∧ ((tt G env1 (h ++ [.lst acc]) = .ok false (h1 ++ [.lst acc]) ∧ J (i + 1) acc h1) ∨
      (tt G env1 (h ++ [.lst acc]) = .ok true (h1 ++ [.lst acc]) ∧ ∃ y h2, te G env1 (h1 ++ [.lst acc]) = .ok y (h2 ++ [.lst acc]) ∧ h2.length = n0 ∧ pureA y = true ∧ J (i + 1) (acc ++ [y]) h2))) :
    ∀ (fuel i : Nat) (acc : List AV) (h : AH), N ≤ fuel + i → J i acc h → h.length = n0 → acc.length ≤ i → ∃ acc' h', lcL (.rng lo N) tg tt te G n0 env fuel i (h ++ [.lst acc]) = .ok () (h' ++ [.lst acc']) ∧ h'.length = n0 ∧ (i ≤ N → J N acc' h')
  | fuel, i, acc, h, hf, hJ, hl, ha => by
    by_cases hi : i < N
    · obtain ⟨env1, e1, h1, hl1, r⟩ := st i hi acc h hJ hl ha
      cases fuel with
      | zero => omega
      | succ fuel =>
        rcases r with ⟨e2, J2⟩ | ⟨e2, y, h2, e3, hl2, py, J2⟩
        · obtain ⟨acc', h', e4, hl4, J4⟩ := lc_draw hN J st fuel (i + 1) acc h1 (by omega) J2 hl1 (by omega)
          refine ⟨acc', h', ?_, hl4, fun _ => J4 (by omega)⟩
          unfold lcL
          simp only [srcAt, if_pos hi, e1, e2]
          exact e4
        · obtain ⟨acc', h', e4, hl4, J4⟩ := lc_draw hN J st fuel (i + 1) (acc ++ [y]) h2 (by omega) J2 hl2 (by simp; omega)
          refine ⟨acc', h', ?_, hl4, fun _ => J4 (by omega)⟩
          unfold lcL
          simp only [srcAt, if_pos hi, e1, e2, e3]
          have eg : (h2 ++ [Cell.lst acc])[n0]? = some (.lst acc) := by
            rw [← hl2]
            exact List.getElem?_concat_length
          simp only [eg, py, true_and]
          rw [if_pos (by omega), ← hl2, List.set_append_right _ _ (Nat.le_refl _), Nat.sub_self, List.set_cons_zero, hl2]
          exact e4
    · refine ⟨acc, h, ?_, hl, fun hi' => ?_⟩
      · unfold lcL
        simp only [srcAt, if_neg hi]
      · rw [show N = i by omega]; exact hJ
/-- so many numbers below a bound -/
theorem draw_row (k : Nat) (n : Nat) (T : Int) (hT : TOk T) (N : Nat) (hN : N ≤ 4) (at0 : Nat) (te : EvE) (own : List Nat) (cell : Bool) (s0 : EvI) (env : Env1) (h : AH) (s : SpAt h n)
    (es : s0 (GK (k + 1)) env h = .ok (.rng 0 N) h) (hte : ∀ x g, te (GK (k + 1)) ((wipeE env own).set at0 (some x)) g = GK (k + 1) 22 [.ref n, .int T] g) :
    ∃ (vs : List Int) (h' : AH), vs.length = N ∧ (∀ v ∈ vs, 0 ≤ v ∧ v < T) ∧ Sp n h h' ∧ evLc cell s0 (.nm at0) etYes te own (GK (k + 1)) env h = (if cell = true then .ok (.ref h.length) (h' ++ [.lst (iv vs)]) else .ok (.lst (iv vs)) h') := by
  let J : Nat → List AV → AH → Prop := fun i acc g => ∃ vs, acc = iv vs ∧ vs.length = i ∧ (∀ v ∈ vs, 0 ≤ v ∧ v < T) ∧ Sp n h g
  obtain ⟨acc', h', e1, hl, hJ⟩ := lc_draw (tg := .nm at0) (tt := etYes) (te := te) (G := GK (k + 1)) (env := wipeE env own) (lo := 0) (N := N) (n0 := h.length) (by omega) J (by
    intro i hi acc g ⟨vs, ea, hv, hb, sp⟩ hl _
    subst ea
    refine ⟨_, rfl, g, hl, .inr ⟨rfl, ?_⟩⟩
    obtain ⟨r, g', r0, r1, e, sp'⟩ := spin_ok k (g ++ [.lst (iv vs)]) n T (sp.at s).app hT
    obtain ⟨g1, eg, sp1⟩ := sp'.app (sp.at s).lt
    subst eg
    refine ⟨.int r, g1, (hte _ _).trans e, by rw [sp1.len, hl], rfl, vs ++ [r], by simp, by simp [hv], ?_, sp.trans sp1⟩
    intro v hv'
    rcases List.mem_append.mp hv' with z | z
    · exact hb v z
    · rw [List.mem_singleton.mp z]; exact ⟨r0, r1⟩) N 0 [] h (by omega) ⟨[], rfl, rfl, fun v z => (by cases z), Sp.refl s⟩ rfl (Nat.le_refl _)
  obtain ⟨vs, ea, hv, hb, sp⟩ := hJ (Nat.zero_le _)
  subst ea
  refine ⟨vs, h', hv, hb, sp, ?_⟩
  simp only [evLc, es, x_bind_ok, srcLen]
  rw [e1, x_bind_ok]
  unfold lcFin
  cases cell
  · simp [← hl]
  · rfl
end Pv.K03
end
section
set_option Elab.async false
set_option linter.all false
set_option maxRecDepth 100000
set_option maxHeartbeats 4000000
namespace Pv.K03
open PySem PySem.Spec PyProof.Rows L2
/-! ### points and pauses drawn -/
theorem among_ref (k : Nat) (h : AH) (n m : Nat) (xs : List AV) (s : SpAt h n) (hm : h[m]? = some (.lst xs)) (hne : n ≠ m) (h0 : 0 < xs.length) (h1 : xs.length ≤ 1000) (p : pureL xs = true) : ∃ (v : AV) (h' : AH), v ∈ xs ∧ GK (k + 2) 23 [.ref n, .ref m] h = .ok v h' ∧ Sp n h h' := by
  obtain ⟨r, h', r0, r1, e, sp⟩ := spin_ok k h n xs.length s (TOk.small (by omega) (by omega))
  obtain ⟨v, ev, mv⟩ := atI_some r0 r1
  refine ⟨v, h', mv, ?_, sp⟩
  rw [e23]
  refine run_cell (pure_mem p mv) sp.len ?_
  have hm' : h'[m]? = some (.lst xs) := by rw [sp.other hne]; exact hm
  have ol : opLen [.ref m] h = .ok (.int xs.length) h := by simp [opLen, hm]
  simp [b23, ol, e, hm', ev]
def Dr (N : Nat) (q : Int) (vs : List Int) : Prop := (1 ≤ q ∧ q ≤ 10 ^ 20) ∧ vs.length = N ∧ ∀ v ∈ vs, 0 ≤ v ∧ v < 10 ^ 22
theorem rng_ok {N : Nat} (hN : N ≤ 1000) (h : AH) : opRng1 [.int (N : Int)] h = .ok (.rng 0 N) h := by
  rw [o_rng1, if_pos ⟨by omega, by omega⟩, Int.toNat_natCast]
theorem point_drawn_ok (k : Nat) (h : AH) (n N : Nat) (s : SpAt h n) (hN : N ≤ 4) : ∃ (q : Int) (vs : List Int) (h' : AH), Dr N q vs ∧ GK (k + 3) 27 [.ref n, .int N, .int 5] h = .ok (pt q vs) h' ∧ Sp n h h' := by
  obtain ⟨v, h1, mv, e1, s1⟩ := among_ok k h n [.int 1, .int 1, .int 2, .int 2, .int 3, .int 4, .int 6, .int 12] s (by simp) (by simp) (by rfl)
  obtain ⟨q, ev, hq⟩ : ∃ q : Int, v = .int q ∧ 1 ≤ q ∧ q ≤ 12 := by
    simp only [List.mem_cons, List.not_mem_nil, or_false] at mv
    rcases mv with e | e | e | e | e | e | e | e <;> subst e <;> exact ⟨_, rfl, by omega, by omega⟩
  subst ev
  have hn1 : n < h1.length := (s1.at s).lt
  have m5 : mulOk 5 q = true := mulL (by decide) (by decide)
  obtain ⟨vs, h2, hl, hb, s2, e2⟩ := draw_row (k + 1) n (5 * q + 2) (TOk.small (by omega) (by omega)) N hN 5 (evCall 2 22 (evCons (evVar 0) (evCons (evOp addOp (evOp mulOp (evVar 2) (evVar 3)) (evC (.int 2))) evNil))) [5] true (eiOf opRng1 (evCons (evVar 1) evNil)) [some (.ref n), some (.int N), some (.int 5), some (.int q), none, none] h1 (s1.at s) (by simp [-o_rng1, rng_ok (show N ≤ 1000 by omega)]) (fun x g => by simp [wipeE, m5])
  rw [if_pos rfl] at e2
  have p2 := s1.trans s2
  have l2 : h2.length = h1.length := s2.len
  have at2 : SpAt (h2 ++ [.lst (iv vs)]) n := (p2.at s).app
  have g2 : (h2 ++ [Cell.lst (iv vs)])[h1.length]? = some (.lst (iv vs)) := by rw [← l2]; exact List.getElem?_concat_length
  have fin : ∀ (ws : List Int) (h3 : AH) (g : AH), g = h3 ++ [.lst (iv ws)] → h3.length = h.length → GK (k + 3) 27 [.ref n, .int N, .int 5] h = finD false h.length (pt q ws) g → GK (k + 3) 27 [.ref n, .int N, .int 5] h = .ok (pt q ws) h3 := by
    intro ws h3 g eg hl3 e
    rw [e, f_pure (pure_pt _ _), eg, ← hl3, take_app_len]
  have tup : ∀ (ws : List Int) (h3 : AH), h3.length = h1.length → opTuple [.ref h1.length] (h3 ++ [.lst (iv ws)]) = .ok (.tup (iv ws)) (h3 ++ [.lst (iv ws)]) := by
    intro ws h3 hl3
    have : (h3 ++ [Cell.lst (iv ws)])[h1.length]? = some (.lst (iv ws)) := by rw [← hl3]; exact List.getElem?_concat_length
    rw [o_tuple, o_itR, this]
  have drv : ∀ v ∈ vs, 0 ≤ v ∧ v < 10 ^ 22 := fun v hv => by have := hb v hv; omega
  by_cases hN1 : 1 < N
  · have hN1' : (1 : Int) < N := by omega
    obtain ⟨r3, g3, a3, b3, e3, s3⟩ := spin_ok (k + 1) (h2 ++ [.lst (iv vs)]) n 3 at2 (TOk.small (by omega) (by omega))
    obtain ⟨h3, eg3, s3'⟩ := s3.app (p2.at s).lt
    subst eg3
    have p3 := p2.trans s3'
    by_cases hr : r3 = 0
    · subst hr
      have at3 : SpAt (h3 ++ [.lst (iv vs)]) n := (p3.at s).app
      have l3 : h3.length = h1.length := by rw [s3'.len, l2]
      have g3' : (h3 ++ [Cell.lst (iv vs)])[h1.length]? = some (.lst (iv vs)) := by rw [← l3]; exact List.getElem?_concat_length
      obtain ⟨w, g4, mw, e4, s4⟩ := among_ref k (h3 ++ [.lst (iv vs)]) n h1.length (iv vs) at3 g3' (Nat.ne_of_lt hn1) (by simp; omega) (by simp; omega) (pure_iv vs)
      obtain ⟨h4, eg4, s4'⟩ := s4.app (p3.at s).lt
      subst eg4
      have p4 := p3.trans s4'
      obtain ⟨y, my, ey⟩ := List.mem_map.mp mw
      subst ey
      have at4 : SpAt (h4 ++ [.lst (iv vs)]) n := (p4.at s).app
      obtain ⟨r5, g5, a5, b5, e5, s5⟩ := spin_ok (k + 1) (h4 ++ [.lst (iv vs)]) n N at4 (TOk.small (by omega) (by omega))
      obtain ⟨h5, eg5, s5'⟩ := s5.app (p4.at s).lt
      subst eg5
      have p5 := p4.trans s5'
      have l5 : h5.length = h1.length := by rw [s5'.len, s4'.len, l3]
      have g5' : (h5 ++ [Cell.lst (iv vs)])[h1.length]? = some (.lst (iv vs)) := by rw [← l5]; exact List.getElem?_concat_length
      have hix : ixN (iv vs).length r5 = some r5.toNat := by
        unfold ixN
        rw [if_pos a5, if_pos (by rw [List.length_map]; omega)]
      have m0 : 0 ≤ y % q := Int.emod_nonneg _ (by omega)
      have m1 : y % q < q := Int.emod_lt_of_pos _ (by omega)
      have st : setOp (.ref h1.length) (.int r5) (.int (y % q)) (h5 ++ [.lst (iv vs)]) = .ok () (h5 ++ [.lst (iv (vs.set r5.toNat (y % q)))]) := by
        rw [o_set, g5']
        simp only [hix]
        rw [if_pos (show pureA (.int (y % q)) = true from rfl), ← l5, List.set_append_right _ _ (Nat.le_refl _), Nat.sub_self, List.set_cons_zero, show iv (vs.set r5.toNat (y % q)) = (iv vs).set r5.toNat (.int (y % q)) from List.map_set]
      refine ⟨q, vs.set r5.toNat (y % q), h5, ⟨⟨hq.1, by omega⟩, by rw [List.length_set, hl], fun v hv => ?_⟩, ?_, p5⟩
      · rcases List.mem_or_eq_of_mem_set hv with z | z
        · exact drv v z
        · rw [z]; omega
      · refine fin _ h5 _ rfl p5.len ?_
        rw [e27]
        refine run_eq ?_
        have t5 := tup (vs.set r5.toNat (y % q)) h5 l5
        have hq0 : 0 < q := by omega
        simp [b27, e1, -x_lc, e2, hN1, hN1', e3, e4, e5, hq0, st, t5, -o_tuple, -o_set, -List.map_set]
        rfl
    · refine ⟨q, vs, h3, ⟨⟨hq.1, by omega⟩, hl, drv⟩, ?_, p3⟩
      refine fin _ h3 _ rfl p3.len ?_
      rw [e27]
      refine run_eq ?_
      have t5 := tup vs h3 (by rw [s3'.len, l2])
      simp [b27, e1, -x_lc, e2, hN1, hN1', e3, hr, t5, -o_tuple]
      rfl
  · have hN1' : ¬ (1 : Int) < N := by omega
    refine ⟨q, vs, h2, ⟨⟨hq.1, by omega⟩, hl, drv⟩, ?_, p2⟩
    refine fin _ h2 _ rfl p2.len ?_
    rw [e27]
    refine run_eq ?_
    have t5 := tup vs h2 l2
    simp [b27, e1, -x_lc, e2, hN1, hN1', t5, -o_tuple]
    rfl
def DrP (p b : Int) : Prop := (0 ≤ p ∧ p ≤ 20) ∧ 1 ≤ b ∧ b ≤ 4
theorem pause_drawn_ok (k : Nat) (h : AH) (n : Nat) (s : SpAt h n) : ∃ (p b : Int) (h' : AH), DrP p b ∧ GK (k + 3) 28 [.ref n, .int 5] h = .ok (fr p b) h' ∧ Sp n h h' := by
  obtain ⟨v, h1, mv, e1, s1⟩ := among_ok k h n [.int 1, .int 1, .int 2, .int 3, .int 4] s (by simp) (by simp) (by rfl)
  obtain ⟨q, ev, hq⟩ : ∃ q : Int, v = .int q ∧ 1 ≤ q ∧ q ≤ 4 := by
    simp only [List.mem_cons, List.not_mem_nil, or_false] at mv
    rcases mv with e | e | e | e | e <;> subst e <;> exact ⟨_, rfl, by omega, by omega⟩
  subst ev
  have m5 : mulOk q 5 = true := mulR (by decide) (by decide)
  have m2 : mulOk 2 q = true := mulL (by decide) (by decide)
  obtain ⟨r2, h2, a2, b2, e2, s2⟩ := spin_ok (k + 1) h1 n (q * 5 + 1) (s1.at s) (TOk.small (by omega) (by omega))
  have p2 := s1.trans s2
  obtain ⟨r3, h3, a3, b3, e3, s3⟩ := spin_ok (k + 1) h2 n (2 * q) (p2.at s) (TOk.small (by omega) (by omega))
  have p3 := p2.trans s3
  obtain ⟨w, h4, mw, e4, s4⟩ := among_ok k h3 n [.int 0, .int r2, .int r3] (p3.at s) (by simp) (by simp) (by rfl)
  have p4 := p3.trans s4
  obtain ⟨p, ew, hp⟩ : ∃ p : Int, w = .int p ∧ 0 ≤ p ∧ p ≤ 20 := by
    simp only [List.mem_cons, List.not_mem_nil, or_false] at mw
    rcases mw with e | e | e <;> subst e <;> exact ⟨_, rfl, by omega, by omega⟩
  subst ew
  refine ⟨p, q, h4, ⟨hp, hq⟩, ?_, p4⟩
  rw [e28]
  refine run_cell (by rfl) p4.len ?_
  simp [b28, e1, m5, m2, e2, e3, e4, fr]
theorem some_point_drawn (k : Nat) (h : AH) (n N : Nat) (s : SpAt h n) (hN : N ≤ 4) : ∃ (q : Int) (vs : List Int) (h' : AH), Dr N q vs ∧ GK (k + 4) 32 [.ref n, .int N] h = .ok (pt q vs) h' ∧ Sp n h h' := by
  obtain ⟨r, h1, a1, b1, e1, s1⟩ := spin_ok (k + 2) h n 5 s (TOk.small (by omega) (by omega))
  by_cases hr : 0 < r
  · obtain ⟨q, vs, h2, d, e2, s2⟩ := point_drawn_ok k h1 n N (s1.at s) hN
    have p2 := s1.trans s2
    refine ⟨q, vs, h2, d, ?_, p2⟩
    rw [e32]
    refine run_cell (pure_pt _ _) p2.len ?_
    simp [b32, e1, hr, e2]
  · obtain ⟨t, h2, a2, b2, e2, s2⟩ := spin_ok (k + 2) h1 n 100000000000000000000 (s1.at s) (TOk.big (by omega) (by omega))
    have p2 := s1.trans s2
    have w2 : powOk 10 22 = true := by decide +kernel
    have w1 : powOk 10 20 = true := by decide +kernel
    obtain ⟨vs, h3, hl, hb, s3, e3⟩ := draw_row (k + 2) n 10000000000000000000000 (TOk.big (by omega) (by omega)) N hN 3 (evCall 2 22 (evCons (evVar 0) (evCons (evOp powOp (evC (.int 10)) (evC (.int 22))) evNil))) [3] false (eiOf opRng1 (evCons (evVar 1) evNil)) [some (.ref n), some (.int N), some (.int (1 + t)), none] h2 (p2.at s) (by simp [-o_rng1, rng_ok (show N ≤ 1000 by omega)]) (fun x g => by simp [wipeE, w2])
    rw [if_neg (by decide)] at e3
    have p3 := p2.trans s3
    refine ⟨1 + t, vs, h3, ⟨by omega, hl, fun v hv => by have := hb v hv; omega⟩, ?_, p3⟩
    rw [e32]
    refine run_cell (pure_pt _ _) p3.len ?_
    simp [b32, e1, hr, w1, e2, -x_lc, e3]
    rfl
end Pv.K03
end
section
set_option Elab.async false
set_option linter.all false
set_option maxRecDepth 100000
set_option maxHeartbeats 4000000
namespace Pv.K03
open PySem PySem.Spec PyProof.Rows L2
/-! ### what is to be shown of a drawn point -/
theorem lpt_idem {q : Int} {W : List Int} (h : 0 < q) : lpt (lpQ q W) (lpV q W) = lpt q W := by
  obtain ⟨e1, e2⟩ := lp_back (q := q) (vs := W)
  have := lpt_scale (k := gcdL q W) (q := lpQ q W) (vs := lpV q W) (gcdL_pos W h)
  rw [e1, e2] at this
  exact this.symm
theorem later7 {q : Int} {vs : List Int} : lpt (q * 7) (latV q vs 0 7) = lpt q vs := by
  have e : latV q vs 0 7 = vs.map fun v => 7 * v := by
    unfold latV
    exact List.map_congr_left fun v _ => by omega
  rw [e, Int.mul_comm q 7]
  exact lpt_scale (by decide)
theorem sh_at {vs : List Int} {i : Nat} (hi : i < vs.length) : sh vs (i + 1) = vs[i] := by
  unfold sh
  rw [List.getD_eq_getElem?_getD, List.getElem?_cons_succ, List.getElem?_eq_getElem hi]
  rfl
theorem sh_lat {q p b : Int} {vs : List Int} {i : Nat} (h0 : i ≠ 0) (hi : i ≤ vs.length) : sh (latV q vs p b) i = sh vs i * b + p * q := by
  obtain ⟨j, e⟩ := Nat.exists_eq_succ_of_ne_zero h0
  subst e
  have hl : (latV q vs p b).length = vs.length := List.length_map ..
  rw [sh_at (show j < (latV q vs p b).length by omega), sh_at (show j < vs.length by omega)]
  unfold latV
  rw [List.getElem_map]
theorem sh_lp {q : Int} {vs : List Int} {i : Nat} (hi : i ≤ vs.length) : gcdL q vs * sh (lpV q vs) i = sh vs i := by
  cases i with
  | zero =>
    have e1 : sh (lpV q vs) 0 = 0 := rfl
    have e2 : sh vs 0 = 0 := rfl
    rw [e1, e2, Int.mul_zero]
  | succ j =>
    have hl : (lpV q vs).length = vs.length := lpV_len
    rw [sh_at (show j < (lpV q vs).length by omega), sh_at (show j < vs.length by omega)]
    unfold lpV
    rw [List.getElem_map]
    exact Int.mul_ediv_cancel' ((gcdL_dvd vs q).2 _ (List.getElem_mem _))
theorem shown_behind {q p b : Int} {vs : List Int} {i j : Nat} (hq : 0 < q) (hb : 0 < b) (hi0 : i ≠ 0) (hj0 : j ≠ 0) (hi : i ≤ vs.length) (hj : j ≤ vs.length) :
    lt2 (sh (lpV (q * b) (latV q vs p b)) i - sh (lpV (q * b) (latV q vs p b)) j) (lpQ (q * b) (latV q vs p b)) = lt2 (sh vs i - sh vs j) q := by
  have hl : (latV q vs p b).length = vs.length := List.length_map ..
  have g := gcdL_pos (latV q vs p b) (Int.mul_pos hq hb)
  rw [← lt2_scale g, Int.mul_sub, sh_lp (by omega), sh_lp (by omega), (lp_back (q := q * b) (vs := latV q vs p b)).1, sh_lat hi0 hi, sh_lat hj0 hj]
  have e : sh vs i * b + p * q - (sh vs j * b + p * q) = b * (sh vs i - sh vs j) := by
    rw [Int.mul_sub, Int.mul_comm b, Int.mul_comm b]
    omega
  rw [e, Int.mul_comm q b, lt2_scale hb]
theorem same_wide {q : Int} {vs : List Int} : lpQ q vs = lpQ (q * 3) (vs.map fun v => 3 * v) ∧ lpV q vs = lpV (q * 3) (vs.map fun v => 3 * v) := by
  rw [Int.mul_comm q 3, lpQ_scale (by decide), lpV_scale (by decide)]
  exact ⟨rfl, rfl⟩
theorem same_far {q : Int} {vs : List Int} (hq : 0 < q) : (lpQ (q * 3) (vs.map fun v => 3 * v) = lpQ q (vs.map fun v => v + 1) ∧ lpV (q * 3) (vs.map fun v => 3 * v) = lpV q (vs.map fun v => v + 1)) ↔ vs.length = 0 := by
  rw [← same_wide.1, ← same_wide.2]
  constructor
  · intro ⟨e1, e2⟩
    cases vs with
    | nil => rfl
    | cons v vs =>
      exfalso
      have b1 := (lp_back (q := q) (vs := v :: vs)).1
      have b2 := (lp_back (q := q) (vs := (v :: vs).map fun v => v + 1)).1
      rw [← e1] at b2
      have hp := lpQ_pos (q := q) (vs := v :: vs) hq
      have eg : gcdL q (v :: vs) = gcdL q ((v :: vs).map fun v => v + 1) := Int.eq_of_mul_eq_mul_right (by omega) (b1.trans b2.symm)
      have d1 : gcdL q (v :: vs) * (v / gcdL q (v :: vs)) = v := Int.mul_ediv_cancel' ((gcdL_dvd (v :: vs) q).2 v (List.mem_cons_self ..))
      have d2 : gcdL q ((v :: vs).map fun v => v + 1) * ((v + 1) / gcdL q ((v :: vs).map fun v => v + 1)) = v + 1 := Int.mul_ediv_cancel' ((gcdL_dvd ((v :: vs).map fun v => v + 1) q).2 (v + 1) (List.mem_cons_self ..))
      have hh : v / gcdL q (v :: vs) = (v + 1) / gcdL q ((v :: vs).map fun v => v + 1) := by
        have := congrArg List.head? e2
        simpa [lpV] using this
      rw [hh, eg] at d1
      omega
  · intro h
    have : vs = [] := List.eq_nil_of_length_eq_zero h
    subst this
    exact ⟨rfl, rfl⟩
/-! clocks drawn, ascending -/
theorem clocks_drawn (k : Nat) (h : AH) (n N : Nat) (s : SpAt h n) (hN : N ≤ 4) (env : Env1) (he : env[0]? = some (some (.ref n))) (hl : 16 < env.length) (he1 : env[1]? = some (some (.int N))) :
    ∃ (cs : List Int) (h' : AH), Asc N cs ∧ Sp n h h' ∧ evLc false (eiOf opRng2 (evCons (evC (.int 1)) (evCons (evOp addOp (evVar 1) (evC (.int 1))) evNil))) (.nm 16) (etB (evOp eqOp (evCall 2 22 (evCons (evVar 0) (evCons (evC (.int 2)) evNil))) (evC (.int 0)))) (evVar 16) [16] (GK (k + 1)) env h = .ok (.lst (iv cs)) h' := by
  let J : Nat → List AV → AH → Prop := fun i acc g => ∃ cs : List Int, acc = iv cs ∧ cs.Pairwise (· < ·) ∧ (∀ c ∈ cs, 1 ≤ c ∧ c ≤ i) ∧ cs.length ≤ i ∧ Sp n h g
  have ev : ∀ x, ((wipeE env [16]).set 16 (some x))[0]? = some (some (.ref n)) := fun x => by
    unfold wipeE wipeE
    rw [List.getElem?_set_ne (by decide), List.getElem?_set_ne (by decide), he]
  have ev16 : ∀ x, ((wipeE env [16]).set 16 (some x))[16]? = some (some x) := fun x => by
    rw [List.getElem?_set_self]
    unfold wipeE wipeE
    rw [List.length_set]
    exact hl
  obtain ⟨acc', h', e1, hl', hJ⟩ := lc_draw (tg := .nm 16) (tt := etB (evOp eqOp (evCall 2 22 (evCons (evVar 0) (evCons (evC (.int 2)) evNil))) (evC (.int 0)))) (te := evVar 16) (G := GK (k + 1)) (env := wipeE env [16]) (lo := 1) (N := N) (n0 := h.length) (by omega) J (by
    intro i hi acc g ⟨cs, ea, hp, hb, hcl, sp⟩ hgl _
    subst ea
    refine ⟨_, rfl, ?_⟩
    obtain ⟨r, g', r0, r1, e, sp'⟩ := spin_ok k (g ++ [.lst (iv cs)]) n 2 (sp.at s).app (TOk.small (by omega) (by omega))
    obtain ⟨g1, eg, sp1⟩ := sp'.app (sp.at s).lt
    subst eg
    refine ⟨g1, by rw [sp1.len, hgl], ?_⟩
    by_cases hr : r = 0
    · subst hr
      refine .inr ⟨by simp [ev, e], .int (1 + i), g1, by simp [ev16], by rw [sp1.len, hgl], rfl, cs ++ [(1 + (i : Int))], by simp, ?_, ?_, by simp; omega, sp.trans sp1⟩
      · rw [List.pairwise_append]
        refine ⟨hp, List.pairwise_singleton _ _, fun a ha b hb' => ?_⟩
        rw [List.mem_singleton.mp hb']
        have := hb a ha
        omega
      · intro c hc
        rcases List.mem_append.mp hc with z | z
        · have := hb c z; omega
        · rw [List.mem_singleton.mp z]; omega
    · exact .inl ⟨by simp [ev, e, hr], cs, rfl, hp, fun c hc => by have := hb c hc; omega, by omega, sp.trans sp1⟩) N 0 [] h (by omega) ⟨[], rfl, .nil, fun v z => (by cases z), Nat.le_refl _, Sp.refl s⟩ rfl (Nat.le_refl _)
  obtain ⟨cs, ea, hp, hb, hcl, sp⟩ := hJ (Nat.zero_le _)
  subst ea
  refine ⟨cs, h', ⟨hp, hb, by omega⟩, sp, ?_⟩
  have es : eiOf opRng2 (evCons (evC (.int 1)) (evCons (evOp addOp (evVar 1) (evC (.int 1))) evNil)) (GK (k + 1)) env h = .ok (.rng 1 N) h := by
    have t : ((N : Int) + 1 - 1).toNat = N := by omega
    simp only [x_iof, x_cons, x_c, x_op, x_var, he1, x_nil, x_bind_ok, o_add, o_rng2]
    rw [if_pos (by omega), t]
  simp only [evLc, es, x_bind_ok, srcLen]
  rw [e1, x_bind_ok]
  unfold lcFin
  simp [← hl']
end Pv.K03
end
section
set_option Elab.async false
set_option linter.all false
set_option maxRecDepth 100000
set_option maxHeartbeats 4000000
namespace Pv.K03
open PySem PySem.Spec PyProof.Rows L2
/-! ### one turn of the law -/
def E33 (n N : Nat) (P Pa Mo B Bo So : AV) (e8 e12 e13 e14 e15 : Option AV) : Env1 := [some (.ref n), some (.int N), some P, some Pa, some Mo, some B, some Bo, some So, e8, none, none, none, e12, e13, e14, e15, none, none]
theorem eq_lt2 (h : AH) (a b c d : Int) : eqB h (lt2 a b) (lt2 c d) = some (decide (a / g2 a b = c / g2 c d ∧ b / g2 a b = d / g2 c d)) := eq_fr h _ _ _ _
theorem body_sh (k : Nat) (h : AH) (n N : Nat) (q : Int) (vs : List Int) (p b : Int) (Pa Mo Bo So : AV) (i j : Nat) (hd : Dr N q vs) (hN : N ≤ 4) (hp : DrP p b) (hB : PtOk (lpQ (q * b) (latV q vs p b)) (lpV (q * b) (latV q vs p b))) (hi : i ≤ N) (hj : j ≤ N) (e13 e14 e15 : Option AV) :
    ∃ u13 u14 u15, ((esSeq (esSet (.nm 13) (evCall 3 20 (evCons (evVar 2) (evCons (evVar 8) (evCons (evVar 12) evNil))))) (esSeq (esSet (.nm 14) (evOp subOp (evCall 2 24 (evCons (evVar 2) (evCons (evVar 8) evNil))) (evCall 2 24 (evCons (evVar 2) (evCons (evVar 12) evNil))))) (esSeq (esSet (.nm 15) (evCall 1 29 (evCons (evOf opTup (evCons (evOp ixOp (evVar 2) (evC (.int 0))) (evCons (evOf opAbs (evCons (evVar 14) evNil)) evNil))) evNil))) (esSeq (esIf (etB (evOp neOp (evVar 13) (evOf opTup (evCons (evOp fdivOp (evVar 14) (evVar 15)) (evCons (evOp fdivOp (evOp ixOp (evVar 2) (evC (.int 0))) (evVar 15)) evNil))))) (esRet (evC (.bl false))) esNx) (esIf (etAnd (etB (evOp neOp (evCall 3 20 (evCons (evVar 5) (evCons (evVar 8) (evCons (evVar 12) evNil)))) (evVar 13))) (etB (evOp gtOp (evOp mulOp (evVar 8) (evVar 12)) (evC (.int 0))))) (esRet (evC (.bl false))) esNx))))) : EvS) (GK (k + 5)) (E33 n N (pt q vs) Pa Mo (lpt (q * b) (latV q vs p b)) Bo So (some (.int i)) (some (.int j)) e13 e14 e15) h = .nx (E33 n N (pt q vs) Pa Mo (lpt (q * b) (latV q vs p b)) Bo So (some (.int i)) (some (.int j)) u13 u14 u15) h := by
  obtain ⟨d1, d2, d3⟩ := hd
  have pv : PtOk q vs := ⟨⟨d1.1, by omega⟩, by omega, fun v hv => by have := d3 v hv; omega⟩
  have lB : (lpV (q * b) (latV q vs p b)).length = N := by rw [lpV_len]; unfold latV; rw [List.length_map, d2]
  have t1 := shown_ok (k + 1) h q vs i j pv (by omega) (by omega)
  have t2 := lshown_ok (k + 4) h q vs i (by omega)
  have t3 := lshown_ok (k + 4) h q vs j (by omega)
  have t4 : GK (k + 5) 20 [lpt (q * b) (latV q vs p b), .int i, .int j] h = .ok (lt2 (sh (lpV (q * b) (latV q vs p b)) i - sh (lpV (q * b) (latV q vs p b)) j) (lpQ (q * b) (latV q vs p b))) h := shown_ok (k + 1) h _ _ i j hB (by omega) (by omega)
  have shb : ∀ i : Nat, i ≤ N → 0 ≤ sh vs i ∧ sh vs i < 10 ^ 22 := by
    intro i hi
    cases i with
    | zero => exact ⟨Int.le_refl _, by show (0 : Int) < 10 ^ 22; decide⟩
    | succ i =>
      rw [sh_at (show i < vs.length by omega)]
      exact d3 _ (List.getElem_mem _)
  have bi := shb i hi
  have bj := shb j hj
  generalize hdd : sh vs i - sh vs j = d at *
  obtain ⟨a, ea⟩ : ∃ a : Int, (if d < 0 then -d else d) = a := ⟨_, rfl⟩
  have ab : 0 ≤ a ∧ a < 10 ^ 60 := by
    rw [← ea]
    split <;> omega
  have t5 : GK (k + 5) 29 [.tup [.int q, .int a]] h = .ok (.int (g2 q a)) h := shared_ok (k + 4) h q [a] (by omega) (by simp) (fun v hv => by rw [List.mem_singleton.mp hv]; exact ab)
  have gp : 0 < g2 q a := g2_pos (by omega)
  have gl : g2 q a ≤ q := Int.le_of_dvd (by omega) (g2_dvd_left q a)
  have dv : divOk (g2 q a) = true := div_ok gp (by unfold Wh; omega)
  have eg : g2 d q = g2 q a := by rw [← ea, ← g2_abs, g2_comm]
  have q1 : ∀ g, eqB g (lt2 d q) (.tup [.int (d / g2 q a), .int (q / g2 q a)]) = some true := fun g => by
    have := eq_fr g (d / g2 d q) (q / g2 d q) (d / g2 q a) (q / g2 q a)
    rw [eg] at this
    simp only [and_self, decide_true] at this
    rw [← eg] at this ⊢
    exact this
  have m1 : mulOk (i : Int) (j : Int) = true := mulL (by omega) (by omega)
  by_cases hij : i = 0 ∨ j = 0
  · have z : (i : Int) * (j : Int) = 0 := by
      rcases hij with e | e <;> subst e <;> simp
    obtain ⟨x, ex⟩ : ∃ x, eqB h (lt2 (sh (lpV (q * b) (latV q vs p b)) i - sh (lpV (q * b) (latV q vs p b)) j) (lpQ (q * b) (latV q vs p b))) (lt2 d q) = some x := ⟨_, eq_lt2 h _ _ _ _⟩
    refine ⟨some (lt2 d q), some (.int d), some (.int (g2 q a)), ?_⟩
    unfold E33
    cases x
    · simp [t1, t2, t3, hdd, ea, pt0, t5, dv, q1, t4, ex, m1, z]
    · simp [t1, t2, t3, hdd, ea, pt0, t5, dv, q1, t4, ex]
  · have hb := shown_behind (q := q) (p := p) (b := b) (vs := vs) (i := i) (j := j) (by omega) (by have := hp.2; omega) (by omega) (by omega) (by omega) (by omega)
    rw [hdd] at hb
    rw [hb] at t4
    have ex : eqB h (lt2 d q) (lt2 d q) = some true := by
      rw [eq_lt2]
      simp
    refine ⟨some (lt2 d q), some (.int d), some (.int (g2 q a)), ?_⟩
    unfold E33
    simp [t1, t2, t3, hdd, ea, pt0, t5, dv, q1, t4, ex]
end Pv.K03
end
section
set_option Elab.async false
set_option linter.all false
set_option maxRecDepth 100000
set_option maxHeartbeats 4000000
namespace Pv.K03
open PySem PySem.Spec PyProof.Rows L2
theorem srcLen_rng {lo : Int} {n : Nat} {h : AH} : srcLen (.rng lo n) h = n := rfl
theorem rng_s (N : Nat) (hN : N ≤ 4) (h : AH) : opRng1 [.int ((N : Int) + 1)] h = .ok (.rng 0 (N + 1)) h := by
  rw [o_rng1, if_pos ⟨by omega, by omega⟩, show ((N : Int) + 1).toNat = N + 1 by omega]
theorem loops_ok (k : Nat) (h : AH) (n N : Nat) (q : Int) (vs : List Int) (p b : Int) (Pa Mo Bo So : AV) (hd : Dr N q vs) (hN : N ≤ 4) (hp : DrP p b) (hB : PtOk (lpQ (q * b) (latV q vs p b)) (lpV (q * b) (latV q vs p b))) :
    ∃ u8 u12 u13 u14 u15, forL (.rng 0 (N + 1)) (.nm 8) (esFor (eiOf opRng1 (evCons (evOp addOp (evVar 1) (evC (.int 1))) evNil)) (.nm 12) (esSeq (esSet (.nm 13) (evCall 3 20 (evCons (evVar 2) (evCons (evVar 8) (evCons (evVar 12) evNil))))) (esSeq (esSet (.nm 14) (evOp subOp (evCall 2 24 (evCons (evVar 2) (evCons (evVar 8) evNil))) (evCall 2 24 (evCons (evVar 2) (evCons (evVar 12) evNil))))) (esSeq (esSet (.nm 15) (evCall 1 29 (evCons (evOf opTup (evCons (evOp ixOp (evVar 2) (evC (.int 0))) (evCons (evOf opAbs (evCons (evVar 14) evNil)) evNil))) evNil))) (esSeq (esIf (etB (evOp neOp (evVar 13) (evOf opTup (evCons (evOp fdivOp (evVar 14) (evVar 15)) (evCons (evOp fdivOp (evOp ixOp (evVar 2) (evC (.int 0))) (evVar 15)) evNil))))) (esRet (evC (.bl false))) esNx) (esIf (etAnd (etB (evOp neOp (evCall 3 20 (evCons (evVar 5) (evCons (evVar 8) (evCons (evVar 12) evNil)))) (evVar 13))) (etB (evOp gtOp (evOp mulOp (evVar 8) (evVar 12)) (evC (.int 0))))) (esRet (evC (.bl false))) esNx)))))) (GK (k + 5)) (N + 1) 0 (E33 n N (pt q vs) Pa Mo (lpt (q * b) (latV q vs p b)) Bo So none none none none none) h = .nx (E33 n N (pt q vs) Pa Mo (lpt (q * b) (latV q vs p b)) Bo So u8 u12 u13 u14 u15) h := by
  let E := fun e8 e12 e13 e14 e15 => E33 n N (pt q vs) Pa Mo (lpt (q * b) (latV q vs p b)) Bo So e8 e12 e13 e14 e15
  have inner : ∀ i : Nat, i ≤ N → ∀ e12 e13 e14 e15, ∃ u12 u13 u14 u15, forL (.rng 0 (N + 1)) (.nm 12) (esSeq (esSet (.nm 13) (evCall 3 20 (evCons (evVar 2) (evCons (evVar 8) (evCons (evVar 12) evNil))))) (esSeq (esSet (.nm 14) (evOp subOp (evCall 2 24 (evCons (evVar 2) (evCons (evVar 8) evNil))) (evCall 2 24 (evCons (evVar 2) (evCons (evVar 12) evNil))))) (esSeq (esSet (.nm 15) (evCall 1 29 (evCons (evOf opTup (evCons (evOp ixOp (evVar 2) (evC (.int 0))) (evCons (evOf opAbs (evCons (evVar 14) evNil)) evNil))) evNil))) (esSeq (esIf (etB (evOp neOp (evVar 13) (evOf opTup (evCons (evOp fdivOp (evVar 14) (evVar 15)) (evCons (evOp fdivOp (evOp ixOp (evVar 2) (evC (.int 0))) (evVar 15)) evNil))))) (esRet (evC (.bl false))) esNx) (esIf (etAnd (etB (evOp neOp (evCall 3 20 (evCons (evVar 5) (evCons (evVar 8) (evCons (evVar 12) evNil)))) (evVar 13))) (etB (evOp gtOp (evOp mulOp (evVar 8) (evVar 12)) (evC (.int 0))))) (esRet (evC (.bl false))) esNx))))) (GK (k + 5)) (N + 1) 0 (E (some (.int i)) e12 e13 e14 e15) h = .nx (E (some (.int i)) u12 u13 u14 u15) h := by
    intro i hi e12 e13 e14 e15
    let I : Env1 → AH → Prop := fun env h' => (∃ u12 u13 u14 u15, env = E (some (.int i)) u12 u13 u14 u15) ∧ h' = h
    have st : ∀ j : Nat, j < N + 1 → ∀ env g, I env g → ∃ env1, setTg (.nm 12) (.int (0 + j)) env = some env1 ∧ ∃ env' g', ((esSeq (esSet (.nm 13) (evCall 3 20 (evCons (evVar 2) (evCons (evVar 8) (evCons (evVar 12) evNil))))) (esSeq (esSet (.nm 14) (evOp subOp (evCall 2 24 (evCons (evVar 2) (evCons (evVar 8) evNil))) (evCall 2 24 (evCons (evVar 2) (evCons (evVar 12) evNil))))) (esSeq (esSet (.nm 15) (evCall 1 29 (evCons (evOf opTup (evCons (evOp ixOp (evVar 2) (evC (.int 0))) (evCons (evOf opAbs (evCons (evVar 14) evNil)) evNil))) evNil))) (esSeq (esIf (etB (evOp neOp (evVar 13) (evOf opTup (evCons (evOp fdivOp (evVar 14) (evVar 15)) (evCons (evOp fdivOp (evOp ixOp (evVar 2) (evC (.int 0))) (evVar 15)) evNil))))) (esRet (evC (.bl false))) esNx) (esIf (etAnd (etB (evOp neOp (evCall 3 20 (evCons (evVar 5) (evCons (evVar 8) (evCons (evVar 12) evNil)))) (evVar 13))) (etB (evOp gtOp (evOp mulOp (evVar 8) (evVar 12)) (evC (.int 0))))) (esRet (evC (.bl false))) esNx))))) : EvS) (GK (k + 5)) env1 g = .nx env' g' ∧ I env' g' := by
      intro j hj env g ⟨⟨u12, u13, u14, u15, he⟩, hg⟩
      subst he; subst hg
      obtain ⟨v13, v14, v15, e⟩ := body_sh k g n N q vs p b Pa Mo Bo So i j hd hN hp hB hi (by omega) u13 u14 u15
      rw [Int.zero_add]
      exact ⟨_, rfl, _, g, e, ⟨_, _, _, _, rfl⟩, rfl⟩
    obtain ⟨env', h', e, ⟨u12, u13, u14, u15, he⟩, hh⟩ := for_rng I st (N + 1) 0 (E (some (.int i)) e12 e13 e14 e15) h (by omega) ⟨⟨_, _, _, _, rfl⟩, rfl⟩
    subst he; subst hh
    exact ⟨_, _, _, _, e⟩
  let I : Env1 → AH → Prop := fun env h' => (∃ u8 u12 u13 u14 u15, env = E u8 u12 u13 u14 u15) ∧ h' = h
  have st : ∀ i : Nat, i < N + 1 → ∀ env g, I env g → ∃ env1, setTg (.nm 8) (.int (0 + i)) env = some env1 ∧ ∃ env' g', ((esFor (eiOf opRng1 (evCons (evOp addOp (evVar 1) (evC (.int 1))) evNil)) (.nm 12) (esSeq (esSet (.nm 13) (evCall 3 20 (evCons (evVar 2) (evCons (evVar 8) (evCons (evVar 12) evNil))))) (esSeq (esSet (.nm 14) (evOp subOp (evCall 2 24 (evCons (evVar 2) (evCons (evVar 8) evNil))) (evCall 2 24 (evCons (evVar 2) (evCons (evVar 12) evNil))))) (esSeq (esSet (.nm 15) (evCall 1 29 (evCons (evOf opTup (evCons (evOp ixOp (evVar 2) (evC (.int 0))) (evCons (evOf opAbs (evCons (evVar 14) evNil)) evNil))) evNil))) (esSeq (esIf (etB (evOp neOp (evVar 13) (evOf opTup (evCons (evOp fdivOp (evVar 14) (evVar 15)) (evCons (evOp fdivOp (evOp ixOp (evVar 2) (evC (.int 0))) (evVar 15)) evNil))))) (esRet (evC (.bl false))) esNx) (esIf (etAnd (etB (evOp neOp (evCall 3 20 (evCons (evVar 5) (evCons (evVar 8) (evCons (evVar 12) evNil)))) (evVar 13))) (etB (evOp gtOp (evOp mulOp (evVar 8) (evVar 12)) (evC (.int 0))))) (esRet (evC (.bl false))) esNx)))))) : EvS) (GK (k + 5)) env1 g = .nx env' g' ∧ I env' g' := by
    intro i hi env g ⟨⟨u8, u12, u13, u14, u15, he⟩, hg⟩
    subst he; subst hg
    obtain ⟨v12, v13, v14, v15, e⟩ := inner i (by omega) u12 u13 u14 u15
    rw [Int.zero_add]
    refine ⟨_, rfl, E (some (.int i)) v12 v13 v14 v15, g, ?_, ⟨_, _, _, _, _, rfl⟩, rfl⟩
    show (esFor _ _ _ : EvS) _ (E (some (.int i)) u12 u13 u14 u15) g = _
    simp only [x_for, x_iof, x_cons, x_op, x_var, x_c, x_nil]
    have v1 : (E (some (.int i)) u12 u13 u14 u15)[1]? = some (some (.int N)) := rfl
    simp only [v1, x_bind_ok, o_add, rng_s N hN, x_s_ok, srcLen_rng, e]
  obtain ⟨env', h', e, ⟨u8, u12, u13, u14, u15, he⟩, hh⟩ := for_rng I st (N + 1) 0 (E none none none none none) h (by omega) ⟨⟨_, _, _, _, _, rfl⟩, rfl⟩
  subst he; subst hh
  exact ⟨_, _, _, _, _, e⟩
/-! values near a point -/
theorem eq_str {h : AH} {s : Str} (c : SeqAt.shaped (.str s) = true) : eqB h (.str s) (.str s) = some true := by
  have e : eqB h (.str s) (.str s) = if SeqAt.shaped (.str s) = true ∧ SeqAt.shaped (.str s) = true then some (PyData.eqv (.str s) (.str s)) else none := rfl
  rw [e, if_pos ⟨c, c⟩]
  simp [PyData.eqv]
theorem rep_b (h : AH) (b : Bool) : ∃ s, reprOp [.bl b] h = .ok (.str s) h ∧ eqB h (.str s) (.str s) = some true := by
  cases b
  · exact ⟨_, rfl, eq_str (by decide +kernel)⟩
  · exact ⟨_, rfl, eq_str (by decide +kernel)⟩
theorem judge_ok (k : Nat) (h : AH) (N : Nat) (env : Env1) (xs : List AV) (hl : xs.length ≤ 1000) (h1 : env[1]? = some (some (.int N))) (h11 : env[11]? = some (some (.lst xs))) (h17 : 17 < env.length) (hx : ∀ v ∈ xs, Alike N v) : evLc false (eiSeq (evVar 11)) (.nm 17) (etB (evOp neOp (evOf reprOp (evCons (evCall 2 14 (evCons (evVar 1) (evCons (evVar 17) evNil))) evNil)) (evOf reprOp (evCons (evCall 2 31 (evCons (evVar 1) (evCons (evVar 17) evNil))) evNil)))) (evVar 17) [17] (GK (k + 5)) env h = .ok (.lst []) h := by
  have ev1 : ∀ x, ((wipeE env [17]).set 17 (some x))[1]? = some (some (.int N)) := fun x => by
    unfold wipeE wipeE
    rw [List.getElem?_set_ne (by decide), List.getElem?_set_ne (by decide), h1]
  have ev17 : ∀ x, ((wipeE env [17]).set 17 (some x))[17]? = some (some x) := fun x => by
    rw [List.getElem?_set_self]
    unfold wipeE wipeE
    rw [List.length_set]
    exact h17
  have e := lc_ok (s := eiSeq (evVar 11)) (tg := .nm 17) (tt := etB (evOp neOp (evOf reprOp (evCons (evCall 2 14 (evCons (evVar 1) (evCons (evVar 17) evNil))) evNil)) (evOf reprOp (evCons (evCall 2 31 (evCons (evVar 1) (evCons (evVar 17) evNil))) evNil)))) (te := evVar 17) (own := [17]) (G := GK (k + 5)) (env := env) (h := h) (xs := xs) (fun _ => false) id (by simp [h11]) hl (by
    intro v hv c
    obtain ⟨b, a1, a2⟩ := hx v hv (k + 1) (h ++ [c])
    obtain ⟨s, r1, r2⟩ := rep_b (h ++ [c]) b
    exact ⟨_, rfl, by simp [ev1, ev17, a1, a2, r1, r2], fun hn => by cases hn⟩)
  rw [e]
  simp
def near20 (N : Nat) (q : Int) (vs : List Int) : List AV := [pt q vs, .tup [.int (q * 3), .tup (iv (vs.map fun v => 3 * v))], .tup [.int q, .tup (iv (vs.map fun v => v + 1))], .lst [.int q, .tup (iv vs)], .tup [.int q], .tup [.int q, .tup (iv vs), .int 0], .tup [.int 0, .tup (iv vs)], .tup [.int q, .lst (iv vs)], .non, .int 3, .str "point", .dct [] [],
  .tup [.int q, .tup (iv vs ++ [.int 0])], .tup [.bl true, .tup (iv vs)], .tup [.int q, .tup (iv vs).tail], .tup [.int q, .tup (List.replicate N (.int (-1)))],
  .tup [.int 1000000000000000000000000000000000000000000000000000000000000, .tup (iv vs)], .tup [.int 1, .tup (List.replicate N (.bl true))], .tup [.int 1, .tup (List.replicate N (.str "0"))], .tup [.int (-1), .tup (iv vs)]]
theorem sc_iv {vs : List Int} : ∀ v ∈ iv vs, Sc v := fun v hv => by
  obtain ⟨x, _, e⟩ := List.mem_map.mp hv
  exact .inl ⟨x, e.symm⟩
theorem sc_rep {N : Nat} {x : AV} (s : Sc x) : ∀ v ∈ List.replicate N x, Sc v := fun v hv => by
  rw [List.eq_of_mem_replicate hv]; exact s
theorem near_alike (N : Nat) (q : Int) (vs : List Int) (hd : Dr N q vs) (hN : N ≤ 4) : ∀ v ∈ near20 N q vs, Alike N v := by
  obtain ⟨d1, d2, d3⟩ := hd
  have si : ∀ i : Int, Sc (.int i) := fun i => .inl ⟨i, rfl⟩
  have l1 : (iv vs).length ≤ 10 := by rw [List.length_map]; omega
  have al : ∀ (x0 : AV) (ws : List Int), Sc x0 → ws.length = vs.length → Alike N (.tup [x0, .tup (iv ws)]) := fun x0 ws s hw => alike_sc hN x0 (iv ws) s sc_iv (by rw [List.length_map]; omega)
  intro v hv
  simp only [near20, List.mem_cons, List.not_mem_nil, or_false] at hv
  rcases hv with e | e | e | e | e | e | e | e | e | e | e | e | e | e | e | e | e | e | e | e <;> subst e
  · exact al _ vs (si q) rfl
  · exact al _ _ (si _) (List.length_map ..)
  · exact al _ _ (si _) (List.length_map ..)
  · exact alike_nt hN _ .lst (fun _ => rfl) rfl
  · exact alike_len hN _ (by simp)
  · exact alike_len hN _ (by simp)
  · exact al _ vs (si 0) rfl
  · exact alike_pl hN q _ ⟨d1.1, by omega⟩
  · exact alike_nt hN _ .non (fun _ => rfl) rfl
  · exact alike_nt hN _ .int (fun _ => rfl) rfl
  · exact alike_nt hN _ .str (fun _ => rfl) rfl
  · exact alike_nt hN _ .dct (fun _ => rfl) rfl
  · refine alike_sc hN _ _ (si q) (fun v hv => ?_) (by rw [List.length_append, List.length_map]; simp; omega)
    rcases List.mem_append.mp hv with z | z
    · exact sc_iv v z
    · rw [List.mem_singleton.mp z]; exact si 0
  · exact al _ vs (.inr (.inl ⟨true, rfl⟩)) rfl
  · exact alike_sc hN _ _ (si q) (fun v hv => sc_iv v (List.mem_of_mem_tail hv)) (by rw [List.length_tail]; omega)
  · exact alike_sc hN _ _ (si q) (sc_rep (si _)) (by rw [List.length_replicate]; omega)
  · exact al _ vs (si _) rfl
  · exact alike_sc hN _ _ (si 1) (sc_rep (.inr (.inl ⟨true, rfl⟩))) (by rw [List.length_replicate]; omega)
  · exact alike_sc hN _ _ (si 1) (sc_rep (.inr (.inr ⟨_, rfl⟩))) (by rw [List.length_replicate]; omega)
  · exact al _ vs (si _) rfl
/-- a row made of a point's numbers -/
theorem row_lc (k : Nat) (h : AH) (q : Int) (vs : List Int) (env : Env1) (te : EvE) (f : Int → Int) (h2 : env[2]? = some (some (pt q vs))) (hl : vs.length ≤ 4)
    (hte : ∀ v ∈ vs, ∀ g, te (GK k) ((wipeE env [17]).set 17 (some (.int v))) g = .ok (.int (f v)) g) : evLc false (eiSeq (evOp ixOp (evVar 2) (evC (.int 1)))) (.nm 17) etYes te [17] (GK k) env h = .ok (.lst (iv (vs.map f))) h := by
  let fa : AV → AV := fun v => match v with | .int i => .int (f i) | _ => .non
  rw [show iv (vs.map f) = (iv vs).map fa from (iv_map _ _ fun i => rfl).symm]
  refine lc_map fa (by simp [h2, pt1]) (by rw [List.length_map]; omega) ?_
  intro v hv c
  obtain ⟨y, hy, e⟩ := List.mem_map.mp hv
  subst e
  exact ⟨_, rfl, hte y hy _, rfl⟩
end Pv.K03
end
section
set_option Elab.async false
set_option linter.all false
set_option maxRecDepth 100000
set_option maxHeartbeats 4000000
namespace Pv.K03
open PySem PySem.Spec PyProof.Rows L2
theorem fr0 (p q : Int) (g : AH) : ixOp (fr p q) (.int 0) g = .ok (.int p) g := rfl
theorem fr1 (p q : Int) (g : AH) : ixOp (fr p q) (.int 1) g = .ok (.int q) g := rfl
theorem eq_lp (h : AH) (q : Int) (vs : List Int) : eqB h (lpt q vs) (lpt q vs) = some true := by
  unfold lpt
  rw [eq_pt]
  simp
theorem latV_mem {q p b : Int} {vs : List Int} (hq : 1 ≤ q ∧ q ≤ 10 ^ 20) (hv : ∀ v ∈ vs, 0 ≤ v ∧ v < 10 ^ 22) (hp : 0 ≤ p ∧ p ≤ 1000) (hb : 1 ≤ b ∧ b ≤ 1000) : ∀ v ∈ latV q vs p b, 0 ≤ v ∧ v < 10 ^ 60 := by
  intro w hw
  obtain ⟨v, m, e⟩ := List.mem_map.mp hw
  subst e
  obtain ⟨a, c⟩ := hv v m
  have h1 : 0 ≤ v * b := Int.mul_nonneg a (by omega)
  have h2 : v * b ≤ 10 ^ 22 * 1000 := Int.mul_le_mul (by omega) (by omega) (by omega) (by omega)
  have h3 : 0 ≤ p * q := Int.mul_nonneg hp.1 (by omega)
  have h4 : p * q ≤ 1000 * 10 ^ 20 := Int.mul_le_mul (by omega) (by omega) (by omega) (by omega)
  omega
theorem right_ok (k : Nat) (h : AH) (n : Nat) (s : SpAt h n) : ∃ h', GK (k + 6) 33 [.ref n] h = .ok (.bl true) h' ∧ Sp n h h' := by
  obtain ⟨r, h1, a1, b1, e1, s1⟩ := spin_ok (k + 4) h n 5 s (TOk.small (by omega) (by omega))
  obtain ⟨N, eN⟩ := Int.eq_ofNat_of_zero_le a1
  subst eN
  have hN : N ≤ 4 := by omega
  obtain ⟨q, vs, h2, hd, e2, s2⟩ := some_point_drawn (k + 1) h1 n N (s1.at s) hN
  have t2 := s1.trans s2
  obtain ⟨p, b, h3, hp, e3, s3⟩ := pause_drawn_ok (k + 2) h2 n (t2.at s)
  have t3 := t2.trans s3
  obtain ⟨p2, b2, h4, hp2, e4, s4⟩ := pause_drawn_ok (k + 2) h3 n (t3.at s)
  have t4 := t3.trans s4
  have hd' := hd
  obtain ⟨d1, d2, d3⟩ := hd
  obtain ⟨hp0, hb0⟩ := hp
  obtain ⟨hp0', hb0'⟩ := hp2
  have pv : PtOk q vs := ⟨⟨d1.1, by omega⟩, by omega, fun v hv => by have := d3 v hv; omega⟩
  have pa : PaOk p b := ⟨by omega, by omega⟩
  have pa2 : PaOk p2 b2 := ⟨by omega, by omega⟩
  have qb0 : 0 < q * b := Int.mul_pos (by omega) (by omega)
  have qb1 : q * b ≤ 10 ^ 20 * 4 := Int.mul_le_mul d1.2 hb0.2 (by omega) (by omega)
  have lV := latV_mem (q := q) (p := p) (b := b) d1 d3 (by omega) (by omega)
  have lL : (latV q vs p b).length = vs.length := List.length_map ..
  have hB : PtOk (lpQ (q * b) (latV q vs p b)) (lpV (q * b) (latV q vs p b)) := ⟨⟨by have := lpQ_pos (vs := latV q vs p b) qb0; omega, by have := lpQ_le (vs := latV q vs p b) qb0; omega⟩, by rw [lpV_len, lL]; omega, lpV_mem qb0 lV⟩
  have f1 : ∀ g, GK (k + 5) 17 [pt q vs, fr p b] g = .ok (lpt (q * b) (latV q vs p b)) g := fun g => later_ok k g q vs p b pv pa (by omega)
  have f2 : ∀ g, GK (k + 5) 25 [pt q vs, .int p, .int b] g = .ok (pt (q * b) (latV q vs p b)) g := fun g => llater_ok (k + 4) g q vs p b pv pa
  have f3 : ∀ g, GK (k + 5) 30 [pt (q * b) (latV q vs p b)] g = .ok (lpt (q * b) (latV q vs p b)) g := fun g => plain_ok (k + 3) g _ _ ⟨qb0, by omega⟩ (by omega) lV
  have bb0 : 0 < b * b2 := Int.mul_pos (by omega) (by omega)
  have bb1 : b * b2 ≤ 4 * 4 := Int.mul_le_mul hb0.2 hb0'.2 (by omega) (by omega)
  have pb0 : 0 ≤ p * b2 := Int.mul_nonneg (by omega) (by omega)
  have pb1 : p * b2 ≤ 20 * 4 := Int.mul_le_mul hp0.2 hb0'.2 (by omega) (by omega)
  have pc0 : 0 ≤ p2 * b := Int.mul_nonneg (by omega) (by omega)
  have pc1 : p2 * b ≤ 20 * 4 := Int.mul_le_mul hp0'.2 hb0.2 (by omega) (by omega)
  have m1 : mulOk p b2 = true := mulL (by omega) (by omega)
  have m2 : mulOk p2 b = true := mulL (by omega) (by omega)
  have m3 : mulOk b b2 = true := mulL (by omega) (by omega)
  have qbb : q * (b * b2) ≤ 10 ^ 20 * 16 := Int.mul_le_mul d1.2 (by omega) (by omega) (by omega)
  have lq1 := lpQ_le (vs := latV q vs p b) qb0
  have f4 : ∀ g, GK (k + 5) 17 [pt q vs, .tup [.int (p * b2 + p2 * b), .int (b * b2)]] g = .ok (lpt (q * (b * b2)) (latV q vs (p * b2 + p2 * b) (b * b2))) g := fun g => later_ok k g q vs _ _ pv ⟨by omega, by omega⟩ (by omega)
  have f5 : ∀ g, GK (k + 5) 17 [lpt (q * b) (latV q vs p b), fr p2 b2] g = .ok (lpt (q * (b * b2)) (latV q vs (p * b2 + p2 * b) (b * b2))) g := fun g => by
    have lt : lpQ (q * b) (latV q vs p b) * b2 ≤ 10 ^ 20 * 4 * 4 := Int.mul_le_mul (by omega) hb0'.2 (by omega) (by omega)
    have := later_ok k g (lpQ (q * b) (latV q vs p b)) (lpV (q * b) (latV q vs p b)) p2 b2 hB pa2 (by omega)
    rw [lat_lp qb0, lat_lat, Int.mul_assoc] at this
    exact this
  have f6 : ∀ g, GK (k + 5) 17 [pt q vs, .tup [.int 0, .int 7]] g = .ok (lpt q vs) g := fun g => by
    have := later_ok k g q vs 0 7 pv ⟨by omega, by omega⟩ (by omega)
    rw [later7] at this
    exact this
  have f7 : ∀ g, GK (k + 5) 30 [pt q vs] g = .ok (lpt q vs) g := fun g => plain_ok (k + 3) g _ _ ⟨by omega, by omega⟩ (by omega) pv.2.2
  obtain ⟨cs, h5, hc, s5, e5⟩ := clocks_drawn (k + 4) h4 n N (t4.at s) hN [some (.ref n), some (.int N), some (pt q vs), some (fr p b), some (fr p2 b2), some (lpt (q * b) (latV q vs p b)), some (.tup [.int (p * b2 + p2 * b), .int (b * b2)]), none, none, none, none, none, none, none, none, none, none, none] rfl (by simp) rfl
  have t5 := t4.trans s5
  have q0 : 0 < q := by omega
  have bm : ∀ v ∈ backV cs 1 vs, 0 ≤ v ∧ v < 10 ^ 60 := backV_mem (by decide) pv.2.2
  have bl : (backV cs 1 vs).length = vs.length := backV_len ..
  have f8 : ∀ g, GK (k + 5) 18 [pt q vs, .tup (iv cs)] g = .ok (lpt q (backV cs 1 vs)) g := fun g => set_back_ok (k + 1) g q vs cs pv (by rw [d2]; exact hc)
  have f9 : ∀ g, GK (k + 5) 26 [pt q vs, .tup (iv cs)] g = .ok (pt q (backV cs 1 vs)) g := fun g => lset_ok (k + 4) g q vs cs pv
  have f10 : ∀ g, GK (k + 5) 30 [pt q (backV cs 1 vs)] g = .ok (lpt q (backV cs 1 vs)) g := fun g => plain_ok (k + 3) g _ _ ⟨by omega, by omega⟩ (by omega) bm
  have f11 : ∀ g, GK (k + 5) 18 [lpt q (backV cs 1 vs), .tup (iv cs)] g = .ok (lpt q (backV cs 1 vs)) g := fun g => by
    have hW : PtOk (lpQ q (backV cs 1 vs)) (lpV q (backV cs 1 vs)) := ⟨⟨by have := lpQ_pos (vs := backV cs 1 vs) q0; omega, by have := lpQ_le (vs := backV cs 1 vs) q0; omega⟩, by rw [lpV_len, bl]; omega, lpV_mem q0 bm⟩
    have := set_back_ok (k + 1) g _ _ cs hW (by rw [lpV_len, bl, d2]; exact hc)
    rw [show backV cs 1 (lpV q (backV cs 1 vs)) = lpV q (backV cs 1 vs) from backV_map (fun v => v / gcdL q (backV cs 1 vs)) (Int.zero_ediv _) vs 1, lpt_idem q0] at this
    exact this
  obtain ⟨u8, u12, u13, u14, u15, e6⟩ := loops_ok k h5 n N q vs p b (fr p b) (fr p2 b2) (.tup [.int (p * b2 + p2 * b), .int (b * b2)]) (.tup (iv cs)) hd' hN ⟨hp0, hb0⟩ hB
  unfold E33 at e6
  have m4 : mulOk q 3 = true := mulR (by decide) (by decide)
  have m5 : ∀ v, mulOk 3 v = true := fun v => mulL (by decide) (by decide)
  have g1 : evLc false (eiSeq (evOp ixOp (evVar 2) (evC (.int 1)))) (.nm 17) etYes (evOp mulOp (evC (.int 3)) (evVar 17)) [17] (GK (k + 5)) [some (.ref n), some (.int N), some (pt q vs), some (fr p b), some (fr p2 b2), some (lpt (q * b) (latV q vs p b)), some (.tup [.int (p * b2 + p2 * b), .int (b * b2)]), some (.tup (iv cs)), u8, none, none, none, u12, u13, u14, u15, none, none] h5 = .ok (.lst (iv (vs.map fun v => 3 * v))) h5 := row_lc (k + 5) h5 q vs _ _ (fun v => 3 * v) rfl (by omega) fun v hv g => by simp [wipeE, m5]
  have g2 : evLc false (eiSeq (evOp ixOp (evVar 2) (evC (.int 1)))) (.nm 17) etYes (evOp addOp (evVar 17) (evC (.int 1))) [17] (GK (k + 5)) [some (.ref n), some (.int N), some (pt q vs), some (fr p b), some (fr p2 b2), some (lpt (q * b) (latV q vs p b)), some (.tup [.int (p * b2 + p2 * b), .int (b * b2)]), some (.tup (iv cs)), u8, some (.tup [.int (q * 3), .tup (iv (vs.map fun v => 3 * v))]), none, none, u12, u13, u14, u15, none, none] h5 = .ok (.lst (iv (vs.map fun v => v + 1))) h5 := row_lc (k + 5) h5 q vs _ _ (fun v => v + 1) rfl (by omega) fun v hv g => by simp [wipeE]
  have wv : PtOk (q * 3) (vs.map fun v => 3 * v) := ⟨by omega, by rw [List.length_map]; omega, fun v hv => by
    obtain ⟨y, m, e⟩ := List.mem_map.mp hv
    have := d3 y m
    omega⟩
  have fv : PtOk q (vs.map fun v => v + 1) := ⟨by omega, by rw [List.length_map]; omega, fun v hv => by
    obtain ⟨y, m, e⟩ := List.mem_map.mp hv
    have := d3 y m
    omega⟩
  have f12 : GK (k + 5) 16 [pt q vs, .tup [.int (q * 3), .tup (iv (vs.map fun v => 3 * v))]] h5 = .ok (.bl true) h5 := by
    have := same_ok (k + 1) h5 q (q * 3) vs (vs.map fun v => 3 * v) pv wv (List.length_map ..).symm
    rw [decide_eq_true same_wide] at this
    exact this
  have f13 : GK (k + 5) 16 [.tup [.int (q * 3), .tup (iv (vs.map fun v => 3 * v))], .tup [.int q, .tup (iv (vs.map fun v => v + 1))]] h5 = .ok (.bl (decide ((N : Int) = 0))) h5 := by
    have := same_ok (k + 1) h5 (q * 3) q (vs.map fun v => 3 * v) (vs.map fun v => v + 1) wv fv (by rw [List.length_map, List.length_map])
    have e : decide (lpQ (q * 3) (vs.map fun v => 3 * v) = lpQ q (vs.map fun v => v + 1) ∧ lpV (q * 3) (vs.map fun v => 3 * v) = lpV q (vs.map fun v => v + 1)) = decide ((N : Int) = 0) := decide_eq_decide.mpr ((same_far q0).trans (by omega))
    rw [e] at this
    exact this
  have sz : ∀ i : Nat, i ≤ 1000 → i ≤ sizeLine := fun i hi => line1000 hi
  have o1 : ∀ g, opList [pt q vs] g = .ok (.lst [.int q, .tup (iv vs)]) g := fun g => rfl
  have o2 : ∀ g, slOp (pt q vs) none (some 1) g = .ok (.tup [.int q]) g := fun g => rfl
  have o3 : ∀ g, addOp (pt q vs) (.tup [.int 0]) g = .ok (.tup [.int q, .tup (iv vs), .int 0]) g := fun g => (o_addT (xs := [.int q, .tup (iv vs)]) (ys := [.int 0])).trans (if_pos (sz _ (by simp)))
  have o4 : ∀ g, opList [.tup (iv vs)] g = .ok (.lst (iv vs)) g := fun g => rfl
  have o5 : ∀ g, addOp (.tup (iv vs)) (.tup [.int 0]) g = .ok (.tup (iv vs ++ [.int 0])) g := fun g => (o_addT (xs := iv vs) (ys := [.int 0])).trans (if_pos (sz _ (by rw [List.length_map]; simp; omega)))
  have o6 : ∀ g, slOp (.tup (iv vs)) (some 1) none g = .ok (.tup (iv vs).tail) g := fun g => by
    rw [← cut1]
    rfl
  have o7 : ∀ x g, mulOp (.tup [x]) (.int N) g = .ok (.tup (List.replicate N x)) g := fun x g => by
    rw [o_mulT, if_pos ⟨by simp, by omega, by omega, by simp⟩, Int.toNat_natCast, List.flatten_replicate_singleton]
  have w60 : powOk 10 60 = true := by decide +kernel
  have z16 : (16 : Nat) ≤ sizeLine := sz 16 (by decide)
  have z20 : (20 : Nat) ≤ sizeLine := sz 20 (by decide)
  have g3 := judge_ok k h5 N [some (.ref n), some (.int N), some (pt q vs), some (fr p b), some (fr p2 b2), some (lpt (q * b) (latV q vs p b)), some (.tup [.int (p * b2 + p2 * b), .int (b * b2)]), some (.tup (iv cs)), u8, some (.tup [.int (q * 3), .tup (iv (vs.map fun v => 3 * v))]), some (.tup [.int q, .tup (iv (vs.map fun v => v + 1))]), some (.lst (near20 N q vs)), u12, u13, u14, u15, none, none] (near20 N q vs) (by simp [near20]) rfl rfl (by simp) (near_alike N q vs hd' hN)
  unfold near20 at g3
  have v0 : eqB h5 (.lst []) (.lst []) = some true := rfl
  refine ⟨h5, ?_, t5⟩
  rw [e33]
  refine run_cell (by rfl) t5.len ?_
  simp [b33, e1, e2, e3, e4, f1, fr0, fr1, f2, f3, eq_lp, m1, m2, m3, f4, f5, f6, f7, -x_lc, e5, f8, f9, f10, f11, rng_s N hN, -o_rng1, srcLen_rng, e6, pt0, pt1, m4, g1, g2, f12, f13, o1, o2, o3, o4, o5, o6, o7, -o_list, -o_slT, -o_addT, -o_mulT, w60, z16, z20, g3, v0, -List.map_map, -List.map_tail]
end Pv.K03
end
section
set_option Elab.async false
set_option linter.all false
set_option maxRecDepth 100000
set_option maxHeartbeats 4000000
namespace Pv.K03
open PySem PySem.Spec PyProof.Rows L2
/-! ### the whole law -/
theorem inner_ok (k : Nat) (n : Nat) (sc : AV) (e1 e2 : Option AV) (e4 : Option AV) : ∀ (h : AH), SpAt h n → ∃ e4' h', forL (.rng 0 6) (.nm 4) (esIf (etNot (etOf (evCall 1 33 (evCons (evVar 3) evNil)))) (esRet (evC (.bl false))) esNx) (GK (k + 6)) 6 0 [some sc, e1, e2, some (.ref n), e4] h = .nx [some sc, e1, e2, some (.ref n), e4'] h' ∧ SpAt h' n := by
  intro h s
  let I : Env1 → AH → Prop := fun env h' => (∃ e4 : Option AV, env = [some sc, e1, e2, some (.ref n), e4]) ∧ SpAt h' n
  have st : ∀ i : Nat, i < 6 → ∀ env g, I env g → ∃ env1, setTg (.nm 4) (.int (0 + i)) env = some env1 ∧ ∃ env' g', ((esIf (etNot (etOf (evCall 1 33 (evCons (evVar 3) evNil)))) (esRet (evC (.bl false))) esNx) : EvS) (GK (k + 6)) env1 g = .nx env' g' ∧ I env' g' := by
    intro i hi env g ⟨⟨e4, he⟩, sg⟩
    subst he
    obtain ⟨h', e, s'⟩ := right_ok k g n sg
    exact ⟨_, rfl, [some sc, e1, e2, some (.ref n), some (.int (0 + i))], h', by simp [e], ⟨_, rfl⟩, s'.at sg⟩
  obtain ⟨env', h', e, ⟨e4, he⟩, hh⟩ := for_rng I st 6 0 [some sc, e1, e2, some (.ref n), e4] h (by omega) ⟨⟨_, rfl⟩, s⟩
  subst he
  exact ⟨e4, h', e, hh⟩
theorem outer_ok (k : Nat) (ns : List Int) (N : Nat) (hN : N ≤ 3) : ∀ (h : AH), ∃ e1 e3 e4 h', forL (.rng 0 N) (.nm 1) (esSeq (esSet (.nm 3) (evCall 2 21 (evCons (evVar 0) (evCons (evVar 1) evNil)))) (esFor (eiOf opRng1 (evCons (evC (.int 6)) evNil)) (.nm 4) (esIf (etNot (etOf (evCall 1 33 (evCons (evVar 3) evNil)))) (esRet (evC (.bl false))) esNx))) (GK (k + 6)) N 0 [some (.kl (ns.map AV.int)), none, none, none, none] h = .nx [some (.kl (ns.map AV.int)), e1, none, e3, e4] h' := by
  intro h
  let I : Env1 → AH → Prop := fun env h' => ∃ e1 e3 e4 : Option AV, env = [some (.kl (ns.map AV.int)), e1, none, e3, e4]
  have st : ∀ i : Nat, i < N → ∀ env g, I env g → ∃ env1, setTg (.nm 1) (.int (0 + i)) env = some env1 ∧ ∃ env' g', ((esSeq (esSet (.nm 3) (evCall 2 21 (evCons (evVar 0) (evCons (evVar 1) evNil)))) (esFor (eiOf opRng1 (evCons (evC (.int 6)) evNil)) (.nm 4) (esIf (etNot (etOf (evCall 1 33 (evCons (evVar 3) evNil)))) (esRet (evC (.bl false))) esNx))) : EvS) (GK (k + 6)) env1 g = .nx env' g' ∧ I env' g' := by
    intro i hi env g ⟨e1, e3, e4, he⟩
    subst he
    obtain ⟨a, b, c, es⟩ := spins_ok (k + 5) g ns (0 + i) (by omega) (by omega)
    have s : SpAt (g ++ [.lst [.int a, .int b, .int c]]) g.length := ⟨a, b, c, by simp⟩
    obtain ⟨u4, h', ei, s'⟩ := inner_ok k g.length (.kl (ns.map AV.int)) (some (.int (0 + i))) none e4 _ s
    refine ⟨_, rfl, [some (.kl (ns.map AV.int)), some (.int (0 + i)), none, some (.ref g.length), u4], h', ?_, ⟨_, _, _, rfl⟩⟩
    simp only [Int.zero_add] at es ei ⊢
    simp [es, srcLen_rng, ei]
  obtain ⟨env', h', e, ⟨e1, e3, e4, he⟩⟩ := for_rng I st N 0 [some (.kl (ns.map AV.int)), none, none, none, none] h (by omega) ⟨_, _, _, rfl⟩
  subst he
  exact ⟨_, _, _, h', e⟩
theorem rng1_ok {N : Nat} (hN : (N : Int) < 2 ^ 62) (h : AH) : opRng1 [.int (N : Int)] h = .ok (.rng 0 N) h := by
  rw [o_rng1, if_pos ⟨by omega, hN⟩, Int.toNat_natCast]
theorem howmany (ns : List Int) : ∃ N : Nat, N ≤ 3 ∧ (if (if (ns.length : Int) < 3 then (ns.length : Int) else 3) > 1 then (if (ns.length : Int) < 3 then (ns.length : Int) else 3) else 1) = (N : Int) := by
  by_cases h3 : (ns.length : Int) < 3
  · rw [if_pos h3]
    by_cases h1 : (ns.length : Int) > 1
    · rw [if_pos h1]; exact ⟨ns.length, by omega, rfl⟩
    · rw [if_neg h1]; exact ⟨1, by omega, rfl⟩
  · rw [if_neg h3]; exact ⟨3, by omega, rfl⟩
theorem ptc (q : Int) (vs : List Int) (h1 : decide (1 ≤ q ∧ q < 1000) = true) (h2 : decide (vs.length ≤ 4) = true) (h3 : (vs.all fun v => decide (0 ≤ v) && decide (v < 1000)) = true) : PtOk q vs := by
  have a := of_decide_eq_true h1
  refine ⟨⟨a.1, by omega⟩, of_decide_eq_true h2, fun v hv => ?_⟩
  have := List.all_eq_true.mp h3 v hv
  simp only [Bool.and_eq_true, decide_eq_true_eq] at this
  omega
theorem lpc {q r : Int} {vs ws : List Int} (h1 : lpQ q vs = r) (h2 : lpV q vs = ws) : lpt q vs = pt r ws := by
  unfold lpt
  rw [h1, h2]
theorem c1 (k : Nat) (g : AH) : GK (k + 5) 17 [.tup [.int 2, .tup [.int 1, .int 4]], .tup [.int 1, .int 3]] g = .ok (.tup [.int 6, .tup [.int 5, .int 14]]) g := by
  have := later_ok k g 2 [1, 4] 1 3 (ptc _ _ rfl rfl rfl) ⟨by decide, by decide⟩ (by decide)
  rw [lpc (r := 6) (ws := [5, 14]) (by decide +kernel) (by decide +kernel)] at this
  exact this
theorem asc1 : Asc 2 [1] := ⟨List.pairwise_singleton _ _, fun c hc => (by rw [List.mem_singleton.mp hc]; omega), by decide⟩
theorem asc0 : Asc 2 [] := ⟨.nil, fun c hc => (by cases hc), by decide⟩
theorem c2 (k : Nat) (g : AH) : GK (k + 4) 18 [.tup [.int 2, .tup [.int 1, .int 4]], .tup [.int 1]] g = .ok (.tup [.int 1, .tup [.int 0, .int 2]]) g := by
  have := set_back_ok k g 2 [1, 4] [1] (ptc _ _ rfl rfl rfl) asc1
  rw [lpc (r := 1) (ws := [0, 2]) (by decide +kernel) (by decide +kernel)] at this
  exact this
theorem c3 (k : Nat) (g : AH) : GK (k + 4) 18 [.tup [.int 2, .tup [.int 1, .int 4]], .tup []] g = .ok (.tup [.int 2, .tup [.int 1, .int 4]]) g := by
  have := set_back_ok k g 2 [1, 4] [] (ptc _ _ rfl rfl rfl) asc0
  rw [lpc (r := 2) (ws := [1, 4]) (by decide +kernel) (by decide +kernel)] at this
  exact this
theorem c4 (k : Nat) (g : AH) : GK (k + 5) 17 [.tup [.int 6, .tup []], .tup [.int 1, .int 4]] g = .ok (.tup [.int 1, .tup []]) g := by
  have := later_ok k g 6 [] 1 4 (ptc _ _ rfl rfl rfl) ⟨by decide, by decide⟩ (by decide)
  rw [lpc (r := 1) (ws := []) (by decide +kernel) (by decide +kernel)] at this
  exact this
theorem v1 (g : AH) : eqB g (.lst [.tup [.int 6, .tup [.int 5, .int 14]], .tup [.int 1, .tup [.int 0, .int 2]], .tup [.int 2, .tup [.int 1, .int 4]], .tup [.int 1, .tup []]]) (.lst [.tup [.int 6, .tup [.int 5, .int 14]], .tup [.int 1, .tup [.int 0, .int 2]], .tup [.int 2, .tup [.int 1, .int 4]], .tup [.int 1, .tup []]]) = some true := rfl
theorem body_ok (k : Nat) (ns : List Int) : ∃ g, b34 (GK (k + 6)) [some (.kl (ns.map AV.int)), none, none, none, none] [] = .ret (.bl true) g := by
  obtain ⟨N, hN, eN⟩ := howmany ns
  obtain ⟨e1, e3, e4, g, eo⟩ := outer_ok k ns N hN []
  have r : ∀ h, opRng1 [.int (N : Int)] h = .ok (.rng 0 N) h := fun h => rng1_ok (by omega) h
  refine ⟨g, ?_⟩
  have e1' : esFor (eiOf opRng1 (evCons (evOf opMax (evCons (evC (.int 1)) (evCons (evOf opMin (evCons (evC (.int 3)) (evCons (evOf opLen (evCons (evVar 0) evNil)) evNil))) evNil))) evNil)) (.nm 1) (esSeq (esSet (.nm 3) (evCall 2 21 (evCons (evVar 0) (evCons (evVar 1) evNil)))) (esFor (eiOf opRng1 (evCons (evC (.int 6)) evNil)) (.nm 4) (esIf (etNot (etOf (evCall 1 33 (evCons (evVar 3) evNil)))) (esRet (evC (.bl false))) esNx))) (GK (k + 6)) [some (.kl (ns.map AV.int)), none, none, none, none] [] = .nx [some (.kl (ns.map AV.int)), e1, none, e3, e4] g := by
    simp only [x_for, x_iof, x_cons, x_c, x_of, x_var, x_nil, x_bind_ok, List.getElem?_cons_zero, o_lenK, o_min, o_max, List.length_map]
    rw [eN, r]
    simp only [x_s_ok, srcLen_rng]
    exact eo
  unfold b34
  rw [x_seq, e1']
  simp [c1, c2, c3, c4, v1]
theorem holds (ns : List Int) (h : ns.length ≤ 63) : runDef false N34.length b34 (GK 14) [.kl (ns.map AV.int)] [] = .ok (.bl true) [] := by
  obtain ⟨g, e⟩ := body_ok 8 ns
  have e' : b34 (GK (8 + 6)) ([AV.kl (ns.map AV.int)].map some ++ List.replicate (N34.length - [AV.kl (ns.map AV.int)].length) none) [] = .ret (.bl true) g := e
  refine (run_eq e').trans ?_
  rw [f_pure rfl]
  rfl
end Pv.K03
end
set_option Elab.async false
set_option linter.all false
namespace Pv.K03
open PySem PySem.W PyProof.Rows L2
theorem head_mk {K : PySem.W.Frag}
  {f0 : Addr} {oc0 : Value} {od0 : Option Addr} {kV0 doc0 pm0 : Value} {an0 : Option Addr} {cd0 ct0 : Value} {sl0 : Array (Option Value)}
  (a0 : PySem.W.nsIn K mainGlobals "lowest_terms" = some (some (.ref f0))) (l0 : K.lookup f0 = some ⟨oc0, od0, .func (PySem.W.fnOf "lowest_terms" "lowest_terms" (defArgs s0) (defBody s0) (defScope s0) .none kV0 doc0 pm0 an0 cd0 ct0), sl0⟩) (c0 : PySem.W.codeIn K cd0 "lowest_terms" = true) (k0 : PySem.W.keepIn K (.ref f0) = true)
  {f1 : Addr} {oc1 : Value} {od1 : Option Addr} {kV1 doc1 pm1 : Value} {an1 : Option Addr} {cd1 ct1 : Value} {sl1 : Array (Option Value)}
  (a1 : PySem.W.nsIn K mainGlobals "lowest_point" = some (some (.ref f1))) (l1 : K.lookup f1 = some ⟨oc1, od1, .func (PySem.W.fnOf "lowest_point" "lowest_point" (defArgs s1) (defBody s1) (defScope s1) .none kV1 doc1 pm1 an1 cd1 ct1), sl1⟩) (c1 : PySem.W.codeIn K cd1 "lowest_point" = true) (k1 : PySem.W.keepIn K (.ref f1) = true)
  {f2 : Addr} {oc2 : Value} {od2 : Option Addr} {kV2 doc2 pm2 : Value} {an2 : Option Addr} {cd2 ct2 : Value} {sl2 : Array (Option Value)}
  (a2 : PySem.W.nsIn K mainGlobals "point_later" = some (some (.ref f2))) (l2 : K.lookup f2 = some ⟨oc2, od2, .func (PySem.W.fnOf "point_later" "point_later" (defArgs s2) (defBody s2) (defScope s2) .none kV2 doc2 pm2 an2 cd2 ct2), sl2⟩) (c2 : PySem.W.codeIn K cd2 "point_later" = true) (k2 : PySem.W.keepIn K (.ref f2) = true)
  {f3 : Addr} {oc3 : Value} {od3 : Option Addr} {kV3 doc3 pm3 : Value} {an3 : Option Addr} {cd3 ct3 : Value} {sl3 : Array (Option Value)}
  (a3 : PySem.W.nsIn K mainGlobals "point_back" = some (some (.ref f3))) (l3 : K.lookup f3 = some ⟨oc3, od3, .func (PySem.W.fnOf "point_back" "point_back" (defArgs s3) (defBody s3) (defScope s3) .none kV3 doc3 pm3 an3 cd3 ct3), sl3⟩) (c3 : PySem.W.codeIn K cd3 "point_back" = true) (k3 : PySem.W.keepIn K (.ref f3) = true)
  {f4 : Addr} {oc4 : Value} {od4 : Option Addr} {kV4 doc4 pm4 : Value} {an4 : Option Addr} {cd4 ct4 : Value} {sl4 : Array (Option Value)}
  (a4 : PySem.W.nsIn K mainGlobals "point_shown" = some (some (.ref f4))) (l4 : K.lookup f4 = some ⟨oc4, od4, .func (PySem.W.fnOf "point_shown" "point_shown" (defArgs s4) (defBody s4) (defScope s4) .none kV4 doc4 pm4 an4 cd4 ct4), sl4⟩) (c4 : PySem.W.codeIn K cd4 "point_shown" = true) (k4 : PySem.W.keepIn K (.ref f4) = true)
  {f5 : Addr} {oc5 : Value} {od5 : Option Addr} {kV5 doc5 pm5 : Value} {an5 : Option Addr} {cd5 ct5 : Value} {sl5 : Array (Option Value)}
  (a5 : PySem.W.nsIn K mainGlobals "is_whole" = some (some (.ref f5))) (l5 : K.lookup f5 = some ⟨oc5, od5, .func (PySem.W.fnOf "is_whole" "is_whole" (defArgs s5) (defBody s5) (defScope s5) .none kV5 doc5 pm5 an5 cd5 ct5), sl5⟩) (c5 : PySem.W.codeIn K cd5 "is_whole" = true) (k5 : PySem.W.keepIn K (.ref f5) = true)
  {f6 : Addr} {oc6 : Value} {od6 : Option Addr} {kV6 doc6 pm6 : Value} {an6 : Option Addr} {cd6 ct6 : Value} {sl6 : Array (Option Value)}
  (a6 : PySem.W.nsIn K mainGlobals "is_whole_between" = some (some (.ref f6))) (l6 : K.lookup f6 = some ⟨oc6, od6, .func (PySem.W.fnOf "is_whole_between" "is_whole_between" (defArgs s6) (defBody s6) (defScope s6) .none kV6 doc6 pm6 an6 cd6 ct6), sl6⟩) (c6 : PySem.W.codeIn K cd6 "is_whole_between" = true) (k6 : PySem.W.keepIn K (.ref f6) = true)
  {f7 : Addr} {oc7 : Value} {od7 : Option Addr} {kV7 doc7 pm7 : Value} {an7 : Option Addr} {cd7 ct7 : Value} {sl7 : Array (Option Value)}
  (a7 : PySem.W.nsIn K mainGlobals "is_pair" = some (some (.ref f7))) (l7 : K.lookup f7 = some ⟨oc7, od7, .func (PySem.W.fnOf "is_pair" "is_pair" (defArgs s7) (defBody s7) (defScope s7) .none kV7 doc7 pm7 an7 cd7 ct7), sl7⟩) (c7 : PySem.W.codeIn K cd7 "is_pair" = true) (k7 : PySem.W.keepIn K (.ref f7) = true)
  {f8 : Addr} {oc8 : Value} {od8 : Option Addr} {kV8 doc8 pm8 : Value} {an8 : Option Addr} {cd8 ct8 : Value} {sl8 : Array (Option Value)}
  (a8 : PySem.W.nsIn K mainGlobals "is_ascending" = some (some (.ref f8))) (l8 : K.lookup f8 = some ⟨oc8, od8, .func (PySem.W.fnOf "is_ascending" "is_ascending" (defArgs s8) (defBody s8) (defScope s8) .none kV8 doc8 pm8 an8 cd8 ct8), sl8⟩) (c8 : PySem.W.codeIn K cd8 "is_ascending" = true) (k8 : PySem.W.keepIn K (.ref f8) = true)
  {f9 : Addr} {oc9 : Value} {od9 : Option Addr} {kV9 doc9 pm9 : Value} {an9 : Option Addr} {cd9 ct9 : Value} {sl9 : Array (Option Value)}
  (a9 : PySem.W.nsIn K mainGlobals "is_fraction" = some (some (.ref f9))) (l9 : K.lookup f9 = some ⟨oc9, od9, .func (PySem.W.fnOf "is_fraction" "is_fraction" (defArgs s9) (defBody s9) (defScope s9) .none kV9 doc9 pm9 an9 cd9 ct9), sl9⟩) (c9 : PySem.W.codeIn K cd9 "is_fraction" = true) (k9 : PySem.W.keepIn K (.ref f9) = true)
  {f10 : Addr} {oc10 : Value} {od10 : Option Addr} {kV10 doc10 pm10 : Value} {an10 : Option Addr} {cd10 ct10 : Value} {sl10 : Array (Option Value)}
  (a10 : PySem.W.nsIn K mainGlobals "is_pause" = some (some (.ref f10))) (l10 : K.lookup f10 = some ⟨oc10, od10, .func (PySem.W.fnOf "is_pause" "is_pause" (defArgs s10) (defBody s10) (defScope s10) .none kV10 doc10 pm10 an10 cd10 ct10), sl10⟩) (c10 : PySem.W.codeIn K cd10 "is_pause" = true) (k10 : PySem.W.keepIn K (.ref f10) = true)
  {f11 : Addr} {oc11 : Value} {od11 : Option Addr} {kV11 doc11 pm11 : Value} {an11 : Option Addr} {cd11 ct11 : Value} {sl11 : Array (Option Value)}
  (a11 : PySem.W.nsIn K mainGlobals "check_pause" = some (some (.ref f11))) (l11 : K.lookup f11 = some ⟨oc11, od11, .func (PySem.W.fnOf "check_pause" "check_pause" (defArgs s11) (defBody s11) (defScope s11) .none kV11 doc11 pm11 an11 cd11 ct11), sl11⟩) (c11 : PySem.W.codeIn K cd11 "check_pause" = true) (k11 : PySem.W.keepIn K (.ref f11) = true)
  {f12 : Addr} {oc12 : Value} {od12 : Option Addr} {kV12 doc12 pm12 : Value} {an12 : Option Addr} {cd12 ct12 : Value} {sl12 : Array (Option Value)}
  (a12 : PySem.W.nsIn K mainGlobals "check_clocks" = some (some (.ref f12))) (l12 : K.lookup f12 = some ⟨oc12, od12, .func (PySem.W.fnOf "check_clocks" "check_clocks" (defArgs s12) (defBody s12) (defScope s12) .none kV12 doc12 pm12 an12 cd12 ct12), sl12⟩) (c12 : PySem.W.codeIn K cd12 "check_clocks" = true) (k12 : PySem.W.keepIn K (.ref f12) = true)
  {f13 : Addr} {oc13 : Value} {od13 : Option Addr} {kV13 doc13 pm13 : Value} {an13 : Option Addr} {cd13 ct13 : Value} {sl13 : Array (Option Value)}
  (a13 : PySem.W.nsIn K mainGlobals "is_some_point" = some (some (.ref f13))) (l13 : K.lookup f13 = some ⟨oc13, od13, .func (PySem.W.fnOf "is_some_point" "is_some_point" (defArgs s13) (defBody s13) (defScope s13) .none kV13 doc13 pm13 an13 cd13 ct13), sl13⟩) (c13 : PySem.W.codeIn K cd13 "is_some_point" = true) (k13 : PySem.W.keepIn K (.ref f13) = true)
  {f14 : Addr} {oc14 : Value} {od14 : Option Addr} {kV14 doc14 pm14 : Value} {an14 : Option Addr} {cd14 ct14 : Value} {sl14 : Array (Option Value)}
  (a14 : PySem.W.nsIn K mainGlobals "is_point" = some (some (.ref f14))) (l14 : K.lookup f14 = some ⟨oc14, od14, .func (PySem.W.fnOf "is_point" "is_point" (defArgs s14) (defBody s14) (defScope s14) .none kV14 doc14 pm14 an14 cd14 ct14), sl14⟩) (c14 : PySem.W.codeIn K cd14 "is_point" = true) (k14 : PySem.W.keepIn K (.ref f14) = true)
  {f15 : Addr} {oc15 : Value} {od15 : Option Addr} {kV15 doc15 pm15 : Value} {an15 : Option Addr} {cd15 ct15 : Value} {sl15 : Array (Option Value)}
  (a15 : PySem.W.nsIn K mainGlobals "check_point" = some (some (.ref f15))) (l15 : K.lookup f15 = some ⟨oc15, od15, .func (PySem.W.fnOf "check_point" "check_point" (defArgs s15) (defBody s15) (defScope s15) .none kV15 doc15 pm15 an15 cd15 ct15), sl15⟩) (c15 : PySem.W.codeIn K cd15 "check_point" = true) (k15 : PySem.W.keepIn K (.ref f15) = true)
  {f16 : Addr} {oc16 : Value} {od16 : Option Addr} {kV16 doc16 pm16 : Value} {an16 : Option Addr} {cd16 ct16 : Value} {sl16 : Array (Option Value)}
  (a16 : PySem.W.nsIn K mainGlobals "are_same" = some (some (.ref f16))) (l16 : K.lookup f16 = some ⟨oc16, od16, .func (PySem.W.fnOf "are_same" "are_same" (defArgs s16) (defBody s16) (defScope s16) .none kV16 doc16 pm16 an16 cd16 ct16), sl16⟩) (c16 : PySem.W.codeIn K cd16 "are_same" = true) (k16 : PySem.W.keepIn K (.ref f16) = true)
  {f17 : Addr} {oc17 : Value} {od17 : Option Addr} {kV17 doc17 pm17 : Value} {an17 : Option Addr} {cd17 ct17 : Value} {sl17 : Array (Option Value)}
  (a17 : PySem.W.nsIn K mainGlobals "later" = some (some (.ref f17))) (l17 : K.lookup f17 = some ⟨oc17, od17, .func (PySem.W.fnOf "later" "later" (defArgs s17) (defBody s17) (defScope s17) .none kV17 doc17 pm17 an17 cd17 ct17), sl17⟩) (c17 : PySem.W.codeIn K cd17 "later" = true) (k17 : PySem.W.keepIn K (.ref f17) = true)
  {f18 : Addr} {oc18 : Value} {od18 : Option Addr} {kV18 doc18 pm18 : Value} {an18 : Option Addr} {cd18 ct18 : Value} {sl18 : Array (Option Value)}
  (a18 : PySem.W.nsIn K mainGlobals "set_back" = some (some (.ref f18))) (l18 : K.lookup f18 = some ⟨oc18, od18, .func (PySem.W.fnOf "set_back" "set_back" (defArgs s18) (defBody s18) (defScope s18) .none kV18 doc18 pm18 an18 cd18 ct18), sl18⟩) (c18 : PySem.W.codeIn K cd18 "set_back" = true) (k18 : PySem.W.keepIn K (.ref f18) = true)
  {f19 : Addr} {oc19 : Value} {od19 : Option Addr} {kV19 doc19 pm19 : Value} {an19 : Option Addr} {cd19 ct19 : Value} {sl19 : Array (Option Value)}
  (a19 : PySem.W.nsIn K mainGlobals "check_shown" = some (some (.ref f19))) (l19 : K.lookup f19 = some ⟨oc19, od19, .func (PySem.W.fnOf "check_shown" "check_shown" (defArgs s19) (defBody s19) (defScope s19) .none kV19 doc19 pm19 an19 cd19 ct19), sl19⟩) (c19 : PySem.W.codeIn K cd19 "check_shown" = true) (k19 : PySem.W.keepIn K (.ref f19) = true)
  {f20 : Addr} {oc20 : Value} {od20 : Option Addr} {kV20 doc20 pm20 : Value} {an20 : Option Addr} {cd20 ct20 : Value} {sl20 : Array (Option Value)}
  (a20 : PySem.W.nsIn K mainGlobals "shown" = some (some (.ref f20))) (l20 : K.lookup f20 = some ⟨oc20, od20, .func (PySem.W.fnOf "shown" "shown" (defArgs s20) (defBody s20) (defScope s20) .none kV20 doc20 pm20 an20 cd20 ct20), sl20⟩) (c20 : PySem.W.codeIn K cd20 "shown" = true) (k20 : PySem.W.keepIn K (.ref f20) = true)
  {f21 : Addr} {oc21 : Value} {od21 : Option Addr} {kV21 doc21 pm21 : Value} {an21 : Option Addr} {cd21 ct21 : Value} {sl21 : Array (Option Value)}
  (a21 : PySem.W.nsIn K mainGlobals "_law_spins" = some (some (.ref f21))) (l21 : K.lookup f21 = some ⟨oc21, od21, .func (PySem.W.fnOf "_law_spins" "_law_spins" (defArgs s21) (defBody s21) (defScope s21) .none kV21 doc21 pm21 an21 cd21 ct21), sl21⟩) (c21 : PySem.W.codeIn K cd21 "_law_spins" = true) (k21 : PySem.W.keepIn K (.ref f21) = true)
  {f22 : Addr} {oc22 : Value} {od22 : Option Addr} {kV22 doc22 pm22 : Value} {an22 : Option Addr} {cd22 ct22 : Value} {sl22 : Array (Option Value)}
  (a22 : PySem.W.nsIn K mainGlobals "_law_spin" = some (some (.ref f22))) (l22 : K.lookup f22 = some ⟨oc22, od22, .func (PySem.W.fnOf "_law_spin" "_law_spin" (defArgs s22) (defBody s22) (defScope s22) .none kV22 doc22 pm22 an22 cd22 ct22), sl22⟩) (c22 : PySem.W.codeIn K cd22 "_law_spin" = true) (k22 : PySem.W.keepIn K (.ref f22) = true)
  {f23 : Addr} {oc23 : Value} {od23 : Option Addr} {kV23 doc23 pm23 : Value} {an23 : Option Addr} {cd23 ct23 : Value} {sl23 : Array (Option Value)}
  (a23 : PySem.W.nsIn K mainGlobals "_law_among" = some (some (.ref f23))) (l23 : K.lookup f23 = some ⟨oc23, od23, .func (PySem.W.fnOf "_law_among" "_law_among" (defArgs s23) (defBody s23) (defScope s23) .none kV23 doc23 pm23 an23 cd23 ct23), sl23⟩) (c23 : PySem.W.codeIn K cd23 "_law_among" = true) (k23 : PySem.W.keepIn K (.ref f23) = true)
  {f24 : Addr} {oc24 : Value} {od24 : Option Addr} {kV24 doc24 pm24 : Value} {an24 : Option Addr} {cd24 ct24 : Value} {sl24 : Array (Option Value)}
  (a24 : PySem.W.nsIn K mainGlobals "_law_shown" = some (some (.ref f24))) (l24 : K.lookup f24 = some ⟨oc24, od24, .func (PySem.W.fnOf "_law_shown" "_law_shown" (defArgs s24) (defBody s24) (defScope s24) .none kV24 doc24 pm24 an24 cd24 ct24), sl24⟩) (c24 : PySem.W.codeIn K cd24 "_law_shown" = true) (k24 : PySem.W.keepIn K (.ref f24) = true)
  {f25 : Addr} {oc25 : Value} {od25 : Option Addr} {kV25 doc25 pm25 : Value} {an25 : Option Addr} {cd25 ct25 : Value} {sl25 : Array (Option Value)}
  (a25 : PySem.W.nsIn K mainGlobals "_law_later" = some (some (.ref f25))) (l25 : K.lookup f25 = some ⟨oc25, od25, .func (PySem.W.fnOf "_law_later" "_law_later" (defArgs s25) (defBody s25) (defScope s25) .none kV25 doc25 pm25 an25 cd25 ct25), sl25⟩) (c25 : PySem.W.codeIn K cd25 "_law_later" = true) (k25 : PySem.W.keepIn K (.ref f25) = true)
  {f26 : Addr} {oc26 : Value} {od26 : Option Addr} {kV26 doc26 pm26 : Value} {an26 : Option Addr} {cd26 ct26 : Value} {sl26 : Array (Option Value)}
  (a26 : PySem.W.nsIn K mainGlobals "_law_set_back" = some (some (.ref f26))) (l26 : K.lookup f26 = some ⟨oc26, od26, .func (PySem.W.fnOf "_law_set_back" "_law_set_back" (defArgs s26) (defBody s26) (defScope s26) .none kV26 doc26 pm26 an26 cd26 ct26), sl26⟩) (c26 : PySem.W.codeIn K cd26 "_law_set_back" = true) (k26 : PySem.W.keepIn K (.ref f26) = true)
  {f27 : Addr} {oc27 : Value} {od27 : Option Addr} {kV27 doc27 pm27 : Value} {an27 : Option Addr} {cd27 ct27 : Value} {sl27 : Array (Option Value)}
  (a27 : PySem.W.nsIn K mainGlobals "_law_point_drawn" = some (some (.ref f27))) (l27 : K.lookup f27 = some ⟨oc27, od27, .func (PySem.W.fnOf "_law_point_drawn" "_law_point_drawn" (defArgs s27) (defBody s27) (defScope s27) .none kV27 doc27 pm27 an27 cd27 ct27), sl27⟩) (c27 : PySem.W.codeIn K cd27 "_law_point_drawn" = true) (k27 : PySem.W.keepIn K (.ref f27) = true)
  {f28 : Addr} {oc28 : Value} {od28 : Option Addr} {kV28 doc28 pm28 : Value} {an28 : Option Addr} {cd28 ct28 : Value} {sl28 : Array (Option Value)}
  (a28 : PySem.W.nsIn K mainGlobals "_law_pause_drawn" = some (some (.ref f28))) (l28 : K.lookup f28 = some ⟨oc28, od28, .func (PySem.W.fnOf "_law_pause_drawn" "_law_pause_drawn" (defArgs s28) (defBody s28) (defScope s28) .none kV28 doc28 pm28 an28 cd28 ct28), sl28⟩) (c28 : PySem.W.codeIn K cd28 "_law_pause_drawn" = true) (k28 : PySem.W.keepIn K (.ref f28) = true)
  {f29 : Addr} {oc29 : Value} {od29 : Option Addr} {kV29 doc29 pm29 : Value} {an29 : Option Addr} {cd29 ct29 : Value} {sl29 : Array (Option Value)}
  (a29 : PySem.W.nsIn K mainGlobals "_law_shared" = some (some (.ref f29))) (l29 : K.lookup f29 = some ⟨oc29, od29, .func (PySem.W.fnOf "_law_shared" "_law_shared" (defArgs s29) (defBody s29) (defScope s29) .none kV29 doc29 pm29 an29 cd29 ct29), sl29⟩) (c29 : PySem.W.codeIn K cd29 "_law_shared" = true) (k29 : PySem.W.keepIn K (.ref f29) = true)
  {f30 : Addr} {oc30 : Value} {od30 : Option Addr} {kV30 doc30 pm30 : Value} {an30 : Option Addr} {cd30 ct30 : Value} {sl30 : Array (Option Value)}
  (a30 : PySem.W.nsIn K mainGlobals "_law_plain" = some (some (.ref f30))) (l30 : K.lookup f30 = some ⟨oc30, od30, .func (PySem.W.fnOf "_law_plain" "_law_plain" (defArgs s30) (defBody s30) (defScope s30) .none kV30 doc30 pm30 an30 cd30 ct30), sl30⟩) (c30 : PySem.W.codeIn K cd30 "_law_plain" = true) (k30 : PySem.W.keepIn K (.ref f30) = true)
  {f31 : Addr} {oc31 : Value} {od31 : Option Addr} {kV31 doc31 pm31 : Value} {an31 : Option Addr} {cd31 ct31 : Value} {sl31 : Array (Option Value)}
  (a31 : PySem.W.nsIn K mainGlobals "_law_is_point" = some (some (.ref f31))) (l31 : K.lookup f31 = some ⟨oc31, od31, .func (PySem.W.fnOf "_law_is_point" "_law_is_point" (defArgs s31) (defBody s31) (defScope s31) .none kV31 doc31 pm31 an31 cd31 ct31), sl31⟩) (c31 : PySem.W.codeIn K cd31 "_law_is_point" = true) (k31 : PySem.W.keepIn K (.ref f31) = true)
  {f32 : Addr} {oc32 : Value} {od32 : Option Addr} {kV32 doc32 pm32 : Value} {an32 : Option Addr} {cd32 ct32 : Value} {sl32 : Array (Option Value)}
  (a32 : PySem.W.nsIn K mainGlobals "_law_some_point" = some (some (.ref f32))) (l32 : K.lookup f32 = some ⟨oc32, od32, .func (PySem.W.fnOf "_law_some_point" "_law_some_point" (defArgs s32) (defBody s32) (defScope s32) .none kV32 doc32 pm32 an32 cd32 ct32), sl32⟩) (c32 : PySem.W.codeIn K cd32 "_law_some_point" = true) (k32 : PySem.W.keepIn K (.ref f32) = true)
  {f33 : Addr} {oc33 : Value} {od33 : Option Addr} {kV33 doc33 pm33 : Value} {an33 : Option Addr} {cd33 ct33 : Value} {sl33 : Array (Option Value)}
  (a33 : PySem.W.nsIn K mainGlobals "_law_right" = some (some (.ref f33))) (l33 : K.lookup f33 = some ⟨oc33, od33, .func (PySem.W.fnOf "_law_right" "_law_right" (defArgs s33) (defBody s33) (defScope s33) .none kV33 doc33 pm33 an33 cd33 ct33), sl33⟩) (c33 : PySem.W.codeIn K cd33 "_law_right" = true) (k33 : PySem.W.keepIn K (.ref f33) = true)
  {f34 : Addr} {oc34 : Value} {od34 : Option Addr} {kV34 doc34 pm34 : Value} {an34 : Option Addr} {cd34 ct34 : Value} {sl34 : Array (Option Value)}
  (a34 : PySem.W.nsIn K mainGlobals "law" = some (some (.ref f34))) (l34 : K.lookup f34 = some ⟨oc34, od34, .func (PySem.W.fnOf "law" "law" (defArgs s34) (defBody s34) (defScope s34) .none kV34 doc34 pm34 an34 cd34 ct34), sl34⟩) (c34 : PySem.W.codeIn K cd34 "law" = true) (k34 : PySem.W.keepIn K (.ref f34) = true)
  (z_abs : PySem.W.nsIn K mainGlobals "abs" = some none)
  (z_all : PySem.W.nsIn K mainGlobals "all" = some none)
  (z_bool : PySem.W.nsIn K mainGlobals "bool" = some none)
  (z_enumerate : PySem.W.nsIn K mainGlobals "enumerate" = some none)
  (z_int : PySem.W.nsIn K mainGlobals "int" = some none)
  (z_isinstance : PySem.W.nsIn K mainGlobals "isinstance" = some none)
  (z_len : PySem.W.nsIn K mainGlobals "len" = some none)
  (z_list : PySem.W.nsIn K mainGlobals "list" = some none)
  (z_max : PySem.W.nsIn K mainGlobals "max" = some none)
  (z_min : PySem.W.nsIn K mainGlobals "min" = some none)
  (z_range : PySem.W.nsIn K mainGlobals "range" = some none)
  (z_repr : PySem.W.nsIn K mainGlobals "repr" = some none)
  (z_tuple : PySem.W.nsIn K mainGlobals "tuple" = some none)
  (z_zip : PySem.W.nsIn K mainGlobals "zip" = some none)
  {t_TOO_GREAT : Tok} (c_TOO_GREAT : PySem.W.nsIn K mainGlobals "TOO_GREAT" = some (some (.int (1000000000000000000000000000000000000000000000000000000000000) t_TOO_GREAT)))
  {t_MOST_CLOCKS : Tok} (c_MOST_CLOCKS : PySem.W.nsIn K mainGlobals "MOST_CLOCKS" = some (some (.int (4) t_MOST_CLOCKS)))
  (g_gcd : PySem.W.nsIn K mainGlobals "gcd" = some (some (.builtin "math.gcd")))
  : Head K := ⟨fnF_mk a0 l0 c0 k0, fnF_mk a1 l1 c1 k1, fnF_mk a2 l2 c2 k2, fnF_mk a3 l3 c3 k3, fnF_mk a4 l4 c4 k4, fnF_mk a5 l5 c5 k5, fnF_mk a6 l6 c6 k6, fnF_mk a7 l7 c7 k7, fnF_mk a8 l8 c8 k8, fnF_mk a9 l9 c9 k9, fnF_mk a10 l10 c10 k10, fnF_mk a11 l11 c11 k11, fnF_mk a12 l12 c12 k12, fnF_mk a13 l13 c13 k13, fnF_mk a14 l14 c14 k14, fnF_mk a15 l15 c15 k15, fnF_mk a16 l16 c16 k16, fnF_mk a17 l17 c17 k17, fnF_mk a18 l18 c18 k18, fnF_mk a19 l19 c19 k19, fnF_mk a20 l20 c20 k20, fnF_mk a21 l21 c21 k21, fnF_mk a22 l22 c22 k22, fnF_mk a23 l23 c23 k23, fnF_mk a24 l24 c24 k24, fnF_mk a25 l25 c25 k25, fnF_mk a26 l26 c26 k26, fnF_mk a27 l27 c27 k27, fnF_mk a28 l28 c28 k28, fnF_mk a29 l29 c29 k29, fnF_mk a30 l30 c30 k30, fnF_mk a31 l31 c31 k31, fnF_mk a32 l32 c32 k32, fnF_mk a33 l33 c33 k33, fnF_mk a34 l34 c34 k34, z_abs, z_all, z_bool, z_enumerate, z_int, z_isinstance, z_len, z_list, z_max, z_min, z_range, z_repr, z_tuple, z_zip, ⟨_, c_TOO_GREAT⟩, ⟨_, c_MOST_CLOCKS⟩, g_gcd⟩
end Pv.K03
open PySem PySem.W PyProof.Rows
set_option maxRecDepth 100000 in
set_option maxHeartbeats 0 in
theorem PySem.Challenge.cw_pauseplay_k03_whole_points_behind_pauses_holds : PySem.Challenge.rw_pauseplay_k03_whole_points_behind_pauses.Holds := by
  w_on; o_law; k_head; (case hw => w_witness2)
  k_fill
  refine Pv.walk_g (l := PySem.Challenge.rw_pauseplay_k03_whole_points_behind_pauses) (n := 63) (k := 14 + 1) (x := "script") (g := Pv.runDef false Pv.K03.N34.length Pv.K03.b34 (Pv.K03.GK 14)) (cls := fun _ _ => Value.none) (fld := fun _ => Str.empty) rfl (by decide) rfl ⟨rfl, by decide, by decide⟩ (fun w h Y => PySem.W.kIn_of Y) ?F (fun ns hl => Pv.K03.holds ns hl)
  case F =>
    intro w mg fa h KX G hmg
    refine Pv.law_f KX G hmg (Pv.K03.Head.f34 ?H) Pv.K03.bi34 Pv.K03.sc34 Pv.K03.h34 (by decide) (fun Γ eK B => Pv.K03.stat B (eK ▸ ?H) 14)
    case H =>
      refine' Pv.K03.head_mk ?a0 ?l0 ?c0 ?k0 ?a1 ?l1 ?c1 ?k1 ?a2 ?l2 ?c2 ?k2 ?a3 ?l3 ?c3 ?k3 ?a4 ?l4 ?c4 ?k4 ?a5 ?l5 ?c5 ?k5 ?a6 ?l6 ?c6 ?k6 ?a7 ?l7 ?c7 ?k7 ?a8 ?l8 ?c8 ?k8 ?a9 ?l9 ?c9 ?k9 ?a10 ?l10 ?c10 ?k10 ?a11 ?l11 ?c11 ?k11 ?a12 ?l12 ?c12 ?k12 ?a13 ?l13 ?c13 ?k13 ?a14 ?l14 ?c14 ?k14 ?a15 ?l15 ?c15 ?k15 ?a16 ?l16 ?c16 ?k16 ?a17 ?l17 ?c17 ?k17 ?a18 ?l18 ?c18 ?k18 ?a19 ?l19 ?c19 ?k19 ?a20 ?l20 ?c20 ?k20 ?a21 ?l21 ?c21 ?k21 ?a22 ?l22 ?c22 ?k22 ?a23 ?l23 ?c23 ?k23 ?a24 ?l24 ?c24 ?k24 ?a25 ?l25 ?c25 ?k25 ?a26 ?l26 ?c26 ?k26 ?a27 ?l27 ?c27 ?k27 ?a28 ?l28 ?c28 ?k28 ?a29 ?l29 ?c29 ?k29 ?a30 ?l30 ?c30 ?k30 ?a31 ?l31 ?c31 ?k31 ?a32 ?l32 ?c32 ?k32 ?a33 ?l33 ?c33 ?k33 ?a34 ?l34 ?c34 ?k34 ?z_abs ?z_all ?z_bool ?z_enumerate ?z_int ?z_isinstance ?z_len ?z_list ?z_max ?z_min ?z_range ?z_repr ?z_tuple ?z_zip ?c_TOO_GREAT ?c_MOST_CLOCKS ?g_gcd
      (case a0 => k_is); (case l0 => k_is); (case c0 => k_is); (case k0 => k_is); (case a1 => k_is); (case l1 => k_is); (case c1 => k_is); (case k1 => k_is)
      (case a2 => k_is); (case l2 => k_is); (case c2 => k_is); (case k2 => k_is); (case a3 => k_is); (case l3 => k_is); (case c3 => k_is); (case k3 => k_is)
      (case a4 => k_is); (case l4 => k_is); (case c4 => k_is); (case k4 => k_is); (case a5 => k_is); (case l5 => k_is); (case c5 => k_is); (case k5 => k_is)
      (case a6 => k_is); (case l6 => k_is); (case c6 => k_is); (case k6 => k_is); (case a7 => k_is); (case l7 => k_is); (case c7 => k_is); (case k7 => k_is)
      (case a8 => k_is); (case l8 => k_is); (case c8 => k_is); (case k8 => k_is); (case a9 => k_is); (case l9 => k_is); (case c9 => k_is); (case k9 => k_is)
      (case a10 => k_is); (case l10 => k_is); (case c10 => k_is); (case k10 => k_is); (case a11 => k_is); (case l11 => k_is); (case c11 => k_is); (case k11 => k_is)
      (case a12 => k_is); (case l12 => k_is); (case c12 => k_is); (case k12 => k_is); (case a13 => k_is); (case l13 => k_is); (case c13 => k_is); (case k13 => k_is)
      (case a14 => k_is); (case l14 => k_is); (case c14 => k_is); (case k14 => k_is); (case a15 => k_is); (case l15 => k_is); (case c15 => k_is); (case k15 => k_is)
      (case a16 => k_is); (case l16 => k_is); (case c16 => k_is); (case k16 => k_is); (case a17 => k_is); (case l17 => k_is); (case c17 => k_is); (case k17 => k_is)
      (case a18 => k_is); (case l18 => k_is); (case c18 => k_is); (case k18 => k_is); (case a19 => k_is); (case l19 => k_is); (case c19 => k_is); (case k19 => k_is)
      (case a20 => k_is); (case l20 => k_is); (case c20 => k_is); (case k20 => k_is); (case a21 => k_is); (case l21 => k_is); (case c21 => k_is); (case k21 => k_is)
      (case a22 => k_is); (case l22 => k_is); (case c22 => k_is); (case k22 => k_is); (case a23 => k_is); (case l23 => k_is); (case c23 => k_is); (case k23 => k_is)
      (case a24 => k_is); (case l24 => k_is); (case c24 => k_is); (case k24 => k_is); (case a25 => k_is); (case l25 => k_is); (case c25 => k_is); (case k25 => k_is)
      (case a26 => k_is); (case l26 => k_is); (case c26 => k_is); (case k26 => k_is); (case a27 => k_is); (case l27 => k_is); (case c27 => k_is); (case k27 => k_is)
      (case a28 => k_is); (case l28 => k_is); (case c28 => k_is); (case k28 => k_is); (case a29 => k_is); (case l29 => k_is); (case c29 => k_is); (case k29 => k_is)
      (case a30 => k_is); (case l30 => k_is); (case c30 => k_is); (case k30 => k_is); (case a31 => k_is); (case l31 => k_is); (case c31 => k_is); (case k31 => k_is)
      (case a32 => k_is); (case l32 => k_is); (case c32 => k_is); (case k32 => k_is); (case a33 => k_is); (case l33 => k_is); (case c33 => k_is); (case k33 => k_is)
      (case a34 => k_is); (case l34 => k_is); (case c34 => k_is); (case k34 => k_is); (case z_abs => k_is); (case z_all => k_is); (case z_bool => k_is); (case z_enumerate => k_is)
      (case z_int => k_is); (case z_isinstance => k_is); (case z_len => k_is); (case z_list => k_is); (case z_max => k_is); (case z_min => k_is); (case z_range => k_is); (case z_repr => k_is)
      (case z_tuple => k_is); (case z_zip => k_is); (case c_TOO_GREAT => k_is); (case c_MOST_CLOCKS => k_is); (case g_gcd => k_is)
