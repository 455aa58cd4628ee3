import PyProof.Rows.All
import Wide.All
import OpenK.AllK
import Wide.FinOn
import HandS.TupMul
import HandS.ForMost
import HandS.Exc
import HandS.TryOnly
import HandS.TryMany
import HandS.ExcOwn
import HandS.ExcField
import HandS.RaiseMore
import HandS.WordsExc
import HandS.IsInst
import HandS.Gcd
import HandS.Wide
import HandS.Zip
import HandS.Rev
import HandS.TupLe
import HandS.TupAny
import HandS.CallSlots
import KE.GoesEnumKw
import KE.GoesNew
import PyProof.EnumMake
import HandS.RevTup
import KE.KExcInit
import PyProof.ExcBaseAll.ValueError
import PyProof.ExcBaseAll.IndexError
import PyProof.ExcBaseAll.LookupError
import PyProof.ExcBaseAll.OverflowError
import PyProof.ExcBaseAll.ArithmeticError
import HandS.ForExc
import HandS.ExcInit
import HandS.Lambda
import HandS.Property
import HandS.Star
import PyProof.ReprRoads
import PyProof.CallFns
import HandS.Style
import HandS.WideBits
import HandS.Conv
import HandS.CallLocal
import HandS.SortKw
import HandS.FStr
import KE.KMinKey
import PyProof.MinMaxWalk
import PyProof.WalkInts
import HandS.SortInts
import HandS.SortOrd
import HandS.DictComp
import HandS.EndTab
import KE.KExcLine
import PySem.Challenge.RW_pauseplay_k24_errors_of_machines
section
set_option Elab.async false
set_option linter.all false
set_option maxRecDepth 100000
set_option maxHeartbeats 4000000
set_option autoImplicit false
namespace Pv
open PySem PySem.Spec PyProof.Rows L2
/-! ### enumerate over a tuple, from any number on -/
def ItE (K : PySem.W.Frag) (a : Addr) (k0 : Int) (n : Nat) : It :=
  ⟨fun i H => ∃ (xs : List V) (x : V), SqT K H a xs ∧ xs.length = n ∧ xs[i]? = some x,
   fun i H v H' => ∃ T x, v = .ref T ∧ H T = none ∧ H' = upd H T (.tup [.int (k0 + (i : Int)), x]) ∧ ∀ xs, SqT K H a xs → xs[i]? = some x,
   fun i H => ∃ xs : List V, SqT K H a xs ∧ xs.length = n ∧ n ≤ i⟩
theorem turn_enT {P : Program} {w : World} {K : PySem.W.Frag} {elts : List Expr} {kk : Nat} {tpos : Pos} (a e it : Addr) (k0 : Int) (n : Nat) (hei : e ≠ it) (hae : a ≠ e) (hai : a ≠ it) :
    Turn P w K (.Tuple elts kk tpos) (ItE K a k0 n) [e, it] e (fun i h => (∃ old, IsEnum h e it (k0 + (i : Int)) old) ∧ h.IsTupleIter it a i ∧ i ≤ n) where
  mem := by simp
  obj := fun i h st b hb => by
    obtain ⟨⟨old, he⟩, ⟨o, ho, _, hd⟩, _⟩ := st
    have hbb : b = e ∨ b = it := by simpa using hb
    rcases hbb with z | z <;> subst z
    · exact ⟨_, he, fun v q => nomatch q⟩
    · exact ⟨o, ho, fun v q => by rw [hd] at q; cases q⟩
  keep := fun i h h' st k => ⟨st.1.imp fun old he => k e (by simp) _ he, st.2.1.at fun o q => k it (by simp) o q, st.2.2⟩
  item := by
    intro X e1 e2 e3 hc i pins s σ H E I hf st hg
    subst e1 e2 e3
    obtain ⟨he, hit, hin⟩ := st
    obtain ⟨xs, x, hq, hl, hx⟩ := hg
    obtain ⟨its, rv, p, hz⟩ := I.tuple hq
    obtain ⟨u, hu, ru⟩ := rv.get hx
    have hlen : its.toArray.size = n := by rw [List.size_toArray, ← rv.length, hl]
    have hlt : i < n := by rw [← hl]; exact (List.getElem?_eq_some_iff.mp hx).1
    have hid : X.A.in1.handled = none := I.ok.hd hc
    refine (GoesN.enumFrom (elts := elts) (x1 := kk) (pos := tpos) k0 (Draws.tuple hid it a hai its.toArray) e hei (by simp [hei, Ne.symm hae]) (by simp)).goes i s _ E (by omega) ⟨he, hit, p⟩ fun v h' tk hY st' hk htk => ?_
    obtain ⟨T, t, y, ev, hT, hy, o, ho, hcl, m, hd⟩ := hY
    have ey : y = u := Option.some.inj (hy.symm.trans (by simpa using hu))
    subst ev; subst ey
    have nw : ObjOk X.prog X.w (upd H T (.tup [.int (k0 + (i : Int)), x])) h' T (.tup [.int (k0 + (i : Int)), x]) :=
      ⟨by show 2 ≤ sizeLine; decide, [.int (k0 + (i : Int)) t, y], .cons ⟨_, rfl⟩ (.cons ru .nil), ⟨o, ho, hcl, m, hd⟩⟩
    have I1 : Inv X pins σ (upd H T (.tup [.int (k0 + (i : Int)), x])) { s with heap := h', toks := tk } := I.turnedNew (ch := [e, it]) hk hf hT nw
    refine ⟨.ref T, _, I1, rfl, ⟨T, x, rfl, I.hok.fresh hT, rfl, fun ys hys => by rw [I.tuple_inj hys hq]; exact hx⟩, ⟨st'.1, st'.2.1, hlt⟩, fun b hb => ?_⟩
    have hbT : b ≠ T := by
      intro z
      subst z
      have hbb : b = e ∨ b = it := by simpa using hb
      have : b < s.heap.objs.size := by
        rcases hbb with z | z <;> subst z
        · exact Heap.lt_size he.choose_spec
        · obtain ⟨_, q, _⟩ := hit
          exact Heap.lt_size q
      exact absurd this (Nat.not_lt.mpr hT)
    rw [upd_ne hbT]
    exact (hf b hb).1
  done := by
    intro X e1 e2 e3 hc i pins s σ H E I hf st hg
    subst e1 e2 e3
    obtain ⟨he, hit, hin⟩ := st
    obtain ⟨xs, hq, hl, hx⟩ := hg
    obtain ⟨its, rv, p, hz⟩ := I.tuple hq
    have hlen : its.toArray.size = i := by rw [List.size_toArray, ← rv.length]; omega
    have hid : X.A.in1.handled = none := I.ok.hd hc
    have gz := GoesN.enumFrom (elts := elts) (x1 := kk) (pos := tpos) k0 (Draws.tuple (prog := X.prog) (w := X.w) hid it a hai its.toArray) e hei (by simp [hei, Ne.symm hae]) (by simp)
    rw [hlen] at gz
    exact gz.stops s _ E ⟨he, hit, p⟩ fun h' tk hk htk => I.turnedL (ch := [e, it]) hk hf
  self := fun A i s Q E st h => wpAny_pyIter_enum st.1.choose_spec h
/-! its beginning -/
set_option maxHeartbeats 1000000 in
theorem meets_enum0 {v : Value} {o : Obj} {B0 : Heap → Prop} (B : Begins v o B0) :
    Meets (Builtin.«enumerate.__new__» ⟨[.type "enumerate", v], []⟩) (fun _ R s => B0 s.heap ∧
      R (.ok (.ret (.ref (s.heap.push o).objs.size))) { s with heap := (s.heap.push o).push { cls := .type "enumerate", data := .fields #[.none, .bool false, .ref s.heap.objs.size, rawInt 0, .none, .none] } }) :=
  .of_wp fun prog w A R s hh => by
    obtain ⟨hp, gg, dd, tk, oo⟩ := s
    obtain ⟨hb, hR⟩ := hh
    have hsub := sub_enumerate
    have it0 : ∀ {A' : Around} {E : Value → Shared → Prop} {Q : Value → Shared → Prop}, Q (.ref hp.objs.size) ⟨hp.push o, gg, dd, tk, oo⟩ → wpAny (model prog w) A' (pyIter v) Q E ⟨hp, gg, dd, tk, oo⟩ :=
      fun q => B.iter prog w _ _ _ _ hb q
    wp_walk using it0
    refine wpAny_stack_any fun _ => wpAny_pure ?_
    split
    · rename_i c _ _ _ _ _
      cases (c == Value.type "enumerate") <;> (wp_walk using it0; exact ⟨_, rfl, hR⟩)
    · wp_walk using it0
      exact ⟨_, rfl, hR⟩
section
variable {prog : Program} {w : World} {A : Around} {E : Value → Shared → Prop} {s : Shared}
theorem enum_begins0 {v : Value} {o : Obj} {B0 : Heap → Prop} {Q : Value → Shared → Prop} (B : Begins v o B0) (hb : B0 s.heap)
    (h : ∀ h', IsEnum h' (s.heap.objs.size + 1) s.heap.objs.size 0 .none → h'.get? s.heap.objs.size = some o → (∀ b x, s.heap.get? b = some x → h'.get? b = some x) → Q (.ref (s.heap.objs.size + 1)) { s with heap := h' }) :
    wpAny (model prog w) A (call (.type "enumerate") [v]) Q E s := by
  have hz : (s.heap.push o).objs.size = s.heap.objs.size + 1 := Heap.size_push ..
  refine callType_new F.called_enumerate (by decide) (F.typeCall_enumerate_1 _) (F.newCall_enumerate_1 _) (fun ob => F.args_object_init_2 ob _) F.entry_enumerate_new (meets_enum0 B) ⟨hb, ?_⟩
  show _ ∧ _
  rw [hz]
  have he : IsEnum ((s.heap.push o).push { cls := .type "enumerate", data := .fields #[.none, .bool false, .ref s.heap.objs.size, rawInt 0, .none, .none] }) (s.heap.objs.size + 1) s.heap.objs.size 0 .none := by
    have q := Heap.get?_push_size (s.heap.push o) (o := { cls := .type "enumerate", data := .fields #[.none, .bool false, .ref s.heap.objs.size, rawInt 0, .none, .none] }) rfl
    rw [hz] at q
    exact q
  exact ⟨⟨_, he, rfl⟩, h _ he (Heap.get?_push_of_some _ (Heap.get?_push_size _ B.free)) fun b x q => Heap.get?_push_of_some _ (Heap.get?_push_of_some _ q)⟩
end
theorem callWith_typeK {M : Model} {A : Around} {E : Value → Shared → Prop} {s : Shared} {pos : Pos} {T : String} {x : Sem Value} {rest : List (Bool × Sem Value)} {kws : List (Option Str × Sem Value)} {Q : Value → Shared → Prop}
    (h1 : ((false, x) :: rest).any (·.1) = false) (h2 : kws.any (·.1.isNone) = false) (h3 : kws.all (·.1.isSome) = true)
    (h : wpAny M A (spliced ((false, x) :: rest)) (fun vs s1 => wpAny M A (evalAll (kws.map (·.2))) (fun kvs s2 => wpAny M A (call (.type T) vs ((kws.filterMap (·.1)).zip kvs)) Q E s2) E s1) E s) :
    wpAny M A (callWith pos (.type T) [] ((false, x) :: rest) kws) Q E s := by
  unfold callWith
  refine wpAny_bind (wpAny_holding (wpAny_mono (evalArgs_kwB (Q := fun a s2 => wpAny M A (call (.type T) a.pos a.kw) Q E s2) h3 h) (fun a s1 q => wpAny_bind (wpAny_standAt ?_)) fun _ _ z => z))
  simp only [h1, h2, Bool.or_false]
  refine wpAny_bind (wpAny_pure ?_)
  exact wpAny_bind (wpAny_mono q (fun r s2 hr => wpAny_bind (wpAny_holding (wpAny_point (wpAny_pure hr)))) fun _ _ z => z)
/-- the row or the tuple that is counted through -/
def iEnA (K : PySem.W.Frag) (ta : TA) : TI := fun σ H R => ta σ H fun vs H1 => ∃ a xs, vs = [.ref a] ∧ ((SqL K H1 a xs ∧ R (Ite K a) H1) ∨ (SqT K H1 a xs ∧ R (ItE K a 0 xs.length) H1))
theorem pi_enA {X : Cx} {e : Expr} {ta : TA} {p pos tpos : Pos} {elts : List Expr} {kk : Nat} (hg : Gl X "enumerate") (hm : X.mg "enumerate" = none) (ha : PA X [e] ta) (hs : starEach [e] X.env = [(false, eval e X.env)]) :
    PI X (.Tuple elts kk tpos) (.Call (.Name "enumerate" p) [e] [] pos) (iEnA X.K ta) := by
  refine ⟨fun pins s σ H R I h => ?_⟩
  refine Call_ (ld_blt I hg hm boot_enumerate (PyProof.Rows.callWith_type1 (thn (ha.run pos pins s σ H _ I h) fun us s1 ⟨vs, H1, I1, r1, q1⟩ => ?_) hs rfl))
  obtain ⟨a, xs, ex, q1⟩ := q1
  subst ex
  cases r1 with
  | cons r rr =>
    cases rr
    cases r
    have fp : ∀ b, b ∈ [s1.heap.objs.size + 1, s1.heap.objs.size] → FpOk X pins H1 b := fun b hb => by
      have hle : s1.heap.objs.size ≤ b := by
        simp only [List.mem_cons, List.not_mem_nil, or_false] at hb
        rcases hb with z | z <;> rw [z]
        · exact Nat.le_succ _
        · exact Nat.le_refl _
      exact I1.fpOk hle (I1.hok.fresh hle)
    rcases q1 with ⟨hq, q⟩ | ⟨hq, q⟩
    · obtain ⟨its, rv, pl, hz⟩ := I1.list hq
      refine call_enumerate_list pl.isList fun h' he hit hsz hk => wpAny_pyIter_enum he ?_
      exact ⟨_, _, _, _, H1, rfl, I1.kept (t' := s1.toks) hk, turn_enum a (s1.heap.objs.size + 1) s1.heap.objs.size, ⟨⟨.none, he⟩, hit, Nat.succ_ne_self _⟩, fp, q⟩
    · obtain ⟨its, rv, pt, hz⟩ := I1.tuple hq
      have la : a < s1.heap.objs.size := by
        obtain ⟨_, q, _⟩ := pt
        exact Heap.lt_size q
      refine enum_begins0 (begins_tuple a its.toArray) pt fun h' he hit hk => wpAny_pyIter_enum he ?_
      exact ⟨_, _, _, _, H1, rfl, I1.kept (t' := s1.toks) hk, turn_enT a (s1.heap.objs.size + 1) s1.heap.objs.size 0 xs.length (Nat.succ_ne_self _) (Nat.ne_of_lt (Nat.lt_succ_of_lt la)) (Nat.ne_of_lt la),
        ⟨⟨.none, he⟩, ⟨_, hit, rfl, rfl⟩, Nat.zero_le _⟩, fp, q⟩
def iEnS (K : PySem.W.Frag) (ta : TA) (k0 : Int) : TI := fun σ H R => ta σ H fun vs H1 => ∃ a xs, vs = [.ref a] ∧ SqT K H1 a xs ∧ R (ItE K a k0 xs.length) H1
theorem pi_enS {X : Cx} {e kv : Expr} {ta : TA} {p pos tpos kp : Pos} {elts : List Expr} {kk : Nat} {k0 : Int} (hg : Gl X "enumerate") (hm : X.mg "enumerate" = none) (ha : PA X [e] ta) (hk : PE X kv (tC (.int k0))) (h0 : 0 ≤ k0) (h1 : k0 < 1000) (hs : starEach [e] X.env = [(false, eval e X.env)]) :
    PI X (.Tuple elts kk tpos) (.Call (.Name "enumerate" p) [e] [⟨some "start", kv, kp⟩] pos) (iEnS X.K ta k0) := by
  refine ⟨fun pins s σ H R I h => ?_⟩
  have har := ha.run pos pins s σ H _ I h
  show wpAny _ _ (do callWith pos (← eval (.Name "enumerate" p) X.env) [] (backTo pos (starEach [e] X.env)) (backToKw pos [(some "start", eval kv X.env)])) _ _ s
  rw [hs] at har ⊢
  refine wpAny_bind (ld_blt I hg hm boot_enumerate (callWith_typeK rfl rfl rfl (thn har fun us s1 ⟨vs, H1, I1, r1, q1⟩ => ?_)))
  refine evalAll_cons (wpAny_bind (thn (hk.run pins s1 σ H1 (fun v H2 => v = .int k0 ∧ H2 = H1) I1 ⟨rfl, rfl⟩) fun u s2 ⟨v, H2, I2, rv, e1, e2⟩ => wpAny_bind (wpAny_standAt (wpAny_pure (evalAll_nil ?_)))))
  subst e1; subst e2
  obtain ⟨t, eu⟩ := rv
  subst eu
  obtain ⟨a, xs, ex, hq, q⟩ := q1
  subst ex
  cases r1 with
  | cons r rr =>
    cases rr
    cases r
    have fp : ∀ b, b ∈ [s2.heap.objs.size + 1, s2.heap.objs.size] → FpOk X pins H2 b := fun b hb => by
      have hle : s2.heap.objs.size ≤ b := by
        simp only [List.mem_cons, List.not_mem_nil, or_false] at hb
        rcases hb with z | z <;> rw [z]
        · exact Nat.le_succ _
        · exact Nat.le_refl _
      exact I2.fpOk hle (I2.hok.fresh hle)
    obtain ⟨its, rv, pt, hz⟩ := I2.tuple hq
    have la : a < s2.heap.objs.size := by
      obtain ⟨_, q, _⟩ := pt
      exact Heap.lt_size q
    show wpAny _ _ (call (.type "enumerate") [.ref a] [(("start" : Str), .int k0 t)]) _ _ s2
    refine enum_begins_start (begins_tuple a its.toArray) pt (by omega) (by omega) fun h' he hit hsz hk' => wpAny_pyIter_enum he ?_
    exact ⟨_, _, _, _, H2, rfl, I2.kept (t' := s2.toks) hk', turn_enT a (s2.heap.objs.size + 1) s2.heap.objs.size k0 xs.length (Nat.succ_ne_self _) (Nat.ne_of_lt (Nat.lt_succ_of_lt la)) (Nat.ne_of_lt la),
        ⟨⟨.none, by simpa using he⟩, ⟨_, hit, rfl, rfl⟩, Nat.zero_le _⟩, fp, q⟩
/-! ### a tuple taken no time, or once -/
section
variable {l : Addr} {items : Array Value} {n : Nat} {dd : Option Addr} {sl : Array (Option Value)} {x : Int} {u : Tok}
theorem tup_mul1 (c0 : (decide (x < -(2 ^ 63)) || decide (x ≥ 2 ^ 63)) = false) (c1 : (items.isEmpty || x == 1) = true) :
    Meets (Builtin.«tuple.__mul__» ⟨[.ref l, .int x u], []⟩) (fun _ R s => s.heap.get? l = some { cls := .type "tuple", dict := dd, data := .seq items n, slots := sl } ∧ R (.ok (.ret (.ref l))) s) :=
  .of_wp fun prog w A R s h => by
    obtain ⟨hp, g, d, tk, os⟩ := s
    obtain ⟨hl, hR⟩ := h
    have f1 := AutoSeq1.idx_int
    wp_walk using AutoSeq1.wpAny_loadPart' hl
    repeat (first
      | (refine wpAny_ite_false (decide_eq_false (by rw [c0]; exact Bool.false_ne_true)) ?_; wp_walk using AutoSeq1.wpAny_loadPart' hl)
      | (refine wpAny_ite_true (decide_eq_true (by rw [c1])) ?_; wp_walk using AutoSeq1.wpAny_loadPart' hl))
    all_goals exact ⟨_, rfl, hR⟩
theorem tup_mul0 (c0 : (decide (x < -(2 ^ 63)) || decide (x ≥ 2 ^ 63)) = false) (c1 : (items.isEmpty || x == 1) = false) (c2 : (decide (x ≤ 0) || items.isEmpty) = true) :
    Meets (Builtin.«tuple.__mul__» ⟨[.ref l, .int x u], []⟩) (fun _ R s => s.heap.get? l = some { cls := .type "tuple", dict := dd, data := .seq items n, slots := sl } ∧
      R (.ok (.ret (.ref s.heap.objs.size))) { s with heap := s.heap.push { cls := Value.type "tuple", data := Data.seq #[] } }) :=
  .of_wp fun prog w A R s h => by
    obtain ⟨hp, g, d, tk, os⟩ := s
    obtain ⟨hl, hR⟩ := h
    have f1 := AutoSeq1.idx_int
    wp_walk using AutoSeq1.wpAny_loadPart' hl
    repeat (first
      | (refine wpAny_ite_false (decide_eq_false (by rw [c0]; exact Bool.false_ne_true)) ?_; wp_walk using AutoSeq1.wpAny_loadPart' hl)
      | (refine wpAny_ite_false (decide_eq_false (by rw [c1]; exact Bool.false_ne_true)) ?_; wp_walk using AutoSeq1.wpAny_loadPart' hl)
      | (refine wpAny_ite_true (decide_eq_true (by rw [c2])) ?_; wp_walk using AutoSeq1.wpAny_loadPart' hl))
    all_goals exact ⟨_, rfl, hR⟩
end
/-- k is 1, or at most 0 -/
def rRep01 (K : PySem.W.Frag) : R2 := fun x y H Q => ∃ l k xs, x = .ref l ∧ y = .int k ∧ SqT K H l xs ∧ xs ≠ [] ∧ ((k = 1 ∧ Q (.ref l) H) ∨ (-1000 ≤ k ∧ k ≤ 0 ∧ ∀ p, H p = none → Q (.ref p) (upd H p (.tup []))))
theorem op_rep01 {X : Cx} : OpR X (binaryOp .Mult) (rRep01 X.K) := by
  intro pins s σ H x y v u Q I rx ry h
  obtain ⟨l, k, xs, e1, e2, hT, hne, q⟩ := h
  subst e1; subst e2
  cases rx
  obtain ⟨t, e3⟩ := ry
  subst e3
  obtain ⟨its, r, ⟨⟨cls, dd, data, sl⟩, ho, hc, n, hd⟩, hs⟩ := I.tuple hT
  simp only at hc hd
  subst hc hd
  have hi : its.toArray.isEmpty = false := by
    cases its with
    | nil => exact absurd (List.eq_nil_of_length_eq_zero r.length) hne
    | cons a b => rfl
  have hk : -1000 ≤ k ∧ k ≤ 1 := by
    rcases q with ⟨e, _⟩ | ⟨h1, h2, _⟩ <;> omega
  have c0 : (decide (k < -(2 ^ 63)) || decide (k ≥ 2 ^ 63)) = false := by
    rw [decide_eq_false (by omega), decide_eq_false (by omega)]
    rfl
  rcases q with ⟨e, q⟩ | ⟨h1, h2, q⟩
  · subst e
    refine wpAny_binaryOp_repeat_ref (T := "tuple") (U := "int") (by decide) ⟨_, ho, rfl⟩ (fun s' => typeIs_int s' 1 t) noFill_tuple_mul F.fills_int_mul F.slot_int_rmul repeat_tuple F.slot_int_index.lookup
      (call_meets F.slot_int_rmul (typeIs_int s 1 t) F.entry_int_rmul (F.args_int_rmul_2 _ _) (int_rmul_tuple 1 t l its.toArray n dd sl)
        ⟨ho, rfl, ⟨_, ho, rfl⟩, call_meets F.slot_tuple_mul ⟨_, ho, rfl⟩ F.entry_tuple_mul (F.args_tuple_mul_2 _ _) (tup_mul1 c0 (by rw [Bool.or_eq_true]; exact .inr rfl)) ⟨ho, ?_⟩⟩)
    exact ⟨.ref l, _, I, rfl, q⟩
  · have c1 : (its.toArray.isEmpty || k == 1) = false := by
      rw [hi, Bool.false_or]
      exact beq_eq_false_iff_ne.mpr (by omega)
    have c2 : (decide (k ≤ 0) || its.toArray.isEmpty) = true := by
      rw [decide_eq_true h2]
      rfl
    refine wpAny_binaryOp_repeat_ref (T := "tuple") (U := "int") (by decide) ⟨_, ho, rfl⟩ (fun s' => typeIs_int s' k t) noFill_tuple_mul F.fills_int_mul F.slot_int_rmul repeat_tuple F.slot_int_index.lookup
      (call_meets F.slot_int_rmul (typeIs_int s k t) F.entry_int_rmul (F.args_int_rmul_2 _ _) (int_rmul_tuple k t l its.toArray n dd sl)
        ⟨ho, rfl, ⟨_, ho, rfl⟩, call_meets F.slot_tuple_mul ⟨_, ho, rfl⟩ F.entry_tuple_mul (F.args_tuple_mul_2 _ _) (tup_mul0 c0 c1 c2) ⟨ho, ?_⟩⟩)
    refine ⟨.ref s.heap.objs.size, _, I.laid (t' := s.toks) (o := .tup []) (fun b ob q => Heap.get?_push_of_some _ q) (Nat.le_refl _) ?_, rfl, q _ (I.hok.fresh (Nat.le_refl _))⟩
    exact ⟨by show 0 ≤ sizeLine; exact Nat.zero_le _, [], .nil, IsTup.new _ _⟩
end Pv
end
section
set_option Elab.async false
set_option linter.all false
set_option maxRecDepth 100000
set_option maxHeartbeats 2000000
set_option autoImplicit false
/-! own exception classes over any built-in base, whose __init__ keeps one value -/
namespace Px
open PySem PySem.Spec PyProof.Rows L2
section
open Builtin Builtin.ObjectAttr PySem.Calls PySem.HandSPX
variable {prog : Program} {w : World} {A : Around} {R : Result → Shared → Prop} {B : String} {bmB : List Value}
/-- the first store into an exception that has no dict as yet -/
theorem put_first {K : PySem.W.Frag} {nm : Str} {tk : Tok} {v : Value} {x C : Addr} {fv : Array Value} {s : Shared}
    (SF : StoreFacts B bmB "object.__setattr__" "object") (kin : K.In s.heap) (at_ : s.heap.get? x = some { cls := .ref C, data := .fields fv })
    (ov : PySem.W.excOver K C bmB = true) (hd : PySem.W.hasDictIn K C = true) (no : PySem.W.takerIn K C nm = some none)
    (go : ∀ (h2 : Heap) (t2 : Nat) (dx : Addr), (∀ b o, b ≠ x → s.heap.get? b = some o → h2.get? b = some o) → s.heap.objs.size ≤ dx → dx ≠ x →
      h2.get? x = some { cls := .ref C, dict := some dx, data := .fields fv } → h2.Ns1 dx (fun y => if y = nm then some v else none) → R (.ok (.ret .none)) { s with heap := h2, toks := t2 }) :
    codeAny (model prog w) A (.call (.builtin "object.__setattr__") ⟨[.ref x, .str nm tk, v], []⟩) R s := by
  refine PySem.W.osa_openX (od := none) SF kin ⟨at_, rfl, rfl, trivial⟩ ov no fun b => ?_
  obtain ⟨cd, hc, hdc⟩ := PySem.W.any_some hd
  have below : x < s.heap.objs.size := Heap.lt_size at_
  have apart : x ≠ s.heap.objs.size := Nat.ne_of_lt below
  have hcls : PySem.W.Looks (model prog w) s.heap (classData C) cd := PySem.W.looks_clsIn kin hc
  obtain ⟨hp, g, d, t, os⟩ := s
  obtain ⟨c1, c2, c3, c4, c5, c6, c7, c8, c9, c10, c11⟩ := cd
  dsimp only at hdc
  subst hdc
  show wpAny _ _ (storeInOwnDict (.ref x) (.ref C) (.str nm tk) nm v b) _ _ _
  unfold storeInOwnDict ownDictForStores
  repeat (first | with_reducible refine store_in_new ?_ ?_ | with_reducible refine wpAny_loadPart_at at_ ?_ | with_reducible refine hcls.at ?_ | wp_step)
  · exact ⟨_, #[], _, (Heap.get?_update_ne _ _ _ _ apart.symm).trans (Heap.get?_push_at rfl rfl), rfl, fun e he => absurd he (by simp), fun _ => rfl⟩
  · intro h2 t2 ns same
    have kept := Heap.get?_push_of_some ({ cls := .type "dict", data := .dict #[] } : Obj) at_
    refine go h2 t2 hp.objs.size (fun b o ne ho => ?_) (Nat.le_refl _) apart.symm ?_ ns
    · have n1 : b ≠ hp.objs.size := Nat.ne_of_lt (Heap.lt_size ho)
      rw [same.2 b n1, Heap.get?_update_ne _ _ _ _ ne]
      exact Heap.get?_push_of_some _ ho
    · rw [same.2 x apart]
      exact Heap.get?_update_self _ kept rfl
end
/-- what the head tells of the class at C, and of its built-in base -/
structure KeepC (K : PySem.W.Frag) (C : Addr) (f : Str) : Prop where
  base : ∃ (B newId initId : String) (bmB : List Value), ExcBaseFacts B newId initId bmB ∧ StoreFacts B bmB "object.__setattr__" "object" ∧ PySem.W.excInitIn K C bmB newId = true ∧ PySem.W.excOver K C bmB = true
  sa : PySem.W.findIn K (.ref C) "__setattr__" = some (some (.builtin "object.__setattr__"))
  tk : PySem.W.takerIn K C f = some none
  hd : PySem.W.hasDictIn K C = true
  xf : PySem.W.subIn K (.ref C) (.type "BaseException") = some true
  ty : PySem.W.typeIn K (.ref C) = some (.type "type")
  kp : PySem.W.keepIn K (.ref C) = true
section
variable {X : Cx} {pins : List (Addr × Obj)} {σ : L2.St} {H : Hp} {s : Shared} {a C : Addr} {f : Str} {y : V} {u : Value}
/-- self.f = y in __init__ -/
theorem keep_put {Q : Unit → Shared → Prop} {E : Value → Shared → Prop} {A : Around} (T : KeepC X.K C f) (I : Inv X pins σ H s) (ea : H a = some (exo a C none)) (ry : RelV y u)
    (go : ∀ (dx : Addr) (s2 : Shared), H dx = none → dx ≠ a → Inv X pins σ (upd (upd H dx (exd dx [(f, y)])) a (exo a C (some dx))) s2 → Q () s2) : wpAny (model X.prog X.w) A (setAttr (.ref a) f u) Q E s := by
  obtain ⟨B, newId, initId, bmB, _, SF, _, ov⟩ := T.base
  obtain ⟨t1, at_⟩ := exo_at I.hok ea
  refine PySem.W.set_plain I.kIn (od := none) ⟨at_, rfl, rfl, trivial⟩ T.sa ?_
  refine put_first SF I.kIn at_ ov T.hd T.tk fun h2 t2 dx kept dn dne hx hns => ?_
  have fresh : H dx = none := I.hok.fresh dn
  have old : ∀ {b : Addr} {o : Obj}, s.heap.get? b = some o → b ≠ dx := fun {b o} q => Nat.ne_of_lt (Nat.lt_of_lt_of_le (Heap.lt_size q) dn)
  have others : ∀ {b : Addr}, H b = none → b ≠ a := fun {b} n z => by
    subst z
    rw [ea] at n
    cases n
  have same : ∀ b, b ≠ a → b ≠ dx → upd (upd H dx (exd dx [(f, y)])) a (exo a C (some dx)) b = H b := fun b h1 h2 => (upd_ne h1).trans (upd_ne h2)
  refine go dx _ fresh dne (I.un (t' := t2) ?_ ?_)
  · constructor
    · exact fun b o q n _ _ => kept b o (others n) q
    · exact fun b o q n _ _ => ⟨o.slots, kept b o (others n) q⟩
    · exact fun b o q n _ => (same b (others n) (old q)).trans n
    · intro b o q _
      by_cases hb : b = a
      · subst hb; exact ⟨_, hx⟩
      · exact ⟨o, kept b o hb q⟩
    · exact fun b xs q => (same b (at_ne ea q exo_tup) (ne_of_none q fresh)).trans q
    · exact fun b o v q => (same b (at_ne ea q exo_frz) (ne_of_none q fresh)).trans q
    · exact fun b ps q => ⟨#[], by rw [same b (at_ne ea q exo_tbl) (ne_of_none q fresh), q]; simp⟩
  · intro b o q
    by_cases hb : b = a
    · subst hb
      rw [upd_same] at q
      cases q
      exact exo_ok hx
    · by_cases hb2 : b = dx
      · subst hb2
        rw [upd_ne hb, upd_same] at q
        cases q
        exact exd_ok hns (relO_put (fs := []) ry fun _ => True.intro)
      · rw [same b hb hb2] at q
        refine (I.hok b o q).stay (fun c v hc z => kept c v ?_ z) (fun c hc => ?_) fun c xs hc => ?_
        · rcases hc with hc | hc
          · subst hc; exact hb
          · exact at_ne ea hc exo_own
        · exact (same c (at_ne ea hc exo_own) (ne_of_none hc fresh)).trans hc
        · exact (same c (at_ne ea hc exo_tup) (ne_of_none hc fresh)).trans hc
/-- the promise of such an __init__ -/
def spKeep (C : Addr) (f : Str) : Sp := fun vs H Q _ => ∃ (a : Addr) (y : V), vs = [.ref a, y] ∧ H a = some (exo a C none) ∧ ∀ dx, H dx = none → dx ≠ a → Q .non (upd (upd H dx (exd dx [(f, y)])) a (exo a C (some dx)))
def tKeep (C : Addr) (f : Str) (to te : TE) : TS := fun D σ H => te σ H fun y H1 => to σ H1 fun x H2 => ∃ a : Addr, x = .ref a ∧ H2 a = some (exo a C none) ∧ ∀ dx, H2 dx = none → dx ≠ a → D.nx σ (upd (upd H2 dx (exd dx [(f, y)])) a (exo a C (some dx)))
theorem ps_keep {o e : Expr} {to te : TE} {p pos : Pos} (T : KeepC X.K C f) (ho : PE X o to) (he : PE X e te) (hs : swapsWith e (some (.Attribute o f p)) pos.line X.env = pure false) : PS X (.Assign [.Attribute o f p] e pos) (tKeep C f to te) := by
  constructor
  intro pins s σ H D I h
  refine plainObj_wpAny_Assign_Attribute (thn (he.run pins s σ H _ I h) fun v s1 k1 => ?_) hs
  obtain ⟨y, H1, I1, r1, q1⟩ := k1
  refine thn (ho.run pins s1 σ H1 _ I1 q1) fun u s2 k2 => ?_
  obtain ⟨x, H2, I2, r2, a, ex, ea, q⟩ := k2
  subst ex
  cases (show u = Value.ref a from r2)
  exact keep_put T I2 ea r1 fun dx s3 n ne J => ⟨σ, _, J, q dx n ne⟩
/-- an __init__ of one statement -/
theorem fn_keep {CX : CXT} {P : Program} {w : World} {K : PySem.W.Frag} {mg : Str → Option Value} {base : Heap} {fa : Addr} {name qual g : Str} {params : Arguments} {body : List Stmt} {scope : Scope} {dV kV doc pm cdv ct oc : Value} {an od : Option Addr}
    {osl : Array (Option Value)} {p1 p2 p3 p4 : Pos} (lk : K.lookup fa = some ⟨oc, od, .func (PySem.W.fnOf name qual params body scope dV kV doc pm an cdv ct), osl⟩) (hcd : PySem.W.codeIn K cdv qual = true) (S : FnScope ["self", g] ["self", g] scope)
    (hb : body = [.Assign [.Attribute (.Name "self" p1) f p2] (.Name g p3) p4]) (T : KeepC K C f) (hg : (g == ("__debug__" : Str)) = false) (hg2 : (g == ("__classdict__" : Str)) = false) :
    FnOk P w K mg base CX 1 fa (PySem.W.fnOf name qual params body scope dV kV doc pm an cdv ct) ["self", g] (spKeep C f) := by
  refine fn_of lk hcd S (fun vs H Q E h => ?_) (fun A outer s H vs Q E hr h => ?_)
  · obtain ⟨a, y, e, _⟩ := h
    rw [e]; rfl
  · obtain ⟨a, y, e, ea, q⟩ := h
    subst e; subst hb
    have v0 : Vis scope "self" := (S.par "self" (List.Mem.head _)).elim (fun z => .inl z) fun z => .inr (.inl z)
    have v1 : Vis scope g := (S.par g (List.Mem.tail _ (List.Mem.head _))).elim (fun z => .inl z) fun z => .inr (.inl z)
    refine ⟨_, pss_one (ps_keep (C := C) T (pe_var (i := 0) rfl v0) (pe_var (i := 1) rfl v1 hg hg2) rfl), ?_⟩
    exact ⟨y, rfl, .ref a, rfl, a, rfl, ea, q⟩
/-- C(e): the exception, its dict with the value -/
def tMkKeep (C : Addr) (f : Str) (ta : TA) : L2.St → Hp → XK → Prop := fun σ H Q => ta σ H fun vs H1 => ∃ y, vs = [y] ∧ ∀ d, H1 d = none → Q (.ref C) (some d) (upd H1 d (.xd [(f, y)]))
theorem pmk_keep {CX : CXT} {x g : Str} {fI : Addr} {k : Nat} {fd : FuncData} {e : Expr} {ta : TA} {p pos : Pos} (T : KeepC X.K C f) (iC : PySem.W.findIn X.K (.ref C) "__init__" = some (some (.ref fI))) (tI : PySem.W.typeIn X.K (.ref fI) = some (.type "function"))
    (F1 : FnOk X.prog X.w X.K X.mg X.base CX k fI fd ["self", g] (spKeep C f)) (room : Room (k + 1) X.A) (hb : Binds X.K fd ["self", g] []) (out : Passes CX X (fun _ _ _ => False)) (hg : Gl X x) (hm : X.mg x = some (.ref C)) (ha : PA X [e] ta)
    (hdb : (x == ("__debug__" : Str)) = false) (he : starEach [e] X.env = (false, eval e X.env) :: starEach [] X.env) : PMk X (.Call (.Name x p) [e] [] pos) (tMkKeep C f ta) := by
  intro pins s σ H Q I h
  obtain ⟨B, newId, initId, bmB, FB, _, ini, _⟩ := T.base
  refine wpAny_Call_Name_kw (ld_glob I hg hm ?_ hdb)
  refine PySem.W.callWith_K (h₀ := X.base) I.ok.mod.kin T.kp (thn (ha.run pos pins s σ H _ I h) fun us s1 k1 => ?_) he (by rfl)
  obtain ⟨vs, H1, I1, r1, y, ev, q1⟩ := k1
  subst ev
  refine ⟨I1.kIn, ?_⟩
  show wpAny _ _ (call (.ref C) us) _ _ _
  have hu1 : us.length = 1 := (Paired.length r1).symm
  obtain ⟨hp, gs, dr, tk, os⟩ := s1
  obtain ⟨nm, N, q, bs, bm, hdct, sn, sub, ab, col, dd, k0, k1, k2, k3, k5, hC, hT⟩ := PySem.W.excInit_of I1.kIn ini
  -- the exception, behind the tuple of its arguments
  generalize hA : hp.objs.size + 1 = a
  have le : hp.objs.size ≤ a := by rw [← hA]; exact Nat.le_succ _
  have na : H1 a = none := I1.hok.fresh le
  have kk : ∀ b o, hp.get? b = some o → ((hp.push (PySem.W.kdv_tup us)).push (PySem.HandSPX.excO C hp.objs.size)).get? b = some o := fun b o e => Heap.get?_push_of_some _ (Heap.get?_push_of_some _ e)
  have there : ((hp.push (PySem.W.kdv_tup us)).push (PySem.HandSPX.excO C hp.objs.size)).get? a = some (PySem.HandSPX.excO C hp.objs.size) := by rw [← hA]; heap_get
  have I2 := I1.laid (t' := tk) (o := exo a C none) kk le (exo_ok there)
  have lu : us.length ≤ sizeLine := by rw [hu1, sizeLine_eq]; omega
  have r2 : Vals [V.ref a, y] (Value.ref a :: us) := .cons rfl r1
  have bnd := hb { heap := (hp.push (PySem.W.kdv_tup us)).push (PySem.HandSPX.excO C hp.objs.size), gens := gs, drawn := dr, toks := tk, os := os } (Value.ref a :: us) I2.kIn (by show (Value.ref a :: us ++ []).length = 2; rw [List.append_nil, List.length_cons, hu1])
  rw [List.append_nil] at bnd
  have run := F1.run (A := X.A.under (.builtin "type.__call__" ⟨.ref C :: us, []⟩)) X.stack _ _ ⟨Value.ref a :: us, []⟩ (Value.ref a :: us) [V.ref a, y]
    (fun v H2 => v = .non ∧ ∃ d, H1 d = none ∧ d ≠ a ∧ H2 = upd (upd (upd H1 a (exo a C none)) d (exd d [(f, y)])) a (exo a C (some d))) (fun _ _ _ => False) (room.make C us []) (I2.env0.make C us []) bnd r2
    ⟨a, y, rfl, upd_same, fun d nd da => ⟨rfl, d, by rw [upd_ne da] at nd; exact nd, da, rfl⟩⟩
  rw [← hA] at run
  refine wpAny_call (PySem.HandSPX.call_own FB hT hC (PySem.W.looks_findIn I1.kIn iC) (fun self => PySem.W.bind_fn I1.kIn self tI) lu (codeAny_mono run fun r s' hq => ?_))
  rw [hA] at hq ⊢
  cases r with
  | error er => exact out pins σ _ _ er s' I2 hq
  | ok fl =>
    cases fl with
    | next => exact False.elim hq
    | brk => exact False.elim hq
    | cont => exact False.elim hq
    | ret u =>
      obtain ⟨v, H2, os2, bare2, un2, hok2, rv, ev, d, nd, da, eH⟩ := hq
      subst ev; subst eH
      obtain ⟨h2, g2, d2, t2, os'⟩ := s'
      refine ⟨rv, mk_end (fs := [(f, y)]) (raises_own T.xf T.ty) I1 le kk un2 hok2 os2 bare2 upd_same (by rw [upd_ne da, upd_same]) nd ?_⟩
      have eqH : upd (del (upd (upd (upd H1 a (exo a C none)) d (exd d [(f, y)])) a (exo a C (some d))) a) d (.xd [(f, y)]) = upd H1 d (.xd [(f, y)]) := by
        funext b
        by_cases h1 : b = d
        · subst h1; rw [upd_same, upd_same]
        · rw [upd_ne h1, upd_ne h1]
          by_cases h2 : b = a
          · subst h2; rw [del_same, na]
          · rw [del_ne h2, upd_ne h2, upd_ne h1, upd_ne h2]
      rw [eqH]
      exact q1 d nd
end
end Px
end
section
set_option Elab.async false
set_option linter.all false
set_option maxRecDepth 100000
set_option maxHeartbeats 2000000
set_option autoImplicit false
/-! try with several clauses, some of them with a name -/
namespace Px
open PySem PySem.Spec PyProof.Rows L2
/-- a clause: the class, the name's slot, the suite's reading -/
structure Cl where
  c : Value
  nm : Option Nat
  ts : Addr → Value → Option Addr → TS
/-- behind a suite the name goes -/
def shut (i : Nat) (D : Ends) : Ends := { nx := fun σ H => D.nx (σ.set i none) H, rt := D.rt, bk := fun σ H => D.bk (σ.set i none) H, ct := fun σ H => D.ct (σ.set i none) H }
def Cl.wish (q : Cl) (D : Ends) (cls : Value) (d : Option Addr) (σ : L2.St) (H : Hp) : Prop := ∀ a, H a = none → match q.nm with
  | none => q.ts a cls d D σ H
  | some i => q.ts a cls d (shut i D) (σ.set i (some (.ref a))) H
def wAll (K : PySem.W.Frag) (Wout : WX) (D : Ends) : List Cl → WX
  | [] => Wout
  | q :: r => fun cls d σ H => ∃ b, PySem.W.exmOne K cls q.c = some b ∧ (b = true → q.wish D cls d σ H) ∧ (b = false → wAll K Wout D r cls d σ H)
/-- the name's place -/
def NmOk (X : Cx) : Option Str → Option Nat → Prop
  | none, none => True
  | some n, some i => X.N[i]? = some n ∧ X.env.kindOf n = some .local
  | _, _ => False
inductive HdsAll (X : Cx) : List ExceptHandler → List Cl → Prop
  | nil : HdsAll X [] []
  | cons {x : Str} {q : Cl} {on : Option Str} {b₀ : Stmt} {suite : List Stmt} {np pos' : Pos} {hds : List ExceptHandler} {l : List Cl} (hc : Names X x q.c) (hn : NmOk X on q.nm)
      (hsu : ∀ (a : Addr) (oe : Obj) (cls : Value) (d : Option Addr) (pn : List (Addr × Obj)), Zc cls d oe → (∃ vs, oe.data = .fields vs) → PSs (X.suite a ((a, oe) :: pn)) (b₀ :: suite) (q.ts a cls d)) (r : HdsAll X hds l) :
      HdsAll X (.ExceptHandler (some (.Name x np)) on (b₀ :: suite) pos' :: hds) (q :: l)
section
variable {X : Cx} {body : List Stmt} {h₀ : ExceptHandler} {hds : List ExceptHandler} {l : List Cl} {pos : Pos} {tb : WX → TS} {Wout : WX}
theorem ps_try_all (hs : X.stack = X.env :: X.outer) (hf : X.env.frame = some X.env.locals) (hN : X.N.Nodup) (tk : Takes X Wout)
    (hb : ∀ (W : WX) (pn : List (Addr × Obj)) (xe : Value → Shared → Prop), Takes (X.tr pn xe) W → PassesOwn (model X.prog X.w) X.A X.env xe → PSs (X.tr pn xe) body (tb W))
    (hh : HdsAll X (h₀ :: hds) l) : PS X (.Try body (h₀ :: hds) [] [] pos) (fun D σ H => tb (wAll X.K Wout D l) D σ H) := by
  constructor
  intro pins s σ H D I start
  have ok := I.ok
  have eFr : X.A.frames = some (X.env :: X.outer) := ok.frames.trans (congrArg some hs)
  refine wpAny_Try_except (wpAny_mono ((hb (wAll X.K Wout D l) (X.pn ++ pins) (fun e s₁ => wpAny (model X.prog X.w) X.A (noteFrame e X.env) (fun _ s₂ => wpAny (model X.prog X.w) X.A (setFlight e none) (fun _ s₃ =>
    wpAny (model X.prog X.w) X.A (handleBy e X.env (h₀ :: hds)) (SP X pins D) X.xe s₃) X.xe s₂) X.xe s₁) ?caught PassesOwn.looking).run [] s σ H D (I.toTry _) start) ?through fun _ _ z => z)
  case through =>
    intro f s1 q
    cases f with
    | next => obtain ⟨σ1, H1, J, w⟩ := q; exact wpAny_execs_nil ⟨σ1, H1, J.ofTry ok, w⟩
    | brk => obtain ⟨σ1, H1, J, w⟩ := q; exact ⟨σ1, H1, J.ofTry ok, w⟩
    | cont => obtain ⟨σ1, H1, J, w⟩ := q; exact ⟨σ1, H1, J.ofTry ok, w⟩
    | ret u => obtain ⟨v, σ1, H1, J, rv, w⟩ := q; exact ⟨v, σ1, H1, J.ofTry ok, rv, w⟩
  case caught =>
    rintro u s1 ⟨a, B, sI, pins1, σ1, H1, cls, d, rfl, J0, ground, up, sky, na, eos, bare, wish⟩
    have J : Inv X pins σ1 H1 sI := J0.ofTry ok
    rw [show (X.tr (X.pn ++ pins) _).stack = X.env :: X.outer from hs] at sky
    show wpAny (model X.prog X.w) X.A (noteFrame (.ref a) X.env) _ _ _
    refine Sky.land Zc.steady eFr hf sky fun hp3 fly up3 => ?_
    have J3 : Inv X pins σ1 H1 { s1 with heap := hp3 } := J.landed ground fly.1 (up.trans up3) eos bare
    obtain ⟨oe, vs, hoe, hz, hdat⟩ := fly.there
    -- the exception's object is no frame
    have noFrame : a ∉ frs (X.env :: X.outer) := fun hm => by
      obtain ⟨_, o', e', no⟩ := fly.2.2.1.mem hm
      rw [hoe] at e'
      cases e'
      exact no _ hdat
    have noLoc : a ≠ X.env.locals := fun z => noFrame (List.mem_filterMap.mpr ⟨X.env, List.mem_cons_self, by rw [hf, z]⟩)
    have noFs : a ∉ X.fs := fun hm => by
      obtain ⟨e, he, q⟩ := List.mem_filterMap.mp hm
      exact noFrame (List.mem_filterMap.mpr ⟨e, List.mem_cons_of_mem _ he, q⟩)
    have S3 := J3.suite hoe hdat na noLoc noFs
    have clsIs : PySem.W.Looks (model X.prog X.w) hp3 (typeOf (.ref a)) cls := fun A Q E s k q => wpAny_typeOf_ref (k _ _ hoe) (by rw [hz.1]; exact q)
    have along : ∀ {hds1 : List ExceptHandler} {l1 : List Cl}, HdsAll X hds1 l1 → wAll X.K Wout D l1 cls d σ1 H1 → wpAny (model X.prog X.w) X.A (handleBy (.ref a) X.env hds1) (SP X pins D) X.xe { s1 with heap := hp3 } := by
      intro hds1 l1 hk
      induction hk with
      | nil =>
        intro w
        refine wpAny_handleBy_nil ?_
        obtain ⟨_, _, _, oe1, vs1, T, oT, ts1, hoe1, _, hd1, h1, _⟩ := id fly
        unfold PySem.passOn
        refine wpAny_bind (wpAny_field hoe1 hd1 h1 ?_)
        rw [if_neg (show ¬ ((Value.ref T == Value.none) = true) from by simp)]
        have off : wpAny (model X.prog X.w) X.A (setFlight (.ref a) X.env.frame) (fun _ s4 => wpAny (model X.prog X.w) X.A (throw (.ref a) : Sem Flow) (SP X pins D) X.xe s4) X.xe { s1 with heap := hp3 } := by
          rw [hf]
          refine HandSPX.setFlight_upZ fly fun hp4 held up4 => wpAny_throw (tk _ _ ⟨a, B, sI, pins, σ1, H1, cls, d, rfl, J, ground, (up.trans up3).trans up4, .inr (.inr ?_), na, eos, bare, w⟩)
          rw [hs]; exact held
        first
          | exact wpAny_bind (wpAny_pure (wpAny_bind off))
          | exact wpAny_bind off
      | @cons x q on b₀ suite np pos' hds2 l2 hc hn hsu r ih =>
        intro w
        obtain ⟨b, hb1, yes, no⟩ := w
        refine wpAny_handleBy_cons (codeAny_handlers_test ?_) (by intro q; cases q)
        have matchIs := PySem.W.exm_one (M := model X.prog X.w) J3.kIn clsIs hb1
        have named : ∀ {Q : Value → Shared → Prop} {E : Value → Shared → Prop}, Q q.c { s1 with heap := hp3 } → wpAny (model X.prog X.w) (X.A.mark (some (.ref a))) (eval (.Name x np) X.env) Q E { s1 with heap := hp3 } := fun {Q E} hq => by
          obtain ⟨hg, hdbg, hm | ⟨hm, hv, hnn⟩⟩ := hc
          · exact ld_glob (X := X.suite a ((a, oe) :: (X.pn ++ pins))) S3 hg hm hq hdbg
          · exact ld_blt (X := X.suite a ((a, oe) :: (X.pn ++ pins))) S3 hg hm hv hq hnn hdbg
        refine named (matchIs.here ?_)
        cases b with
        | false => exact ih (no rfl)
        | true =>
          have wq := yes rfl a na
          cases on with
          | none =>
            cases en : q.nm with
            | some i => rw [en] at hn; exact hn.elim
            | none =>
              rw [en] at wq
              refine codeAny_handlers_suite (HandSPX.lands_againZ fly fun hp4 fly4 up4 => ?_)
              have J4 : Inv X pins σ1 H1 { s1 with heap := hp4 } := J.landed ground fly4.1 ((up.trans up3).trans up4) eos bare
              obtain ⟨oe4, vs4, hoe4, hz4, hd4⟩ := fly4.there
              refine wpAny_mono ((hsu a oe4 cls d (X.pn ++ pins) hz4 ⟨_, hd4⟩).run [] _ _ H1 _ (J4.suite hoe4 hd4 na noLoc noFs) wq) (fun f s6 z => ?_) fun _ _ z => False.elim z
              cases f with
              | next => obtain ⟨σ6, H6, S6, w6⟩ := z; exact ⟨_, _, S6.unsuite ok, w6⟩
              | brk => obtain ⟨σ6, H6, S6, w6⟩ := z; exact ⟨_, _, S6.unsuite ok, w6⟩
              | cont => obtain ⟨σ6, H6, S6, w6⟩ := z; exact ⟨_, _, S6.unsuite ok, w6⟩
              | ret u => obtain ⟨v6, σ6, H6, S6, r6, w6⟩ := z; exact ⟨_, _, _, S6.unsuite ok, r6, w6⟩
          | some n =>
            cases en : q.nm with
            | none => rw [en] at hn; exact hn.elim
            | some i =>
              rw [en] at wq hn
              obtain ⟨hi, hln⟩ := hn
              refine codeAny_handlers_suite_as (HandSPX.lands_againZ fly fun hp4 fly4 up4 => ?_)
              have J4 : Inv X pins σ1 H1 { s1 with heap := hp4 } := J.landed ground fly4.1 ((up.trans up3).trans up4) eos bare
              obtain ⟨oe4, vs4, hoe4, hz4, hd4⟩ := fly4.there
              refine store_ok (X := X.suite a ((a, oe4) :: (X.pn ++ pins))) (v := .ref a) (J4.suite hoe4 hd4 na noLoc noFs) hN hi (.inl hln) rfl (fun s5 S5 => ?_) (.inr hln)
              refine wpAny_mono ((hsu a oe4 cls d (X.pn ++ pins) hz4 ⟨_, hd4⟩).run [] s5 _ H1 _ S5 wq) (fun f s6 z => ?_) fun _ _ z => False.elim z
              cases f with
              | next => obtain ⟨σ6, H6, S6, w6⟩ := z; exact gone_ok (S6.unsuite ok) hN hi hln fun s7 J7 => ⟨_, _, J7, w6⟩
              | brk => obtain ⟨σ6, H6, S6, w6⟩ := z; exact gone_ok (S6.unsuite ok) hN hi hln fun s7 J7 => ⟨_, _, J7, w6⟩
              | cont => obtain ⟨σ6, H6, S6, w6⟩ := z; exact gone_ok (S6.unsuite ok) hN hi hln fun s7 J7 => ⟨_, _, J7, w6⟩
              | ret u => obtain ⟨v6, σ6, H6, S6, r6, w6⟩ := z; exact gone_ok (S6.unsuite ok) hN hi hln fun s7 J7 => ⟨_, _, _, J7, r6, w6⟩
    exact along hh wish
end
end Px
end
section
set_option Elab.async false
set_option linter.all false
set_option maxRecDepth 100000
set_option autoImplicit false
namespace Pv
open PySem PySem.Spec PyProof.Rows L2

/-! ### abstract values -/
inductive AV where
  | non | bl (b : Bool) | int (i : Int) | str (x : Str)
  | tup (xs : List AV) | lst (xs : List AV) | kl (xs : List AV)
  | dct (ks : List Key) (xs : List AV) | ref (n : Nat)
  | ob (c : Nat) (xs : List AV) | xn (f : Str) (v : AV) | fn (i : Nat)
  deriving Inhabited
inductive Cell where
  | lst (xs : List AV)
  | dct (ks : List Key) (xs : List AV)
  | ob (c : Nat) (xs : List AV)
  /-- a list of the cells lo .. lo + r - 1 -/
  | mat (lo r : Nat)
  deriving Inhabited
abbrev AH := List Cell
abbrev Env1 := List (Option AV)
structure Exn where
  cls : Nat
  val : Option AV
inductive Out (α : Type) where
  | ok (a : α) (h : AH)
  | exc (e : Exn) (h : AH)
  | bad
inductive SOut where
  | nx (env : Env1) (h : AH)
  | ret (v : AV) (h : AH)
  | brk (env : Env1) (h : AH)
  | ct (env : Env1) (h : AH)
  | exc (e : Exn) (env : Env1) (h : AH)
  | bad
/-- the functions, by number -/
abbrev GT := Nat → List AV → AH → Out AV
abbrev EvE := GT → Env1 → AH → Out AV
abbrev EvT := GT → Env1 → AH → Out Bool
abbrev EvA := GT → Env1 → AH → Out (List AV)
abbrev EvS := GT → Env1 → AH → SOut
def Out.bind {α β : Type} (x : Out α) (f : α → AH → Out β) : Out β := match x with
  | .ok a h => f a h
  | .exc e h => .exc e h
  | .bad => .bad

/-! ### the concrete side -/
structure Wd where
  F : Addr → Prop
  m : List Addr
  H : Hp
  /-- tables of code objects; the exception that is handled, and its dict; own classes, and what their instances have -/
  T : List (Addr × Str)
  x : Option (Addr × Addr × Str)
  oc : Nat → Addr × List Str
def KT (K : PySem.W.Frag) (a : Addr) (vs : List V) : Prop := ∃ (o : Obj) (its : Array Value) (n : Nat), K.lookup a = some o ∧ o.cls = .type "tuple" ∧ o.data = .seq its n ∧ its.size ≤ sizeLine ∧ Vals vs its.toList
def KL (K : PySem.W.Frag) (a : Addr) (vs : List V) : Prop := ∃ (o : Obj) (its : Array Value) (n : Nat), K.lookup a = some o ∧ o.cls = .type "list" ∧ o.dict = none ∧ o.data = .seq its n ∧ its.size ≤ sizeLine ∧ Vals vs its.toList
def TupAt (K : PySem.W.Frag) (D : Wd) (a : Addr) (vs : List V) : Prop := (D.F a ∧ D.H a = some (.tup vs)) ∨ KT K a vs
def RolAt (K : PySem.W.Frag) (D : Wd) (a : Addr) (vs : List V) : Prop := (D.F a ∧ ∃ o, D.H a = some (.frz o (.lst vs))) ∨ KL K a vs
theorem TupAt.sq {K : PySem.W.Frag} {D : Wd} {a : Addr} {vs : List V} (h : TupAt K D a vs) : SqT K D.H a vs := h.elim (fun h => .inl (.inl h.2)) .inr
theorem RolAt.sq {K : PySem.W.Frag} {D : Wd} {a : Addr} {vs : List V} (h : RolAt K D a vs) : SqL K D.H a vs := h.elim (fun ⟨_, o, h⟩ => .inl (.inr ⟨o, h⟩)) .inr
/-- the fields that are named have these values, and no others are there -/
def Flds : List Str → List (Str × V) → List V → Prop
  | [], fs, vs => fs = [] ∧ vs = []
  | ns, fs, vs => ns.length = vs.length ∧ (∀ (i : Nat) (f : Str) (u : V), (ns : List Str)[i]? = some f → (vs : List V)[i]? = some u → (fs : List (Str × V)).lookup f = some u) ∧ fs.length ≤ ns.length ∧ ∀ f : Str, f ∉ ns → (fs : List (Str × V)).lookup f = none
mutual
def Rep (K : PySem.W.Frag) (D : Wd) : AV → V → Prop
  | .non, v => v = .non
  | .bl b, v => v = .bl b
  | .int i, v => v = .int i
  | .str x, v => v = .str x
  | .tup xs, v => ∃ a vs, v = .ref a ∧ TupAt K D a vs ∧ RepL K D xs vs
  | .lst xs, v => ∃ a vs, v = .ref a ∧ (D.F a ∧ D.H a = some (.lst vs)) ∧ RepL K D xs vs
  | .kl xs, v => ∃ a vs, v = .ref a ∧ RolAt K D a vs ∧ RepL K D xs vs
  | .dct ks xs, v => ∃ a vs, v = .ref a ∧ (D.F a ∧ D.H a = some (.dK (ks.zip vs))) ∧ vs.length = ks.length ∧ RepL K D xs vs
  | .ref n, v => ∃ a, v = .ref a ∧ D.m[n]? = some a
  | .ob c xs, v => ∃ a dx fs vs, v = .ref a ∧ (D.F a ∧ D.H a = some (.ins (D.oc c).1 dx fs)) ∧ (D.F dx ∧ D.H dx = some (.own a)) ∧ Flds (D.oc c).2 fs vs ∧ RepL K D xs vs
  | .fn i, v => v = .ref (D.oc (1000000 + i)).1
  | .xn f v, u => ∃ a dd w, u = .ref a ∧ D.x = some (a, dd, f) ∧ (D.F dd ∧ D.H dd = some (.xd [(f, w)])) ∧ Rep K D v w
def RepL (K : PySem.W.Frag) (D : Wd) : List AV → List V → Prop
  | [], vs => vs = []
  | x :: xs, vs => ∃ v r, vs = v :: r ∧ Rep K D x v ∧ RepL K D xs r
end
structure Ext (D D' : Wd) : Prop where
  fz : ∀ a, D.F a → D'.F a ∧ D'.H a = D.H a
  m : D.m <+: D'.m
  c : D'.T = D.T ∧ D'.x = D.x ∧ D'.oc = D.oc
theorem Ext.refl (D : Wd) : Ext D D := ⟨fun _ h => ⟨h, rfl⟩, List.prefix_refl _, rfl, rfl, rfl⟩
theorem Ext.trans {a b c : Wd} (h : Ext a b) (g : Ext b c) : Ext a c :=
  ⟨fun x q => ⟨(g.fz x (h.fz x q).1).1, (g.fz x (h.fz x q).1).2.trans (h.fz x q).2⟩, h.m.trans g.m, g.c.1.trans h.c.1, g.c.2.1.trans h.c.2.1, g.c.2.2.trans h.c.2.2⟩
theorem Ext.get {a b : Wd} (h : Ext a b) {n : Nat} {x : Addr} (e : a.m[n]? = some x) : b.m[n]? = some x := by
  obtain ⟨r, e'⟩ := h.m
  rw [← e']
  have hn : n < a.m.length := (List.getElem?_eq_some_iff.mp e).1
  rw [List.getElem?_append_left hn]
  exact e
mutual
theorem Rep.ext {K : PySem.W.Frag} {D D' : Wd} (x : Ext D D') : ∀ (v : AV) (u : V), Rep K D v u → Rep K D' v u
  | .non, _, h => h
  | .fn i, u, h => by
    have h' : u = .ref (D.oc (1000000 + i)).1 := h
    show u = .ref (D'.oc (1000000 + i)).1
    rw [x.c.2.2]; exact h'
  | .bl _, _, h => h
  | .int _, _, h => h
  | .str _, _, h => h
  | .tup xs, u, h => by
    obtain ⟨a, vs, e, t, r⟩ := h
    refine ⟨a, vs, e, ?_, RepL.ext x xs vs r⟩
    rcases t with ⟨f, t⟩ | t
    · exact .inl ⟨(x.fz a f).1, (x.fz a f).2.trans t⟩
    · exact .inr t
  | .lst xs, u, h => by
    obtain ⟨a, vs, e, ⟨f, t⟩, r⟩ := h
    exact ⟨a, vs, e, ⟨(x.fz a f).1, (x.fz a f).2.trans t⟩, RepL.ext x xs vs r⟩
  | .kl xs, u, h => by
    obtain ⟨a, vs, e, t, r⟩ := h
    refine ⟨a, vs, e, ?_, RepL.ext x xs vs r⟩
    rcases t with ⟨f, o, t⟩ | t
    · exact .inl ⟨(x.fz a f).1, o, (x.fz a f).2.trans t⟩
    · exact .inr t
  | .dct ks xs, u, h => by
    obtain ⟨a, vs, e, ⟨f, t⟩, l, r⟩ := h
    exact ⟨a, vs, e, ⟨(x.fz a f).1, (x.fz a f).2.trans t⟩, l, RepL.ext x xs vs r⟩
  | .ref n, u, h => by
    obtain ⟨a, e, g⟩ := h
    exact ⟨a, e, x.get g⟩
  | .ob c xs, u, h => by
    obtain ⟨a, dx, fs, vs, e, ⟨f, t⟩, ⟨f2, t2⟩, hf, r⟩ := h
    refine ⟨a, dx, fs, vs, e, ⟨(x.fz a f).1, ?_⟩, ⟨(x.fz dx f2).1, (x.fz dx f2).2.trans t2⟩, ?_, RepL.ext x xs vs r⟩
    · rw [x.c.2.2]; exact (x.fz a f).2.trans t
    · rw [x.c.2.2]; exact hf
  | .xn f v, u, h => by
    obtain ⟨a, dd, w, e, q, ⟨f1, t⟩, r⟩ := h
    exact ⟨a, dd, w, e, x.c.2.1.trans q, ⟨(x.fz dd f1).1, (x.fz dd f1).2.trans t⟩, Rep.ext x v w r⟩
theorem RepL.ext {K : PySem.W.Frag} {D D' : Wd} (x : Ext D D') : ∀ (vs : List AV) (us : List V), RepL K D vs us → RepL K D' vs us
  | [], _, h => h
  | v :: vs, us, h => by
    obtain ⟨u, r, e, h1, h2⟩ := h
    exact ⟨u, r, e, Rep.ext x v u h1, RepL.ext x vs r h2⟩
end
theorem RepL.length {K : PySem.W.Frag} {D : Wd} : ∀ {vs : List AV} {us : List V}, RepL K D vs us → us.length = vs.length
  | [], us, h => by have e : us = [] := h; rw [e]; rfl
  | v :: vs, us, h => by
    obtain ⟨u, r, e, h1, h2⟩ := h
    rw [e, List.length_cons, List.length_cons, RepL.length h2]
theorem RepL.nil {K : PySem.W.Frag} {D : Wd} : RepL K D [] [] := rfl
theorem RepL.cons {K : PySem.W.Frag} {D : Wd} {v : AV} {vs : List AV} {u : V} {us : List V} (h : Rep K D v u) (t : RepL K D vs us) : RepL K D (v :: vs) (u :: us) := ⟨u, us, rfl, h, t⟩
theorem RepL.get {K : PySem.W.Frag} {D : Wd} : ∀ {vs : List AV} {us : List V} {i : Nat} {v : AV}, RepL K D vs us → vs[i]? = some v → ∃ u, us[i]? = some u ∧ Rep K D v u
  | [], _, _, _, _, e => by simp at e
  | v :: vs, us, i, w, h, e => by
    obtain ⟨u, r, e', h1, h2⟩ := h
    subst e'
    cases i with
    | zero =>
      have e1 : v = w := by simpa using e
      subst e1
      exact ⟨u, rfl, h1⟩
    | succ i => exact RepL.get (i := i) h2 (by simpa using e)
theorem RepL.set {K : PySem.W.Frag} {D : Wd} {v : AV} {u : V} (hv : Rep K D v u) : ∀ {vs : List AV} {us : List V} (i : Nat), RepL K D vs us → RepL K D (vs.set i v) (us.set i u)
  | [], us, i, h => by have e : us = [] := h; rw [e]; exact rfl
  | w :: vs, us, i, h => by
    obtain ⟨x, r, e', h1, h2⟩ := h
    subst e'
    cases i with
    | zero => exact ⟨u, r, rfl, hv, h2⟩
    | succ i => exact ⟨x, _, rfl, h1, RepL.set hv i h2⟩
theorem RepL.append {K : PySem.W.Frag} {D : Wd} : ∀ {vs ws : List AV} {us xs : List V}, RepL K D vs us → RepL K D ws xs → RepL K D (vs ++ ws) (us ++ xs)
  | [], _, us, _, h, g => by have e : us = [] := h; rw [e]; exact g
  | v :: vs, ws, us, xs, h, g => by
    obtain ⟨x, r, e', h1, h2⟩ := h
    subst e'
    exact ⟨x, _, rfl, h1, RepL.append h2 g⟩
theorem RepL.take {K : PySem.W.Frag} {D : Wd} : ∀ {vs : List AV} {us : List V} (n : Nat), RepL K D vs us → RepL K D (vs.take n) (us.take n)
  | [], us, n, h => by have e : us = [] := h; rw [e]; simp [RepL]
  | v :: vs, us, n, h => by
    obtain ⟨x, r, e', h1, h2⟩ := h
    subst e'
    cases n with
    | zero => exact rfl
    | succ n => exact ⟨x, _, rfl, h1, RepL.take n h2⟩
theorem RepL.drop {K : PySem.W.Frag} {D : Wd} : ∀ {vs : List AV} {us : List V} (n : Nat), RepL K D vs us → RepL K D (vs.drop n) (us.drop n)
  | [], us, n, h => by have e : us = [] := h; rw [e]; simp [RepL]
  | v :: vs, us, n, h => by
    obtain ⟨x, r, e', h1, h2⟩ := h
    subst e'
    cases n with
    | zero => exact ⟨x, r, rfl, h1, h2⟩
    | succ n => exact RepL.drop n h2
theorem RepL.ints {K : PySem.W.Frag} {D : Wd} : ∀ (ns : List Int), RepL K D (ns.map AV.int) (ns.map V.int)
  | [] => rfl
  | n :: ns => ⟨.int n, _, rfl, rfl, RepL.ints ns⟩

mutual
/-- no cell within -/
def pureA : AV → Bool
  | .tup xs => pureL xs
  | .lst xs => pureL xs
  | .kl xs => pureL xs
  | .dct _ xs => pureL xs
  | .ob _ xs => pureL xs
  | .ref _ => false
  | .xn _ _ => false
  | .fn _ => true
  | .non => true
  | .bl _ => true
  | .int _ => true
  | .str _ => true
def pureL : List AV → Bool
  | [] => true
  | x :: xs => pureA x && pureL xs
end
def pureC : Cell → Bool
  | .lst xs => pureL xs
  | .dct _ xs => pureL xs
  | .ob _ xs => pureL xs
  | .mat _ _ => true
theorem pureL_cons {x : AV} {xs : List AV} : pureL (x :: xs) = true ↔ pureA x = true ∧ pureL xs = true := by
  simp [pureL]
theorem pureL_append : ∀ {xs ys : List AV}, pureL (xs ++ ys) = true ↔ pureL xs = true ∧ pureL ys = true
  | [], ys => by simp [pureL]
  | x :: xs, ys => by
    rw [List.cons_append, pureL_cons, pureL_cons, pureL_append]
    exact and_assoc.symm
theorem pureL_set : ∀ {xs : List AV} {i : Nat} {v : AV}, pureL xs = true → pureA v = true → pureL (xs.set i v) = true
  | [], _, _, _, _ => rfl
  | x :: xs, 0, v, h, hv => pureL_cons.mpr ⟨hv, (pureL_cons.mp h).2⟩
  | x :: xs, i + 1, v, h, hv => pureL_cons.mpr ⟨(pureL_cons.mp h).1, pureL_set (pureL_cons.mp h).2 hv⟩
mutual
/-- a value without cells leans on what is frozen alone -/
theorem Rep.pureO {K : PySem.W.Frag} {D D' : Wd} (x : ∀ a, D.F a → D'.F a ∧ D'.H a = D.H a) (ho : D'.oc = D.oc) : ∀ (v : AV) (u : V), pureA v = true → Rep K D v u → Rep K D' v u
  | .non, _, _, h => h
  | .fn i, u, p, h => by
    have h' : u = .ref (D.oc (1000000 + i)).1 := h
    show u = .ref (D'.oc (1000000 + i)).1
    rw [ho]; exact h'
  | .bl _, _, _, h => h
  | .int _, _, _, h => h
  | .str _, _, _, h => h
  | .tup xs, u, p, h => by
    obtain ⟨a, vs, e, t, r⟩ := h
    refine ⟨a, vs, e, ?_, RepL.pureO x ho xs vs p r⟩
    rcases t with ⟨f, t⟩ | t
    · exact .inl ⟨(x a f).1, (x a f).2.trans t⟩
    · exact .inr t
  | .lst xs, u, p, h => by
    obtain ⟨a, vs, e, ⟨f, t⟩, r⟩ := h
    exact ⟨a, vs, e, ⟨(x a f).1, (x a f).2.trans t⟩, RepL.pureO x ho xs vs p r⟩
  | .kl xs, u, p, h => by
    obtain ⟨a, vs, e, t, r⟩ := h
    refine ⟨a, vs, e, ?_, RepL.pureO x ho xs vs p r⟩
    rcases t with ⟨f, o, t⟩ | t
    · exact .inl ⟨(x a f).1, o, (x a f).2.trans t⟩
    · exact .inr t
  | .dct ks xs, u, p, h => by
    obtain ⟨a, vs, e, ⟨f, t⟩, l, r⟩ := h
    exact ⟨a, vs, e, ⟨(x a f).1, (x a f).2.trans t⟩, l, RepL.pureO x ho xs vs p r⟩
  | .ref n, u, p, h => by cases p
  | .xn f v, u, p, h => by cases p
  | .ob c xs, u, p, h => by
    obtain ⟨a, dx, fs, vs, e, ⟨f, t⟩, ⟨f2, t2⟩, hf, r⟩ := h
    refine ⟨a, dx, fs, vs, e, ⟨(x a f).1, ?_⟩, ⟨(x dx f2).1, (x dx f2).2.trans t2⟩, ?_, RepL.pureO x ho xs vs p r⟩
    · rw [ho]; exact (x a f).2.trans t
    · rw [ho]; exact hf
theorem RepL.pureO {K : PySem.W.Frag} {D D' : Wd} (x : ∀ a, D.F a → D'.F a ∧ D'.H a = D.H a) (ho : D'.oc = D.oc) : ∀ (vs : List AV) (us : List V), pureL vs = true → RepL K D vs us → RepL K D' vs us
  | [], _, _, h => h
  | v :: vs, us, p, h => by
    obtain ⟨u, r, e, h1, h2⟩ := h
    have p' := pureL_cons.mp p
    exact ⟨u, r, e, Rep.pureO x ho v u p'.1 h1, RepL.pureO x ho vs r p'.2 h2⟩
end
theorem Rep.pure {K : PySem.W.Frag} {D D' : Wd} (x : ∀ a, D.F a → D'.F a ∧ D'.H a = D.H a) (v : AV) (u : V) (p : pureA v = true) (r : Rep K D v u) (ho : D'.oc = D.oc := by rfl) : Rep K D' v u := Rep.pureO x ho v u p r
theorem RepL.pure {K : PySem.W.Frag} {D D' : Wd} (x : ∀ a, D.F a → D'.F a ∧ D'.H a = D.H a) (vs : List AV) (us : List V) (p : pureL vs = true) (r : RepL K D vs us) (ho : D'.oc = D.oc := by rfl) : RepL K D' vs us := RepL.pureO x ho vs us p r
/-- fields of an object that is being made: the first names have values -/
def FldsP (ns : List Str) (fs : List (Str × V)) (vs : List V) : Prop := vs.length ≤ ns.length ∧ Flds (ns.take vs.length) fs vs
def CellOk (K : PySem.W.Frag) (D : Wd) (a : Addr) : Cell → Prop
  | .lst xs => ∃ vs, D.H a = some (.lst vs) ∧ RepL K D xs vs
  | .dct ks xs => ∃ vs, D.H a = some (.dK (ks.zip vs)) ∧ vs.length = ks.length ∧ RepL K D xs vs
  | .ob c xs => ∃ dx fs vs, D.H a = some (.ins (D.oc c).1 dx fs) ∧ (D.F dx ∧ D.H dx = some (.own a)) ∧ FldsP (D.oc c).2 fs vs ∧ RepL K D xs vs
  | .mat lo r => ∃ us : List V, D.H a = some (.lst us) ∧ us.length = r ∧ ∀ i, i < r → ∃ b, us[i]? = some (.ref b) ∧ D.m[lo + i]? = some b
def notTbl : HO → Bool
  | .tbl _ => false
  | _ => true
def isCellO : HO → Bool
  | .lst _ => true
  | .dK _ => true
  | .ins _ _ _ => true
  | _ => false
structure Rel (K : PySem.W.Frag) (D : Wd) (h : AH) : Prop where
  len : D.m.length = h.length
  nd : D.m.Nodup
  cell : ∀ (n : Nat) (c : Cell) (a : Addr), h[n]? = some c → D.m[n]? = some a → CellOk K D a c
  fz : ∀ a, D.F a → ∃ o, D.H a = some o ∧ notTbl o = true
  dis : ∀ a, a ∈ D.m → ¬ D.F a
  pure : ∀ c, c ∈ h → pureC c = true
  tab : LamX.Tabs D.T D.H
  mt : ∀ n lo r : Nat, h[n]? = some (Cell.mat lo r) → lo + r ≤ n
def EnvR (K : PySem.W.Frag) (D : Wd) (env : Env1) (σ : L2.St) : Prop :=
  env.length = σ.length ∧ ∀ (i : Nat) (v : AV), env[i]? = some (some v) → ∃ u : V, σ[i]? = some (some u) ∧ Rep K D v u
theorem EnvR.ext {K : PySem.W.Frag} {D D' : Wd} {env : Env1} {σ : L2.St} (h : EnvR K D env σ) (x : Ext D D') : EnvR K D' env σ :=
  ⟨h.1, fun i v e => let ⟨u, e', r⟩ := h.2 i v e; ⟨u, e', Rep.ext x v u r⟩⟩
theorem EnvR.set {K : PySem.W.Frag} {D : Wd} {env : Env1} {σ : L2.St} (h : EnvR K D env σ) (i : Nat) {v : AV} {u : V} (r : Rep K D v u) : EnvR K D (env.set i (some v)) (σ.set i (some u)) := by
  refine ⟨by simp [h.1], fun j w e => ?_⟩
  by_cases hj : i = j
  · subst hj
    by_cases hi : i < env.length
    · rw [List.getElem?_set_self hi] at e
      have e1 : v = w := by simpa using e
      subst e1
      exact ⟨u, List.getElem?_set_self (h.1 ▸ hi), r⟩
    · rw [List.getElem?_eq_none (by simpa using hi)] at e
      cases e
  · rw [List.getElem?_set_ne hj] at e
    obtain ⟨u', e', r'⟩ := h.2 j w e
    exact ⟨u', by rw [List.getElem?_set_ne hj]; exact e', r'⟩
theorem CellOk.ext {K : PySem.W.Frag} {D D' : Wd} {a : Addr} {c : Cell} (h : CellOk K D a c) (x : Ext D D') (e : D'.H a = D.H a) : CellOk K D' a c := by
  cases c with
  | lst xs => obtain ⟨vs, h1, h2⟩ := h; exact ⟨vs, e.trans h1, RepL.ext x _ _ h2⟩
  | dct ks xs => obtain ⟨vs, h1, h2, h3⟩ := h; exact ⟨vs, e.trans h1, h2, RepL.ext x _ _ h3⟩
  | ob c xs =>
    obtain ⟨dx, fs, vs, h1, ⟨f2, h2⟩, h3, h4⟩ := h
    exact ⟨dx, fs, vs, by rw [x.c.2.2]; exact e.trans h1, ⟨(x.fz dx f2).1, (x.fz dx f2).2.trans h2⟩, by rw [x.c.2.2]; exact h3, RepL.ext x _ _ h4⟩
  | mat lo r =>
    obtain ⟨us, h1, h2, h3⟩ := h
    exact ⟨us, e.trans h1, h2, fun i hi => let ⟨b, e1, e2⟩ := h3 i hi; ⟨b, e1, x.get e2⟩⟩
/-- the items of a list of cells -/
def matI (lo r : Nat) : List AV := (List.range r).map fun i => .ref (lo + i)
theorem repL_get {K : PySem.W.Frag} {D : Wd} : ∀ (xs : List AV) (us : List V), us.length = xs.length → (∀ (i : Nat) (x : AV), xs[i]? = some x → ∃ u : V, us[i]? = some u ∧ Rep K D x u) → RepL K D xs us
  | [], [], _, _ => rfl
  | [], _ :: _, h, _ => by simp at h
  | _ :: _, [], h, _ => by simp at h
  | x :: xs, u :: us, h, g => by
    obtain ⟨u', e, r⟩ := g 0 x rfl
    have e : u = u' := by simpa using e
    subst e
    exact RepL.cons r (repL_get xs us (by simpa using h) fun i y e => by
      have := g (i + 1) y (by simpa using e)
      simpa using this)
theorem mat_rep {K : PySem.W.Frag} {D : Wd} {a : Addr} {lo r : Nat} (h : CellOk K D a (.mat lo r)) : ∃ us, D.H a = some (.lst us) ∧ RepL K D (matI lo r) us := by
  obtain ⟨us, h1, h2, h3⟩ := h
  refine ⟨us, h1, repL_get _ _ (by unfold matI; simp [h2]) fun i x e => ?_⟩
  unfold matI at e
  have hi : i < r := by
    have := (List.getElem?_eq_some_iff.mp e).1
    simpa using this
  obtain ⟨b, e1, e2⟩ := h3 i hi
  have e : AV.ref (lo + i) = x := by simpa [hi] using e
  subst e
  exact ⟨.ref b, e1, b, rfl, e2⟩
theorem CellOk.is {K : PySem.W.Frag} {D : Wd} {a : Addr} {c : Cell} (h : CellOk K D a c) : ∃ o, D.H a = some o ∧ isCellO o = true := by
  cases c with
  | lst xs => obtain ⟨vs, h1, h2⟩ := h; exact ⟨_, h1, rfl⟩
  | dct ks xs => obtain ⟨vs, h1, h2, h3⟩ := h; exact ⟨_, h1, rfl⟩
  | ob c xs => obtain ⟨dx, fs, vs, h1, _⟩ := h; exact ⟨_, h1, rfl⟩
  | mat lo r => obtain ⟨us, h1, _⟩ := h; exact ⟨_, h1, rfl⟩
theorem CellOk.some {K : PySem.W.Frag} {D : Wd} {a : Addr} {c : Cell} (h : CellOk K D a c) : ∃ o, D.H a = some o := let ⟨o, e, _⟩ := h.is; ⟨o, e⟩
theorem cell_notTbl {o : HO} (h : isCellO o = true) : notTbl o = true := by
  cases o <;> first | rfl | cases h
/-- a store to something that is no table, and no code object -/
theorem tabs_upd {T : List (Addr × Str)} {H : Hp} {p : Addr} {o : HO} (t : LamX.Tabs T H) (hp : ∀ u, H p = some u → isCellO u = true) : LamX.Tabs T (upd H p o) := by
  intro q hq
  obtain ⟨ps, h1, h2, h3⟩ := t q hq
  refine ⟨ps, (upd_ne fun e => ?_).trans h1, h2, fun pos cv hc => ?_⟩
  · have := hp _ (e ▸ h1)
    cases this
  · obtain ⟨c, e1, e2⟩ := h3 pos cv hc
    refine ⟨c, e1, (upd_ne fun e => ?_).trans e2⟩
    have := hp _ (e ▸ e2)
    cases this
theorem tabs_new {T : List (Addr × Str)} {H : Hp} {p : Addr} {o : HO} (t : LamX.Tabs T H) (hp : H p = none) : LamX.Tabs T (upd H p o) := tabs_upd t fun u e => by rw [hp] at e; cases e
theorem Rel.at {K : PySem.W.Frag} {D : Wd} {h : AH} (R : Rel K D h) {n : Nat} {a : Addr} (e : D.m[n]? = some a) : ∃ c, h[n]? = some c ∧ CellOk K D a c := by
  have hn : n < h.length := by rw [← R.len]; exact (List.getElem?_eq_some_iff.mp e).1
  exact ⟨h[n], List.getElem?_eq_getElem hn, R.cell n _ a (List.getElem?_eq_getElem hn) e⟩
theorem Rel.tracked {K : PySem.W.Frag} {D : Wd} {h : AH} (R : Rel K D h) {a : Addr} (e : a ∈ D.m) : ∃ o, D.H a = some o := by
  obtain ⟨n, e⟩ := List.getElem?_of_mem e
  obtain ⟨c, _, q⟩ := R.at e
  exact q.some
/-- a new frozen object -/
def Wd.frz (D : Wd) (p : Addr) (o : HO) : Wd := { D with F := fun a => D.F a ∨ a = p, H := upd D.H p o }
theorem Ext.frz {K : PySem.W.Frag} {D : Wd} {h : AH} (R : Rel K D h) {p : Addr} (hp : D.H p = none) (o : HO) : Ext D (D.frz p o) :=
  ⟨fun a f => ⟨.inl f, upd_ne fun e => by
    obtain ⟨o', e', _⟩ := R.fz a f
    rw [e, hp] at e'; cases e'⟩, List.prefix_refl _, rfl, rfl, rfl⟩
theorem Rel.frz {K : PySem.W.Frag} {D : Wd} {h : AH} (R : Rel K D h) {p : Addr} (hp : D.H p = none) (o : HO) (ho : notTbl o = true := by rfl) : Rel K (D.frz p o) h := by
  have nm : ∀ a, a ∈ D.m → a ≠ p := fun a ha e => by
    obtain ⟨o', e'⟩ := R.tracked ha
    rw [e, hp] at e'; cases e'
  refine ⟨R.len, R.nd, fun n c a e1 e2 => ?_, fun a f => ?_, fun a ha f => ?_, R.pure, tabs_new R.tab hp, R.mt⟩
  · exact (R.cell n c a e1 e2).ext (Ext.frz R hp o) (upd_ne (nm a (List.mem_of_getElem? e2)))
  · rcases f with f | f
    · obtain ⟨o', e', t'⟩ := R.fz a f
      by_cases q : a = p
      · subst q; exact ⟨_, upd_same, ho⟩
      · exact ⟨o', (upd_ne q).trans e', t'⟩
    · subst f; exact ⟨_, upd_same, ho⟩
  · rcases f with f | f
    · exact R.dis a ha f
    · exact nm a ha f
/-- a new cell -/
def Wd.cel (D : Wd) (p : Addr) (o : HO) : Wd := { D with m := D.m ++ [p], H := upd D.H p o }
theorem Ext.cel {K : PySem.W.Frag} {D : Wd} {h : AH} (R : Rel K D h) {p : Addr} (hp : D.H p = none) (o : HO) : Ext D (D.cel p o) :=
  ⟨fun a f => ⟨f, upd_ne fun e => by
    obtain ⟨o', e', _⟩ := R.fz a f
    rw [e, hp] at e'; cases e'⟩, ⟨[p], rfl⟩, rfl, rfl, rfl⟩
theorem Rel.cel {K : PySem.W.Frag} {D : Wd} {h : AH} (R : Rel K D h) {p : Addr} (hp : D.H p = none) {o : HO} {c : Cell} (hc : CellOk K (D.cel p o) p c) (hpu : pureC c = true) (hmt : ∀ lo r, c = .mat lo r → lo + r ≤ h.length := by intro _ _ e; cases e) : Rel K (D.cel p o) (h ++ [c]) := by
  have nm : ∀ a, a ∈ D.m → a ≠ p := fun a ha e => by
    obtain ⟨o', e'⟩ := R.tracked ha
    rw [e, hp] at e'; cases e'
  refine ⟨by show (D.m ++ [p]).length = (h ++ [c]).length; simp [R.len], ?_, fun n d a e1 e2 => ?_, fun a f => ?_, fun a ha f => ?_, fun d hd => (List.mem_append.mp hd).elim (R.pure d) fun z => by rw [List.mem_singleton.mp z]; exact hpu, tabs_new R.tab hp, fun n lo r e => ?_⟩
  · show (D.m ++ [p]).Nodup
    rw [List.nodup_append]
    refine ⟨R.nd, by simp, fun a ha b hb => ?_⟩
    have : b = p := by simpa using hb
    subst this
    exact nm a ha
  · have e2' : (D.m ++ [p])[n]? = some a := e2
    by_cases hn : n < h.length
    · rw [List.getElem?_append_left hn] at e1
      rw [List.getElem?_append_left (R.len ▸ hn)] at e2'
      exact (R.cell n d a e1 e2').ext (Ext.cel R hp o) (upd_ne (nm a (List.mem_of_getElem? e2')))
    · have hn' : n = h.length := by
        have := (List.getElem?_eq_some_iff.mp e1).1
        simp at this; omega
      subst hn'
      rw [List.getElem?_append_right (Nat.le_refl _), Nat.sub_self] at e1
      rw [List.getElem?_append_right (Nat.le_of_eq R.len), R.len, Nat.sub_self] at e2'
      have e3 : c = d := by simpa using e1
      have e4 : p = a := by simpa using e2'
      subst e3; subst e4
      exact hc
  · obtain ⟨o', e', t'⟩ := R.fz a f
    by_cases q : a = p
    · subst q; rw [hp] at e'; cases e'
    · exact ⟨o', (upd_ne q).trans e', t'⟩
  · have ha' : a ∈ D.m ++ [p] := ha
    rcases List.mem_append.mp ha' with z | z
    · exact R.dis a z f
    · have : a = p := by simpa using z
      subst this
      obtain ⟨o', e', _⟩ := R.fz a f
      rw [hp] at e'; cases e'
  · by_cases hn : n < h.length
    · rw [List.getElem?_append_left hn] at e
      exact R.mt n lo r e
    · have hn' : n = h.length := by
        have := (List.getElem?_eq_some_iff.mp e).1
        simp at this; omega
      subst hn'
      rw [List.getElem?_append_right (Nat.le_refl _), Nat.sub_self] at e
      exact hmt lo r (by simpa using e)
/-- a cell written -/
def Wd.wr (D : Wd) (p : Addr) (o : HO) : Wd := { D with H := upd D.H p o }
theorem Ext.wr {K : PySem.W.Frag} {D : Wd} {h : AH} (R : Rel K D h) {p : Addr} {n : Nat} (hp : D.m[n]? = some p) (o : HO) : Ext D (D.wr p o) :=
  ⟨fun a f => ⟨f, upd_ne fun e => by
    subst e
    exact R.dis a (List.mem_of_getElem? hp) f⟩, List.prefix_refl _, rfl, rfl, rfl⟩
theorem Rel.wr {K : PySem.W.Frag} {D : Wd} {h : AH} (R : Rel K D h) {p : Addr} {n : Nat} (hp : D.m[n]? = some p) {o : HO} {c : Cell} (hc : CellOk K (D.wr p o) p c) (hpu : pureC c = true) (hmt : ∀ lo r, c ≠ .mat lo r := by intro _ _ e; cases e) : Rel K (D.wr p o) (h.set n c) := by
  refine ⟨by show D.m.length = (h.set n c).length; simp [R.len], R.nd, fun j d a e1 e2 => ?_, fun a f => ?_, R.dis, fun d hd => (List.mem_or_eq_of_mem_set hd).elim (R.pure d) fun z => by rw [z]; exact hpu, tabs_upd R.tab fun u e => by
    obtain ⟨c', _, q⟩ := R.at hp
    obtain ⟨o', e', i⟩ := q.is
    rw [e'] at e; cases e; exact i, fun j lo r e => ?_⟩
  · have e2' : D.m[j]? = some a := e2
    by_cases hj : n = j
    · subst hj
      have hn : n < h.length := by rw [← R.len]; exact (List.getElem?_eq_some_iff.mp hp).1
      rw [List.getElem?_set_self hn] at e1
      rw [hp] at e2'
      cases e1; cases e2'
      exact hc
    · rw [List.getElem?_set_ne hj] at e1
      refine (R.cell j d a e1 e2').ext (Ext.wr R hp o) (upd_ne fun e => ?_)
      subst e
      exact hj (nodup_ix' R.nd hp e2')
  · obtain ⟨o', e', t'⟩ := R.fz a f
    by_cases q : a = p
    · subst q; exact absurd f (R.dis a (List.mem_of_getElem? hp))
    · exact ⟨o', (upd_ne q).trans e', t'⟩
  · by_cases hj : n = j
    · subst hj
      have hn : n < h.length := by rw [← R.len]; exact (List.getElem?_eq_some_iff.mp hp).1
      rw [List.getElem?_set_self hn] at e
      exact absurd (by simpa using e) (hmt lo r)
    · rw [List.getElem?_set_ne hj] at e
      exact R.mt j lo r e
where
  nodup_ix' {N : List Addr} (hN : N.Nodup) {i j : Nat} {x : Addr} (a : N[i]? = some x) (b : N[j]? = some x) : i = j := by
    obtain ⟨h1, e1⟩ := List.getElem?_eq_some_iff.mp a
    obtain ⟨h2, e2⟩ := List.getElem?_eq_some_iff.mp b
    exact (List.getElem_inj hN).mp (e1.trans e2.symm)
/-- other cells, and more that is frozen, the heap as it is -/
theorem CellOk.pure {K : PySem.W.Frag} {D D' : Wd} {a : Addr} {c : Cell} (h : CellOk K D a c) (p : pureC c = true) (x : ∀ a, D.F a → D'.F a ∧ D'.H a = D.H a) (e : D'.H a = D.H a) (ho : D'.oc = D.oc := by rfl) (hm : ∀ lo r, c = .mat lo r → ∀ i, i < r → D'.m[lo + i]? = D.m[lo + i]? := by intro _ _ _ _ _; rfl) : CellOk K D' a c := by
  cases c with
  | lst xs => obtain ⟨vs, h1, h2⟩ := h; exact ⟨vs, e.trans h1, RepL.pureO x ho _ _ p h2⟩
  | dct ks xs => obtain ⟨vs, h1, h2, h3⟩ := h; exact ⟨vs, e.trans h1, h2, RepL.pureO x ho _ _ p h3⟩
  | ob c xs =>
    obtain ⟨dx, fs, vs, h1, ⟨f2, h2⟩, h3, h4⟩ := h
    exact ⟨dx, fs, vs, by rw [ho]; exact e.trans h1, ⟨(x dx f2).1, (x dx f2).2.trans h2⟩, by rw [ho]; exact h3, RepL.pureO x ho _ _ p h4⟩
  | mat lo r =>
    obtain ⟨us, h1, h2, h3⟩ := h
    exact ⟨us, e.trans h1, h2, fun i hi => let ⟨b, e1, e2⟩ := h3 i hi; ⟨b, e1, (hm lo r rfl i hi).trans e2⟩⟩
/-- the first n cells -/
theorem Rel.cut {K : PySem.W.Frag} {D : Wd} {h : AH} (R : Rel K D h) (n : Nat) : Rel K { D with m := D.m.take n } (h.take n) := by
  refine ⟨by show (D.m.take n).length = (h.take n).length; simp [R.len], R.nd.sublist (List.take_sublist _ _), fun j c a e1 e2 => ?_, R.fz, fun a ha => R.dis a (List.mem_of_mem_take ha), fun c hc => R.pure c (List.mem_of_mem_take hc), R.tab, fun j lo r e => ?_⟩
  rotate_left
  · have hj : j < n := by
      have := (List.getElem?_eq_some_iff.mp e).1
      simp only [List.length_take] at this
      omega
    rw [List.getElem?_take_of_lt hj] at e
    exact R.mt j lo r e
  have e2 : (D.m.take n)[j]? = some a := e2
  have hj : j < n := by
    have := (List.getElem?_eq_some_iff.mp e1).1
    simp only [List.length_take] at this
    omega
  rw [List.getElem?_take_of_lt hj] at e1 e2
  refine (R.cell j c a e1 e2).pure (R.pure c (List.mem_of_getElem? e1)) (fun b f => ⟨f, rfl⟩) rfl rfl fun lo r ec i hi => ?_
  subst ec
  have := R.mt j lo r e1
  exact List.getElem?_take_of_lt (by omega)
/-- a cell that is none any more is frozen -/
theorem Rel.freeze {K : PySem.W.Frag} {D : Wd} {h : AH} (R : Rel K D h) {n : Nat} {a : Addr} (ha : D.m[n]? = some a) {j : Nat} (hj : j ≤ n) : Rel K { D with F := fun b => D.F b ∨ b = a, m := D.m.take j } (h.take j) := by
  have C := R.cut j
  refine ⟨C.len, C.nd, fun i c b e1 e2 => ?_, fun b f => ?_, fun b hb f => ?_, C.pure, R.tab, C.mt⟩
  · exact (C.cell i c b e1 e2).pure (C.pure c (List.mem_of_getElem? e1)) (fun b f => ⟨.inl f, rfl⟩) rfl
  · rcases f with f | f
    · exact R.fz b f
    · subst f
      obtain ⟨c', _, q⟩ := R.at ha
      obtain ⟨o', e', i⟩ := q.is
      exact ⟨o', e', cell_notTbl i⟩
  · rcases f with f | f
    · exact C.dis b hb f
    · subst f
      have hb : b ∈ D.m.take j := hb
      obtain ⟨i, hi⟩ := List.getElem?_of_mem hb
      have hij : i < j := by
        have := (List.getElem?_eq_some_iff.mp hi).1
        simp only [List.length_take] at this
        omega
      rw [List.getElem?_take_of_lt hij] at hi
      have := Rel.wr.nodup_ix' R.nd hi ha
      omega
/-- several cells that are none any more are frozen -/
theorem Rel.freezeS {K : PySem.W.Frag} {D : Wd} {h : AH} (R : Rel K D h) {A : Addr → Prop} {j : Nat} (hA : ∀ b, A b → ∃ n, j ≤ n ∧ D.m[n]? = some b) : Rel K { D with F := fun b => D.F b ∨ A b, m := D.m.take j } (h.take j) := by
  have C := R.cut j
  refine ⟨C.len, C.nd, fun i c b e1 e2 => ?_, fun b f => ?_, fun b hb f => ?_, C.pure, R.tab, C.mt⟩
  · exact (C.cell i c b e1 e2).pure (C.pure c (List.mem_of_getElem? e1)) (fun b f => ⟨.inl f, rfl⟩) rfl
  · rcases f with f | f
    · exact R.fz b f
    · obtain ⟨n, hj, ha⟩ := hA b f
      obtain ⟨c', _, q⟩ := R.at ha
      obtain ⟨o', e', i⟩ := q.is
      exact ⟨o', e', cell_notTbl i⟩
  · rcases f with f | f
    · exact C.dis b hb f
    · obtain ⟨n, hj, ha⟩ := hA b f
      have hb : b ∈ D.m.take j := hb
      obtain ⟨i, hi⟩ := List.getElem?_of_mem hb
      have hij : i < j := by
        have := (List.getElem?_eq_some_iff.mp hi).1
        simp only [List.length_take] at this
        omega
      rw [List.getElem?_take_of_lt hij] at hi
      have := Rel.wr.nodup_ix' R.nd hi ha
      omega
/-- the contents of some cells, as values -/
def rowsF (h : AH) : List Nat → Option (List AV)
  | [] => some []
  | i :: is => match h[i]?, rowsF h is with
    | some (.lst xs), some ys => some (.lst xs :: ys)
    | _, _ => none
def matF (h : AH) (lo k : Nat) : Option (List AV) := rowsF h ((List.range k).map fun i => lo + i)
theorem rowsF_rep {K : PySem.W.Frag} {D : Wd} {h : AH} {A : Addr → Prop} {j : Nat} (R : Rel K D h) : ∀ (is : List Nat) (us : List V) (ys : List AV), us.length = is.length → (∀ (n i : Nat), is[n]? = some i → ∃ b, us[n]? = some (.ref b) ∧ D.m[i]? = some b ∧ A b) → rowsF h is = some ys →
    RepL K { D with F := fun b => D.F b ∨ A b, m := D.m.take j } ys us
  | [], [], ys, _, _, e => by cases e; rfl
  | [], _ :: _, _, h, _, _ => by simp at h
  | _ :: _, [], _, h, _, _ => by simp at h
  | i :: is, u :: us, ys, hl, g, e => by
    unfold rowsF at e
    split at e
    · rename_i xs zs hc hz
      cases e
      obtain ⟨b, e1, e2, fb⟩ := g 0 i rfl
      have e1 : u = .ref b := by simpa using e1
      subst e1
      obtain ⟨vs, t, q⟩ := R.cell _ _ _ hc e2
      refine RepL.cons ⟨b, vs, rfl, ⟨.inr fb, t⟩, RepL.pure (D := D) (D' := { D with F := fun b => D.F b ∨ A b, m := D.m.take j }) (fun b f => ⟨.inl f, rfl⟩) _ _ (R.pure _ (List.mem_of_getElem? hc)) q⟩ ?_
      exact rowsF_rep R is us zs (by simpa using hl) (fun n i' e' => by
        have := g (n + 1) i' (by simpa using e')
        simpa using this) hz
    · cases e
theorem mat_frozen {K : PySem.W.Frag} {D : Wd} {h : AH} {lo k j n : Nat} {a : Addr} {ys : List AV} (R : Rel K D h) (ha : D.m[n]? = some a) (hc : h[n]? = some (.mat lo k)) (hj : j ≤ lo) (e : matF h lo k = some ys) (hn : j ≤ n) :
    ∃ A : Addr → Prop, Rel K { D with F := fun b => D.F b ∨ A b, m := D.m.take j } (h.take j) ∧ Rep K { D with F := fun b => D.F b ∨ A b, m := D.m.take j } (.lst ys) (.ref a) := by
  refine ⟨fun b => b = a ∨ ∃ i, i < k ∧ D.m[lo + i]? = some b, R.freezeS fun b hb => ?_, ?_⟩
  · rcases hb with hb | ⟨i, hi, hb⟩
    · exact ⟨n, hn, hb ▸ ha⟩
    · exact ⟨lo + i, by omega, hb⟩
  · obtain ⟨us, h1, h2, h3⟩ := R.cell _ _ _ hc ha
    refine ⟨a, us, rfl, ⟨.inr (.inl rfl), h1⟩, ?_⟩
    refine rowsF_rep R _ us ys (by simp [h2]) (fun n i e' => ?_) e
    have hn : n < k := by
      have := (List.getElem?_eq_some_iff.mp e').1
      simpa using this
    have e' : lo + n = i := by simpa [hn] using e'
    subst e'
    obtain ⟨b, e1, e2⟩ := h3 n hn
    exact ⟨b, e1, e2, .inr ⟨n, hn, e2⟩⟩
end Pv
end
section
set_option Elab.async false
set_option linter.all false
set_option maxRecDepth 100000
set_option autoImplicit false
namespace Pv
open PySem PySem.Spec PyProof.Rows L2

/-! ### the world of a law -/
structure Cfg where
  P : Program
  w : World
  K : PySem.W.Frag
  mg : Str → Option Value
  base : Heap
  cls : Nat → Value
  fld : Nat → Str
  /-- tables of code objects; the exception that is handled, and its dict; own classes -/
  T : List (Addr × Str)
  x : Option (Addr × Addr × Str)
  oc : Nat → Addr × List Str
def Cfg.out (Γ : Cfg) : Cfg := { Γ with x := none }
def DOk (Γ : Cfg) (D : Wd) : Prop := D.T = Γ.T ∧ D.x = Γ.x ∧ D.oc = Γ.oc
theorem DOk.ext {Γ : Cfg} {D D' : Wd} (h : DOk Γ D) (x : Ext D D') : DOk Γ D' := ⟨x.c.1.trans h.1, x.c.2.1.trans h.2.1, x.c.2.2.trans h.2.2⟩
theorem DOk.out {Γ : Cfg} {D : Wd} (h : DOk Γ D) (e : Γ.x = none) : DOk Γ.out D := ⟨h.1, h.2.1.trans e, h.2.2⟩
def RepX (Γ : Cfg) (D : Wd) (e : Exn) (cls : Value) (d : Option Addr) : Prop :=
  cls = Γ.cls e.cls ∧ ∀ v, e.val = some v → ∃ dd u, d = some dd ∧ D.F dd ∧ D.H dd = some (.xd [(Γ.fld e.cls, u)]) ∧ Rep Γ.K D v u
def OutOk {α β : Type} (Γ : Cfg) (D : Wd) (o : Out α) (R : Wd → AH → α → β → Prop) (Q : β → Hp → Prop) (Wx : Value → Option Addr → Hp → Prop) : Prop := match o with
  | .ok v h => ∀ (D' : Wd) (u : β), Ext D D' → Rel Γ.K D' h → R D' h v u → Q u D'.H
  | .exc e h => ∀ (D' : Wd) (cls : Value) (d : Option Addr), Ext D D' → Rel Γ.K D' h → RepX Γ D' e cls d → Wx cls d D'.H
  | .bad => False
section
variable {α β γ δ : Type} {Γ : Cfg} {D D' : Wd} {R : Wd → AH → α → β → Prop} {R1 : Wd → AH → γ → δ → Prop} {Q : β → Hp → Prop} {Wx : Value → Option Addr → Hp → Prop}
theorem OutOk.ext {o : Out α} (x : Ext D D') (h : OutOk Γ D o R Q Wx) : OutOk Γ D' o R Q Wx := by
  cases o with
  | ok v hh => exact fun D2 u x2 r q => h D2 u (x.trans x2) r q
  | exc e hh => exact fun D2 c d x2 r q => h D2 c d (x.trans x2) r q
  | bad => exact h
theorem OutOk.bind {o : Out γ} {f : γ → AH → Out α} (h : OutOk Γ D (o.bind f) R Q Wx) :
    OutOk Γ D o R1 (fun u H' => ∃ (D' : Wd) (v : γ) (h' : AH), D'.H = H' ∧ Ext D D' ∧ Rel Γ.K D' h' ∧ R1 D' h' v u ∧ OutOk Γ D' (f v h') R Q Wx) Wx := by
  cases o with
  | ok v hh => exact fun D2 u x2 r q => ⟨D2, v, hh, rfl, x2, r, q, OutOk.ext x2 h⟩
  | exc e hh => exact h
  | bad => exact h
theorem OutOk.mono {o : Out α} {Q' : β → Hp → Prop} (h : OutOk Γ D o R Q Wx) (hq : ∀ u H', Q u H' → Q' u H') : OutOk Γ D o R Q' Wx := by
  cases o with
  | ok v hh => exact fun D2 u x2 r q => hq _ _ (h D2 u x2 r q)
  | exc e hh => exact h
  | bad => exact h
end
/-- the state at a place -/
structure At (Γ : Cfg) (D : Wd) (h : AH) (env : Env1) (σ : L2.St) (H : Hp) : Prop where
  hp : D.H = H
  rel : Rel Γ.K D h
  env : EnvR Γ.K D env σ
  ok : DOk Γ D
def tEv (Γ : Cfg) (W : WX) (f : Env1 → AH → Out AV) : TE := fun σ H Q => ∃ (D : Wd) (h : AH) (env : Env1), At Γ D h env σ H ∧ OutOk Γ D (f env h) (fun D _ => Rep Γ.K D) Q fun c d H' => W c d σ H'
def tTv (Γ : Cfg) (W : WX) (f : Env1 → AH → Out Bool) : TT := fun σ H Q => ∃ (D : Wd) (h : AH) (env : Env1), At Γ D h env σ H ∧ OutOk Γ D (f env h) (fun _ _ (b c : Bool) => b = c) Q fun c d H' => W c d σ H'
def tAv (Γ : Cfg) (W : WX) (f : Env1 → AH → Out (List AV)) : TA := fun σ H Q => ∃ (D : Wd) (h : AH) (env : Env1), At Γ D h env σ H ∧ OutOk Γ D (f env h) (fun D _ => RepL Γ.K D) Q fun c d H' => W c d σ H'
theorem At.next {Γ : Cfg} {D D' : Wd} {h h' : AH} {env : Env1} {σ : L2.St} {H H' : Hp} (a : At Γ D h env σ H) (e : D'.H = H') (x : Ext D D') (r : Rel Γ.K D' h') : At Γ D' h' env σ H' := ⟨e, r, a.env.ext x, a.ok.ext x⟩

/-! ### weakening -/
theorem PE.weak {X : Cx} {e : Expr} {t t' : TE} (h : PE X e t) (q : ∀ σ H Q, t' σ H Q → t σ H Q) : PE X e t' := ⟨fun pins s σ H Q I hw => h.run pins s σ H Q I (q σ H Q hw)⟩
theorem PT.weak {X : Cx} {e : Expr} {t t' : TT} (h : PT X e t) (q : ∀ σ H Q, t' σ H Q → t σ H Q) : PT X e t' := ⟨fun pins s σ H Q I hw => h.run pins s σ H Q I (q σ H Q hw)⟩
theorem PW.weak {X : Cx} {e : Expr} {t t' : TT} (h : PW X e t) (q : ∀ σ H Q, t' σ H Q → t σ H Q) : PW X e t' := ⟨fun wh pins s σ H Q I hw => h.run wh pins s σ H Q I (q σ H Q hw)⟩
theorem PA.weak {X : Cx} {e : List Expr} {t t' : TA} (h : PA X e t) (q : ∀ σ H Q, t' σ H Q → t σ H Q) : PA X e t' := ⟨fun pos pins s σ H Q I hw => h.run pos pins s σ H Q I (q σ H Q hw)⟩
theorem PS.weak {X : Cx} {e : Stmt} {t t' : TS} (h : PS X e t) (q : ∀ D σ H, t' D σ H → t D σ H) : PS X e t' := ⟨fun pins s σ H D I hw => h.run pins s σ H D I (q D σ H hw)⟩
theorem PSs.weak {X : Cx} {e : List Stmt} {t t' : TS} (h : PSs X e t) (q : ∀ D σ H, t' D σ H → t D σ H) : PSs X e t' := ⟨fun pins s σ H D I hw => h.run pins s σ H D I (q D σ H hw)⟩

/-! ### what a def promises -/
def spOf (Γ : Cfg) (n : Nat) (g : List AV → AH → Out AV) : Sp := fun vs H Q E => vs.length = n ∧ ∃ (D : Wd) (h : AH) (as : List AV), D.H = H ∧ Rel Γ.K D h ∧ RepL Γ.K D as vs ∧ DOk Γ.out D ∧ OutOk Γ D (g as h) (fun D _ => Rep Γ.K D) Q E
/-- a def keeps its promise, called where no repr runs -/
structure FnG (P : Program) (w : World) (K : PySem.W.Frag) (mg : Str → Option Value) (base : Heap) (CX : CXT) (k : Nat) (f : Addr) (fd : FuncData) (ps : List Str) (sp : Sp) : Prop where
  arity : ∀ vs H Q E, sp vs H Q E → vs.length = ps.length
  go : ∀ (A : Around) (outer : List Env) (s : Shared) (H : Hp) (args : Args) (us : List Value) (vs : List V) (Q : VK) (E : XK), A.guards = some [] → Room k A →
    Env0 P w K mg base A outer s H → BindsTo s fd args (ps.zip us) → Vals vs us → sp vs H Q E → codeAny (model P w) A (.call (.ref f) args) (CR CX outer P w H s Q E) s
/-- a class of exceptions: its name, what it keeps, and which of the classes catch it -/
structure ExS where
  name : Str
  kp : Option Str
  sup : List Nat
/-- an own class: its attributes in their order, its __init__ and properties and methods by the numbers of their defs, whether its instances are values once made -/
structure ClsS where
  name : Str
  attrs : List Str
  init : Nat × Nat
  props : List (Str × Nat)
  meths : List (Str × Nat × Nat)
  frz : Bool
structure Stat where
  fns : List (Str × Nat × Nat)
  consts : List (Str × AV)
  free : List Str
  gcds : List Str
  exs : List ExS
  /-- defs that call what they get: their texts, their parameter -/
  hos : List (Str × Stmt × Str)
  cl : List ClsS := []
  dk : List Str := []
/-- without an __init__ of its own -/
structure PlainC (K : PySem.W.Frag) (C : Addr) : Prop where
  ex : ∃ (B newId initId : String) (bm : List Value), ExcBaseFacts B newId initId bm ∧ PySem.W.excIn K C bm newId = true
  kp : PySem.W.keepIn K (.ref C) = true
  sub : PySem.W.subIn K (.ref C) (.type "BaseException") = some true
  ty : PySem.W.typeIn K (.ref C) = some (.type "type")
/-- with one that keeps a value -/
structure KeptC (Γ : Cfg) (C : Addr) (f : Str) : Prop where
  kc : Px.KeepC Γ.K C f
  ini : ∃ (g : Str) (fI : Addr) (fd : FuncData), PySem.W.findIn Γ.K (.ref C) "__init__" = some (some (.ref fI)) ∧ PySem.W.typeIn Γ.K (.ref fI) = some (.type "function") ∧ FnOk Γ.P Γ.w Γ.K Γ.mg Γ.base (L2.CX Γ.P Γ.w) 1 fI fd ["self", g] (Px.spKeep C f) ∧ Binds Γ.K fd ["self", g] []
  xf : XfC Γ.K C
  no : PySem.W.findIn Γ.K (.ref C) f = some none
def ExOk (Γ : Cfg) (i : Nat) (e : ExS) : Prop := ∃ C : Addr, Γ.mg e.name = some (.ref C) ∧ Γ.cls i = .ref C ∧ match e.kp with
  | none => PlainC Γ.K C
  | some f => Γ.fld i = f ∧ KeptC Γ C f
/-- ticks: that there is room for two calls more -/
def ixTick : Nat := 100000
/-- where the def with this number lies -/
def ocF (fs : List (Str × Nat × Nat)) (mg : Str → Option Value) (i : Nat) : Addr × List Str := match fs.find? (fun p => p.2.1 == i) with
  | some p => match mg p.1 with
    | some (.ref f) => (f, [])
    | _ => (0, [])
  | none => (0, [])
def clTys : List String := ["bool", "int", "str", "tuple", "list", "dict"]
/-- what is known of an own class -/
structure ClsK (K : PySem.W.Frag) (e : ClsS) (C : Addr) : Prop where
  cls : Cls K C
  t1 : PySem.W.findIn K (.ref C) "__class__" = some (some (.builtin "object.__class__"))
  t2 : PySem.W.specialIn K (.builtin "object.__class__") "__get__" = some (some (.builtin "getset_descriptor.__get__"))
  t3 : PySem.W.takesIn K (.builtin "object.__class__") = some true
  t4 : PySem.W.mroIn K C (.type "object") = some true
  na : ∀ f, f ∈ e.attrs → NoAttr K C f
  nd : e.attrs.Nodup ∧ e.attrs.length < 900
  kt : ∀ T, T ∈ clTys → PySem.W.kitOne K (.ref C) (.type T) = some false ∧ PySem.W.kitOne K (.type T) (.ref C) = some false
  kn : PySem.W.kitOne K (.type "NoneType") (.ref C) = some false
structure ClOk (Γ : Cfg) (S : Stat) (G : GT) (k : Nat) (c : Nat) (e : ClsS) : Prop where
  mg : Γ.mg e.name = some (.ref (Γ.oc c).1)
  at_ : (Γ.oc c).2 = e.attrs
  kk : ClsK Γ.K e (Γ.oc c).1
  mkf : ∃ (f : Addr) (fd : FuncData) (ps : List Str), Mk Γ.K (Γ.oc c).1 f ∧ Binds Γ.K fd ps [] ∧ FnG Γ.P Γ.w Γ.K Γ.mg Γ.base (L2.CX Γ.P Γ.w) k f fd ps (spOf Γ e.init.2 (G e.init.1))
  pr : ∀ a i, e.props.lookup a = some i → ∃ (p g : Addr) (fd : FuncData) (ps : List Str), PropOf Γ.K (Γ.oc c).1 a p g ∧ Binds Γ.K fd ps [] ∧ FnG Γ.P Γ.w Γ.K Γ.mg Γ.base (L2.CX Γ.P Γ.w) k g fd ps (spOf Γ 1 (G i))
  me : ∀ m i n, e.meths.lookup m = some (i, n) → ∃ (f : Addr) (fd : FuncData) (ps : List Str), Meth Γ.K (Γ.oc c).1 m f ∧ Binds Γ.K fd ps [] ∧ FnG Γ.P Γ.w Γ.K Γ.mg Γ.base (L2.CX Γ.P Γ.w) k f fd ps (spOf Γ n (G i))
  kc : ∀ c' e', S.cl[c']? = some e' → PySem.W.kitOne Γ.K (.ref (Γ.oc c).1) (.ref (Γ.oc c').1) = some (decide (c = c'))
structure StatB (Γ : Cfg) (S : Stat) (G : GT) (k : Nat) : Prop where
  fn : ∀ x i n, S.fns.lookup x = some (i, n) → ∃ (f : Addr) (fd : FuncData) (ps : List Str), Γ.mg x = some (.ref f) ∧ PySem.W.keepIn Γ.K (.ref f) = true ∧ Binds Γ.K fd ps [] ∧ FnG Γ.P Γ.w Γ.K Γ.mg Γ.base (L2.CX Γ.P Γ.w) k f fd ps (spOf Γ n (G i))
  const : ∀ x v, S.consts.lookup x = some v → ∃ (V : V) (u : Value), Γ.mg x = some u ∧ RelV V u ∧ ∀ D, Rep Γ.K D v V
  free : ∀ x, x ∈ S.free → Γ.mg x = none
  gcd : ∀ x, x ∈ S.gcds → Γ.mg x = some (.builtin "math.gcd")
  ex : ∀ (i : Nat) (e : ExS), S.exs[i]? = some e → ExOk Γ i e
  cat : ∀ (i j : Nat) (e f : ExS), S.exs[i]? = some e → S.exs[j]? = some f → PySem.W.exmOne Γ.K (Γ.cls i) (Γ.cls j) = some (e.sup.contains j)
  tick : ∀ h v h', G ixTick [] h = .ok v h' → 2 ≤ k
  ho : ∀ x st a, S.hos.lookup x = some (st, a) → ∃ (f : Addr) (fd : FuncData), Γ.mg x = some (.ref f) ∧ Fun Γ.K x x st f fd ∧ Binds Γ.K fd [a] []
  oc : ∀ i : Nat, Γ.oc (1000000 + i) = ocF S.fns Γ.mg i
  cl : ∀ c e, S.cl[c]? = some e → ClOk Γ S G k c e
/-- the functions some levels down -/
def dnG (j : Nat) (G : GT) : GT := fun i => G (i + 200000 * j)
theorem dnG_dnG (i j : Nat) (G : GT) : dnG i (dnG j G) = dnG (i + j) G := by
  funext n
  show G (n + 200000 * i + 200000 * j) = G (n + 200000 * (i + j))
  rw [Nat.mul_add, Nat.add_assoc]
structure StatOk (Γ : Cfg) (S : Stat) (G : GT) (k : Nat) : Prop extends StatB Γ S G k where
  low : ∀ j, 1 ≤ j → j ≤ k → StatB Γ S (dnG j G) (k - j)
theorem StatOk.dn {Γ : Cfg} {S : Stat} {G : GT} {k : Nat} (so : StatOk Γ S G k) {j : Nat} (h1 : 1 ≤ j) (hj : j ≤ k) : StatOk Γ S (dnG j G) (k - j) := by
  refine { toStatB := so.low j h1 hj, low := fun i h2 hi => ?_ }
  have := so.low (i + j) (by omega) (by omega)
  rw [dnG_dnG, Nat.sub_sub, Nat.add_comm j i]
  exact this
/-- where the code stands: its names, its scope, whether an exception is being handled, the cells that it made -/
structure Lc where
  N : List Str
  sc : Scope
  hot : Bool
  co : Str → Bool
  /-- whether lambdas can be made; whether the slot of a caught exception can be read -/
  lam : Bool
  exc : Bool
/-- the making of lambdas -/
def LamP (Γ : Cfg) (X : Cx) : Prop := ∃ c P : Addr, LamX.TabB X.base X.mg c P ∧ X.env.code = .ref c ∧ (P, X.env.qual ++ "<lambda>") ∈ Γ.T ∧ ∀ p ∈ Γ.T, p.1 = P → p.2 = X.env.qual ++ "<lambda>"
/-- the caught exception -/
def ExcP (Γ : Cfg) (X : Cx) : Prop := ∃ (X0 : Cx) (a dd C : Addr) (oe : Obj) (pn : List (Addr × Obj)) (f : Str), X = X0.suite a ((a, oe) :: pn) ∧ Zc (.ref C) (some dd) oe ∧ (∃ vs, oe.data = .fields vs) ∧ Γ.x = some (a, dd, f) ∧ XfC X0.K C ∧ PySem.W.findIn X0.K (.ref C) f = some none
structure CtxP (Γ : Cfg) (k : Nat) (L : Lc) (X : Cx) (W : WX) : Prop where
  prog : X.prog = Γ.P
  w : X.w = Γ.w
  K : X.K = Γ.K
  mg : X.mg = Γ.mg
  base : X.base = Γ.base
  hN : X.N = L.N
  nd : L.N.Nodup
  sc : X.env.scope = L.sc
  cells : ∀ x, L.co x = true → X.fn x = true
  room : L.hot = false → Room k X.A
  grd : X.A.guards = some []
  un : X.A.units + 200 < cLine
  calm : L.hot = false → X.calm = true
  takes : Takes X W
  xn : L.hot = false → Γ.x = none
  lam : L.lam = true → LamP Γ X
  exc : L.exc = true → ExcP Γ X
def SE (S : Stat) (L : Lc) (e : Expr) (f : EvE) : Prop := ∀ (Γ : Cfg) (G : GT) (k : Nat) (X : Cx) (W : WX), StatOk Γ S G k → CtxP Γ k L X W → PE X e (tEv Γ W (f G))
def ST (S : Stat) (L : Lc) (e : Expr) (f : EvT) : Prop := ∀ (Γ : Cfg) (G : GT) (k : Nat) (X : Cx) (W : WX), StatOk Γ S G k → CtxP Γ k L X W → PT X e (tTv Γ W (f G))
def SA (S : Stat) (L : Lc) (es : List Expr) (f : EvA) : Prop := ∀ (Γ : Cfg) (G : GT) (k : Nat) (X : Cx) (W : WX), StatOk Γ S G k → CtxP Γ k L X W → PA X es (tAv Γ W (f G))

/-! ### shapes -/
def notStar : Expr → Bool
  | .Starred .. => false
  | _ => true
theorem starEach_cons {e : Expr} {es : List Expr} {env : Env} (h : notStar e = true) : starEach (e :: es) env = (false, eval e env) :: starEach es env := by
  cases e <;> first | rfl | cases h
theorem starEach_plain : ∀ {es : List Expr} {env : Env} {pos : Pos}, es.all notStar = true → (backTo pos (starEach es env)).any (·.1) = false
  | [], _, _, _ => rfl
  | e :: es, env, pos, h => by
    rw [List.all_cons, Bool.and_eq_true] at h
    rw [starEach_cons h.1]
    show (false || (backTo pos (starEach es env)).any (·.1)) = false
    rw [starEach_plain h.2]; rfl
def notSet : Expr → Bool
  | .Set .. => false
  | _ => true
theorem nomark_of {e : Expr} {op : CmpOp} (h : notSet e = true) : behindInMarks op e = false := by
  cases e <;> first | rfl | cases h
theorem folded_of {e : Expr} {env : Env} (h : notSet e = true) (x : Value) : foldedSetIterable e env x = pure x := by
  cases e <;> first | rfl | cases h
def notSlice : Expr → Bool
  | .Slice .. => false
  | _ => true
theorem plainIx_of {e : Expr} (h : notSlice e = true) : PlainIx e := by
  intro o i
  cases e <;> first | rfl | cases h
def notComp : Expr → Bool
  | .ListComp .. => false
  | .SetComp .. => false
  | .DictComp .. => false
  | _ => true
theorem swaps_of {e : Expr} {t : Option Expr} {l : Nat} {env : Env} (h : notComp e = true) : swapsWith e t l env = pure false := by
  cases e <;> first | rfl | cases h
def plainTest : Expr → Bool
  | .UnaryOp .Not _ _ => false
  | .BoolOp .. => false
  | .IfExp .. => false
  | .Compare .. => false
  | _ => true
theorem isTrue_of {e : Expr} {env : Env} (h : plainTest e = true) (whole : Sem Value) : isTrue e env whole = (do let v ← whole; standAt e.pos; holding [v] (truthy v)) := by
  cases e with
  | UnaryOp op x pos => cases op <;> first | rfl | cases h
  | BoolOp => cases h
  | IfExp => cases h
  | Compare => cases h
  | _ => rfl
def baseOk : Expr → Bool
  | .Call .. => false
  | _ => true
theorem base_of {e : Expr} {a : Str} {env : Env} (h : baseOk e = true) : attributeBase e a env (eval e env) = eval e env := by
  cases e <;> first | rfl | cases h

/-! ### expressions -/
def evVar (i : Nat) : EvE := fun _ env h => match env[i]? with
  | some (some v) => .ok v h
  | _ => .bad
def visB (sc : Scope) (x : Str) : Bool := match sc.names.lookup x with
  | some .local => true
  | some .cell => true
  | some .free => true
  | _ => false
theorem vis_of {sc : Scope} {x : Str} (h : visB sc x = true) : Vis sc x := by
  unfold visB at h
  unfold Vis
  cases e : sc.names.lookup x with
  | none => rw [e] at h; cases h
  | some k => rw [e] at h; cases k <;> simp at h ⊢
def locB (L : Lc) (x : Str) : Bool := decide (L.sc.names.lookup x = some .local) || (decide (L.sc.names.lookup x = some .cell) && L.co x)
def glB (sc : Scope) (x : Str) : Bool := decide (sc.names.lookup x = some .globalImplicit)
def okName (x : Str) : Bool := !(x == ("__debug__" : Str)) && !(x == ("__classdict__" : Str)) && !(x == ("__name__" : Str))
theorem okName1 {x : Str} (h : okName x = true) : (x == ("__debug__" : Str)) = false := by
  unfold okName at h
  simp only [Bool.and_eq_true, Bool.not_eq_true'] at h
  exact h.1.1
theorem okName2 {x : Str} (h : okName x = true) : (x == ("__classdict__" : Str)) = false := by
  unfold okName at h
  simp only [Bool.and_eq_true, Bool.not_eq_true'] at h
  exact h.1.2
theorem okName3 {x : Str} (h : okName x = true) : x ≠ "__name__" := by
  unfold okName at h
  simp only [Bool.and_eq_true, Bool.not_eq_true'] at h
  intro e
  have := h.2
  rw [e] at this
  exact absurd this (by decide)
section
variable {S : Stat} {L : Lc}
theorem se_var {i : Nat} {x : Str} {pos : Pos} (hN : L.N[i]? = some x) (hv : visB L.sc x = true) (hx : okName x = true) : SE S L (.Name x pos) (evVar i) := by
  intro Γ G k X W so c
  refine PE.weak (pe_var (i := i) (x := x) (by rw [c.hN]; exact hN) (by rw [c.sc]; exact vis_of hv) (okName1 hx) (okName2 hx)) fun σ H Q ⟨D, h, env, a, o⟩ => ?_
  unfold evVar at o
  cases e : env[i]? with
  | none => rw [e] at o; exact o.elim
  | some v =>
    cases v with
    | none => rw [e] at o; exact o.elim
    | some v =>
      rw [e] at o
      obtain ⟨u, e', r⟩ := a.env.2 i v e
      refine ⟨u, e', ?_⟩
      have q := o D u (Ext.refl D) a.rel r
      rw [a.hp] at q
      exact q
def evC (v : AV) : EvE := fun _ _ h => .ok v h
theorem se_c {e : Expr} {v : AV} {V : V} (hp : ∀ X : Cx, PE X e (tC V)) (hr : ∀ K D, Rep K D v V) : SE S L e (evC v) := by
  intro Γ G k X W so c
  refine PE.weak (hp X) fun σ H Q ⟨D, h, env, a, o⟩ => ?_
  have q := o D V (Ext.refl D) a.rel (hr _ _)
  rw [a.hp] at q
  exact q
theorem gl_of {Γ : Cfg} {k : Nat} {X : Cx} {W : WX} (c : CtxP Γ k L X W) {x : Str} (h : glB L.sc x = true) : Gl X x := by
  show X.env.scope.names.lookup x = some .globalImplicit
  rw [c.sc]
  exact of_decide_eq_true h
theorem se_glob {x : Str} {v : AV} {pos : Pos} (hx : S.consts.lookup x = some v) (hg : glB L.sc x = true) (hn : okName x = true) : SE S L (.Name x pos) (evC v) := by
  intro Γ G k X W so c
  obtain ⟨V, u, e1, e2, e3⟩ := so.const x v hx
  refine PE.weak (pe_glob (gl_of c hg) (by rw [c.mg]; exact e1) e2 (okName1 hn)) fun σ H Q ⟨D, h, env, a, o⟩ => ?_
  have q := o D V (Ext.refl D) a.rel (e3 _)
  rw [a.hp] at q
  exact q

/-! ### two operands -/
abbrev Op2 := AV → AV → AH → Out AV
def OpS (op : Op2) (r : PySem.W.Frag → R2) : Prop := ∀ (Γ : Cfg) (D : Wd) (h : AH) (x y : AV) (u v : V) (Q : VK) (Wx : Value → Option Addr → Hp → Prop), Rel Γ.K D h → Rep Γ.K D x u → Rep Γ.K D y v →
  OutOk Γ D (op x y h) (fun D _ => Rep Γ.K D) Q Wx → r Γ.K u v D.H Q
def evOp (op : Op2) (f g : EvE) : EvE := fun G env h => (f G env h).bind fun x h1 => (g G env h1).bind fun y h2 => op x y h2
theorem tOp_of {Γ : Cfg} {W : WX} {op : Op2} {r : PySem.W.Frag → R2} {f g : EvE} {G : GT} (hs : OpS op r) (σ : L2.St) (H : Hp) (Q : VK) (o : tEv Γ W (evOp op f g G) σ H Q) : tOp (r Γ.K) (tEv Γ W (f G)) (tEv Γ W (g G)) σ H Q := by
  obtain ⟨D, h, env, a, o⟩ := o
  refine ⟨D, h, env, a, (OutOk.bind (R1 := fun D _ => Rep Γ.K D) o).mono fun u H' ⟨D1, v1, h1, e1, x1, r1, q1, o1⟩ => ?_⟩
  refine ⟨D1, h1, env, a.next e1 x1 r1, (OutOk.bind (R1 := fun D _ => Rep Γ.K D) o1).mono fun u2 H2 ⟨D2, v2, h2, e2, x2, r2, q2, o2⟩ => ?_⟩
  have q := hs Γ D2 h2 v1 v2 u u2 Q _ r2 (Rep.ext x2 _ _ q1) q2 o2
  rw [e2] at q
  exact q
theorem se_bin {op : Operator} {oo : Op2} {r : PySem.W.Frag → R2} {a b : Expr} {f g : EvE} {pos : Pos} (ho : ∀ X : Cx, (L.hot = false → X.calm = true) → OpR X (binaryOp op) (r X.K)) (hs : OpS oo r) (ha : SE S L a f) (hb : SE S L b g) : SE S L (.BinOp a op b pos) (evOp oo f g) := by
  intro Γ G k X W so c
  refine PE.weak (pe_op (ho X c.calm) (ha Γ G k X W so c) (hb Γ G k X W so c)) fun σ H Q o => ?_
  rw [c.K]
  exact tOp_of hs σ H Q o
end
end Pv
end
section
set_option Elab.async false
set_option linter.all false
set_option maxRecDepth 100000
set_option autoImplicit false
namespace Pv
open PySem PySem.Spec PyProof.Rows L2

/-! ### arithmetic -/
def mulOk (i j : Int) : Bool := decide ((-(2 ^ 64) < i ∧ i < 2 ^ 64) ∨ (-(2 ^ 64) < j ∧ j < 2 ^ 64) ∨ i.natAbs.log2 + j.natAbs.log2 < 1000000)
def CMulA (i j : Int) : Prop := CMul i j ∨ CMulW i j
theorem CMulA.ok {i j : Int} (h : CMulA i j) : IntMulOk i j := h.elim CMul.ok CMulW.ok
theorem mulOk_ok {i j : Int} (h : mulOk i j = true) : CMulA i j := by
  rcases of_decide_eq_true h with h | h | h
  · exact .inl (.inl h)
  · exact .inl (.inr h)
  · exact .inr h
theorem op_mulA {X : Cx} : OpR X (binaryOp .Mult) (rI CMulA fun i j => .int (i * j)) := opI fun _ _ _ _ _ _ _ hc q => mul_int q hc.ok
def CPowA (i j : Int) : Prop := 0 ≤ j ∧ (Builtin.Int.intBits i : Int) * j ≤ 2 ^ 27
theorem op_powA {X : Cx} : OpR X (binaryOp .Pow) (rI CPowA fun i j => .int (i ^ j.toNat)) := opI fun _ _ _ _ _ _ _ hc q => pow_int hc.1 hc.2 q
def divOk (j : Int) : Bool := decide (0 < j ∧ j.natAbs.log2 < 9000)
def addOp : Op2
  | .int i, .int j, h => .ok (.int (i + j)) h
  | .str i, .str j, h => if i.length + j.length ≤ sizeLine then .ok (.str (i ++ j)) h else .bad
  | .tup xs, .tup ys, h => if xs.length + ys.length ≤ sizeLine then .ok (.tup (xs ++ ys)) h else .bad
  | .lst xs, .lst ys, h => if xs.length + ys.length ≤ sizeLine then .ok (.lst (xs ++ ys)) h else .bad
  | .ref n, .lst ys, h => match h[n]? with
    | some (.lst xs) => if xs.length + ys.length ≤ sizeLine then .ok (.lst (xs ++ ys)) h else .bad
    | _ => .bad
  | .lst xs, .ref n, h => match h[n]? with
    | some (.lst ys) => if xs.length + ys.length ≤ sizeLine then .ok (.lst (xs ++ ys)) h else .bad
    | _ => .bad
  | _, _, _ => .bad
def subOp : Op2
  | .int i, .int j, h => .ok (.int (i - j)) h
  | _, _, _ => .bad
def mulOp : Op2
  | .int i, .int j, h => if mulOk i j then .ok (.int (i * j)) h else .bad
  | .lst xs, .int k, h => if 0 ≤ k ∧ k < 2 ^ 63 ∧ xs.length * k.toNat ≤ sizeLine then .ok (.lst (List.replicate k.toNat xs).flatten) h else .bad
  | .tup xs, .int k, h => if xs ≠ [] ∧ -1000 ≤ k ∧ k ≤ 1000 ∧ xs.length ≤ 1000 then .ok (.tup (List.replicate k.toNat xs).flatten) h else .bad
  | _, _, _ => .bad
def modOp : Op2
  | .int i, .int j, h => if 0 < j then .ok (.int (i % j)) h else .bad
  | _, _, _ => .bad
def fdivOp : Op2
  | .int i, .int j, h => if divOk j then .ok (.int (i / j)) h else .bad
  | _, _, _ => .bad
def powOk (i j : Int) : Bool := decide (0 ≤ j ∧ (Builtin.Int.intBits i : Int) * j ≤ 2 ^ 27)
def powOp : Op2
  | .int i, .int j, h => if powOk i j then .ok (.int (i ^ j.toNat)) h else .bad
  | _, _, _ => .bad

/-- the answer is a scalar -/
theorem fin {Γ : Cfg} {D : Wd} {h : AH} {v : AV} {u : V} {Q : VK} {Wx : Value → Option Addr → Hp → Prop} (R : Rel Γ.K D h) (r : Rep Γ.K D v u) (o : OutOk Γ D (.ok v h) (fun D _ => Rep Γ.K D) Q Wx) : Q u D.H := o D u (Ext.refl D) R r
/-- the answer is a new tuple -/
theorem fin_tup {Γ : Cfg} {D : Wd} {h : AH} {xs : List AV} {us : List V} {Q : VK} {Wx : Value → Option Addr → Hp → Prop} (R : Rel Γ.K D h) (r : RepL Γ.K D xs us) (o : OutOk Γ D (.ok (.tup xs) h) (fun D _ => Rep Γ.K D) Q Wx) : ∀ p, D.H p = none → Q (.ref p) (upd D.H p (.tup us)) := fun p hp =>
  o (D.frz p (.tup us)) (.ref p) (Ext.frz R hp _) (Rel.frz R hp _) ⟨p, us, rfl, .inl ⟨.inr rfl, upd_same⟩, RepL.ext (Ext.frz R hp _) _ _ r⟩
theorem fin_lst {Γ : Cfg} {D : Wd} {h : AH} {xs : List AV} {us : List V} {Q : VK} {Wx : Value → Option Addr → Hp → Prop} (R : Rel Γ.K D h) (r : RepL Γ.K D xs us) (o : OutOk Γ D (.ok (.lst xs) h) (fun D _ => Rep Γ.K D) Q Wx) : ∀ p, D.H p = none → Q (.ref p) (upd D.H p (.lst us)) := fun p hp =>
  o (D.frz p (.lst us)) (.ref p) (Ext.frz R hp _) (Rel.frz R hp _) ⟨p, us, rfl, ⟨.inr rfl, upd_same⟩, RepL.ext (Ext.frz R hp _) _ _ r⟩
theorem fin_cel {Γ : Cfg} {D : Wd} {h : AH} {xs : List AV} {us : List V} {Q : VK} {Wx : Value → Option Addr → Hp → Prop} (R : Rel Γ.K D h) (hpu : pureL xs = true) (r : RepL Γ.K D xs us) (o : OutOk Γ D (.ok (.ref h.length) (h ++ [.lst xs])) (fun D _ => Rep Γ.K D) Q Wx) : ∀ p, D.H p = none → Q (.ref p) (upd D.H p (.lst us)) := fun p hp =>
  o (D.cel p (.lst us)) (.ref p) (Ext.cel R hp _) (Rel.cel R hp ⟨us, upd_same, RepL.ext (Ext.cel R hp _) _ _ r⟩ hpu) ⟨p, rfl, by show (D.m ++ [p])[h.length]? = some p; rw [← R.len]; simp⟩
theorem RepL.empty {K : PySem.W.Frag} {D : Wd} {xs : List AV} {us : List V} (r : RepL K D xs us) : us = [] ↔ xs = [] := by
  constructor
  · intro e; subst e
    have := r.length
    exact List.length_eq_zero_iff.mp (by simpa using this.symm)
  · intro e; subst e; exact r
theorem RepL.rep {K : PySem.W.Frag} {D : Wd} {xs : List AV} {us : List V} (r : RepL K D xs us) : ∀ n : Nat, RepL K D (List.replicate n xs).flatten (List.replicate n us).flatten
  | 0 => rfl
  | n + 1 => by
    rw [List.replicate_succ, List.replicate_succ, List.flatten_cons, List.flatten_cons]
    exact RepL.append r (RepL.rep r n)
theorem ref_lst {Γ : Cfg} {D : Wd} {h : AH} (R : Rel Γ.K D h) {n : Nat} {u : V} {c : Cell} (r : Rep Γ.K D (.ref n) u) (e : h[n]? = some c) : ∃ a, u = .ref a ∧ D.m[n]? = some a ∧ CellOk Γ.K D a c := by
  obtain ⟨a, e1, e2⟩ := r
  exact ⟨a, e1, e2, R.cell n c a e e2⟩


def rAddA (K : PySem.W.Frag) : R2 := fun x y H Q => (((∃ i j, x = .int i ∧ y = .int j ∧ Q (.int (i + j)) H) ∨ (∃ i j, x = .str i ∧ y = .str j ∧ i.length + j.length ≤ sizeLine ∧ Q (.str (i ++ j)) H)) ∨ rCatA K x y H Q) ∨ rCat x y H Q
theorem op_addA {X : Cx} : OpR X (binaryOp .Add) (rAddA X.K) := OpR.or (OpR.or (OpR.or op_add op_add_str) op_catA) op_cat
theorem so_add : OpS addOp rAddA := by
  intro Γ D h x y u v Q Wx R rx ry o
  cases x with
  | int i =>
    cases y with
    | int j => cases rx; cases ry; exact .inl (.inl (.inl ⟨i, j, rfl, rfl, fin (v := .int (i + j)) R rfl o⟩))
    | _ => exact o.elim
  | str i =>
    cases y with
    | str j =>
      cases rx; cases ry
      simp only [addOp] at o
      split at o
      · rename_i hz
        exact .inl (.inl (.inr ⟨i, j, rfl, rfl, hz, fin (v := .str (i ++ j)) R rfl o⟩))
      · exact o.elim
    | _ => exact o.elim
  | tup xs =>
    cases y with
    | tup ys =>
      simp only [addOp] at o
      split at o
      · rename_i hz
        obtain ⟨a, us, e1, t1, r1⟩ := rx
        obtain ⟨b, vs, e2, t2, r2⟩ := ry
        subst e1; subst e2
        refine .inl (.inr ⟨a, b, us, vs, rfl, rfl, t1.sq, t2.sq, ?_, fun e => ?_, fun _ e => ?_, fun _ _ => fin_tup R (RepL.append r1 r2) o⟩)
        · rw [r1.length, r2.length]; exact hz
        · have e' := r1.empty.mp e
          subst e'
          exact fin (v := .tup ([] ++ ys)) R ⟨b, vs, rfl, t2, r2⟩ o
        · have e' := r2.empty.mp e
          subst e'
          exact fin (v := .tup (xs ++ [])) R ⟨a, us, rfl, t1, by rw [List.append_nil]; exact r1⟩ o
      · exact o.elim
    | _ => exact o.elim
  | lst xs =>
    obtain ⟨a, us, e1, ⟨f1, t1⟩, r1⟩ := rx
    cases y with
    | lst ys =>
      simp only [addOp] at o
      split at o
      · rename_i hz
        obtain ⟨b, vs, e2, ⟨f2, t2⟩, r2⟩ := ry
        subst e1; subst e2
        exact .inr ⟨a, b, us, vs, rfl, rfl, t1, t2, by rw [r1.length, r2.length]; exact hz, fin_lst R (RepL.append r1 r2) o⟩
      · exact o.elim
    | ref n =>
      simp only [addOp] at o
      split at o
      · rename_i ys hc
        split at o
        · rename_i hz
          obtain ⟨b, e2, _, vs, t2, r2⟩ := ref_lst R ry hc
          subst e1; subst e2
          exact .inr ⟨a, b, us, vs, rfl, rfl, t1, t2, by rw [r1.length, r2.length]; exact hz, fin_lst R (RepL.append r1 r2) o⟩
        · exact o.elim
      · exact o.elim
    | _ => exact o.elim
  | ref n =>
    cases y with
    | lst ys =>
      simp only [addOp] at o
      split at o
      · rename_i xs hc
        split at o
        · rename_i hz
          obtain ⟨a, e1, _, us, t1, r1⟩ := ref_lst R rx hc
          obtain ⟨b, vs, e2, ⟨f2, t2⟩, r2⟩ := ry
          subst e1; subst e2
          exact .inr ⟨a, b, us, vs, rfl, rfl, t1, t2, by rw [r1.length, r2.length]; exact hz, fin_lst R (RepL.append r1 r2) o⟩
        · exact o.elim
      · exact o.elim
    | _ => exact o.elim
  | _ => exact o.elim
def rSubA (_ : PySem.W.Frag) : R2 := rI0 fun i j => .int (i - j)
theorem so_sub : OpS subOp rSubA := by
  intro Γ D h x y u v Q Wx R rx ry o
  cases x with
  | int i =>
    cases y with
    | int j => cases rx; cases ry; exact ⟨i, j, rfl, rfl, fin (v := .int (i - j)) R rfl o⟩
    | _ => exact o.elim
  | _ => exact o.elim
def rMulA (K : PySem.W.Frag) : R2 := fun x y H Q => (((∃ i j, x = .int i ∧ y = .int j ∧ CMulA i j ∧ Q (.int (i * j)) H) ∨ rRep x y H Q) ∨ rRepT K x y H Q) ∨ rRep01 K x y H Q
theorem op_mulB {X : Cx} : OpR X (binaryOp .Mult) (rMulA X.K) := OpR.or (OpR.or (OpR.or op_mulA op_rep) op_repT) op_rep01
theorem so_mul : OpS mulOp rMulA := by
  intro Γ D h x y u v Q Wx R rx ry o
  cases x with
  | int i =>
    cases y with
    | int j =>
      cases rx; cases ry
      simp only [mulOp] at o
      split at o
      · rename_i hm
        exact .inl (.inl (.inl ⟨i, j, rfl, rfl, mulOk_ok hm, fin (v := .int (i * j)) R rfl o⟩))
      · exact o.elim
    | _ => exact o.elim
  | lst xs =>
    cases y with
    | int k =>
      cases ry
      simp only [mulOp] at o
      split at o
      · rename_i hm
        obtain ⟨a, us, e1, ⟨f1, t1⟩, r1⟩ := rx
        subst e1
        exact .inl (.inl (.inr ⟨a, k, us, rfl, rfl, t1, by omega, hm.2.1, by rw [r1.length]; exact hm.2.2, fin_lst R (r1.rep _) o⟩))
      · exact o.elim
    | _ => exact o.elim
  | tup xs =>
    cases y with
    | int k =>
      cases ry
      simp only [mulOp] at o
      split at o
      · rename_i hm
        obtain ⟨a, us, e1, t1, r1⟩ := rx
        subst e1
        have hne : us ≠ [] := fun e => hm.1 (r1.empty.mp e)
        by_cases h2 : 2 ≤ k
        · exact .inl (.inr ⟨a, k, us, rfl, rfl, t1.sq, hne, h2, hm.2.2.1, by rw [r1.length]; exact hm.2.2.2, fin_tup R (r1.rep _) o⟩)
        · by_cases h1 : k = 1
          · subst h1
            refine .inr ⟨a, 1, us, rfl, rfl, t1.sq, hne, .inl ⟨rfl, ?_⟩⟩
            have e : (List.replicate (1 : Int).toNat xs).flatten = xs := by simp
            rw [e] at o
            exact fin (v := .tup xs) R ⟨a, us, rfl, t1, r1⟩ o
          · refine .inr ⟨a, k, us, rfl, rfl, t1.sq, hne, .inr ⟨hm.2.1, by omega, ?_⟩⟩
            have e : (List.replicate k.toNat xs).flatten = [] := by
              rw [show k.toNat = 0 by omega]
              rfl
            rw [e] at o
            exact fin_tup (xs := []) (us := []) R rfl o
      · exact o.elim
    | _ => exact o.elim
  | _ => exact o.elim
def rModA (_ : PySem.W.Frag) : R2 := rI (fun _ j => 0 < j) fun i j => .int (i % j)
theorem so_mod : OpS modOp rModA := by
  intro Γ D h x y u v Q Wx R rx ry o
  cases x with
  | int i =>
    cases y with
    | int j =>
      cases rx; cases ry
      simp only [modOp] at o
      split at o
      · rename_i hm
        exact ⟨i, j, rfl, rfl, hm, fin (v := .int (i % j)) R rfl o⟩
      · exact o.elim
    | _ => exact o.elim
  | _ => exact o.elim
def rFdivA (_ : PySem.W.Frag) : R2 := rI CDivW fun i j => .int (i / j)
theorem so_fdiv : OpS fdivOp rFdivA := by
  intro Γ D h x y u v Q Wx R rx ry o
  cases x with
  | int i =>
    cases y with
    | int j =>
      cases rx; cases ry
      simp only [fdivOp] at o
      split at o
      · rename_i hm
        have hm' : 0 < j ∧ j.natAbs.log2 < 9000 := of_decide_eq_true hm
        exact ⟨i, j, rfl, rfl, hm', fin (v := .int (i / j)) R rfl o⟩
      · exact o.elim
    | _ => exact o.elim
  | _ => exact o.elim
def rPowA (_ : PySem.W.Frag) : R2 := rI CPowA fun i j => .int (i ^ j.toNat)
theorem so_pow : OpS powOp rPowA := by
  intro Γ D h x y u v Q Wx R rx ry o
  cases x with
  | int i =>
    cases y with
    | int j =>
      cases rx; cases ry
      simp only [powOp] at o
      split at o
      · rename_i hm
        have hm' : 0 ≤ j ∧ (Builtin.Int.intBits i : Int) * j ≤ 2 ^ 27 := of_decide_eq_true hm
        exact ⟨i, j, rfl, rfl, hm', fin (v := .int (i ^ j.toNat)) R rfl o⟩
      · exact o.elim
    | _ => exact o.elim
  | _ => exact o.elim

/-! ### data, and == -/
mutual
def toPy (h : AH) : AV → Option PyData
  | .non => some .none
  | .bl b => some (.bool b)
  | .int i => some (.int i)
  | .str x => some (.str x)
  | .tup xs => (toPyL h xs).map .tuple
  | .lst xs => (toPyL h xs).map .list
  | .kl xs => (toPyL h xs).map .list
  | .dct _ _ => none
  | .ref _ => none
  | .ob _ _ => none
  | .xn _ _ => none
  | .fn _ => none
def toPyL (h : AH) : List AV → Option (List PyData)
  | [] => some []
  | x :: xs => match toPy h x, toPyL h xs with
    | some d, some ds => some (d :: ds)
    | _, _ => none
end
/-- a cell's content, once -/
def toPy1 (h : AH) : AV → Option PyData
  | .ref n => match h[n]? with
    | some (.lst xs) => (toPyL h xs).map .list
    | _ => none
  | v => toPy h v
mutual
theorem toPy_dp {Γ : Cfg} {D : Wd} {h : AH} : ∀ (x : AV) (u : V) (d : PyData), Rep Γ.K D x u → toPy h x = some d → Dp Γ.K D.H u d
  | .non, _, _, r, e => by cases r; cases e; exact .non
  | .fn _, _, _, _, e => by cases e
  | .bl b, _, _, r, e => by cases r; cases e; exact .bl b
  | .int i, _, _, r, e => by cases r; cases e; exact .int i
  | .str x, _, _, r, e => by cases r; cases e; exact .str x
  | .tup xs, u, d, r, e => by
    obtain ⟨a, vs, e1, t, q⟩ := r
    subst e1
    simp only [toPy] at e
    cases e2 : toPyL h xs with
    | none => rw [e2] at e; cases e
    | some ds =>
      rw [e2] at e
      have e3 : PyData.tuple ds = d := Option.some.inj e
      subst e3
      exact .tup t.sq (toPyL_dp xs vs ds q e2)
  | .lst xs, u, d, r, e => by
    obtain ⟨a, vs, e1, ⟨_, t⟩, q⟩ := r
    subst e1
    simp only [toPy] at e
    cases e2 : toPyL h xs with
    | none => rw [e2] at e; cases e
    | some ds =>
      rw [e2] at e
      have e3 : PyData.list ds = d := Option.some.inj e
      subst e3
      exact .lst (SqL.of t) (toPyL_dp xs vs ds q e2)
  | .kl xs, u, d, r, e => by
    obtain ⟨a, vs, e1, t, q⟩ := r
    subst e1
    simp only [toPy] at e
    cases e2 : toPyL h xs with
    | none => rw [e2] at e; cases e
    | some ds =>
      rw [e2] at e
      have e3 : PyData.list ds = d := Option.some.inj e
      subst e3
      exact .lst t.sq (toPyL_dp xs vs ds q e2)
  | .dct ks xs, u, d, r, e => by cases e
  | .ref n, u, d, r, e => by cases e
  | .ob _ _, _, _, _, e => by cases e
  | .xn _ _, _, _, _, e => by cases e
theorem toPyL_dp {Γ : Cfg} {D : Wd} {h : AH} : ∀ (xs : List AV) (us : List V) (ds : List PyData), RepL Γ.K D xs us → toPyL h xs = some ds → DpAll Γ.K D.H us ds
  | [], us, ds, r, e => by
    have e1 : us = [] := r
    subst e1
    cases e
    exact .nil
  | x :: xs, us, ds, r, e => by
    obtain ⟨u, us', e1, r1, r2⟩ := r
    subst e1
    simp only [toPyL] at e
    split at e
    · rename_i d ds' h1 h2
      have e3 : d :: ds' = ds := Option.some.inj e
      subst e3
      exact .cons (toPy_dp x u d r1 h1) (toPyL_dp xs us' ds' r2 h2)
    · cases e
end
theorem toPy1_dp {Γ : Cfg} {D : Wd} {h : AH} (R : Rel Γ.K D h) : ∀ (x : AV) (u : V) (d : PyData), Rep Γ.K D x u → toPy1 h x = some d → Dp Γ.K D.H u d := by
  intro x u d r e
  cases x with
  | ref n =>
    simp only [toPy1] at e
    split at e
    · rename_i xs hc
      obtain ⟨a, e1, _, vs, t, q⟩ := ref_lst R r hc
      subst e1
      cases e2 : toPyL h xs with
      | none => rw [e2] at e; cases e
      | some ds =>
        rw [e2] at e
        have e3 : PyData.list ds = d := Option.some.inj e
        subst e3
        exact .lst (SqL.of t) (toPyL_dp xs vs ds q e2)
    · cases e
  | _ => exact toPy_dp (h := h) _ u d r e
def eqB (h : AH) (x y : AV) : Option Bool := match toPy1 h x, toPy1 h y with
  | some d, some e => if SeqAt.shaped d = true ∧ SeqAt.shaped e = true then some (PyData.eqv d e) else none
  | _, _ => none
def eqOp : Op2 := fun x y h => match eqB h x y with
  | some b => .ok (.bl b) h
  | none => .bad
def neOp : Op2 := fun x y h => match eqB h x y with
  | some b => .ok (.bl (!b)) h
  | none => .bad
theorem eqB_dp {Γ : Cfg} {D : Wd} {h : AH} (R : Rel Γ.K D h) {x y : AV} {u v : V} {b : Bool} (rx : Rep Γ.K D x u) (ry : Rep Γ.K D y v) (e : eqB h x y = some b) :
    ∃ d e, Dp Γ.K D.H u d ∧ Dp Γ.K D.H v e ∧ SeqAt.shaped d = true ∧ SeqAt.shaped e = true ∧ PyData.eqv d e = b := by
  unfold eqB at e
  split at e
  · rename_i d e' h1 h2
    split at e
    · rename_i hs
      exact ⟨d, e', toPy1_dp R x u d rx h1, toPy1_dp R y v e' ry h2, hs.1, hs.2, Option.some.inj e⟩
    · cases e
  · cases e
theorem so_eq : OpS eqOp rEqD := by
  intro Γ D h x y u v Q Wx R rx ry o
  unfold eqOp at o
  split at o
  · rename_i b hb
    obtain ⟨d, e, h1, h2, h3, h4, h5⟩ := eqB_dp R rx ry hb
    subst h5
    exact ⟨d, e, h1, h2, h3, h4, fin (v := .bl _) R rfl o⟩
  · exact o.elim
theorem so_ne : OpS neOp rNeD := by
  intro Γ D h x y u v Q Wx R rx ry o
  unfold neOp at o
  split at o
  · rename_i b hb
    obtain ⟨d, e, h1, h2, h3, h4, h5⟩ := eqB_dp R rx ry hb
    subst h5
    exact ⟨d, e, h1, h2, h3, h4, fin (v := .bl _) R rfl o⟩
  · exact o.elim

/-! ### order -/
def intsOf : List AV → Option (List Int)
  | [] => some []
  | .int i :: xs => (intsOf xs).map (i :: ·)
  | _ :: _ => none
theorem intsOf_eq : ∀ {xs : List AV} {ns : List Int}, intsOf xs = some ns → xs = ns.map AV.int
  | [], ns, e => by cases e; rfl
  | x :: xs, ns, e => by
    cases x with
    | int i =>
      simp only [intsOf] at e
      cases h : intsOf xs with
      | none => rw [h] at e; cases e
      | some ms =>
        rw [h] at e
        have e2 : i :: ms = ns := Option.some.inj e
        subst e2
        rw [intsOf_eq h]; rfl
    | _ => cases e
theorem RepL.ofInts {K : PySem.W.Frag} {D : Wd} : ∀ {ns : List Int} {us : List V}, RepL K D (ns.map AV.int) us → us = ns.map V.int
  | [], us, r => r
  | n :: ns, us, r => by
    obtain ⟨u, us', e1, r1, r2⟩ := r
    subst e1
    have e : u = .int n := r1
    rw [e, RepL.ofInts r2]; rfl
def ltOp : Op2
  | .int i, .int j, h => .ok (.bl (decide (i < j))) h
  | .str i, .str j, h => .ok (.bl (decide (i.cps.toList < j.cps.toList))) h
  | .tup xs, .tup ys, h => match intsOf xs, intsOf ys with
    | some ns, some ms => .ok (.bl (HT.lexLt ns ms)) h
    | _, _ => .bad
  | _, _, _ => .bad
def rLtA (K : PySem.W.Frag) : R2 := fun x y H Q => ((∃ i j, x = .int i ∧ y = .int j ∧ Q (.bl (decide (i < j))) H) ∨ (∃ i j, x = .str i ∧ y = .str j ∧ Q (.bl (decide (i.cps.toList < j.cps.toList))) H)) ∨ rLtT K x y H Q
theorem op_ltA {X : Cx} (hu : X.A.units < cLine) : OpR X (compareOp .Lt) (rLtA X.K) := OpR.or (OpR.or op_lt op_lt_str) (op_ltT hu)
theorem so_lt : OpS ltOp rLtA := by
  intro Γ D h x y u v Q Wx R rx ry o
  cases x with
  | int i =>
    cases y with
    | int j => cases rx; cases ry; exact .inl (.inl ⟨i, j, rfl, rfl, fin (v := .bl (decide (i < j))) R rfl o⟩)
    | _ => exact o.elim
  | str i =>
    cases y with
    | str j => cases rx; cases ry; exact .inl (.inr ⟨i, j, rfl, rfl, fin (v := .bl _) R rfl o⟩)
    | _ => exact o.elim
  | tup xs =>
    cases y with
    | tup ys =>
      simp only [ltOp] at o
      split at o
      · rename_i ns ms h1 h2
        have e1 := intsOf_eq h1
        have e2 := intsOf_eq h2
        subst e1; subst e2
        obtain ⟨a, us, e1, t1, r1⟩ := rx
        obtain ⟨b, vs, e2, t2, r2⟩ := ry
        subst e1; subst e2
        have e3 := r1.ofInts
        have e4 := r2.ofInts
        subst e3; subst e4
        exact .inr ⟨a, b, ns, ms, rfl, rfl, t1.sq, t2.sq, fin (v := .bl _) R rfl o⟩
      · exact o.elim
    | _ => exact o.elim
  | _ => exact o.elim
def leOp : Op2
  | .int i, .int j, h => .ok (.bl (decide (i ≤ j))) h
  | _, _, _ => .bad
def gtOp : Op2
  | .int i, .int j, h => .ok (.bl (decide (j < i))) h
  | _, _, _ => .bad
def geOp : Op2
  | .int i, .int j, h => .ok (.bl (decide (j ≤ i))) h
  | _, _, _ => .bad
theorem so_int {op : Op2} {g : Int → Int → Bool} (h1 : ∀ i j h, op (.int i) (.int j) h = .ok (.bl (g i j)) h) (h2 : ∀ x y h, (∀ i j, x = .int i → y = .int j → False) → op x y h = .bad) : OpS op fun _ => rI0 fun i j => .bl (g i j) := by
  intro Γ D h x y u v Q Wx R rx ry o
  cases x with
  | int i =>
    cases y with
    | int j =>
      cases rx; cases ry
      rw [h1] at o
      exact ⟨i, j, rfl, rfl, fin (v := .bl (g i j)) R rfl o⟩
    | _ => rw [h2 _ _ _ (fun _ _ _ z => by cases z)] at o; exact o.elim
  | _ => rw [h2 _ _ _ (fun _ _ z _ => by cases z)] at o; exact o.elim
theorem so_le : OpS leOp fun _ => rI0 fun i j => .bl (decide (i ≤ j)) := so_int (fun _ _ _ => rfl) fun x y h n => by
  cases x <;> first | rfl | (cases y <;> first | rfl | exact (n _ _ rfl rfl).elim)
theorem so_gt : OpS gtOp fun _ => rI0 fun i j => .bl (decide (j < i)) := so_int (fun _ _ _ => rfl) fun x y h n => by
  cases x <;> first | rfl | (cases y <;> first | rfl | exact (n _ _ rfl rfl).elim)
theorem so_ge : OpS geOp fun _ => rI0 fun i j => .bl (decide (j ≤ i)) := so_int (fun _ _ _ => rfl) fun x y h n => by
  cases x <;> first | rfl | (cases y <;> first | rfl | exact (n _ _ rfl rfl).elim)
/-! ### is, in -/
def isN : AV → Bool
  | .non => true
  | _ => false
theorem isN_of {K : PySem.W.Frag} {D : Wd} {x : AV} {u : V} (r : Rep K D x u) : decide (u = .non) = isN x := by
  cases x with
  | non => cases r; rfl
  | fn _ => cases r; rfl
  | bl _ => cases r; rfl
  | int _ => cases r; rfl
  | str _ => cases r; rfl
  | tup _ => obtain ⟨a, _, e, _⟩ := r; subst e; rfl
  | lst _ => obtain ⟨a, _, e, _⟩ := r; subst e; rfl
  | kl _ => obtain ⟨a, _, e, _⟩ := r; subst e; rfl
  | dct _ _ => obtain ⟨a, _, e, _⟩ := r; subst e; rfl
  | ref _ => obtain ⟨a, e, _⟩ := r; subst e; rfl
  | ob _ _ => obtain ⟨a, _, _, _, e, _⟩ := r; subst e; rfl
  | xn _ _ => obtain ⟨a, _, _, e, _⟩ := r; subst e; rfl
def isOp : Op2
  | x, .non, h => .ok (.bl (isN x)) h
  | _, _, _ => .bad
def isNotOp : Op2
  | x, .non, h => .ok (.bl (!isN x)) h
  | _, _, _ => .bad
theorem so_is : OpS isOp fun _ => fun x y H Q => y = .non ∧ Q (.bl (decide (x = .non))) H := by
  intro Γ D h x y u v Q Wx R rx ry o
  cases y with
  | non =>
    cases ry
    refine ⟨rfl, ?_⟩
    rw [isN_of rx]
    exact fin (v := .bl (isN x)) R rfl o
  | _ => cases x <;> exact o.elim
theorem so_isNot : OpS isNotOp fun _ => fun x y H Q => y = .non ∧ Q (.bl (!decide (x = .non))) H := by
  intro Γ D h x y u v Q Wx R rx ry o
  cases y with
  | non =>
    cases ry
    refine ⟨rfl, ?_⟩
    rw [isN_of rx]
    exact fin (v := .bl (!isN x)) R rfl o
  | _ => cases x <;> exact o.elim
def flatA : AV → Bool
  | .non => true
  | .bl _ => true
  | .int _ => true
  | .str _ => true
  | _ => false
def eqA : AV → AV → Bool
  | .non, .non => true
  | .bl a, .bl b => a == b
  | .bl a, .int b => (if a then 1 else 0) == b
  | .int a, .bl b => a == (if b then 1 else 0)
  | .int a, .int b => a == b
  | .str a, .str b => a == b
  | _, _ => false
def inA (x : AV) (xs : List AV) : Bool := xs.any fun y => eqA y x
/-- the items of a list or a tuple -/
def itemsOf (h : AH) : AV → Option (List AV)
  | .tup xs => some xs
  | .lst xs => some xs
  | .kl xs => some xs
  | .ref n => match h[n]? with
    | some (.lst xs) => some xs
    | some (.mat lo r) => some (matI lo r)
    | _ => none
  | _ => none
theorem itemsOf_sq {Γ : Cfg} {D : Wd} {h : AH} (R : Rel Γ.K D h) {x : AV} {u : V} {xs : List AV} (r : Rep Γ.K D x u) (e : itemsOf h x = some xs) : ∃ a us, u = .ref a ∧ (SqL Γ.K D.H a us ∨ SqT Γ.K D.H a us) ∧ RepL Γ.K D xs us := by
  cases x with
  | tup ys => cases e; obtain ⟨a, us, e1, t, q⟩ := r; exact ⟨a, us, e1, .inr t.sq, q⟩
  | lst ys => cases e; obtain ⟨a, us, e1, ⟨_, t⟩, q⟩ := r; exact ⟨a, us, e1, .inl (SqL.of t), q⟩
  | kl ys => cases e; obtain ⟨a, us, e1, t, q⟩ := r; exact ⟨a, us, e1, .inl t.sq, q⟩
  | ref n =>
    simp only [itemsOf] at e
    split at e
    · rename_i ys hc
      cases e
      obtain ⟨a, e1, _, us, t, q⟩ := ref_lst R r hc
      exact ⟨a, us, e1, .inl (SqL.of t), q⟩
    · rename_i lo r' hc
      cases e
      obtain ⟨a, e1, _, cm⟩ := ref_lst R r hc
      obtain ⟨us, t, q⟩ := mat_rep cm
      exact ⟨a, us, e1, .inl (SqL.of t), q⟩
    · cases e
  | _ => cases e
theorem flat_of {K : PySem.W.Frag} {D : Wd} {x : AV} {u : V} (r : Rep K D x u) (f : flatA x = true) : flatV u = true := by
  cases x <;> first | (cases f; done) | (cases r; rfl)
theorem eqA_of {K : PySem.W.Frag} {D : Wd} {x y : AV} {u v : V} (r : Rep K D x u) (q : Rep K D y v) (f : flatA x = true) (g : flatA y = true) : eqV u v = eqA x y := by
  cases x <;> first | (cases f; done) | (cases r; cases y <;> first | (cases g; done) | (cases q; rfl))
theorem inA_of {K : PySem.W.Frag} {D : Wd} {x : AV} {u : V} (r : Rep K D x u) (f : flatA x = true) : ∀ {xs : List AV} {us : List V}, RepL K D xs us → xs.all flatA = true → inV u us = inA x xs ∧ us.all flatV = true
  | [], us, q, _ => by have e : us = [] := q; subst e; exact ⟨rfl, rfl⟩
  | y :: ys, us, q, g => by
    obtain ⟨v, vs, e, q1, q2⟩ := q
    subst e
    rw [List.all_cons, Bool.and_eq_true] at g
    obtain ⟨h1, h2⟩ := inA_of r f q2 g.2
    refine ⟨?_, ?_⟩
    · show (eqV v u || inV u vs) = (eqA y x || inA x ys)
      rw [h1, eqA_of q1 r g.1 f]
    · rw [List.all_cons, flat_of q1 g.1, h2]; rfl
/-! data of any depth in a list or a tuple -/
def rInT (K : PySem.W.Frag) (neg : Bool) : R2 := fun x y H Q => ∃ d ds, Dp K H x d ∧ (Dp K H y (.list ds) ∨ Dp K H y (.tuple ds)) ∧ SeqAt.shaped d = true ∧ SeqAt.shaped (.list ds) = true ∧ Q (.bl (if neg then !ds.any fun z => PyData.eqv z d else ds.any fun z => PyData.eqv z d)) H
theorem op_inT {X : Cx} (hu : X.A.units + 65 < cLine) : OpR X (compareOp .In) (rInT X.K false) := by
  intro pins s σ H x y v u Q I rx ry h
  obtain ⟨d, ds, hd, he, sd, se, q⟩ := h
  obtain ⟨as, r1⟩ := Dp.reads I d x v hd rx
  rcases he with he | he
  · obtain ⟨bs, r2⟩ := Dp.reads I (.list ds) y u he ry
    exact SeqAt.in_list_reads r2 r1 (SeqAt.canLay_of_shaped se) (SeqAt.canLay_of_shaped sd) (room_in_shaped sd hu) ⟨.bl _, H, I, rfl, q⟩
  · obtain ⟨bs, r2⟩ := Dp.reads I (.tuple ds) y u he ry
    exact SeqAt.in_tuple_reads r2 r1 (SeqAt.canLay_of_shaped se) (SeqAt.canLay_of_shaped sd) (room_in_shaped sd hu) ⟨.bl _, H, I, rfl, q⟩
theorem op_notInT {X : Cx} (hu : X.A.units + 65 < cLine) : OpR X (compareOp .NotIn) (rInT X.K true) := by
  intro pins s σ H x y v u Q I rx ry h
  obtain ⟨d, ds, hd, he, sd, se, q⟩ := h
  obtain ⟨as, r1⟩ := Dp.reads I d x v hd rx
  rcases he with he | he
  · obtain ⟨bs, r2⟩ := Dp.reads I (.list ds) y u he ry
    exact SeqAt.notIn_list_reads r2 r1 (SeqAt.canLay_of_shaped se) (SeqAt.canLay_of_shaped sd) (room_in_shaped sd hu) ⟨.bl _, H, I, rfl, q⟩
  · obtain ⟨bs, r2⟩ := Dp.reads I (.tuple ds) y u he ry
    exact SeqAt.notIn_tuple_reads r2 r1 (SeqAt.canLay_of_shaped se) (SeqAt.canLay_of_shaped sd) (room_in_shaped sd hu) ⟨.bl _, H, I, rfl, q⟩
def seqD : PyData → Option (List PyData)
  | .list ds => some ds
  | .tuple ds => some ds
  | _ => none
def inD (neg : Bool) : Op2 := fun x y h => match toPy1 h x, (toPy1 h y).bind seqD with
  | some d, some ds => if SeqAt.shaped d = true ∧ SeqAt.shaped (.list ds) = true then .ok (.bl (if neg then !ds.any fun z => PyData.eqv z d else ds.any fun z => PyData.eqv z d)) h else .bad
  | _, _ => .bad
def rInA (K : PySem.W.Frag) (neg : Bool) : R2 := fun x y H Q => rIn K neg x y H Q ∨ rInT K neg x y H Q
def inOp (neg : Bool) : Op2 := fun x y h => match itemsOf h y with
  | some ys => if flatA x = true ∧ ys.all flatA = true then .ok (.bl (if neg then !inA x ys else inA x ys)) h else inD neg x y h
  | none => .bad
theorem so_in (neg : Bool) : OpS (inOp neg) fun K => rInA K neg := by
  intro Γ D h x y u v Q Wx R rx ry o
  unfold inOp at o
  split at o
  · rename_i ys hy
    split at o
    · rename_i hf
      obtain ⟨a, us, e, s, q⟩ := itemsOf_sq R ry hy
      subst e
      obtain ⟨h1, h2⟩ := inA_of rx hf.1 q hf.2
      refine .inl ⟨a, us, rfl, s, flat_of rx hf.1, h2, ?_⟩
      rw [h1]
      exact fin (v := .bl _) R rfl o
    · unfold inD at o
      split at o
      · rename_i d ds h1 h2
        split at o
        · rename_i hs
          cases h3 : toPy1 h y with
          | none => rw [h3] at h2; cases h2
          | some e =>
            rw [h3] at h2
            have h4 := toPy1_dp R y v e ry h3
            have h5 := toPy1_dp R x u d rx h1
            have h6 : Dp Γ.K D.H v (.list ds) ∨ Dp Γ.K D.H v (.tuple ds) := by
              cases e <;> first | (cases h2; done) | (cases h2; exact .inl h4) | (cases h2; exact .inr h4)
            exact .inr ⟨d, ds, h5, h6, hs.1, hs.2, fin (v := .bl _) R rfl o⟩
        · exact o.elim
      · exact o.elim
  · exact o.elim
end Pv
end
section
set_option Elab.async false
set_option linter.all false
set_option maxRecDepth 100000
set_option autoImplicit false
namespace Pv
open PySem PySem.Spec PyProof.Rows L2
section
variable {S : Stat} {L : Lc}

/-! ### arguments and displays -/
def evNil : EvA := fun _ _ h => .ok [] h
def itemsF : AV → Option (List AV)
  | .tup xs => some xs
  | .lst xs => some xs
  | _ => none
def evCons (f : EvE) (g : EvA) : EvA := fun G env h => (f G env h).bind fun x h1 => (g G env h1).bind fun xs h2 => .ok (x :: xs) h2
theorem sa_nil : SA S L [] evNil := by
  intro Γ G k X W so c
  refine PA.weak pa_nil fun σ H Q ⟨D, h, env, a, o⟩ => ?_
  have q := o D [] (Ext.refl D) a.rel rfl
  rw [a.hp] at q
  exact q
theorem sa_cons {e : Expr} {es : List Expr} {f : EvE} {g : EvA} (ha : SE S L e f) (hb : SA S L es g) (hs : notStar e = true) : SA S L (e :: es) (evCons f g) := by
  intro Γ G k X W so c
  refine PA.weak (pa_cons (ha Γ G k X W so c) (hb Γ G k X W so c) (starEach_cons hs)) fun σ H Q ⟨D, h, env, a, o⟩ => ?_
  refine ⟨D, h, env, a, (OutOk.bind (R1 := fun D _ => Rep Γ.K D) o).mono fun u H' ⟨D1, v1, h1, e1, x1, r1, q1, o1⟩ => ?_⟩
  refine ⟨D1, h1, env, a.next e1 x1 r1, (OutOk.bind (R1 := fun D _ => RepL Γ.K D) o1).mono fun u2 H2 ⟨D2, v2, h2, e2, x2, r2, q2, o2⟩ => ?_⟩
  have q := o2 D2 (u :: u2) (Ext.refl D2) r2 (RepL.cons (Rep.ext x2 _ _ q1) q2)
  rw [e2] at q
  exact q
/-- *e: what stands in e -/
def evStar (f : EvE) (g : EvA) : EvA := fun G env h => (f G env h).bind fun x h1 => match itemsF x with
  | some ys => (g G env h1).bind fun xs h2 => .ok (ys ++ xs) h2
  | none => .bad
theorem itemsF_sq {Γ : Cfg} {D : Wd} {x : AV} {u : V} {xs : List AV} (r : Rep Γ.K D x u) (e : itemsF x = some xs) : ∃ a us, u = .ref a ∧ (SqT Γ.K D.H a us ∨ SqL Γ.K D.H a us) ∧ RepL Γ.K D xs us := by
  cases x with
  | tup ys =>
    cases e
    obtain ⟨a, us, e1, t, q⟩ := r
    exact ⟨a, us, e1, .inl t.sq, q⟩
  | lst ys =>
    cases e
    obtain ⟨a, us, e1, ⟨_, t⟩, q⟩ := r
    exact ⟨a, us, e1, .inr (SqL.of t), q⟩
  | _ => cases e
theorem sa_star {e : Expr} {es : List Expr} {f : EvE} {g : EvA} {p : Pos} (ha : SE S L e f) (hb : SA S L es g) : SA S L (.Starred e p :: es) (evStar f g) := by
  intro Γ G k X W so c
  refine PA.weak (StX.pa_star (ha Γ G k X W so c) (hb Γ G k X W so c)) fun σ H Q ⟨D, h, env, a, o⟩ => ?_
  refine ⟨D, h, env, a, (OutOk.bind (R1 := fun D _ => Rep Γ.K D) o).mono fun u H' ⟨D1, v1, h1, e1, x1, r1, q1, o1⟩ => ?_⟩
  rw [c.K]
  split at o1
  · rename_i ys hys
    obtain ⟨b, us, e2, sq, q⟩ := itemsF_sq q1 hys
    rw [e1] at sq
    refine ⟨b, us, e2, sq, D1, h1, env, a.next e1 x1 r1, (OutOk.bind (R1 := fun D _ => RepL Γ.K D) o1).mono fun u2 H2 ⟨D2, v2, h2, e3, x2, r2, q2, o2⟩ => ?_⟩
    have q := o2 D2 (us ++ u2) (Ext.refl D2) r2 (RepL.append (RepL.ext x2 _ _ q) q2)
    rw [e3] at q
    exact q
  · exact o1.elim
theorem line1000 {n : Nat} (h : n ≤ 1000) : n ≤ sizeLine := by rw [sizeLine_eq]; omega
/-- what comes of the arguments -/
def evOf (p : List AV → AH → Out AV) (f : EvA) : EvE := fun G env h => (f G env h).bind p
def OpN (p : List AV → AH → Out AV) (r : PySem.W.Frag → List V → Hp → VK → Prop) : Prop := ∀ (Γ : Cfg) (D : Wd) (h : AH) (xs : List AV) (us : List V) (Q : VK) (Wx : Value → Option Addr → Hp → Prop), Rel Γ.K D h → RepL Γ.K D xs us →
  OutOk Γ D (p xs h) (fun D _ => Rep Γ.K D) Q Wx → r Γ.K us D.H Q
theorem tN_of {Γ : Cfg} {W : WX} {p : List AV → AH → Out AV} {r : PySem.W.Frag → List V → Hp → VK → Prop} {f : EvA} {G : GT} (hs : OpN p r) (σ : L2.St) (H : Hp) (Q : VK) (o : tEv Γ W (evOf p f G) σ H Q) : tAv Γ W (f G) σ H fun us H1 => r Γ.K us H1 Q := by
  obtain ⟨D, h, env, a, o⟩ := o
  refine ⟨D, h, env, a, (OutOk.bind (R1 := fun D _ => RepL Γ.K D) o).mono fun u H' ⟨D1, v1, h1, e1, x1, r1, q1, o1⟩ => ?_⟩
  have q := hs Γ D1 h1 v1 u Q _ r1 q1 o1
  rw [e1] at q
  exact q
def opTup : List AV → AH → Out AV := fun xs h => if xs.length ≤ 1000 then .ok (.tup xs) h else .bad
def opLst : List AV → AH → Out AV := fun xs h => if xs.length ≤ 1000 then .ok (.lst xs) h else .bad
def opCel : List AV → AH → Out AV := fun xs h => if xs.length ≤ 1000 ∧ pureL xs = true then .ok (.ref h.length) (h ++ [.lst xs]) else .bad
theorem on_tup : OpN opTup fun _ xs H Q => xs.length ≤ sizeLine ∧ ∀ p, H p = none → Q (.ref p) (upd H p (.tup xs)) := by
  intro Γ D h xs us Q Wx R r o
  unfold opTup at o
  split at o
  · rename_i hz
    exact ⟨by rw [r.length]; exact line1000 hz, fin_tup R r o⟩
  · exact o.elim
theorem on_lst : OpN opLst fun _ xs H Q => xs.length ≤ sizeLine ∧ ∀ p, H p = none → Q (.ref p) (upd H p (.lst xs)) := by
  intro Γ D h xs us Q Wx R r o
  unfold opLst at o
  split at o
  · rename_i hz
    exact ⟨by rw [r.length]; exact line1000 hz, fin_lst R r o⟩
  · exact o.elim
theorem on_cel : OpN opCel fun _ xs H Q => xs.length ≤ sizeLine ∧ ∀ p, H p = none → Q (.ref p) (upd H p (.lst xs)) := by
  intro Γ D h xs us Q Wx R r o
  unfold opCel at o
  split at o
  · rename_i hz
    exact ⟨by rw [r.length]; exact line1000 hz.1, fin_cel R hz.2 r o⟩
  · exact o.elim
theorem se_tup {es : List Expr} {f : EvA} {pos : Pos} {j : Nat} (ha : SA S L es f) : SE S L (.Tuple es j pos) (evOf opTup f) := by
  intro Γ G k X W so c
  exact PE.weak (pe_tup (ha Γ G k X W so c)) fun σ H Q o => tN_of on_tup σ H Q o
theorem se_lst {es : List Expr} {f : EvA} {pos : Pos} (ha : SA S L es f) : SE S L (.List es pos) (evOf opLst f) := by
  intro Γ G k X W so c
  exact PE.weak (pe_lst (ha Γ G k X W so c)) fun σ H Q o => tN_of on_lst σ H Q o
theorem se_cel {es : List Expr} {f : EvA} {pos : Pos} (ha : SA S L es f) : SE S L (.List es pos) (evOf opCel f) := by
  intro Γ G k X W so c
  exact PE.weak (pe_lst (ha Γ G k X W so c)) fun σ H Q o => tN_of on_cel σ H Q o

/-! ### calls of the program's own defs -/
def opCall (n i : Nat) (G : GT) : List AV → AH → Out AV := fun xs h => if xs.length = n then G i xs h else .bad
def evCall (n i : Nat) (f : EvA) : EvE := fun G env h => (f G env h).bind (opCall n i G)
theorem fn_runs {X : Cx} {σ : L2.St} {ps : List Str} {sp : Sp} {k : Nat} {f : Addr} {fd : FuncData} {E : XK} {pins : List (Addr × Obj)} {H : Hp} {s : Shared} {Q : VK} {us : List Value} {vs : List V}
    (F : FnG X.prog X.w X.K X.mg X.base (L2.CX X.prog X.w) k f fd ps sp) (hg : X.A.guards = some []) (hr : Room k X.A) (hb : Binds X.K fd ps []) (hx : PassesAt (L2.CX X.prog X.w) X σ E) (I : Inv X pins σ H s) (r : Vals vs us) (h : sp vs H Q E) :
    wpAny (model X.prog X.w) X.A (call (.ref f) us) (EP X pins σ Q) X.xe s := by
  have hl := F.arity _ _ _ _ h
  have e0 : us ++ [] = us := List.append_nil us
  have bt := hb s us I.kIn (by rw [e0, ← r.length]; exact hl)
  rw [e0] at bt
  refine wpAny_call (codeAny_mono (F.go X.A X.stack s H _ us vs Q E hg hr I.env0 bt r h) fun r s' hq => ?_)
  match r, hq with
  | .error e, hq => exact hx pins H s e s' I hq
  | .ok (.ret u), hq => exact I.after hq
theorem se_call {x : Str} {i n : Nat} {e : Expr} {es : List Expr} {f : EvA} {p pos : Pos} (hx : S.fns.lookup x = some (i, n)) (hg : glB L.sc x = true) (hn : okName x = true) (ha : SA S L (e :: es) f) (hst : (e :: es).all notStar = true) (hh : L.hot = false) :
    SE S L (.Call (.Name x p) (e :: es) [] pos) (evCall n i f) := by
  intro Γ G k X W so c
  obtain ⟨a, fd, ps, e1, e2, e3, F⟩ := so.fn x i n hx
  rw [List.all_cons, Bool.and_eq_true] at hst
  refine ⟨fun pins s σ H Q I o => ?_⟩
  refine wpAny_Call_Name_kw (ld_glob I (gl_of c hg) (by rw [c.mg]; exact e1) ?_ (okName1 hn))
  obtain ⟨D, h, env, ata, o⟩ := o
  refine PySem.W.callWith_K (h₀ := X.base) I.ok.mod.kin (by rw [c.K]; exact e2) (thn ((ha Γ G k X W so c).run pos pins s σ H (fun us H1 => spOf Γ n (G i) us H1 Q (WE W σ)) I ?_) fun us s1 ⟨vs, H1, I1, r, q⟩ => ⟨I1.kIn, ?_⟩) (starEach_cons hst.1) (starEach_plain hst.2)
  · refine ⟨D, h, env, ata, (OutOk.bind (R1 := fun D _ => RepL Γ.K D) o).mono fun u H' ⟨D1, v1, h1, e1, x1, r1, q1, o1⟩ => ?_⟩
    unfold opCall at o1
    split at o1
    · rename_i hl
      exact ⟨by rw [q1.length]; exact hl, D1, h1, v1, e1, r1, q1, (ata.ok.ext x1).out (c.xn hh), o1⟩
    · exact o1.elim
  · have F' : FnG X.prog X.w X.K X.mg X.base (L2.CX X.prog X.w) k a fd ps (spOf Γ n (G i)) := by rw [c.prog, c.w, c.K, c.mg, c.base]; exact F
    exact fn_runs F' c.grd (c.room hh) (by rw [c.K]; exact e3) (passAt c.takes σ) I1 r q

/-! ### built-ins -/
theorem se_blt {x : Str} {id : String} {p0 : List AV → AH → Out AV} {r : PySem.W.Frag → List V → Hp → VK → Prop} {e : Expr} {es : List Expr} {f : EvA} {p pos : Pos} (hc : ∀ X : Cx, X.A.units + 200 < cLine → X.A.guards = some [] → (L.hot = false → X.calm = true) → CallR X (.builtin id) (r X.K)) (hs : OpN p0 r)
    (hx : x ∈ S.free) (hv : bootBuiltins x = some (.builtin id)) (hg : glB L.sc x = true) (hn : okName x = true) (ha : SA S L (e :: es) f) (hst : (e :: es).all notStar = true) :
    SE S L (.Call (.Name x p) (e :: es) [] pos) (evOf p0 f) := by
  intro Γ G k X W so c
  rw [List.all_cons, Bool.and_eq_true] at hst
  refine PE.weak (pe_callB (hc X c.un c.grd c.calm) (gl_of c hg) (by rw [c.mg]; exact so.free x hx) hv (ha Γ G k X W so c) (okName3 hn) (okName1 hn) (starEach_cons hst.1) (starEach_plain hst.2)) fun σ H Q o => ?_
  have q := tN_of hs σ H Q o
  rw [← c.K] at q
  exact q
theorem se_ty {x : Str} {T : String} {p0 : List AV → AH → Out AV} {r : PySem.W.Frag → List V → Hp → VK → Prop} {e : Expr} {es : List Expr} {f : EvA} {p pos : Pos} (hc : ∀ X : Cx, X.A.units + 200 < cLine → X.A.guards = some [] → (L.hot = false → X.calm = true) → CallR X (.type T) (r X.K)) (hs : OpN p0 r)
    (hx : x ∈ S.free) (hv : bootBuiltins x = some (.type T)) (hg : glB L.sc x = true) (hn : okName x = true) (ha : SA S L (e :: es) f) (hst : (e :: es).all notStar = true) :
    SE S L (.Call (.Name x p) (e :: es) [] pos) (evOf p0 f) := by
  intro Γ G k X W so c
  rw [List.all_cons, Bool.and_eq_true] at hst
  refine PE.weak (pe_callTy (hc X c.un c.grd c.calm) (gl_of c hg) (by rw [c.mg]; exact so.free x hx) hv (ha Γ G k X W so c) (okName3 hn) (okName1 hn) (starEach_cons hst.1) (starEach_plain hst.2)) fun σ H Q o => ?_
  have q := tN_of hs σ H Q o
  rw [← c.K] at q
  exact q
theorem se_gcd {x : Str} {p0 : List AV → AH → Out AV} {e : Expr} {es : List Expr} {f : EvA} {p pos : Pos} (hs : OpN p0 fun _ => rGcd)
    (hx : x ∈ S.gcds) (hg : glB L.sc x = true) (hn : okName x = true) (ha : SA S L (e :: es) f) (hst : (e :: es).all notStar = true) : SE S L (.Call (.Name x p) (e :: es) [] pos) (evOf p0 f) := by
  intro Γ G k X W so c
  rw [List.all_cons, Bool.and_eq_true] at hst
  exact PE.weak (pe_callBfun cr_gcd (gl_of c hg) (by rw [c.mg]; exact so.gcd x hx) (ha Γ G k X W so c) (okName1 hn) (starEach_cons hst.1) (starEach_plain hst.2)) fun σ H Q o => tN_of hs σ H Q o
def opLen : List AV → AH → Out AV := fun xs h => match xs with
  | [.str x] => if x.length ≤ sizeLine then .ok (.int x.length) h else .bad
  | [.dct ks xs] => .ok (.int ks.length) h
  | [x] => match itemsOf h x with
    | some xs => .ok (.int xs.length) h
    | none => .bad
  | _ => .bad
def rLenA (K : PySem.W.Frag) : List V → Hp → VK → Prop := fun xs H Q => (∃ x n, xs = [x] ∧ LenV K x H n ∧ Q (.int n) H) ∨ (∃ a kvs, xs = [V.ref a] ∧ H a = some (.dK kvs) ∧ Q (.int kvs.length) H)
theorem call_lenA {X : Cx} : CallR X (.builtin "len") (rLenA X.K) := CallR.or call_len call_lenD
theorem RepL.one {K : PySem.W.Frag} {D : Wd} {x : AV} {us : List V} (r : RepL K D [x] us) : ∃ u, us = [u] ∧ Rep K D x u := by
  obtain ⟨u, t, e, r1, r2⟩ := r
  have e2 : t = [] := r2
  exact ⟨u, by rw [e, e2], r1⟩
theorem RepL.two {K : PySem.W.Frag} {D : Wd} {x y : AV} {us : List V} (r : RepL K D [x, y] us) : ∃ u v, us = [u, v] ∧ Rep K D x u ∧ Rep K D y v := by
  obtain ⟨u, t, e, r1, r2⟩ := r
  obtain ⟨v, e2, r3⟩ := RepL.one r2
  exact ⟨u, v, by rw [e, e2], r1, r3⟩
theorem on_len : OpN opLen rLenA := by
  intro Γ D h xs us Q Wx R r o
  unfold opLen at o
  split at o
  · obtain ⟨u, e, ru⟩ := r.one
    subst e
    cases ru
    split at o
    · rename_i hz
      exact .inl ⟨_, _, rfl, ⟨hz, rfl⟩, fin (v := .int _) R rfl o⟩
    · exact o.elim
  · obtain ⟨u, e, ru⟩ := r.one
    subst e
    rename_i ks ys
    obtain ⟨a, vs, e1, ⟨_, t⟩, l, q⟩ := ru
    subst e1
    refine .inr ⟨a, _, rfl, t, ?_⟩
    have e2 : (ks.zip vs).length = ks.length := by rw [List.length_zip, l, Nat.min_self]
    rw [e2]
    exact fin (v := .int ks.length) R rfl o
  · rename_i x _ _
    obtain ⟨u, e, ru⟩ := r.one
    subst e
    split at o
    · rename_i ys hy
      obtain ⟨a, vs, e1, t, q⟩ := itemsOf_sq R ru hy
      subst e1
      refine .inl ⟨_, ys.length, rfl, ?_, fin (v := .int ys.length) R rfl o⟩
      rcases t with t | t
      · exact .inl ⟨vs, t, q.length.symm⟩
      · exact .inr ⟨vs, t, q.length.symm⟩
    · exact o.elim
  · exact o.elim
def opAbs : List AV → AH → Out AV := fun xs h => match xs with
  | [.int i] => .ok (.int (if i < 0 then -i else i)) h
  | _ => .bad
def opMax : List AV → AH → Out AV := fun xs h => match xs with
  | [.int i, .int j] => .ok (.int (if j > i then j else i)) h
  | _ => .bad
def opMin : List AV → AH → Out AV := fun xs h => match xs with
  | [.int i, .int j] => .ok (.int (if j < i then j else i)) h
  | _ => .bad
def opInt : List AV → AH → Out AV := fun xs h => match xs with
  | [.int i] => .ok (.int i) h
  | [.bl b] => .ok (.int (if b then 1 else 0)) h
  | _ => .bad
def opBool : List AV → AH → Out AV := fun xs h => match xs with
  | [.int i] => .ok (.bl (i != 0)) h
  | [.bl b] => .ok (.bl b) h
  | _ => .bad
def opGcd : List AV → AH → Out AV := fun xs h => match xs with
  | [.int i, .int j] => .ok (.int ((Nat.gcd i.natAbs j.natAbs : Nat) : Int)) h
  | _ => .bad
theorem on_abs : OpN opAbs fun _ xs H Q => ∃ i, xs = [.int i] ∧ Q (.int (if i < 0 then -i else i)) H := by
  intro Γ D h xs us Q Wx R r o
  unfold opAbs at o
  split at o
  · obtain ⟨u, e, ru⟩ := r.one; subst e; cases ru; exact ⟨_, rfl, fin (v := .int _) R rfl o⟩
  · exact o.elim
theorem on_int2 {p : List AV → AH → Out AV} {g : Int → Int → Int} (h1 : ∀ i j h, p [.int i, .int j] h = .ok (.int (g i j)) h) (h2 : ∀ xs h, (∀ i j, xs = [.int i, .int j] → False) → p xs h = .bad) :
    OpN p fun _ xs H Q => ∃ i j, xs = [.int i, .int j] ∧ Q (.int (g i j)) H := by
  intro Γ D h xs us Q Wx R r o
  by_cases hx : ∃ i j, xs = [.int i, .int j]
  · obtain ⟨i, j, e⟩ := hx
    subst e
    obtain ⟨u, v, e, r1, r2⟩ := r.two
    subst e
    cases r1; cases r2
    rw [h1] at o
    exact ⟨i, j, rfl, fin (v := .int _) R rfl o⟩
  · rw [h2 xs h fun i j e => hx ⟨i, j, e⟩] at o
    exact o.elim
theorem on_max : OpN opMax fun _ xs H Q => ∃ i j, xs = [.int i, .int j] ∧ Q (.int (if j > i then j else i)) H := on_int2 (fun _ _ _ => rfl) fun xs h n => by
  unfold opMax; split
  · exact (n _ _ rfl).elim
  · rfl
theorem on_min : OpN opMin fun _ xs H Q => ∃ i j, xs = [.int i, .int j] ∧ Q (.int (if j < i then j else i)) H := on_int2 (fun _ _ _ => rfl) fun xs h n => by
  unfold opMin; split
  · exact (n _ _ rfl).elim
  · rfl
theorem on_gcd : OpN opGcd fun _ => rGcd := on_int2 (fun _ _ _ => rfl) fun xs h n => by
  unfold opGcd; split
  · exact (n _ _ rfl).elim
  · rfl
theorem on_int : OpN opInt fun _ xs H Q => (∃ i, xs = [.int i] ∧ Q (.int i) H) ∨ ∃ k, xs = [.bl k] ∧ Q (.int (if k then 1 else 0)) H := by
  intro Γ D h xs us Q Wx R r o
  unfold opInt at o
  split at o
  · obtain ⟨u, e, ru⟩ := r.one; subst e; cases ru; exact .inl ⟨_, rfl, fin (v := .int _) R rfl o⟩
  · obtain ⟨u, e, ru⟩ := r.one; subst e; cases ru; exact .inr ⟨_, rfl, fin (v := .int _) R rfl o⟩
  · exact o.elim
theorem on_bool : OpN opBool fun _ xs H Q => (∃ i, xs = [.int i] ∧ Q (.bl (i != 0)) H) ∨ ∃ k, xs = [.bl k] ∧ Q (.bl k) H := by
  intro Γ D h xs us Q Wx R r o
  unfold opBool at o
  split at o
  · obtain ⟨u, e, ru⟩ := r.one; subst e; cases ru; exact .inl ⟨_, rfl, fin (v := .bl _) R rfl o⟩
  · obtain ⟨u, e, ru⟩ := r.one; subst e; cases ru; exact .inr ⟨_, rfl, fin (v := .bl _) R rfl o⟩
  · exact o.elim
def opTuple : List AV → AH → Out AV := fun xs h => match xs with
  | [x] => match itemsOf h x with
    | some xs => .ok (.tup xs) h
    | none => .bad
  | _ => .bad
def opList : List AV → AH → Out AV := fun xs h => match xs with
  | [x] => match itemsOf h x with
    | some xs => .ok (.lst xs) h
    | none => .bad
  | _ => .bad
def opListC : List AV → AH → Out AV := fun xs h => match xs with
  | [x] => match itemsOf h x with
    | some xs => if pureL xs = true then .ok (.ref h.length) (h ++ [.lst xs]) else .bad
    | none => .bad
  | _ => .bad
theorem on_tuple : OpN opTuple fun K xs H Q => ∃ p ys, xs = [.ref p] ∧ ((SqL K H p ys ∧ ∀ l, H l = none → Q (.ref l) (upd H l (.tup ys))) ∨ (SqT K H p ys ∧ Q (.ref p) H)) := by
  intro Γ D h xs us Q Wx R r o
  unfold opTuple at o
  split at o
  · rename_i x
    split at o
    · rename_i ys hy
      obtain ⟨u, e, ru⟩ := r.one
      subst e
      cases x with
      | tup zs =>
        cases hy
        obtain ⟨a, vs, e1, t, q⟩ := id ru
        subst e1
        exact ⟨a, vs, rfl, .inr ⟨t.sq, fin (v := .tup _) R ru o⟩⟩
      | lst zs =>
        cases hy
        obtain ⟨a, vs, e1, ⟨_, t⟩, q⟩ := ru
        subst e1
        exact ⟨a, vs, rfl, .inl ⟨SqL.of t, fin_tup R q o⟩⟩
      | kl zs =>
        cases hy
        obtain ⟨a, vs, e1, t, q⟩ := ru
        subst e1
        exact ⟨a, vs, rfl, .inl ⟨t.sq, fin_tup R q o⟩⟩
      | ref n =>
        simp only [itemsOf] at hy
        split at hy
        · rename_i zs hc
          cases hy
          obtain ⟨a, e1, _, vs, t, q⟩ := ref_lst R ru hc
          subst e1
          exact ⟨a, vs, rfl, .inl ⟨SqL.of t, fin_tup R q o⟩⟩
        · rename_i lo r' hc
          cases hy
          obtain ⟨a, e1, _, cm⟩ := ref_lst R ru hc
          obtain ⟨vs, t, q⟩ := mat_rep cm
          subst e1
          exact ⟨a, vs, rfl, .inl ⟨SqL.of t, fin_tup R q o⟩⟩
        · cases hy
      | _ => cases hy
    · exact o.elim
  · exact o.elim
theorem on_list : OpN opList fun K xs H Q => ∃ p ys, xs = [.ref p] ∧ (SqL K H p ys ∨ SqT K H p ys) ∧ ∀ l, H l = none → Q (.ref l) (upd H l (.lst ys)) := by
  intro Γ D h xs us Q Wx R r o
  unfold opList at o
  split at o
  · rename_i x
    split at o
    · rename_i ys hy
      obtain ⟨u, e, ru⟩ := r.one
      subst e
      obtain ⟨a, vs, e1, t, q⟩ := itemsOf_sq R ru hy
      subst e1
      exact ⟨a, vs, rfl, t, fin_lst R q o⟩
    · exact o.elim
  · exact o.elim
theorem on_listC : OpN opListC fun K xs H Q => ∃ p ys, xs = [.ref p] ∧ (SqL K H p ys ∨ SqT K H p ys) ∧ ∀ l, H l = none → Q (.ref l) (upd H l (.lst ys)) := by
  intro Γ D h xs us Q Wx R r o
  unfold opListC at o
  split at o
  · rename_i x
    split at o
    · rename_i ys hy
      obtain ⟨u, e, ru⟩ := r.one
      subst e
      obtain ⟨a, vs, e1, t, q⟩ := itemsOf_sq R ru hy
      subst e1
      split at o
      · rename_i hpu
        exact ⟨a, vs, rfl, t, fin_cel R hpu q o⟩
      · exact o.elim
    · exact o.elim
  · exact o.elim
def blsOf : List AV → Option (List Bool)
  | [] => some []
  | .bl i :: xs => (blsOf xs).map (i :: ·)
  | _ :: _ => none
theorem RepL.ofBls {K : PySem.W.Frag} {D : Wd} : ∀ {xs : List AV} {bs : List Bool} {us : List V}, blsOf xs = some bs → RepL K D xs us → us = bs.map V.bl
  | [], bs, us, e, r => by cases e; exact r
  | x :: xs, bs, us, e, r => by
    obtain ⟨u, us', e1, r1, r2⟩ := r
    subst e1
    cases x with
    | bl i =>
      simp only [blsOf] at e
      cases h : blsOf xs with
      | none => rw [h] at e; cases e
      | some ms =>
        rw [h] at e
        have e2 : i :: ms = bs := Option.some.inj e
        subst e2
        have e3 : u = .bl i := r1
        rw [e3, RepL.ofBls h r2]; rfl
    | _ => cases e
/-- a list that is read -/
def lstOf (h : AH) : AV → Option (List AV)
  | .lst xs => some xs
  | .kl xs => some xs
  | .ref n => match h[n]? with
    | some (.lst xs) => some xs
    | some (.mat lo r) => some (matI lo r)
    | _ => none
  | _ => none
theorem lstOf_sq {Γ : Cfg} {D : Wd} {h : AH} (R : Rel Γ.K D h) {x : AV} {u : V} {xs : List AV} (r : Rep Γ.K D x u) (e : lstOf h x = some xs) : ∃ a us, u = .ref a ∧ SqL Γ.K D.H a us ∧ RepL Γ.K D xs us := by
  cases x with
  | lst ys => cases e; obtain ⟨a, us, e1, ⟨_, t⟩, q⟩ := r; exact ⟨a, us, e1, SqL.of t, q⟩
  | kl ys => cases e; obtain ⟨a, us, e1, t, q⟩ := r; exact ⟨a, us, e1, t.sq, q⟩
  | ref n =>
    simp only [lstOf] at e
    split at e
    · rename_i ys hc
      cases e
      obtain ⟨a, e1, _, us, t, q⟩ := ref_lst R r hc
      exact ⟨a, us, e1, SqL.of t, q⟩
    · rename_i lo r' hc
      cases e
      obtain ⟨a, e1, _, cm⟩ := ref_lst R r hc
      obtain ⟨us, t, q⟩ := mat_rep cm
      exact ⟨a, us, e1, SqL.of t, q⟩
    · cases e
  | _ => cases e
def opBls (g : List Bool → Bool) : List AV → AH → Out AV := fun xs h => match xs with
  | [x] => match (lstOf h x).bind blsOf with
    | some bs => .ok (.bl (g bs)) h
    | none => .bad
  | _ => .bad
theorem on_bls (g : List Bool → Bool) : OpN (opBls g) fun K xs H Q => ∃ (a : Addr) (bs : List Bool), xs = [V.ref a] ∧ SqL K H a (bs.map V.bl) ∧ Q (.bl (g bs)) H := by
  intro Γ D h xs us Q Wx R r o
  unfold opBls at o
  split at o
  · rename_i x
    split at o
    · rename_i bs hb
      obtain ⟨ys, hy, hb⟩ := Option.bind_eq_some_iff.mp hb
      obtain ⟨u, e, ru⟩ := r.one
      subst e
      obtain ⟨a, vs, e1, t, q⟩ := lstOf_sq R ru hy
      subst e1
      have e2 := RepL.ofBls hb q
      subst e2
      exact ⟨a, bs, rfl, t, fin (v := .bl _) R rfl o⟩
    · exact o.elim
  · exact o.elim
def opSum : List AV → AH → Out AV := fun xs h => match xs with
  | [x] => match (lstOf h x).bind intsOf with
    | some ns => .ok (.int ns.sum) h
    | none => .bad
  | _ => .bad
theorem on_sum : OpN opSum rSum := by
  intro Γ D h xs us Q Wx R r o
  unfold opSum at o
  split at o
  · rename_i x
    split at o
    · rename_i bs hb
      obtain ⟨ys, hy, hb⟩ := Option.bind_eq_some_iff.mp hb
      obtain ⟨u, e, ru⟩ := r.one
      subst e
      obtain ⟨a, vs, e1, t, q⟩ := lstOf_sq R ru hy
      subst e1
      have e3 := intsOf_eq hb
      subst e3
      have e2 := q.ofInts
      subst e2
      exact ⟨a, bs, rfl, t, fin (v := .int _) R rfl o⟩
    · exact o.elim
  · exact o.elim
end
end Pv
end
section
set_option Elab.async false
set_option linter.all false
set_option maxRecDepth 100000
set_option autoImplicit false
namespace Pv
open PySem PySem.Spec PyProof.Rows L2
section
variable {S : Stat} {L : Lc}

/-! ### one operand -/
def evOf1 (p : AV → AH → Out AV) (f : EvE) : EvE := fun G env h => (f G env h).bind p
def negOp : AV → AH → Out AV := fun x h => match x with
  | .int i => .ok (.int (-i)) h
  | _ => .bad
def notOp : AV → AH → Out AV := fun x h => match x with
  | .bl b => .ok (.bl (!b)) h
  | _ => .bad
theorem se_neg {a : Expr} {f : EvE} {pos : Pos} (ha : SE S L a f) : SE S L (.UnaryOp .USub a pos) (evOf1 negOp f) := by
  intro Γ G k X W so c
  refine PE.weak (pe_un un_neg (ha Γ G k X W so c)) fun σ H Q ⟨D, h, env, a, o⟩ => ?_
  refine ⟨D, h, env, a, (OutOk.bind (R1 := fun D _ => Rep Γ.K D) o).mono fun u H' ⟨D1, v1, h1, e1, x1, r1, q1, o1⟩ => ?_⟩
  unfold negOp at o1
  split at o1
  · rename_i i
    cases q1
    have q := fin (v := .int (-i)) r1 rfl o1
    rw [e1] at q
    exact ⟨i, rfl, q⟩
  · exact o1.elim
theorem se_not {a : Expr} {f : EvE} {pos : Pos} (ha : SE S L a f) : SE S L (.UnaryOp .Not a pos) (evOf1 notOp f) := by
  intro Γ G k X W so c
  refine PE.weak (pe_not (ha Γ G k X W so c)) fun σ H Q ⟨D, h, env, a, o⟩ => ?_
  refine ⟨D, h, env, a, (OutOk.bind (R1 := fun D _ => Rep Γ.K D) o).mono fun u H' ⟨D1, v1, h1, e1, x1, r1, q1, o1⟩ => ?_⟩
  unfold notOp at o1
  split at o1
  · rename_i b
    cases q1
    have q := fin (v := .bl (!b)) r1 rfl o1
    rw [e1] at q
    exact ⟨b, rfl, q⟩
  · exact o1.elim

/-! ### and, or: values -/
def evAnd (f g : EvE) : EvE := fun G env h => (f G env h).bind fun x h1 => match x with
  | .bl b => if b = true then g G env h1 else .ok (.bl false) h1
  | _ => .bad
def evOr (f g : EvE) : EvE := fun G env h => (f G env h).bind fun x h1 => match x with
  | .bl b => if b = true then .ok (.bl true) h1 else g G env h1
  | _ => .bad
theorem se_one {op : BoolOp} {a : Expr} {f : EvE} {pos : Pos} (ha : SE S L a f) : SE S L (.BoolOp op [a] pos) f := by
  intro Γ G k X W so c
  exact pe_one (ha Γ G k X W so c)
theorem se_and {a b : Expr} {es : List Expr} {f g : EvE} {pos : Pos} (ha : SE S L a f) (hb : SE S L (.BoolOp .And (b :: es) pos) g) : SE S L (.BoolOp .And (a :: b :: es) pos) (evAnd f g) := by
  intro Γ G k X W so c
  refine PE.weak (pe_and (ha Γ G k X W so c) (hb Γ G k X W so c)) fun σ H Q ⟨D, h, env, a, o⟩ => ?_
  refine ⟨D, h, env, a, (OutOk.bind (R1 := fun D _ => Rep Γ.K D) o).mono fun u H' ⟨D1, v1, h1, e1, x1, r1, q1, o1⟩ => ?_⟩
  split at o1
  · rename_i b
    cases q1
    cases b with
    | true => exact ⟨true, rfl, ⟨D1, h1, env, a.next e1 x1 r1, o1⟩⟩
    | false =>
      have q := fin (v := .bl false) r1 rfl o1
      rw [e1] at q
      exact ⟨false, rfl, q⟩
  · exact o1.elim
theorem se_or {a b : Expr} {es : List Expr} {f g : EvE} {pos : Pos} (ha : SE S L a f) (hb : SE S L (.BoolOp .Or (b :: es) pos) g) : SE S L (.BoolOp .Or (a :: b :: es) pos) (evOr f g) := by
  intro Γ G k X W so c
  refine PE.weak (pe_or (ha Γ G k X W so c) (hb Γ G k X W so c)) fun σ H Q ⟨D, h, env, a, o⟩ => ?_
  refine ⟨D, h, env, a, (OutOk.bind (R1 := fun D _ => Rep Γ.K D) o).mono fun u H' ⟨D1, v1, h1, e1, x1, r1, q1, o1⟩ => ?_⟩
  split at o1
  · rename_i b
    cases q1
    cases b with
    | true =>
      have q := fin (v := .bl true) r1 rfl o1
      rw [e1] at q
      exact ⟨true, rfl, q⟩
    | false => exact ⟨false, rfl, ⟨D1, h1, env, a.next e1 x1 r1, o1⟩⟩
  · exact o1.elim

/-! ### tests -/
def SW (S : Stat) (L : Lc) (e : Expr) (f : EvT) : Prop := ∀ (Γ : Cfg) (G : GT) (k : Nat) (X : Cx) (W : WX), StatOk Γ S G k → CtxP Γ k L X W → PW X e (tTv Γ W (f G))
theorem SW.st {e : Expr} {f : EvT} (h : SW S L e f) : ST S L e f := fun Γ G k X W so c => (h Γ G k X W so c).pt
def etAnd (f g : EvT) : EvT := fun G env h => (f G env h).bind fun b h1 => if b = true then g G env h1 else .ok false h1
def etOr (f g : EvT) : EvT := fun G env h => (f G env h).bind fun b h1 => if b = true then .ok true h1 else g G env h1
def etNot (f : EvT) : EvT := fun G env h => (f G env h).bind fun b h1 => .ok (!b) h1
theorem sw_one {op : BoolOp} {a : Expr} {f : EvT} {pos : Pos} (ha : ST S L a f) : SW S L (.BoolOp op [a] pos) f := by
  intro Γ G k X W so c
  cases op
  · exact pw_and1 (ha Γ G k X W so c)
  · exact pw_or1 (ha Γ G k X W so c)
theorem finB {Γ : Cfg} {D : Wd} {h : AH} {b : Bool} {Q : Bool → Hp → Prop} {Wx : Value → Option Addr → Hp → Prop} (R : Rel Γ.K D h) (o : OutOk Γ D (.ok b h) (fun _ _ (b c : Bool) => b = c) Q Wx) : Q b D.H := o D b (Ext.refl D) R rfl
theorem sw_and {a b : Expr} {es : List Expr} {f g : EvT} {pos : Pos} (ha : ST S L a f) (hb : SW S L (.BoolOp .And (b :: es) pos) g) : SW S L (.BoolOp .And (a :: b :: es) pos) (etAnd f g) := by
  intro Γ G k X W so c
  refine PW.weak (pw_and (ha Γ G k X W so c) (hb Γ G k X W so c)) fun σ H Q ⟨D, h, env, a, o⟩ => ?_
  refine ⟨D, h, env, a, (OutOk.bind (R1 := fun _ _ (b c : Bool) => b = c) o).mono fun u H' ⟨D1, v1, h1, e1, x1, r1, q1, o1⟩ => ?_⟩
  subst q1
  cases v1 with
  | true => exact ⟨D1, h1, env, a.next e1 x1 r1, o1⟩
  | false =>
    have q := finB r1 o1
    rw [e1] at q
    exact q
theorem sw_or {a b : Expr} {es : List Expr} {f g : EvT} {pos : Pos} (ha : ST S L a f) (hb : SW S L (.BoolOp .Or (b :: es) pos) g) : SW S L (.BoolOp .Or (a :: b :: es) pos) (etOr f g) := by
  intro Γ G k X W so c
  refine PW.weak (pw_or (ha Γ G k X W so c) (hb Γ G k X W so c)) fun σ H Q ⟨D, h, env, a, o⟩ => ?_
  refine ⟨D, h, env, a, (OutOk.bind (R1 := fun _ _ (b c : Bool) => b = c) o).mono fun u H' ⟨D1, v1, h1, e1, x1, r1, q1, o1⟩ => ?_⟩
  subst q1
  cases v1 with
  | false => exact ⟨D1, h1, env, a.next e1 x1 r1, o1⟩
  | true =>
    have q := finB r1 o1
    rw [e1] at q
    exact q
theorem st_not {a : Expr} {f : EvT} {pos : Pos} (ha : ST S L a f) : ST S L (.UnaryOp .Not a pos) (etNot f) := by
  intro Γ G k X W so c
  refine PT.weak (pt_not (ha Γ G k X W so c)) fun σ H Q ⟨D, h, env, a, o⟩ => ?_
  refine ⟨D, h, env, a, (OutOk.bind (R1 := fun _ _ (b c : Bool) => b = c) o).mono fun u H' ⟨D1, v1, h1, e1, x1, r1, q1, o1⟩ => ?_⟩
  subst q1
  have q := finB r1 o1
  rw [e1] at q
  exact q
/-- a value's truth -/
def truB (h : AH) : AV → Option Bool
  | .non => some false
  | .bl b => some b
  | .int i => some (i != 0)
  | .str x => if x.length ≤ sizeLine then some ((x.length : Int) != 0) else none
  | .dct ks _ => some (!ks.isEmpty)
  | x => (itemsOf h x).map fun xs => !xs.isEmpty
theorem empty_same {K : PySem.W.Frag} {D : Wd} {xs : List AV} {us : List V} (r : RepL K D xs us) : us.isEmpty = xs.isEmpty := by
  have e := r.empty
  cases us with
  | nil => rw [e.mp rfl]; rfl
  | cons u us =>
    cases xs with
    | nil => exact absurd (e.mpr rfl) (by simp)
    | cons x xs => rfl
theorem truB_of {Γ : Cfg} {D : Wd} {h : AH} (R : Rel Γ.K D h) {x : AV} {u : V} {b : Bool} (r : Rep Γ.K D x u) (e : truB h x = some b) : TruV Γ.K u D.H b := by
  have go : ∀ ys, itemsOf h x = some ys → b = !ys.isEmpty → TruV Γ.K u D.H b := fun ys e eb => by
    obtain ⟨a, vs, e1, t, q⟩ := itemsOf_sq R r e
    subst e1
    rcases t with t | t
    · exact .inl ⟨vs, t, by rw [eb, empty_same q]⟩
    · exact .inr (.inl ⟨vs, t, by rw [eb, empty_same q]⟩)
  cases x with
  | non => cases r; cases e; rfl
  | fn i => cases e
  | bl b => cases r; cases e; rfl
  | int i => cases r; cases e; rfl
  | str x =>
    cases r
    simp only [truB] at e
    split at e
    · rename_i hz
      cases e
      exact ⟨hz, rfl⟩
    · cases e
  | dct ks ys =>
    cases e
    obtain ⟨a, vs, e1, ⟨_, t⟩, l, q⟩ := r
    subst e1
    refine .inr (.inr ⟨_, t, ?_⟩)
    cases ks with
    | nil => rfl
    | cons k ks =>
      cases vs with
      | nil => simp at l
      | cons v vs => rfl
  | tup ys => cases e; exact go ys rfl rfl
  | lst ys => cases e; exact go ys rfl rfl
  | kl ys => cases e; exact go ys rfl rfl
  | ob c ys => cases e
  | xn f y => cases e
  | ref n =>
    simp only [truB] at e
    cases hy : itemsOf h (.ref n) with
    | none => rw [hy] at e; cases e
    | some ys =>
      rw [hy] at e
      exact go ys hy (Option.some.inj e).symm
def etOf (f : EvE) : EvT := fun G env h => (f G env h).bind fun x h1 => match truB h1 x with
  | some b => .ok b h1
  | none => .bad
theorem st_val {a : Expr} {f : EvE} (ha : SE S L a f) (hp : plainTest a = true) : ST S L a (etOf f) := by
  intro Γ G k X W so c
  refine PT.weak (pt_truth (ha Γ G k X W so c) fun wh => isTrue_of hp wh) fun σ H Q ⟨D, h, env, a, o⟩ => ?_
  refine ⟨D, h, env, a, (OutOk.bind (R1 := fun D _ => Rep Γ.K D) o).mono fun u H' ⟨D1, v1, h1, e1, x1, r1, q1, o1⟩ => ?_⟩
  split at o1
  · rename_i b hb
    have t := truB_of r1 q1 hb
    have q := finB r1 o1
    rw [← c.K] at t
    rw [e1] at q t
    exact ⟨b, t, q⟩
  · exact o1.elim
/-- a comparison's answer as a test -/
def etB (f : EvE) : EvT := fun G env h => (f G env h).bind fun x h1 => match x with
  | .bl b => .ok b h1
  | _ => .bad
theorem tB_of {Γ : Cfg} {W : WX} {f : EvE} {G : GT} {t : TE} (ht : ∀ σ H Q, tEv Γ W (f G) σ H Q → t σ H Q) (σ : L2.St) (H : Hp) (Q : Bool → Hp → Prop) (o : tTv Γ W (etB f G) σ H Q) : tTest t σ H Q := by
  obtain ⟨D, h, env, a, o⟩ := o
  refine ht σ H _ ⟨D, h, env, a, (OutOk.bind (R1 := fun D _ => Rep Γ.K D) o).mono fun u H' ⟨D1, v1, h1, e1, x1, r1, q1, o1⟩ => ?_⟩
  split at o1
  · rename_i b
    cases q1
    have q := finB r1 o1
    rw [e1] at q
    exact ⟨b, rfl, q⟩
  · exact o1.elim

/-! ### comparisons -/
structure CmpR (op : CmpOp) (oo : Op2) : Prop where
  ex : ∃ r : PySem.W.Frag → R2, (∀ X : Cx, X.A.units + 200 < cLine → OpR X (compareOp op) (r X.K)) ∧ OpS oo r
theorem cmp_eq : CmpR .Eq eqOp := ⟨rEqD, fun X h => op_eqD (by omega), so_eq⟩
theorem cmp_ne : CmpR .NotEq neOp := ⟨rNeD, fun X h => op_neD (by omega), so_ne⟩
theorem cmp_lt : CmpR .Lt ltOp := ⟨rLtA, fun X h => op_ltA (by omega), so_lt⟩
theorem cmp_le : CmpR .LtE leOp := ⟨fun _ => rI0 fun i j => .bl (decide (i ≤ j)), fun X h => op_le, so_le⟩
theorem cmp_gt : CmpR .Gt gtOp := ⟨fun _ => rI0 fun i j => .bl (decide (j < i)), fun X h => op_gt, so_gt⟩
theorem cmp_ge : CmpR .GtE geOp := ⟨fun _ => rI0 fun i j => .bl (decide (j ≤ i)), fun X h => op_ge, so_ge⟩
theorem cmp_is : CmpR .Is isOp := ⟨fun _ => _, fun X h => op_isN, so_is⟩
theorem cmp_isnot : CmpR .IsNot isNotOp := ⟨fun _ => _, fun X h => op_notN, so_isNot⟩
theorem cmp_in : CmpR .In (inOp false) := ⟨fun K => rInA K false, fun X h => OpR.or op_in_seq (op_inT (by omega)), so_in false⟩
theorem cmp_notin : CmpR .NotIn (inOp true) := ⟨fun K => rInA K true, fun X h => OpR.or op_notIn_seq (op_notInT (by omega)), so_in true⟩
def cmpOf : (op : CmpOp) → { oo : Op2 // CmpR op oo }
  | .Eq => ⟨_, cmp_eq⟩
  | .NotEq => ⟨_, cmp_ne⟩
  | .Lt => ⟨_, cmp_lt⟩
  | .LtE => ⟨_, cmp_le⟩
  | .Gt => ⟨_, cmp_gt⟩
  | .GtE => ⟨_, cmp_ge⟩
  | .Is => ⟨_, cmp_is⟩
  | .IsNot => ⟨_, cmp_isnot⟩
  | .In => ⟨_, cmp_in⟩
  | .NotIn => ⟨_, cmp_notin⟩
theorem se_cmp {op : CmpOp} {oo : Op2} {a b : Expr} {f g : EvE} {pos : Pos} (ho : CmpR op oo) (ha : SE S L a f) (hb : SE S L b g) (hs : notSet b = true) : SE S L (.Compare a [op] [b] pos) (evOp oo f g) := by
  obtain ⟨r, h1, h2⟩ := ho
  intro Γ G k X W so c
  refine PE.weak (pe_cmpR (h1 X c.un) (ha Γ G k X W so c) (hb Γ G k X W so c) (nomark_of hs)) fun σ H Q o => ?_
  rw [c.K]
  exact tOp_of h2 σ H Q o
theorem st_cmp {op : CmpOp} {oo : Op2} {a b : Expr} {f g : EvE} {pos : Pos} (ho : CmpR op oo) (ha : SE S L a f) (hb : SE S L b g) (hs : notSet b = true) : ST S L (.Compare a [op] [b] pos) (etB (evOp oo f g)) := by
  obtain ⟨r, h1, h2⟩ := ho
  intro Γ G k X W so c
  refine PT.weak (pt_cmpR (h1 X c.un) (ha Γ G k X W so c) (hb Γ G k X W so c) (nomark_of hs)) fun σ H Q o => ?_
  rw [c.K]
  exact tB_of (f := evOp oo f g) (fun σ H Q o => tOp_of h2 σ H Q o) σ H Q o
def evChain (o1 o2 : Op2) (f g k : EvE) : EvE := fun G env h => (f G env h).bind fun x h1 => (g G env h1).bind fun y h2 => (o1 x y h2).bind fun z h3 => match z with
  | .bl b => if b = true then (k G env h3).bind fun w h4 => o2 y w h4 else .ok (.bl false) h3
  | _ => .bad
theorem tChain_of {Γ : Cfg} {W : WX} {o1 o2 : Op2} {r1 r2 : PySem.W.Frag → R2} {f g l : EvE} {G : GT} (h1 : OpS o1 r1) (h2 : OpS o2 r2) (σ : L2.St) (H : Hp) (Q : VK) (o : tEv Γ W (evChain o1 o2 f g l G) σ H Q) :
    tChain (r1 Γ.K) (r2 Γ.K) (tEv Γ W (f G)) (tEv Γ W (g G)) (tEv Γ W (l G)) σ H Q := by
  obtain ⟨D, h, env, a, o⟩ := o
  refine ⟨D, h, env, a, (OutOk.bind (R1 := fun D _ => Rep Γ.K D) o).mono fun u H1 ⟨D1, v1, hh1, e1, x1, rr1, q1, o1'⟩ => ?_⟩
  refine ⟨D1, hh1, env, a.next e1 x1 rr1, (OutOk.bind (R1 := fun D _ => Rep Γ.K D) o1').mono fun u2 H2 ⟨D2, v2, hh2, e2, x2, rr2, q2, o2'⟩ => ?_⟩
  have a2 := (a.next e1 x1 rr1).next e2 x2 rr2
  have q := h1 Γ D2 hh2 v1 v2 u u2 (fun z H3 => ∃ k, z = .bl k ∧ (if k = true then tEv Γ W (l G) σ H3 fun w' H4 => r2 Γ.K u2 w' H4 Q else Q (.bl false) H3)) (fun c d H' => W c d σ H') rr2 (Rep.ext x2 _ _ q1) q2
    ((OutOk.bind (R1 := fun D _ => Rep Γ.K D) o2').mono fun z H3 ⟨D3, v3, hh3, e3, x3, rr3, q3, o3⟩ => ?_)
  · rw [e2] at q
    exact q
  · split at o3
    · rename_i b
      cases q3
      cases b with
      | true =>
        refine ⟨true, rfl, ?_⟩
        rw [if_pos rfl]
        refine ⟨D3, hh3, env, a2.next e3 x3 rr3, (OutOk.bind (R1 := fun D _ => Rep Γ.K D) o3).mono fun u4 H4 ⟨D4, v4, hh4, e4, x4, rr4, q4, o4⟩ => ?_⟩
        have q' := h2 Γ D4 hh4 v2 v4 u2 u4 Q _ rr4 (Rep.ext x4 _ _ (Rep.ext x3 _ _ q2)) q4 o4
        rw [e4] at q'
        exact q'
      | false =>
        refine ⟨false, rfl, ?_⟩
        rw [if_neg Bool.false_ne_true]
        have q' := fin (v := .bl false) rr3 rfl o3
        rw [e3] at q'
        exact q'
    · exact o3.elim
def lastOk : List Expr → Bool
  | [_, e] => notSet e
  | _ => false
theorem lastMarks_of {o1 o2 : CmpOp} {b d : Expr} (h : notSet d = true) : lastMarks [o1, o2] [b, d] = false := nomark_of h
theorem se_chain {op1 op2 : CmpOp} {o1 o2 : Op2} {a b d : Expr} {f g l : EvE} {pos : Pos} (ho1 : CmpR op1 o1) (ho2 : CmpR op2 o2) (ha : SE S L a f) (hb : SE S L b g) (hd : SE S L d l) (hs : notSet d = true) :
    SE S L (.Compare a [op1, op2] [b, d] pos) (evChain o1 o2 f g l) := by
  obtain ⟨r1, h1, h2⟩ := ho1
  obtain ⟨r2, h3, h4⟩ := ho2
  intro Γ G k X W so c
  refine PE.weak (pe_chain (h1 X c.un) (h3 X c.un) (ha Γ G k X W so c) (hb Γ G k X W so c) (hd Γ G k X W so c) (lastMarks_of hs)) fun σ H Q o => ?_
  rw [c.K]
  exact tChain_of h2 h4 σ H Q o
theorem st_chain {op1 op2 : CmpOp} {o1 o2 : Op2} {a b d : Expr} {f g l : EvE} {pos : Pos} (ho1 : CmpR op1 o1) (ho2 : CmpR op2 o2) (ha : SE S L a f) (hb : SE S L b g) (hd : SE S L d l) (hs : notSet d = true) :
    ST S L (.Compare a [op1, op2] [b, d] pos) (etB (evChain o1 o2 f g l)) := by
  obtain ⟨r1, h1, h2⟩ := ho1
  obtain ⟨r2, h3, h4⟩ := ho2
  intro Γ G k X W so c
  refine PT.weak (pt_chain (h1 X c.un) (h3 X c.un) (ha Γ G k X W so c) (hb Γ G k X W so c) (hd Γ G k X W so c) (lastMarks_of hs)) fun σ H Q o => ?_
  rw [c.K]
  exact tB_of (f := evChain o1 o2 f g l) (fun σ H Q o => tChain_of h2 h4 σ H Q o) σ H Q o
/-! ### a if t else b -/
def evIf (t : EvT) (f g : EvE) : EvE := fun G env h => (t G env h).bind fun b h1 => if b = true then f G env h1 else g G env h1
theorem se_if {t a b : Expr} {e : EvT} {f g : EvE} {pos : Pos} (ht : ST S L t e) (ha : SE S L a f) (hb : SE S L b g) : SE S L (.IfExp t a b pos) (evIf e f g) := by
  intro Γ G k X W so c
  refine PE.weak (pe_ifExp (ht Γ G k X W so c) (ha Γ G k X W so c) (hb Γ G k X W so c)) fun σ H Q ⟨D, h, env, a, o⟩ => ?_
  refine ⟨D, h, env, a, (OutOk.bind (R1 := fun _ _ (b c : Bool) => b = c) o).mono fun u H' ⟨D1, v1, h1, e1, x1, r1, q1, o1⟩ => ?_⟩
  subst q1
  cases v1 with
  | true => exact ⟨D1, h1, env, a.next e1 x1 r1, o1⟩
  | false => exact ⟨D1, h1, env, a.next e1 x1 r1, o1⟩

/-! ### subscripts -/
def ixOp : Op2 := fun x y h => match y with
  | .int i => match itemsOf h x with
    | some xs => match atI xs i with
      | some v => .ok v h
      | none => .bad
    | none => match x with
      | .str z => if z.length ≤ sizeLine then match atI z.cps.toList i with
        | some c => .ok (.str ⟨#[c]⟩) h
        | none => .bad else .bad
      | _ => .bad
  | _ => .bad
theorem atI_rep {K : PySem.W.Frag} {D : Wd} {xs : List AV} {us : List V} {i : Int} {v : AV} (r : RepL K D xs us) (e : atI xs i = some v) : ∃ u, atI us i = some u ∧ Rep K D v u := by
  unfold atI at e ⊢
  rw [r.length]
  obtain ⟨j, e1, e2⟩ := Option.bind_eq_some_iff.mp e
  obtain ⟨u, e3, q⟩ := RepL.get r e2
  exact ⟨u, by rw [e1]; exact e3, q⟩
theorem so_ix : OpS ixOp rIx := by
  intro Γ D h x y u v Q Wx R rx ry o
  unfold ixOp at o
  split at o
  · rename_i i
    cases ry
    split at o
    · rename_i xs hx
      split at o
      · rename_i w hw
        obtain ⟨a, us, e1, t, q⟩ := itemsOf_sq R rx hx
        subst e1
        obtain ⟨z, e2, q2⟩ := atI_rep q hw
        have q3 := fin R q2 o
        rcases t with t | t
        · exact .inl ⟨a, us, i, z, rfl, rfl, t, e2, q3⟩
        · exact .inr (.inl ⟨a, us, i, z, rfl, rfl, t, e2, q3⟩)
      · exact o.elim
    · split at o
      · cases rx
        split at o
        · rename_i hz
          split at o
          · rename_i c hc
            exact .inr (.inr ⟨_, i, c, rfl, rfl, hz, hc, fin (v := .str _) R rfl o⟩)
          · exact o.elim
        · exact o.elim
      · exact o.elim
  · exact o.elim
theorem se_ix {a b : Expr} {f g : EvE} {pos : Pos} (ha : SE S L a f) (hb : SE S L b g) (hs : notSlice b = true) : SE S L (.Subscript a b pos) (evOp ixOp f g) := by
  intro Γ G k X W so c
  refine PE.weak (pe_ix ix_seq (ha Γ G k X W so c) (hb Γ G k X W so c) (plainIx_of hs)) fun σ H Q o => ?_
  rw [c.K]
  exact tOp_of so_ix σ H Q o
def SO (S : Stat) (L : Lc) (e : Option Expr) (f : GT → Env1 → AH → Out (Option Int)) : Prop := ∀ (Γ : Cfg) (G : GT) (k : Nat) (X : Cx) (W : WX), StatOk Γ S G k → CtxP Γ k L X W →
  PO X e fun σ H Q => ∃ (D : Wd) (h : AH) (env : Env1), At Γ D h env σ H ∧ OutOk Γ D (f G env h) (fun _ _ (b c : Option Int) => b = c) Q fun c d H' => W c d σ H'
theorem PO.weak {X : Cx} {e : Option Expr} {t t' : TO} (h : PO X e t) (q : ∀ σ H Q, t' σ H Q → t σ H Q) : PO X e t' := ⟨fun pins s σ H Q I hw => h.run pins s σ H Q I (q σ H Q hw)⟩
def eoNone : GT → Env1 → AH → Out (Option Int) := fun _ _ h => .ok none h
def eoSome (f : EvE) : GT → Env1 → AH → Out (Option Int) := fun G env h => (f G env h).bind fun x h1 => match x with
  | .int i => .ok (some i) h1
  | _ => .bad
theorem so_none : SO S L none eoNone := by
  intro Γ G k X W so c
  refine PO.weak po_none fun σ H Q ⟨D, h, env, a, o⟩ => ?_
  have q := o D none (Ext.refl D) a.rel rfl
  rw [a.hp] at q
  exact q
theorem so_some {a : Expr} {f : EvE} (ha : SE S L a f) : SO S L (some a) (eoSome f) := by
  intro Γ G k X W so c
  refine PO.weak (po_some (ha Γ G k X W so c)) fun σ H Q ⟨D, h, env, a, o⟩ => ?_
  refine ⟨D, h, env, a, (OutOk.bind (R1 := fun D _ => Rep Γ.K D) o).mono fun u H' ⟨D1, v1, h1, e1, x1, r1, q1, o1⟩ => ?_⟩
  split at o1
  · rename_i i
    cases q1
    have q := o1 D1 (some i) (Ext.refl D1) r1 rfl
    rw [e1] at q
    exact ⟨i, rfl, q⟩
  · exact o1.elim
def cutA (xs : List AV) (lo hi : Option Int) : List AV := (xs.drop (HT.sIx xs.length 0 lo)).take (HT.sIx xs.length xs.length hi - HT.sIx xs.length 0 lo)
theorem cutA_rep {K : PySem.W.Frag} {D : Wd} {xs : List AV} {us : List V} (r : RepL K D xs us) (lo hi : Option Int) : RepL K D (cutA xs lo hi) (cutV us lo hi) := by
  unfold cutA cutV
  rw [r.length]
  exact RepL.take _ (RepL.drop _ r)
def slOp (x : AV) (lo hi : Option Int) (h : AH) : Out AV := match x with
  | .tup xs => .ok (.tup (cutA xs lo hi)) h
  | .str z => if z.length ≤ sizeLine then .ok (.str (cutS z lo hi)) h else .bad
  | x => match lstOf h x with
    | some xs => .ok (.lst (cutA xs lo hi)) h
    | none => .bad
def evSl (f : EvE) (g l : GT → Env1 → AH → Out (Option Int)) : EvE := fun G env h => (f G env h).bind fun x h1 => (g G env h1).bind fun lo h2 => (l G env h2).bind fun hi h3 => slOp x lo hi h3
def rSlAll (K : PySem.W.Frag) : V → Option Int → Option Int → Hp → VK → Prop := fun x lo hi H Q => (rSlL K x lo hi H Q ∨ rSlA K x lo hi H Q) ∨ rSlS x lo hi H Q
theorem cut_all {xs : List AV} {lo hi : Option Int} (h : HT.sIx xs.length 0 lo = 0 ∧ HT.sIx xs.length xs.length hi = xs.length) : cutA xs lo hi = xs := by
  unfold cutA
  rw [h.1, h.2, List.drop_zero, Nat.sub_zero, List.take_length]
theorem sl_of {Γ : Cfg} {D : Wd} {h : AH} {x : AV} {u : V} {lo hi : Option Int} {Q : VK} {Wx : Value → Option Addr → Hp → Prop} (R : Rel Γ.K D h) (r : Rep Γ.K D x u) (o : OutOk Γ D (slOp x lo hi h) (fun D _ => Rep Γ.K D) Q Wx) : rSlAll Γ.K u lo hi D.H Q := by
  unfold slOp at o
  split at o
  · rename_i xs
    obtain ⟨a, us, e1, t, q⟩ := id r
    subst e1
    refine .inl (.inr ⟨a, us, rfl, t.sq, fun hw => ?_, fun _ => fin_tup R (cutA_rep q lo hi) o⟩)
    rw [q.length] at hw
    rw [cut_all hw] at o
    exact fin (v := .tup xs) R r o
  · rename_i z
    cases r
    split at o
    · rename_i hz
      exact .inr ⟨z, rfl, hz, fin (v := .str _) R rfl o⟩
    · exact o.elim
  · split at o
    · rename_i ys hy
      obtain ⟨a, us, e1, t, q⟩ := lstOf_sq R r hy
      subst e1
      exact .inl (.inl ⟨a, us, rfl, t, fin_lst R (cutA_rep q lo hi) o⟩)
    · exact o.elim
theorem se_sl {a : Expr} {lo hi : Option Expr} {f : EvE} {g l : GT → Env1 → AH → Out (Option Int)} {p2 pos : Pos} (ha : SE S L a f) (hl : SO S L lo g) (hh : SO S L hi l) : SE S L (.Subscript a (.Slice lo hi none p2) pos) (evSl f g l) := by
  intro Γ G k X W so c
  refine PE.weak (pe_slice (SlR.or (SlR.or sl_list sl_tupA) sl_str) (ha Γ G k X W so c) (hl Γ G k X W so c) (hh Γ G k X W so c)) fun σ H Q ⟨D, h, env, a, o⟩ => ?_
  refine ⟨D, h, env, a, (OutOk.bind (R1 := fun D _ => Rep Γ.K D) o).mono fun u H' ⟨D1, v1, h1, e1, x1, r1, q1, o1⟩ => ?_⟩
  refine ⟨D1, h1, env, a.next e1 x1 r1, (OutOk.bind (R1 := fun _ _ (b c : Option Int) => b = c) o1).mono fun lo2 H2 ⟨D2, v2, h2, e2, x2, r2, q2, o2⟩ => ?_⟩
  refine ⟨D2, h2, env, (a.next e1 x1 r1).next e2 x2 r2, (OutOk.bind (R1 := fun _ _ (b c : Option Int) => b = c) o2).mono fun hi2 H3 ⟨D3, v3, h3, e3, x3, r3, q3, o3⟩ => ?_⟩
  subst q2; subst q3
  have q := sl_of r3 (Rep.ext x3 _ _ (Rep.ext x2 _ _ q1)) o3
  rw [e3, ← c.K] at q
  exact q

/-! ### isinstance -/
inductive Ty where
  | non | bl | int | str | tup | lst | dct
  deriving DecidableEq
def Ty.nm : Ty → String
  | .non => "NoneType" | .bl => "bool" | .int => "int" | .str => "str" | .tup => "tuple" | .lst => "list" | .dct => "dict"
def tyOf (h : AH) : AV → Option Ty
  | .non => some .non
  | .bl _ => some .bl
  | .int _ => some .int
  | .str _ => some .str
  | .tup _ => some .tup
  | .lst _ => some .lst
  | .kl _ => some .lst
  | .dct _ _ => some .dct
  | .ref n => match h[n]? with
    | some (.lst _) => some .lst
    | some (.dct _ _) => some .dct
    | some (.ob _ _) => none
    | some (.mat _ _) => some .lst
    | none => none
  | .ob _ _ => none
  | .xn _ _ => none
  | .fn _ => none
def isTy (t T : Ty) : Bool := decide (t = T) || (decide (t = .bl) && decide (T = .int))
theorem isTy_ok (t T : Ty) (h : T ≠ .non) : kitB t.nm T.nm = some (isTy t T) := by
  cases t <;> cases T <;> first | exact absurd rfl h | decide +kernel
theorem tyOf_x {Γ : Cfg} {D : Wd} {h : AH} (R : Rel Γ.K D h) {x : AV} {u : V} {t : Ty} (r : Rep Γ.K D x u) (e : tyOf h x = some t) : TyX Γ.K D.H u (.type t.nm) := by
  cases x with
  | non => cases r; cases e; exact .base .non
  | fn i => cases e
  | bl b => cases r; cases e; exact .base (.bl b)
  | int i => cases r; cases e; exact .base (.int i)
  | str x => cases r; cases e; exact .base (.str x)
  | tup xs =>
    cases e
    obtain ⟨a, us, e1, t, q⟩ := r
    subst e1
    rcases t with ⟨_, t⟩ | ⟨o, its, n, t, c, _⟩
    · exact .base (.tup t)
    · exact .kTuple t c
  | lst xs =>
    cases e
    obtain ⟨a, us, e1, ⟨_, t⟩, q⟩ := r
    subst e1
    exact .base (.lst t)
  | kl xs =>
    cases e
    obtain ⟨a, us, e1, t, q⟩ := r
    subst e1
    rcases t with ⟨_, o, t⟩ | ⟨o, its, n, t, c, _⟩
    · exact .base (.frz t)
    · exact .kList t c
  | dct ks xs =>
    cases e
    obtain ⟨a, us, e1, ⟨_, t⟩, q⟩ := r
    subst e1
    exact .base (.dK t)
  | ob c ys => cases e
  | xn f y => cases e
  | ref n =>
    simp only [tyOf] at e
    split at e
    · rename_i xs hc
      cases e
      obtain ⟨a, e1, _, us, t, q⟩ := ref_lst R r hc
      subst e1
      exact .base (.lst t)
    · rename_i ks xs hc
      cases e
      obtain ⟨a, e1, _, us, t, q⟩ := ref_lst R r hc
      subst e1
      exact .base (.dK t)
    · cases e
    · rename_i lo r' hc
      cases e
      obtain ⟨a, e1, _, us, t, q⟩ := ref_lst R r hc
      subst e1
      exact .base (.lst t)
    · cases e
def isiOp (T : Ty) : AV → AH → Out AV := fun x h => match tyOf h x with
  | some t => .ok (.bl (isTy t T)) h
  | none => .bad
theorem se_isi {e : Expr} {f : EvE} {T : Ty} {y x : Str} {p p1 pos : Pos} (hT : T ≠ .non) (hy : bootBuiltins y = some (.type T.nm)) (hi : bootBuiltins x = some (.builtin "isinstance")) (hxf : x ∈ S.free) (hyf : y ∈ S.free) (hg : glB L.sc x = true) (hgy : glB L.sc y = true) (hn : okName x = true) (hny : okName y = true)
    (ha : SE S L e f) (hst : notStar e = true) : SE S L (.Call (.Name x p) [e, .Name y p1] [] pos) (evOf1 (isiOp T) f) := by
  intro Γ G k X W so c
  have hs2 : [Expr.Name y p1].all notStar = true := rfl
  have py : PE X (.Name y p1) (tC (.ty T.nm)) := pe_bltn (gl_of c hgy) (by rw [c.mg]; exact so.free y hyf) hy (show RelV (.ty T.nm) (.type T.nm) from rfl) (okName3 hny) (okName1 hny)
  refine PE.weak (pe_callB (call_isi (X := X)) (gl_of c hg) (by rw [c.mg]; exact so.free x hxf) hi (pa_cons (ha Γ G k X W so c) (pa_cons py pa_nil (starEach_cons rfl)) (starEach_cons hst)) (okName3 hn) (okName1 hn) (starEach_cons hst) (starEach_plain hs2)) fun σ H Q ⟨D, h, env, a, o⟩ => ?_
  refine ⟨D, h, env, a, (OutOk.bind (R1 := fun D _ => Rep Γ.K D) o).mono fun u H' ⟨D1, v1, h1, e1, x1, r1, q1, o1⟩ => ?_⟩
  unfold isiOp at o1
  split at o1
  · rename_i t ht
    have q := fin (v := .bl _) r1 rfl o1
    have tx := tyOf_x r1 q1 ht
    rw [e1] at q tx
    rw [← c.K] at tx
    exact ⟨u, .ty T.nm, _, _, _, rfl, .ty _, tx, kit_ty (isTy_ok t T hT), q⟩
  · exact o1.elim

/-! ### repr -/
def reprOp : List AV → AH → Out AV := fun xs h => match xs with
  | [x] => match toPy1 h x with
    | some d => if PyData.showable d = true ∧ PyData.hasDict d = false ∧ d.depth ≤ 64 ∧ (PyData.shown d).length ≤ sizeLine then .ok (.str (PyData.shown d)) h else .bad
    | none => .bad
  | _ => .bad
def rRepr (K : PySem.W.Frag) : List V → Hp → VK → Prop := fun us H Q => ∃ (v : V) (d : PyData), us = [v] ∧ Dp K H v d ∧ PyData.showable d = true ∧ PyData.hasDict d = false ∧ d.depth ≤ 64 ∧ (PyData.shown d).length ≤ sizeLine ∧ Q (.str (PyData.shown d)) H
theorem call_reprA {X : Cx} (hu : X.A.units + 200 < cLine) (hg : X.A.guards = some []) : CallR X (.builtin "repr") (rRepr X.K) := by
  intro pins s σ H xs us Q I r h
  obtain ⟨v, d, e, dp, h1, h2, h3, h4, q⟩ := h
  subst e
  obtain ⟨u, e, ru⟩ := vals1 r
  subst e
  cases dp with
  | non => cases ru; exact P.repr_of_none ⟨.str _, H, I.tok _, ⟨_, rfl⟩, q⟩
  | bl b => cases ru; exact P.repr_of_bool ⟨.str _, H, I.tok _, ⟨_, by cases b <;> rfl⟩, q⟩
  | int i => obtain ⟨t, rfl⟩ := ru; exact P.repr_of_int (of_decide_eq_true h1) ⟨.str _, H, I.tok _, ⟨_, rfl⟩, q⟩
  | str x => obtain ⟨t, rfl⟩ := ru; exact P.repr_of_str ⟨.str _, H, I.tok _, ⟨_, rfl⟩, q⟩ h4
  | lst hs ha =>
    obtain ⟨as, rd⟩ := Dp.reads I _ _ _ (Dp.lst hs ha) ru
    cases ru
    exact repr_of_reads' rd h1 (fun z => by rw [h2] at z; cases z) hg (by omega) (fun _ _ e => e) (fun h' u tk k => ⟨.str _, H, I.kept k, ⟨u, rfl⟩, q⟩) h4
  | tup hs ha =>
    obtain ⟨as, rd⟩ := Dp.reads I _ _ _ (Dp.tup hs ha) ru
    cases ru
    exact repr_of_reads' rd h1 (fun z => by rw [h2] at z; cases z) hg (by omega) (fun _ _ e => e) (fun h' u tk k => ⟨.str _, H, I.kept k, ⟨u, rfl⟩, q⟩) h4
theorem on_repr : OpN reprOp rRepr := by
  intro Γ D h xs us Q Wx R r o
  unfold reprOp at o
  split at o
  · rename_i x
    split at o
    · rename_i d hd
      split at o
      · rename_i hs
        obtain ⟨u, e, ru⟩ := r.one
        subst e
        exact ⟨u, d, rfl, toPy1_dp R x u d ru hd, hs.1, hs.2.1, hs.2.2.1, hs.2.2.2, fin (v := .str _) R rfl o⟩
      · exact o.elim
    · exact o.elim
  · exact o.elim
end
end Pv
end
section
set_option Elab.async false
set_option linter.all false
set_option maxRecDepth 100000
set_option autoImplicit false
namespace Pv
open PySem PySem.Spec PyProof.Rows L2

/-! ### what is walked -/
inductive Src where
  | snap (xs : List AV)
  | rng (lo : Int) (n : Nat)
  | live (n : Nat)
  | rlive (n : Nat) (len : Nat)
def srcAt (src : Src) (h : AH) (i : Nat) : Option (Option AV) := match src with
  | .snap xs => some xs[i]?
  | .rng lo n => some (if i < n then some (.int (lo + i)) else none)
  | .live n => match h[n]? with
    | some (.lst xs) => some xs[i]?
    | some (.mat lo r) => some (matI lo r)[i]?
    | _ => none
  | .rlive n len => match h[n]? with
    | some (.lst xs) => if xs.length = len then some xs.reverse[i]? else none
    | _ => none
def srcLen (src : Src) (h : AH) : Nat := match src with
  | .snap xs => xs.length
  | .rng _ n => n
  | .live n => match h[n]? with
    | some (.lst xs) => xs.length
    | some (.mat _ r) => r
    | _ => 0
  | .rlive _ len => len
abbrev EvI := GT → Env1 → AH → Out Src
def ItS (Γ : Cfg) (D : Wd) (src : Src) (J : It) : Prop := ∀ (D' : Wd) (h' : AH) (i : Nat), Ext D D' → Rel Γ.K D' h' → match srcAt src h' i with
  | none => True
  | some none => J.stop i D'.H
  | some (some v) => J.go i D'.H ∧ ∀ x H', J.yld i D'.H x H' → ∃ D'' : Wd, D''.H = H' ∧ Ext D' D'' ∧ Rel Γ.K D'' h' ∧ Rep Γ.K D'' v x
theorem ItS.ext {Γ : Cfg} {D D' : Wd} {src : Src} {J : It} (h : ItS Γ D src J) (x : Ext D D') : ItS Γ D' src J := fun D2 h2 i x2 r => h D2 h2 i (x.trans x2) r
def tIv (Γ : Cfg) (W : WX) (f : Env1 → AH → Out Src) : TI := fun σ H R => ∃ (D : Wd) (h : AH) (env : Env1), At Γ D h env σ H ∧ OutOk Γ D (f env h) (fun D _ src J => ItS Γ D src J) R fun c d H' => W c d σ H'
theorem PI.weak {X : Cx} {tg e : Expr} {t t' : TI} (h : PI X tg e t) (q : ∀ σ H R, t' σ H R → t σ H R) : PI X tg e t' := ⟨fun pins s σ H R I hw => h.run pins s σ H R I (q σ H R hw)⟩
def SI (S : Stat) (L : Lc) (tg e : Expr) (f : EvI) : Prop := ∀ (Γ : Cfg) (G : GT) (k : Nat) (X : Cx) (W : WX), StatOk Γ S G k → CtxP Γ k L X W → PI X tg e (tIv Γ W (f G))
theorem its_list {Γ : Cfg} {D : Wd} {h : AH} {x : AV} {u : V} {xs : List AV} (R : Rel Γ.K D h) (r : Rep Γ.K D x u) (e : lstOf h x = some xs) (hn : ∀ n, x ≠ .ref n) : ∃ a, u = .ref a ∧ (∃ us, SqL Γ.K D.H a us) ∧ ItS Γ D (.snap xs) (Itl Γ.K a) := by
  have same : ∀ (D' : Wd), Ext D D' → ∃ us, (∀ a, u = .ref a → SqL Γ.K D'.H a us) ∧ RepL Γ.K D' xs us := fun D' x' => by
    have r' := Rep.ext x' _ _ r
    cases x with
    | lst ys => cases e; obtain ⟨a, us, e1, ⟨_, t⟩, q⟩ := r'; exact ⟨us, fun b eb => by rw [e1] at eb; cases eb; exact SqL.of t, q⟩
    | kl ys => cases e; obtain ⟨a, us, e1, t, q⟩ := r'; exact ⟨us, fun b eb => by rw [e1] at eb; cases eb; exact t.sq, q⟩
    | ref n => exact absurd rfl (hn n)
    | _ => cases e
  obtain ⟨a, us, e1, t, q⟩ := lstOf_sq R r e
  subst e1
  refine ⟨a, rfl, ⟨us, t⟩, fun D' h' i x' R' => ?_⟩
  obtain ⟨us', t', q'⟩ := same D' x'
  have t' := t' a rfl
  show match some xs[i]? with | none => _ | some none => _ | some (some v) => _
  cases hv : xs[i]? with
  | none =>
    refine ⟨us', t', ?_⟩
    rw [q'.length]
    exact List.getElem?_eq_none_iff.mp hv
  | some v =>
    obtain ⟨y, ey, ry⟩ := RepL.get q' hv
    refine ⟨⟨us', y, t', ey⟩, fun z H' ⟨eH, hz⟩ => ⟨D', eH.symm, Ext.refl _, R', ?_⟩⟩
    have e3 := (hz us' t').symm.trans ey
    rw [Option.some.inj e3]
    exact ry
theorem its_liveA {Γ : Cfg} {D : Wd} {n : Nat} {a : Addr} (e2 : D.m[n]? = some a) : ItS Γ D (.live n) (Itl Γ.K a) := by
  intro D' h' i x' R'
  have go : ∀ (ys : List AV) (us' : List V), D'.H a = some (.lst us') → RepL Γ.K D' ys us' → match some ys[i]? with
      | none => True
      | some none => (Itl Γ.K a).stop i D'.H
      | some (some v) => (Itl Γ.K a).go i D'.H ∧ ∀ x H', (Itl Γ.K a).yld i D'.H x H' → ∃ D'' : Wd, D''.H = H' ∧ Ext D' D'' ∧ Rel Γ.K D'' h' ∧ Rep Γ.K D'' v x := fun ys us' t' q' => by
    have t' : SqL Γ.K D'.H a us' := SqL.of t'
    cases hs' : ys[i]? with
    | none =>
      refine ⟨us', t', ?_⟩
      rw [q'.length]
      exact List.getElem?_eq_none_iff.mp hs'
    | some v =>
      obtain ⟨y, ey, ry⟩ := RepL.get q' hs'
      refine ⟨⟨us', y, t', ey⟩, fun z H' ⟨eH, hz⟩ => ⟨D', eH.symm, Ext.refl _, R', ?_⟩⟩
      have e3 := (hz us' t').symm.trans ey
      rw [Option.some.inj e3]
      exact ry
  unfold srcAt
  simp only
  cases hc : h'[n]? with
  | none => exact True.intro
  | some c =>
    cases c with
    | dct ks ys => exact True.intro
    | ob k ys => exact True.intro
    | lst ys =>
      obtain ⟨us', t', q'⟩ := R'.cell n _ a hc (x'.get e2)
      exact go ys us' t' q'
    | mat lo r =>
      obtain ⟨us', t', q'⟩ := mat_rep (R'.cell n _ a hc (x'.get e2))
      exact go _ us' t' q'
theorem its_live {Γ : Cfg} {D : Wd} {h : AH} {n : Nat} {u : V} {xs : List AV} (R : Rel Γ.K D h) (r : Rep Γ.K D (.ref n) u) (e : h[n]? = some (.lst xs)) : ∃ a, u = .ref a ∧ (∃ us, SqL Γ.K D.H a us) ∧ ItS Γ D (.live n) (Itl Γ.K a) := by
  obtain ⟨a, e1, e2, us, t, q⟩ := ref_lst R r e
  exact ⟨a, e1, ⟨us, SqL.of t⟩, its_liveA e2⟩
theorem its_liveM {Γ : Cfg} {D : Wd} {h : AH} {n lo k : Nat} {u : V} (R : Rel Γ.K D h) (r : Rep Γ.K D (.ref n) u) (e : h[n]? = some (.mat lo k)) : ∃ a, u = .ref a ∧ (∃ us, SqL Γ.K D.H a us) ∧ ItS Γ D (.live n) (Itl Γ.K a) := by
  obtain ⟨a, e1, e2, us, t, q⟩ := ref_lst R r e
  exact ⟨a, e1, ⟨us, SqL.of t⟩, its_liveA e2⟩
theorem its_tup {Γ : Cfg} {D : Wd} {h : AH} {u : V} {xs : List AV} (R : Rel Γ.K D h) (r : Rep Γ.K D (.tup xs) u) : ∃ a, u = .ref a ∧ (∃ us, SqT Γ.K D.H a us) ∧ ItS Γ D (.snap xs) (Itt Γ.K a) := by
  obtain ⟨a, us, e1, t, q⟩ := id r
  subst e1
  refine ⟨a, rfl, ⟨us, t.sq⟩, fun D' h' i x' R' => ?_⟩
  obtain ⟨a', us', e1', t', q'⟩ := Rep.ext x' _ _ r
  cases e1'
  have t' := t'.sq
  show match some xs[i]? with | none => _ | some none => _ | some (some v) => _
  cases hv : xs[i]? with
  | none =>
    refine ⟨us', t', ?_⟩
    rw [q'.length]
    exact List.getElem?_eq_none_iff.mp hv
  | some v =>
    obtain ⟨y, ey, ry⟩ := RepL.get q' hv
    refine ⟨⟨us', y, t', ey⟩, fun z H' ⟨eH, hz⟩ => ⟨D', eH.symm, Ext.refl _, R', ?_⟩⟩
    have e3 := (hz us' t').symm.trans ey
    rw [Option.some.inj e3]
    exact ry
/-- a list or a tuple, walked -/
def iSeq (K : PySem.W.Frag) (tl : TE) : TI := fun σ H R => tl σ H fun x H1 => ∃ a, x = .ref a ∧ (((∃ xs, SqL K H1 a xs) ∧ R (Itl K a) H1) ∨ ((∃ xs, SqT K H1 a xs) ∧ R (Itt K a) H1))
theorem pi_seq {X : Cx} {tg l : Expr} {tl : TE} (hl : PE X l tl) : PI X tg l (iSeq X.K tl) := by
  refine ⟨fun pins s σ H R I hw => thn (hl.run pins s σ H _ I hw) fun v s1 ⟨x, H1, I1, rx, a, e, q⟩ => ?_⟩
  subst e
  have ev : v = Value.ref a := rx
  subst ev
  have one : ∀ b ∈ [s1.heap.objs.size], FpOk X pins H1 b := fun b hb => by
    cases List.mem_singleton.mp hb
    exact I1.fpOk (Nat.le_refl _) (I1.hok.fresh (Nat.le_refl _))
  have more : ∀ o : Obj, Inv X pins σ H1 { s1 with heap := s1.heap.push o } := fun o => I1.kept (t' := s1.toks) fun b o' e => Heap.get?_push_of_some _ e
  rcases q with ⟨⟨xs, hq⟩, q⟩ | ⟨⟨xs, hq⟩, q⟩
  · obtain ⟨its, rv, p, -⟩ := I1.list hq
    exact wpAny_pyIter_list p.isList ⟨_, _, _, _, H1, rfl, more _, turn_list a s1.heap.objs.size, ⟨_, Heap.get?_push_size _ rfl, rfl, rfl⟩, one, q⟩
  · obtain ⟨its, rv, p, -⟩ := I1.tuple hq
    exact wpAny_pyIter_tuple (items := its.toArray) p ⟨_, _, _, _, H1, rfl, more _, turn_tuple a s1.heap.objs.size, ⟨_, Heap.get?_push_size _ rfl, rfl, rfl⟩, one, q⟩
section
variable {S : Stat} {L : Lc}
def srcOf (x : AV) (h : AH) : Out Src := match x with
  | .tup xs => .ok (.snap xs) h
  | .lst xs => .ok (.snap xs) h
  | .kl xs => .ok (.snap xs) h
  | .ref n => match h[n]? with
    | some (.lst _) => .ok (.live n) h
    | some (.mat _ _) => .ok (.live n) h
    | _ => .bad
  | _ => .bad
def eiSeq (f : EvE) : EvI := fun G env h => (f G env h).bind srcOf
theorem si_seq {tg e : Expr} {f : EvE} (ha : SE S L e f) : SI S L tg e (eiSeq f) := by
  intro Γ G k X W so c
  refine PI.weak (pi_seq (ha Γ G k X W so c)) fun σ H R ⟨D, h, env, a, o⟩ => ?_
  refine ⟨D, h, env, a, (OutOk.bind (R1 := fun D _ => Rep Γ.K D) o).mono fun u H' ⟨D1, v1, h1, e1, x1, r1, q1, o1⟩ => ?_⟩
  rw [c.K]
  unfold srcOf at o1
  split at o1
  · obtain ⟨b, e2, s2, i2⟩ := its_tup r1 q1
    subst e2
    have q := o1 D1 (Itt Γ.K b) (Ext.refl D1) r1 i2
    rw [e1] at q s2
    exact ⟨b, rfl, .inr ⟨s2, q⟩⟩
  · obtain ⟨b, e2, s2, i2⟩ := its_list r1 q1 rfl (fun _ => by simp)
    subst e2
    have q := o1 D1 (Itl Γ.K b) (Ext.refl D1) r1 i2
    rw [e1] at q s2
    exact ⟨b, rfl, .inl ⟨s2, q⟩⟩
  · obtain ⟨b, e2, s2, i2⟩ := its_list r1 q1 rfl (fun _ => by simp)
    subst e2
    have q := o1 D1 (Itl Γ.K b) (Ext.refl D1) r1 i2
    rw [e1] at q s2
    exact ⟨b, rfl, .inl ⟨s2, q⟩⟩
  · split at o1
    · rename_i hc
      obtain ⟨b, e2, s2, i2⟩ := its_live r1 q1 hc
      subst e2
      have q := o1 D1 (Itl Γ.K b) (Ext.refl D1) r1 i2
      rw [e1] at q s2
      exact ⟨b, rfl, .inl ⟨s2, q⟩⟩
    · rename_i hc
      obtain ⟨b, e2, s2, i2⟩ := its_liveM r1 q1 hc
      subst e2
      have q := o1 D1 (Itl Γ.K b) (Ext.refl D1) r1 i2
      rw [e1] at q s2
      exact ⟨b, rfl, .inl ⟨s2, q⟩⟩
    · exact o1.elim
  · exact o1.elim
/-! range -/
theorem its_rng {Γ : Cfg} {D : Wd} {lo : Int} {n : Nat} : ItS Γ D (.rng lo n) (Itr lo n) := by
  intro D' h' i x' R'
  show match some (if i < n then some (AV.int (lo + i)) else none) with | none => _ | some none => _ | some (some v) => _
  by_cases hi : i < n
  · rw [if_pos hi]
    exact ⟨hi, fun x H' ⟨eH, ex⟩ => ⟨D', eH.symm, Ext.refl _, R', ex⟩⟩
  · rw [if_neg hi]
    exact Nat.le_of_not_lt hi
def opRng1 : List AV → AH → Out Src := fun xs h => match xs with
  | [.int j] => if -(2 ^ 62) ≤ j ∧ j < 2 ^ 62 then .ok (.rng 0 j.toNat) h else .bad
  | _ => .bad
def opRng2 : List AV → AH → Out Src := fun xs h => match xs with
  | [.int i, .int j] => if -(2 ^ 62) ≤ i ∧ i < 2 ^ 62 ∧ -(2 ^ 62) ≤ j ∧ j < 2 ^ 62 then .ok (.rng i (j - i).toNat) h else .bad
  | _ => .bad
def eiOf (p : List AV → AH → Out Src) (f : EvA) : EvI := fun G env h => (f G env h).bind p
def sRange : Str := "range"
theorem si_rng1 {x : Str} {tg a : Expr} {f : EvA} {p pos : Pos} (hxr : x = sRange) (hx : x ∈ S.free) (hg : glB L.sc x = true) (ha : SA S L [a] f) (hs : notStar a = true) : SI S L tg (.Call (.Name x p) [a] [] pos) (eiOf opRng1 f) := by
  subst hxr
  intro Γ G k X W so c
  refine PI.weak (pi_range1 (gl_of c hg) (by rw [c.mg]; exact so.free _ hx) (ha Γ G k X W so c) (starEach_cons hs)) fun σ H R ⟨D, h, env, a, o⟩ => ?_
  refine ⟨D, h, env, a, (OutOk.bind (R1 := fun D _ => RepL Γ.K D) o).mono fun u H' ⟨D1, v1, h1, e1, x1, r1, q1, o1⟩ => ?_⟩
  unfold opRng1 at o1
  split at o1
  · split at o1
    · rename_i j hj
      obtain ⟨u', e, ru⟩ := q1.one
      subst e
      cases ru
      have q := o1 D1 (Itr 0 j.toNat) (Ext.refl D1) r1 its_rng
      rw [e1] at q
      exact ⟨j, rfl, hj.1, hj.2, q⟩
    · exact o1.elim
  · exact o1.elim
theorem si_rng2 {x : Str} {tg a b : Expr} {f : EvA} {p pos : Pos} (hxr : x = sRange) (hx : x ∈ S.free) (hg : glB L.sc x = true) (ha : SA S L [a, b] f) (hs : notStar a = true) (hs2 : notStar b = true) : SI S L tg (.Call (.Name x p) [a, b] [] pos) (eiOf opRng2 f) := by
  subst hxr
  intro Γ G k X W so c
  refine PI.weak (pi_range2 (gl_of c hg) (by rw [c.mg]; exact so.free _ hx) (ha Γ G k X W so c) (by rw [starEach_cons hs, starEach_cons hs2]; rfl) (starEach_cons hs2)) fun σ H R ⟨D, h, env, a, o⟩ => ?_
  refine ⟨D, h, env, a, (OutOk.bind (R1 := fun D _ => RepL Γ.K D) o).mono fun u H' ⟨D1, v1, h1, e1, x1, r1, q1, o1⟩ => ?_⟩
  unfold opRng2 at o1
  split at o1
  · split at o1
    · rename_i i j hj
      obtain ⟨u', v', e, ru, rv⟩ := q1.two
      subst e
      cases ru; cases rv
      have q := o1 D1 (Itr i (j - i).toNat) (Ext.refl D1) r1 its_rng
      rw [e1] at q
      exact ⟨i, j, rfl, hj, q⟩
    · exact o1.elim
  · exact o1.elim
/-! reversed, enumerate, zip -/
def sRev : Str := "reversed"
def sEnum : Str := "enumerate"
def sZip : Str := "zip"
theorem its_rev {Γ : Cfg} {D : Wd} {h : AH} {x : AV} {u : V} {xs : List AV} (R : Rel Γ.K D h) (r : Rep Γ.K D x u) (e : itemsOf [] x = some xs) : ∃ a us J, u = .ref a ∧ ((SqL Γ.K D.H a us ∧ J = Itv Γ.K a us.length) ∨ (SqT Γ.K D.H a us ∧ J = RT.ItvT Γ.K a us.length)) ∧ ItS Γ D (.snap xs.reverse) J := by
  have fin : ∀ {us : List V} {D' : Wd} {i : Nat} {v : AV}, RepL Γ.K D' xs us → xs.reverse[i]? = some v → i < us.length ∧ ∃ y, us[us.length - 1 - i]? = some y ∧ Rep Γ.K D' v y := fun {us D' i v} q hv => by
    have hi : i < xs.length := by
      have := (List.getElem?_eq_some_iff.mp hv).1
      simpa using this
    rw [List.getElem?_reverse hi] at hv
    obtain ⟨y, ey, ry⟩ := RepL.get q hv
    rw [← q.length] at ey hi
    exact ⟨hi, y, ey, ry⟩
  cases x with
  | tup ys =>
    cases e
    obtain ⟨a, us, e1, t, q⟩ := id r
    subst e1
    refine ⟨a, us, _, rfl, .inr ⟨t.sq, rfl⟩, fun D' h' i x' R' => ?_⟩
    obtain ⟨a', us', e1', t', q'⟩ := Rep.ext x' _ _ r
    cases e1'
    have t' := t'.sq
    have el : us'.length = us.length := by rw [q.length, q'.length]
    show match some xs.reverse[i]? with | none => _ | some none => _ | some (some v) => _
    cases hv : xs.reverse[i]? with
    | none =>
      show us.length ≤ i
      rw [q.length]
      simpa using List.getElem?_eq_none_iff.mp hv
    | some v =>
      obtain ⟨hi, y, ey, ry⟩ := fin q' hv
      rw [el] at hi ey
      refine ⟨⟨hi, us', y, t', ey⟩, fun z H' ⟨eH, hz⟩ => ⟨D', eH.symm, Ext.refl _, R', ?_⟩⟩
      rw [Option.some.inj ((hz us' t').symm.trans ey)]
      exact ry
  | lst ys =>
    cases e
    obtain ⟨a, us, e1, ⟨_, t⟩, q⟩ := id r
    subst e1
    refine ⟨a, us, _, rfl, .inl ⟨SqL.of t, rfl⟩, fun D' h' i x' R' => ?_⟩
    obtain ⟨a', us', e1', ⟨_, t'⟩, q'⟩ := Rep.ext x' _ _ r
    cases e1'
    have t' : SqL Γ.K D'.H a us' := SqL.of t'
    have el : us'.length = us.length := by rw [q.length, q'.length]
    show match some xs.reverse[i]? with | none => _ | some none => _ | some (some v) => _
    cases hv : xs.reverse[i]? with
    | none =>
      show us.length ≤ i
      rw [q.length]
      simpa using List.getElem?_eq_none_iff.mp hv
    | some v =>
      obtain ⟨hi, y, ey, ry⟩ := fin q' hv
      rw [el] at hi ey
      refine ⟨⟨hi, us', y, t', ey⟩, fun z H' ⟨eH, hz⟩ => ⟨D', eH.symm, Ext.refl _, R', ?_⟩⟩
      rw [Option.some.inj ((hz us' t').symm.trans ey)]
      exact ry
  | kl ys =>
    cases e
    obtain ⟨a, us, e1, t, q⟩ := id r
    subst e1
    refine ⟨a, us, _, rfl, .inl ⟨t.sq, rfl⟩, fun D' h' i x' R' => ?_⟩
    obtain ⟨a', us', e1', t', q'⟩ := Rep.ext x' _ _ r
    cases e1'
    have t' := t'.sq
    have el : us'.length = us.length := by rw [q.length, q'.length]
    show match some xs.reverse[i]? with | none => _ | some none => _ | some (some v) => _
    cases hv : xs.reverse[i]? with
    | none =>
      show us.length ≤ i
      rw [q.length]
      simpa using List.getElem?_eq_none_iff.mp hv
    | some v =>
      obtain ⟨hi, y, ey, ry⟩ := fin q' hv
      rw [el] at hi ey
      refine ⟨⟨hi, us', y, t', ey⟩, fun z H' ⟨eH, hz⟩ => ⟨D', eH.symm, Ext.refl _, R', ?_⟩⟩
      rw [Option.some.inj ((hz us' t').symm.trans ey)]
      exact ry
  | ref n => cases e
  | _ => cases e

/-- a cell, from behind; nothing is told where its length has changed -/
theorem its_revC {Γ : Cfg} {D : Wd} {h : AH} {n : Nat} {u : V} {xs : List AV} (R : Rel Γ.K D h) (r : Rep Γ.K D (.ref n) u) (hc : h[n]? = some (.lst xs)) : ∃ a us, u = .ref a ∧ SqL Γ.K D.H a us ∧ ItS Γ D (.rlive n xs.length) (Itv Γ.K a us.length) := by
  obtain ⟨a, e1, e2, us, t, q⟩ := ref_lst R r hc
  subst e1
  refine ⟨a, us, rfl, SqL.of t, fun D' h' i x' R' => ?_⟩
  unfold srcAt
  simp only
  cases hc' : h'[n]? with
  | none => exact True.intro
  | some c =>
    cases c with
    | dct ks ys => exact True.intro
    | ob k ys => exact True.intro
    | mat lo r => exact True.intro
    | lst ys =>
      simp only
      by_cases hl : ys.length = xs.length
      · rw [if_pos hl]
        obtain ⟨us', t', q'⟩ := R'.cell n _ a hc' (x'.get e2)
        have t' : SqL Γ.K D'.H a us' := SqL.of t'
        have el : us'.length = us.length := by rw [q.length, q'.length, hl]
        cases hv : ys.reverse[i]? with
        | none =>
          show us.length ≤ i
          have := List.getElem?_eq_none_iff.mp hv
          rw [q.length, ← hl]
          simpa using this
        | some v =>
          have hi : i < ys.length := by
            have := (List.getElem?_eq_some_iff.mp hv).1
            simpa using this
          rw [List.getElem?_reverse hi] at hv
          obtain ⟨y, ey, ry⟩ := RepL.get q' hv
          rw [← q'.length] at ey hi
          rw [el] at hi ey
          refine ⟨⟨hi, us', y, t', ey⟩, fun z H' ⟨eH, hz⟩ => ⟨D', eH.symm, Ext.refl _, R', ?_⟩⟩
          rw [Option.some.inj ((hz us' t').symm.trans ey)]
          exact ry
      · rw [if_neg hl]; exact True.intro
def frozenItems (h : AH) (x : AV) : Option (List AV) := itemsOf [] x
def revOp (x : AV) (h : AH) : Out Src := match x with
  | .ref n => match h[n]? with
    | some (.lst xs) => .ok (.rlive n xs.length) h
    | _ => .bad
  | x => match itemsOf [] x with
    | some xs => .ok (.snap xs.reverse) h
    | none => .bad
def eiRev (f : EvE) : EvI := fun G env h => (f G env h).bind revOp
theorem si_rev {x : Str} {tg e : Expr} {f : EvE} {p pos : Pos} (hxr : x = sRev) (hx : x ∈ S.free) (hg : glB L.sc x = true) (ha : SE S L e f) (hs : notStar e = true) : SI S L tg (.Call (.Name x p) [e] [] pos) (eiRev f) := by
  subst hxr
  intro Γ G k X W so c
  refine PI.weak (RT.pi_revA (gl_of c hg) (by rw [c.mg]; exact so.free _ hx) (ha Γ G k X W so c) (starEach_cons hs)) fun σ H R ⟨D, h, env, a, o⟩ => ?_
  refine ⟨D, h, env, a, (OutOk.bind (R1 := fun D _ => Rep Γ.K D) o).mono fun u H' ⟨D1, v1, h1, e1, x1, r1, q1, o1⟩ => ?_⟩
  rw [c.K]
  unfold revOp at o1
  split at o1
  · split at o1
    · rename_i n xs hc
      obtain ⟨b, us, e2, s2, i2⟩ := its_revC r1 q1 hc
      have q := o1 D1 _ (Ext.refl D1) r1 i2
      rw [e1] at q s2
      exact ⟨b, us, e2, .inl ⟨s2, q⟩⟩
    · exact o1.elim
  · split at o1
    · rename_i xs hxs
      obtain ⟨b, us, J, e2, s2, i2⟩ := its_rev r1 q1 hxs
      have q := o1 D1 J (Ext.refl D1) r1 i2
      rw [e1] at q s2
      refine ⟨b, us, e2, ?_⟩
      rcases s2 with ⟨s2, eJ⟩ | ⟨s2, eJ⟩
      · subst eJ; exact .inl ⟨s2, q⟩
      · subst eJ; exact .inr ⟨s2, q⟩
    · exact o1.elim
/-- pairs made at each turn -/
theorem its_pairs {Γ : Cfg} {D : Wd} {src : List AV} {J : It} (h : ∀ (D' : Wd) (h' : AH) (i : Nat), Ext D D' → Rel Γ.K D' h' → match src[i]? with
    | none => J.stop i D'.H
    | some v => J.go i D'.H ∧ ∀ x H', J.yld i D'.H x H' → ∃ T ys us, x = .ref T ∧ D'.H T = none ∧ H' = upd D'.H T (.tup us) ∧ v = .tup ys ∧ RepL Γ.K D' ys us) : ItS Γ D (.snap src) J := by
  intro D' h' i x' R'
  have q := h D' h' i x' R'
  show match some src[i]? with | none => _ | some none => _ | some (some v) => _
  cases hv : src[i]? with
  | none => rw [hv] at q; exact q
  | some v =>
    rw [hv] at q
    refine ⟨q.1, fun x H' y => ?_⟩
    obtain ⟨T, ys, us, e1, e2, e3, e4, r⟩ := q.2 x H' y
    subst e1; subst e3; subst e4
    exact ⟨D'.frz T (.tup us), rfl, Ext.frz R' e2 _, Rel.frz R' e2 _, T, us, rfl, .inl ⟨.inr rfl, upd_same⟩, RepL.ext (Ext.frz R' e2 _) _ _ r⟩
def enumL : Nat → List AV → List AV
  | _, [] => []
  | i, x :: xs => .tup [.int i, x] :: enumL (i + 1) xs
theorem enumL_get : ∀ (xs : List AV) (k i : Nat), (enumL k xs)[i]? = (xs[i]?).map fun x => AV.tup [.int ((k + i : Nat) : Int), x]
  | [], _, _ => by simp [enumL]
  | x :: xs, k, 0 => by simp [enumL]
  | x :: xs, k, i + 1 => by
    have ih := enumL_get xs (k + 1) i
    show (enumL (k + 1) xs)[i]? = _
    rw [ih, show k + 1 + i = k + (i + 1) by omega]
    rfl
def frozenL : AV → Option (List AV)
  | .lst xs => some xs
  | .kl xs => some xs
  | _ => none
theorem frozenL_sq {Γ : Cfg} {D : Wd} {x : AV} {u : V} {xs : List AV} (r : Rep Γ.K D x u) (e : frozenL x = some xs) : ∃ a, u = .ref a ∧ ∀ D', Ext D D' → ∃ us, SqL Γ.K D'.H a us ∧ RepL Γ.K D' xs us := by
  cases x with
  | lst ys =>
    cases e
    obtain ⟨a, us, e1, _⟩ := id r
    refine ⟨a, e1, fun D' x' => ?_⟩
    obtain ⟨b, us', e2, ⟨_, t⟩, q⟩ := Rep.ext x' _ _ r
    rw [e1] at e2; cases e2
    exact ⟨us', SqL.of t, q⟩
  | kl ys =>
    cases e
    obtain ⟨a, us, e1, _⟩ := id r
    refine ⟨a, e1, fun D' x' => ?_⟩
    obtain ⟨b, us', e2, t, q⟩ := Rep.ext x' _ _ r
    rw [e1] at e2; cases e2
    exact ⟨us', t.sq, q⟩
  | _ => cases e
theorem tup_sq {Γ : Cfg} {D : Wd} {u : V} {xs : List AV} (r : Rep Γ.K D (.tup xs) u) : ∃ a, u = .ref a ∧ ∀ D', Ext D D' → ∃ us, SqT Γ.K D'.H a us ∧ RepL Γ.K D' xs us := by
  obtain ⟨a, us, e1, _⟩ := id r
  refine ⟨a, e1, fun D' x' => ?_⟩
  obtain ⟨b, us', e2, t, q⟩ := Rep.ext x' _ _ r
  rw [e1] at e2; cases e2
  exact ⟨us', t.sq, q⟩
theorem its_enT {Γ : Cfg} {D : Wd} {b : Addr} {xs : List AV} (k0 : Nat) {us : List V} (ht : RepL Γ.K D xs us) (all : ∀ D', Ext D D' → ∃ us, SqT Γ.K D'.H b us ∧ RepL Γ.K D' xs us) : ItS Γ D (.snap (enumL k0 xs)) (ItE Γ.K b k0 us.length) := its_pairs fun D' h' i x' R' => by
  obtain ⟨us', t, q⟩ := all D' x'
  have el : us'.length = us.length := by rw [q.length, ht.length]
  rw [enumL_get]
  cases hv : xs[i]? with
  | none => exact ⟨us', t, el, by rw [ht.length]; exact List.getElem?_eq_none_iff.mp hv⟩
  | some v =>
    obtain ⟨y, ey, ry⟩ := RepL.get q hv
    refine ⟨⟨us', y, t, el, ey⟩, fun z H' ⟨T, w', e3, e4, e5, hz⟩ => ?_⟩
    have e6 := Option.some.inj ((hz us' t).symm.trans ey)
    subst e6
    exact ⟨T, _, [.int ((k0 : Int) + (i : Int)), w'], e3, e4, e5, rfl, ⟨.int ((k0 : Int) + (i : Int)), _, rfl, by rw [Int.natCast_add]; exact rfl, ⟨w', [], rfl, ry, rfl⟩⟩⟩
def opEnum : List AV → AH → Out Src := fun xs h => match xs with
  | [.tup xs] => .ok (.snap (enumL 0 xs)) h
  | [x] => match frozenL x with
    | some xs => .ok (.snap (enumL 0 xs)) h
    | none => .bad
  | _ => .bad
theorem si_enum {x : Str} {elts : List Expr} {kk : Nat} {tpos : Pos} {e : Expr} {f : EvA} {p pos : Pos} (hxr : x = sEnum) (hx : x ∈ S.free) (hg : glB L.sc x = true) (ha : SA S L [e] f) (hs : notStar e = true) : SI S L (.Tuple elts kk tpos) (.Call (.Name x p) [e] [] pos) (eiOf opEnum f) := by
  subst hxr
  intro Γ G k X W so c
  refine PI.weak (pi_enA (gl_of c hg) (by rw [c.mg]; exact so.free _ hx) (ha Γ G k X W so c) (starEach_cons hs)) fun σ H R ⟨D, h, env, a, o⟩ => ?_
  refine ⟨D, h, env, a, (OutOk.bind (R1 := fun D _ => RepL Γ.K D) o).mono fun u H' ⟨D1, v1, h1, e1, x1, r1, q1, o1⟩ => ?_⟩
  rw [c.K]
  unfold opEnum at o1
  split at o1
  · rename_i xs
    obtain ⟨u', e, ru⟩ := q1.one
    subst e
    obtain ⟨b, e2, all⟩ := tup_sq ru
    subst e2
    obtain ⟨us, t, qq⟩ := all D1 (Ext.refl _)
    have q := o1 D1 (ItE Γ.K b 0 us.length) (Ext.refl D1) r1 (its_enT 0 qq all)
    rw [e1] at q t
    exact ⟨b, us, rfl, .inr ⟨t, q⟩⟩
  · split at o1
    · rename_i xs hxs
      obtain ⟨u', e, ru⟩ := q1.one
      subst e
      obtain ⟨b, e2, all⟩ := frozenL_sq ru hxs
      subst e2
      have i2 : ItS Γ D1 (.snap (enumL 0 xs)) (Ite Γ.K b) := its_pairs fun D' h' i x' R' => by
        obtain ⟨us, t, q⟩ := all D' x'
        rw [enumL_get]
        cases hv : xs[i]? with
        | none => exact ⟨us, t, by rw [q.length]; exact List.getElem?_eq_none_iff.mp hv⟩
        | some v =>
          obtain ⟨y, ey, ry⟩ := RepL.get q hv
          refine ⟨⟨us, y, t, ey⟩, fun z H' ⟨T, w', e3, e4, e5, hz⟩ => ?_⟩
          have e6 := Option.some.inj ((hz us t).symm.trans ey)
          subst e6
          exact ⟨T, _, [.int i, w'], e3, e4, e5, rfl, ⟨.int i, _, rfl, by rw [Nat.zero_add]; exact rfl, ⟨w', [], rfl, ry, rfl⟩⟩⟩
      obtain ⟨us, t, _⟩ := all D1 (Ext.refl _)
      have q := o1 D1 (Ite Γ.K b) (Ext.refl D1) r1 i2
      rw [e1] at q t
      exact ⟨b, us, rfl, .inl ⟨t, q⟩⟩
    · exact o1.elim
  · exact o1.elim
def opEnumS (k0 : Nat) : List AV → AH → Out Src := fun xs h => match xs with
  | [.tup xs] => .ok (.snap (enumL k0 xs)) h
  | _ => .bad
def sStart : Str := "start"
theorem si_enumS {x y : Str} {elts : List Expr} {kk k0 : Nat} {tpos : Pos} {e kv : Expr} {f : EvA} {p pos kp : Pos} (hxr : x = sEnum) (hyr : y = sStart) (hx : x ∈ S.free) (hg : glB L.sc x = true) (ha : SA S L [e] f) (hk : ∀ X : Cx, PE X kv (tC (.int (k0 : Int)))) (h1 : k0 < 1000) (hs : notStar e = true) :
    SI S L (.Tuple elts kk tpos) (.Call (.Name x p) [e] [⟨some y, kv, kp⟩] pos) (eiOf (opEnumS k0) f) := by
  subst hxr; subst hyr
  intro Γ G k X W so c
  refine PI.weak (pi_enS (k0 := (k0 : Int)) (gl_of c hg) (by rw [c.mg]; exact so.free _ hx) (ha Γ G k X W so c) (hk X) (by omega) (by omega) (starEach_cons hs)) fun σ H R ⟨D, h, env, a, o⟩ => ?_
  refine ⟨D, h, env, a, (OutOk.bind (R1 := fun D _ => RepL Γ.K D) o).mono fun u H' ⟨D1, v1, h1, e1, x1, r1, q1, o1⟩ => ?_⟩
  rw [c.K]
  unfold opEnumS at o1
  split at o1
  · rename_i xs
    obtain ⟨u', e, ru⟩ := q1.one
    subst e
    obtain ⟨b, e2, all⟩ := tup_sq ru
    subst e2
    obtain ⟨us, t, qq⟩ := all D1 (Ext.refl _)
    have q := o1 D1 (ItE Γ.K b k0 us.length) (Ext.refl D1) r1 (its_enT k0 qq all)
    rw [e1] at q t
    exact ⟨b, us, rfl, t, q⟩
  · exact o1.elim
def zipA : List AV → List AV → List AV
  | x :: xs, y :: ys => .tup [x, y] :: zipA xs ys
  | _, _ => []
theorem zipA_get : ∀ (xs ys : List AV) (i : Nat), (zipA xs ys)[i]? = match xs[i]?, ys[i]? with
    | some x, some y => some (AV.tup [x, y])
    | _, _ => none
  | [], ys, i => by cases ys <;> simp [zipA]
  | x :: xs, [], i => by
    simp only [zipA]
    cases (x :: xs)[i]? <;> simp
  | x :: xs, y :: ys, 0 => by simp [zipA]
  | x :: xs, y :: ys, i + 1 => by
    have ih := zipA_get xs ys i
    show (zipA xs ys)[i]? = _
    rw [ih]
    rfl
def opZip : List AV → AH → Out Src := fun xs h => match xs with
  | [.tup xs, .tup ys] => .ok (.snap (zipA xs ys)) h
  | [x, y] => match frozenL x, frozenL y with
    | some xs, some ys => .ok (.snap (zipA xs ys)) h
    | _, _ => .bad
  | _ => .bad
theorem its_zip {Γ : Cfg} {D : Wd} {xs ys : List AV} {Sq : Hp → Addr → List V → Prop} {a b : Addr} {J : It}
    (hgo : ∀ i H, J.go i H ↔ ∃ (us ws : List V) (x y : V), Sq H a us ∧ Sq H b ws ∧ us[i]? = some x ∧ ws[i]? = some y)
    (hyl : ∀ i H v H', J.yld i H v H' ↔ ∃ T x y, v = .ref T ∧ H T = none ∧ H' = upd H T (.tup [x, y]) ∧ (∀ us, Sq H a us → us[i]? = some x) ∧ ∀ ws, Sq H b ws → ws[i]? = some y)
    (hst : ∀ i H, J.stop i H ↔ ∃ us ws : List V, Sq H a us ∧ Sq H b ws ∧ (us.length ≤ i ∨ ws.length ≤ i))
    (ha : ∀ D', Ext D D' → ∃ us, Sq D'.H a us ∧ RepL Γ.K D' xs us) (hb : ∀ D', Ext D D' → ∃ us, Sq D'.H b us ∧ RepL Γ.K D' ys us) : ItS Γ D (.snap (zipA xs ys)) J := by
  refine its_pairs fun D' h' i x' R' => ?_
  obtain ⟨us, t, q⟩ := ha D' x'
  obtain ⟨ws, t2, q2⟩ := hb D' x'
  rw [zipA_get]
  cases hv : xs[i]? with
  | none => exact (hst _ _).mpr ⟨us, ws, t, t2, .inl (by rw [q.length]; exact List.getElem?_eq_none_iff.mp hv)⟩
  | some v =>
    cases hw : ys[i]? with
    | none => exact (hst _ _).mpr ⟨us, ws, t, t2, .inr (by rw [q2.length]; exact List.getElem?_eq_none_iff.mp hw)⟩
    | some w' =>
      obtain ⟨y, ey, ry⟩ := RepL.get q hv
      obtain ⟨z, ez, rz⟩ := RepL.get q2 hw
      refine ⟨(hgo _ _).mpr ⟨us, ws, y, z, t, t2, ey, ez⟩, fun o H' hy => ?_⟩
      obtain ⟨T, y', z', e3, e4, e5, h1, h2⟩ := (hyl _ _ _ _).mp hy
      have e6 := Option.some.inj ((h1 us t).symm.trans ey)
      have e7 := Option.some.inj ((h2 ws t2).symm.trans ez)
      subst e6; subst e7
      exact ⟨T, _, [y', z'], e3, e4, e5, rfl, ⟨y', _, rfl, ry, ⟨z', [], rfl, rz, rfl⟩⟩⟩
theorem si_zip {x : Str} {elts : List Expr} {kk : Nat} {tpos : Pos} {e e' : Expr} {f : EvA} {p pos : Pos} (hxr : x = sZip) (hx : x ∈ S.free) (hg : glB L.sc x = true) (ha : SA S L [e, e'] f) (hs : notStar e = true) (hs' : notStar e' = true) : SI S L (.Tuple elts kk tpos) (.Call (.Name x p) [e, e'] [] pos) (eiOf opZip f) := by
  subst hxr
  intro Γ G k X W so c
  have hal : [e'].all notStar = true := by simp [hs']
  refine PI.weak (RZ.pi_zipA (gl_of c hg) (by rw [c.mg]; exact so.free _ hx) (ha Γ G k X W so c) (starEach_cons hs) (starEach_plain hal)) fun σ H R ⟨D, h, env, a, o⟩ => ?_
  refine ⟨D, h, env, a, (OutOk.bind (R1 := fun D _ => RepL Γ.K D) o).mono fun u H' ⟨D1, v1, h1, e1, x1, r1, q1, o1⟩ => ?_⟩
  rw [c.K]
  unfold opZip at o1
  split at o1
  · obtain ⟨u', w', e, ru, rw'⟩ := q1.two
    subst e
    obtain ⟨b, e2, all⟩ := tup_sq ru
    obtain ⟨b', e2', all'⟩ := tup_sq rw'
    subst e2; subst e2'
    obtain ⟨us, t, _⟩ := all D1 (Ext.refl _)
    obtain ⟨us', t', _⟩ := all' D1 (Ext.refl _)
    have q := o1 D1 (RZ.ItzT Γ.K b b') (Ext.refl D1) r1 (its_zip (Sq := SqT Γ.K) (fun _ _ => Iff.rfl) (fun _ _ _ _ => Iff.rfl) (fun _ _ => Iff.rfl) all all')
    rw [e1] at q t t'
    exact ⟨b, b', us, us', rfl, .inr ⟨t, t', q⟩⟩
  · split at o1
    · rename_i h2 h3
      obtain ⟨u', w', e, ru, rw'⟩ := q1.two
      subst e
      obtain ⟨b, e2, all⟩ := frozenL_sq ru h2
      obtain ⟨b', e2', all'⟩ := frozenL_sq rw' h3
      subst e2; subst e2'
      obtain ⟨us, t, _⟩ := all D1 (Ext.refl _)
      obtain ⟨us', t', _⟩ := all' D1 (Ext.refl _)
      have q := o1 D1 (Itz Γ.K b b') (Ext.refl D1) r1 (its_zip (Sq := SqL Γ.K) (fun _ _ => Iff.rfl) (fun _ _ _ _ => Iff.rfl) (fun _ _ => Iff.rfl) all all')
      rw [e1] at q t t'
      exact ⟨b, b', us, us', rfl, .inl ⟨t, t', q⟩⟩
    · exact o1.elim
  · exact o1.elim
end
end Pv
end
section
set_option Elab.async false
set_option linter.all false
set_option maxRecDepth 100000
set_option autoImplicit false
namespace Pv
open PySem PySem.Spec PyProof.Rows L2

/-! ### targets -/
inductive Tg where
  | nm (i : Nat)
  | tp (is : List Nat)
def setsA : List Nat → List AV → Env1 → Env1
  | i :: is, x :: xs, env => setsA is xs (env.set i (some x))
  | _, _, env => env
def setTg : Tg → AV → Env1 → Option Env1
  | .nm i, v, env => some (env.set i (some v))
  | .tp is, .tup xs, env => if xs.length = is.length then some (setsA is xs env) else none
  | _, _, _ => none
def Tg.slots : Tg → List Nat
  | .nm i => [i]
  | .tp is => is
def gNames : List Nat → TGs
  | [] => gNil
  | i :: is => gCons (gName i) (gNames is)
def gTg (K : PySem.W.Frag) : Tg → TG
  | .nm i => gName i
  | .tp is => gTup K is.length (gNames is)
/-- only the slots is were set -/
def SetBy (is : List Nat) (σ σ' : L2.St) : Prop := σ'.length = σ.length ∧ ∀ j, j ∉ is → σ'[j]? = σ[j]?
theorem SetBy.refl (is : List Nat) (σ : L2.St) : SetBy is σ σ := ⟨rfl, fun _ _ => rfl⟩
theorem SetBy.set {is : List Nat} {σ : L2.St} {i : Nat} {v : V} (h : i ∈ is) : SetBy is σ (σ.set i (some v)) :=
  ⟨by simp, fun j hj => List.getElem?_set_ne fun e => hj (by rw [← e]; exact h)⟩
theorem SetBy.trans {is : List Nat} {a b c : L2.St} (h : SetBy is a b) (g : SetBy is b c) : SetBy is a c := ⟨g.1.trans h.1, fun j hj => (g.2 j hj).trans (h.2 j hj)⟩
theorem wipe_get (σ : L2.St) : ∀ (vs : List Nat) (j : Nat), (wipe σ vs)[j]? = if j ∈ vs ∧ j < σ.length then some none else σ[j]?
  | [], j => by simp [wipe]
  | v :: vs, j => by
    unfold wipe
    have ih := wipe_get σ vs j
    by_cases h : v = j
    · subst h
      by_cases hl : v < σ.length
      · rw [List.getElem?_set_self (by rw [wipe_length]; exact hl), if_pos ⟨List.mem_cons_self, hl⟩]
      · rw [List.getElem?_eq_none (by rw [List.length_set, wipe_length]; omega), if_neg (fun z => hl z.2), List.getElem?_eq_none (by omega)]
    · rw [List.getElem?_set_ne h, ih]
      by_cases hl : j ∈ vs ∧ j < σ.length
      · rw [if_pos hl, if_pos ⟨List.mem_cons_of_mem _ hl.1, hl.2⟩]
      · rw [if_neg hl, if_neg fun z => hl ⟨(List.mem_cons.mp z.1).resolve_left (fun e => h e.symm), z.2⟩]
theorem SetBy.wipe {is vs : List Nat} {σ σ' : L2.St} (h : SetBy is (wipe σ vs) σ') (hs : ∀ i ∈ is, i ∈ vs) : wipe σ' vs = wipe σ vs := by
  have el : σ'.length = σ.length := by rw [h.1, wipe_length]
  apply List.ext_getElem?
  intro j
  rw [wipe_get, wipe_get, el]
  by_cases hj : j ∈ vs ∧ j < σ.length
  · rw [if_pos hj, if_pos hj]
  · rw [if_neg hj, if_neg hj]
    by_cases hv : j ∈ vs
    · have : ¬ j < σ.length := fun z => hj ⟨hv, z⟩
      rw [List.getElem?_eq_none (by omega), List.getElem?_eq_none (by omega)]
    · rw [h.2 j fun z => hv (hs j z), wipe_get, if_neg hj]
theorem gNames_of {K : PySem.W.Frag} {D : Wd} {all : List Nat} {H : Hp} {Q : L2.St → Hp → Prop} : ∀ (is : List Nat) (xs : List AV) (us : List V) (env : Env1) (σ : L2.St), RepL K D xs us → xs.length = is.length → EnvR K D env σ → (∀ i ∈ is, i ∈ all) →
    (∀ σ', EnvR K D (setsA is xs env) σ' → SetBy all σ σ' → Q σ' H) → gNames is us σ H Q
  | [], xs, us, env, σ, r, e, en, _, h => by
    have ex : xs = [] := List.length_eq_zero_iff.mp e
    subst ex
    have eu : us = [] := r
    exact ⟨eu, h σ en (SetBy.refl _ _)⟩
  | i :: is, [], us, env, σ, r, e, en, _, h => by simp at e
  | i :: is, x :: xs, us, env, σ, r, e, en, hs, h => by
    obtain ⟨u, us', e1, r1, r2⟩ := r
    refine ⟨u, us', e1, gNames_of is xs us' (env.set i (some x)) (σ.set i (some u)) r2 (by simpa using e) (en.set i r1) (fun j hj => hs j (List.mem_cons_of_mem _ hj)) fun σ' en' sb => h σ' en' ?_⟩
    exact (SetBy.set (hs i List.mem_cons_self)).trans sb
theorem gTg_of {K : PySem.W.Frag} {D : Wd} {t : Tg} {x : AV} {u : V} {env env' : Env1} {σ : L2.St} {Q : L2.St → Hp → Prop} (r : Rep K D x u) (en : EnvR K D env σ) (e : setTg t x env = some env')
    (h : ∀ σ', EnvR K D env' σ' → SetBy t.slots σ σ' → Q σ' D.H) : gTg K t u σ D.H Q := by
  cases t with
  | nm i =>
    cases e
    exact h _ (en.set i r) (SetBy.set (List.mem_singleton.mpr rfl))
  | tp is =>
    cases x with
    | tup xs =>
      simp only [setTg] at e
      split at e
      · rename_i hl
        cases e
        obtain ⟨a, us, e1, t, q⟩ := r
        exact ⟨a, us, e1, t.sq, by rw [q.length, hl], gNames_of is xs us env σ q hl en (fun _ h => h) h⟩
      · cases e
    | _ => cases e
def SG (L : Lc) (tg : Expr) (t : Tg) : Prop := ∀ (Γ : Cfg) (k : Nat) (X : Cx) (W : WX), CtxP Γ k L X W → PG X tg (gTg X.K t)
theorem loc_of {Γ : Cfg} {k : Nat} {L : Lc} {X : Cx} {W : WX} (c : CtxP Γ k L X W) {x : Str} (h : locB L x = true) : Loc X.env.scope x ∧ (X.fn x = true ∨ X.env.scope.names.lookup x = some .local) := by
  unfold locB at h
  rw [Bool.or_eq_true, Bool.and_eq_true] at h
  rcases h with h | ⟨h, h2⟩
  · have e := of_decide_eq_true h
    rw [← c.sc] at e
    exact ⟨.inl e, .inr e⟩
  · have e := of_decide_eq_true h
    rw [← c.sc] at e
    exact ⟨.inr e, .inl (c.cells x h2)⟩
theorem sg_nm {L : Lc} {i : Nat} {x : Str} {pos : Pos} (hN : L.N[i]? = some x) (hl : locB L x = true) : SG L (.Name x pos) (.nm i) := by
  intro Γ k X W c
  obtain ⟨h1, h2⟩ := loc_of c hl
  exact pg_name (i := i) (x := x) (by rw [c.hN]; exact c.nd) (by rw [c.hN]; exact hN) h1 h2
def SGs (L : Lc) (es : List Expr) (is : List Nat) : Prop := ∀ (Γ : Cfg) (k : Nat) (X : Cx) (W : WX), CtxP Γ k L X W → PGs X es (gNames is)
def isName : Expr → Bool
  | .Name .. => true
  | _ => false
theorem each_name {e : Expr} {es : List Expr} {env : Env} (h : isName e = true) : (assignEach (e :: es) env).map (·.2) = assign e env :: (assignEach es env).map (·.2) := by
  cases e <;> first | rfl | cases h
theorem each_len : ∀ {es : List Expr} {env : Env}, es.all isName = true → (assignEach es env).length = es.length ∧ (assignEach es env).findIdx? (·.1) = none
  | [], _, _ => ⟨rfl, rfl⟩
  | e :: es, env, h => by
    rw [List.all_cons, Bool.and_eq_true] at h
    obtain ⟨h1, h2⟩ := each_len (es := es) (env := env) h.2
    cases e with
    | Name x p =>
      refine ⟨by show (assignEach es env).length + 1 = _; rw [h1]; rfl, ?_⟩
      show ((false, _) :: assignEach es env).findIdx? (·.1) = none
      rw [List.findIdx?_cons]
      simp [h2]
    | _ => cases h.1
theorem sgs_nil {L : Lc} : SGs L [] [] := fun _ _ _ _ _ => pgs_nil
theorem sgs_cons {L : Lc} {e : Expr} {es : List Expr} {i : Nat} {is : List Nat} (h1 : SG L e (.nm i)) (h2 : SGs L es is) (hn : isName e = true) : SGs L (e :: es) (i :: is) := fun Γ k X W c =>
  pgs_cons (h1 Γ k X W c) (h2 Γ k X W c) (each_name hn)
theorem sg_tp {L : Lc} {es : List Expr} {is : List Nat} {j : Nat} {pos : Pos} (h : SGs L es is) (hn : es.all isName = true) (hl : es.length = is.length) (hh : L.hot = false) : SG L (.Tuple es j pos) (.tp is) := fun Γ k X W c =>
  pg_tup (c.calm hh) (h Γ k X W c) ((each_len hn).1.trans hl) (each_len hn).2

/-! ### statements -/
def SOk (Γ : Cfg) (D : Wd) (o : SOut) (E : Ends) (W : WX) : Prop := match o with
  | .nx env h => ∀ (D' : Wd) (σ : L2.St), Ext D D' → Rel Γ.K D' h → EnvR Γ.K D' env σ → E.nx σ D'.H
  | .ret v h => ∀ (D' : Wd) (u : V), Ext D D' → Rel Γ.K D' h → Rep Γ.K D' v u → E.rt u D'.H
  | .brk env h => ∀ (D' : Wd) (σ : L2.St), Ext D D' → Rel Γ.K D' h → EnvR Γ.K D' env σ → E.bk σ D'.H
  | .ct env h => ∀ (D' : Wd) (σ : L2.St), Ext D D' → Rel Γ.K D' h → EnvR Γ.K D' env σ → E.ct σ D'.H
  | .exc e env h => ∀ (D' : Wd) (σ : L2.St) (cls : Value) (d : Option Addr), Ext D D' → Rel Γ.K D' h → EnvR Γ.K D' env σ → RepX Γ D' e cls d → W cls d σ D'.H
  | .bad => False
theorem SOk.ext {Γ : Cfg} {D D' : Wd} {o : SOut} {E : Ends} {W : WX} (x : Ext D D') (h : SOk Γ D o E W) : SOk Γ D' o E W := by
  cases o with
  | nx env hh => exact fun D2 s x2 r q => h D2 s (x.trans x2) r q
  | ret v hh => exact fun D2 s x2 r q => h D2 s (x.trans x2) r q
  | brk env hh => exact fun D2 s x2 r q => h D2 s (x.trans x2) r q
  | ct env hh => exact fun D2 s x2 r q => h D2 s (x.trans x2) r q
  | exc e env hh => exact fun D2 s c d x2 r q => h D2 s c d (x.trans x2) r q
  | bad => exact h
def Out.s {α : Type} (o : Out α) (env : Env1) (k : α → AH → SOut) : SOut := match o with
  | .ok v h => k v h
  | .exc e h => .exc e env h
  | .bad => .bad
theorem SOk.bind {α β : Type} {Γ : Cfg} {D : Wd} {o : Out α} {env : Env1} {k : α → AH → SOut} {E : Ends} {W : WX} {R : Wd → AH → α → β → Prop} {σ : L2.St} (en : EnvR Γ.K D env σ) (h : SOk Γ D (o.s env k) E W) :
    OutOk Γ D o R (fun u H' => ∃ (D' : Wd) (v : α) (h' : AH), D'.H = H' ∧ Ext D D' ∧ Rel Γ.K D' h' ∧ R D' h' v u ∧ SOk Γ D' (k v h') E W) (fun c d H' => W c d σ H') := by
  cases o with
  | ok v hh => exact fun D2 u x2 r q => ⟨D2, v, hh, rfl, x2, r, q, SOk.ext x2 h⟩
  | exc e hh => exact fun D2 c d x2 r q => h D2 σ c d x2 r (en.ext x2) q
  | bad => exact h
def tSv (Γ : Cfg) (W : WX) (f : Env1 → AH → SOut) : TS := fun E σ H => ∃ (D : Wd) (h : AH) (env : Env1), At Γ D h env σ H ∧ SOk Γ D (f env h) E W
structure CtxS (Γ : Cfg) (k : Nat) (L : Lc) (X : Cx) (W : WX) : Prop extends CtxP Γ k L X W where
  pass : PassesOwn (model X.prog X.w) X.A X.env X.xe
  stk : X.stack = X.env :: X.outer
  fr : X.env.frame = some X.env.locals
def SS (S : Stat) (L : Lc) (st : Stmt) (f : EvS) : Prop := ∀ (Γ : Cfg) (G : GT) (k : Nat) (X : Cx) (W : WX), StatOk Γ S G k → CtxS Γ k L X W → PS X st (tSv Γ W (f G))
def SSs (S : Stat) (L : Lc) (st : List Stmt) (f : EvS) : Prop := ∀ (Γ : Cfg) (G : GT) (k : Nat) (X : Cx) (W : WX), StatOk Γ S G k → CtxS Γ k L X W → PSs X st (tSv Γ W (f G))
section
variable {S : Stat} {L : Lc}
def esNx : EvS := fun _ env h => .nx env h
def esSeq (f g : EvS) : EvS := fun G env h => match f G env h with
  | .nx env' h' => g G env' h'
  | r => r
theorem SOk.nx {Γ : Cfg} {D : Wd} {h : AH} {env : Env1} {σ : L2.St} {H : Hp} {E : Ends} {W : WX} (a : At Γ D h env σ H) (o : SOk Γ D (.nx env h) E W) : E.nx σ H := by
  have q := o D σ (Ext.refl D) a.rel a.env
  rw [a.hp] at q
  exact q
theorem ss_pass {pos : Pos} : SS S L (.Pass pos) esNx := fun Γ G k X W so c => PS.weak ps_pass fun E σ H ⟨D, h, env, a, o⟩ => SOk.nx a o
theorem ss_doc {x : Str} {j : Nat} {pos pos' : Pos} : SS S L (.Expr (.Constant (.str x) j pos) pos') esNx := fun Γ G k X W so c => PS.weak ps_doc fun E σ H ⟨D, h, env, a, o⟩ => SOk.nx a o
def esBrk : EvS := fun _ env h => .brk env h
def esCt : EvS := fun _ env h => .ct env h
theorem ss_brk {pos : Pos} : SS S L (.Break pos) esBrk := fun Γ G k X W so c => PS.weak ps_break fun E σ H ⟨D, h, env, a, o⟩ => by
  have q := o D σ (Ext.refl D) a.rel a.env
  rw [a.hp] at q
  exact q
theorem ss_ct {pos : Pos} : SS S L (.Continue pos) esCt := fun Γ G k X W so c => PS.weak ps_continue fun E σ H ⟨D, h, env, a, o⟩ => by
  have q := o D σ (Ext.refl D) a.rel a.env
  rw [a.hp] at q
  exact q
theorem sss_nil : SSs S L [] esNx := fun Γ G k X W so c => PSs.weak pss_nil fun E σ H ⟨D, h, env, a, o⟩ => SOk.nx a o
theorem sss_one {st : Stmt} {f : EvS} (h1 : SS S L st f) : SSs S L [st] f := fun Γ G k X W so c => pss_one (h1 Γ G k X W so c)
theorem sss_cons {st : Stmt} {sts : List Stmt} {f g : EvS} (h1 : SS S L st f) (h2 : SSs S L sts g) : SSs S L (st :: sts) (esSeq f g) := by
  intro Γ G k X W so c
  refine PSs.weak (pss_cons (h1 Γ G k X W so c) (h2 Γ G k X W so c)) fun E σ H ⟨D, h, env, a, o⟩ => ⟨D, h, env, a, ?_⟩
  unfold esSeq at o
  cases e : f G env h with
  | nx env' h' =>
    rw [e] at o
    exact fun D' σ' x' r' en' => ⟨D', h', env', ⟨rfl, r', en', a.ok.ext x'⟩, SOk.ext x' o⟩
  | ret v h' => rw [e] at o; exact o
  | brk env' h' => rw [e] at o; exact o
  | ct env' h' => rw [e] at o; exact o
  | exc e' env' h' => rw [e] at o; exact o
  | bad => rw [e] at o; exact o
def esDrop (f : EvE) : EvS := fun G env h => (f G env h).s env fun _ h1 => .nx env h1
theorem ss_expr {e : Expr} {f : EvE} {pos : Pos} (he : SE S L e f) (hc : notComp e = true) : SS S L (.Expr e pos) (esDrop f) := by
  intro Γ G k X W so c
  refine PS.weak (ps_expr (he Γ G k X W so c.toCtxP) (swaps_of hc)) fun E σ H ⟨D, h, env, a, o⟩ => ?_
  exact ⟨D, h, env, a, (SOk.bind (R := fun D _ => Rep Γ.K D) a.env o).mono fun u H' ⟨D1, v1, h1, e1, x1, r1, q1, o1⟩ => SOk.nx (a.next e1 x1 r1) o1⟩
def esRet (f : EvE) : EvS := fun G env h => (f G env h).s env fun v h1 => .ret v h1
theorem ss_ret {e : Expr} {f : EvE} {pos : Pos} (he : SE S L e f) : SS S L (.Return (some e) pos) (esRet f) := by
  intro Γ G k X W so c
  refine PS.weak (ps_ret (he Γ G k X W so c.toCtxP)) fun E σ H ⟨D, h, env, a, o⟩ => ?_
  refine ⟨D, h, env, a, (SOk.bind (R := fun D _ => Rep Γ.K D) a.env o).mono fun u H' ⟨D1, v1, h1, e1, x1, r1, q1, o1⟩ => ?_⟩
  have q := o1 D1 u (Ext.refl _) r1 q1
  rw [e1] at q
  exact q
def esRetN : EvS := fun _ _ h => .ret .non h
theorem ss_retN {pos : Pos} : SS S L (.Return none pos) esRetN := by
  intro Γ G k X W so c
  refine PS.weak ps_retN fun E σ H ⟨D, h, env, a, o⟩ => ?_
  have q := o D .non (Ext.refl _) a.rel rfl
  rw [a.hp] at q
  exact q
def esIf (t : EvT) (f g : EvS) : EvS := fun G env h => (t G env h).s env fun b h1 => if b = true then f G env h1 else g G env h1
theorem ss_if {e : Expr} {t : EvT} {as bs : List Stmt} {f g : EvS} {pos : Pos} (ht : ST S L e t) (ha : SSs S L as f) (hb : SSs S L bs g) : SS S L (.If e as bs pos) (esIf t f g) := by
  intro Γ G k X W so c
  refine PS.weak (ps_if (ht Γ G k X W so c.toCtxP) (ha Γ G k X W so c) (hb Γ G k X W so c)) fun E σ H ⟨D, h, env, a, o⟩ => ?_
  refine ⟨D, h, env, a, (SOk.bind (R := fun _ _ (b c : Bool) => b = c) a.env o).mono fun u H' ⟨D1, v1, h1, e1, x1, r1, q1, o1⟩ => ?_⟩
  subst q1
  cases v1 with
  | true => exact ⟨D1, h1, env, a.next e1 x1 r1, o1⟩
  | false => exact ⟨D1, h1, env, a.next e1 x1 r1, o1⟩
/-! assignments -/
def esSet (t : Tg) (f : EvE) : EvS := fun G env h => (f G env h).s env fun v h1 => match setTg t v env with
  | some env' => .nx env' h1
  | none => .bad
theorem asg_of {Γ : Cfg} {W : WX} {t : Tg} {f : EvE} {G : GT} (E : Ends) (σ : L2.St) (H : Hp) (o : tSv Γ W (esSet t f G) E σ H) : tAsg (tEv Γ W (f G)) (gTg Γ.K t) E σ H := by
  obtain ⟨D, h, env, a, o⟩ := o
  refine ⟨D, h, env, a, (SOk.bind (R := fun D _ => Rep Γ.K D) a.env o).mono fun u H' ⟨D1, v1, h1, e1, x1, r1, q1, o1⟩ => ?_⟩
  split at o1
  · rename_i env' he
    have q := gTg_of (Q := E.nx) q1 (a.env.ext x1) he fun σ' en' _ => o1 D1 σ' (Ext.refl _) r1 en'
    rw [e1] at q
    exact q
  · exact o1.elim
theorem ss_set {x : Str} {i : Nat} {e : Expr} {f : EvE} {p pos : Pos} (hN : L.N[i]? = some x) (hl : locB L x = true) (he : SE S L e f) (hc : notComp e = true) : SS S L (.Assign [.Name x p] e pos) (esSet (.nm i) f) := by
  intro Γ G k X W so c
  obtain ⟨h1, h2⟩ := loc_of c.toCtxP hl
  exact PS.weak (ps_set (i := i) (by rw [c.hN]; exact c.nd) (by rw [c.hN]; exact hN) h1 (he Γ G k X W so c.toCtxP) (swaps_of hc) h2) fun E σ H o => asg_of E σ H o
def notTup : Expr → Bool
  | .Tuple .. => false
  | _ => true
theorem swapped_none {ts : List Expr} {e : Expr} {env : Env} (h : notTup e = true) : swappedStores ts e env = pure none := by
  cases e with
  | Tuple => cases h
  | _ => unfold swappedStores; rcases ts with _ | ⟨t, _ | ⟨t2, ts⟩⟩ <;> first | rfl | (cases t <;> rfl)
theorem assignEach_tup {es : List Expr} {j : Nat} {p : Pos} {env : Env} : (assignEach [Expr.Tuple es j p] env).map (·.2) = [assign (.Tuple es j p) env] := rfl
theorem ss_unp {es : List Expr} {is : List Nat} {j : Nat} {e : Expr} {f : EvE} {p pos : Pos} (hg : SG L (.Tuple es j p) (.tp is)) (he : SE S L e f) (hc : notComp e = true) (hw : ∀ env : Env, env.scope = L.sc → swappedStores [.Tuple es j p] e env = pure none) :
    SS S L (.Assign [.Tuple es j p] e pos) (esSet (.tp is) f) := by
  intro Γ G k X W so c
  refine PS.weak (ps_asg (he Γ G k X W so c.toCtxP) (hg Γ k X W c.toCtxP) (swaps_of (t := some (.Tuple es j p)) (l := pos.line) (env := X.env) hc : swapsWith e (some (Expr.Tuple es j p)) pos.line X.env = pure false) (hw _ c.sc) assignEach_tup) fun E σ H o => ?_
  rw [c.K]
  exact asg_of E σ H o
/-! a, b = x, y -/
def esPar (is : List Nat) (f : EvA) : EvS := fun G env h => (f G env h).s env fun vs h1 => if vs.length = is.length then .nx (setsA is vs env) h1 else .bad
def kindB (sc : Scope) : Bool := decide (sc.kind = .function)
theorem swapped2 {x y : Str} {px py p p2 : Pos} {a b : Expr} {j j2 : Nat} {env : Env} (hk : kindB env.scope = true) (hx : env.scope.names.lookup x = some .local) (hy : env.scope.names.lookup y = some .local) (hl : (py.line == px.line) = true) (hxy : (x == y) = false)
    (ha : notStar a = true) (hb : notStar b = true) (hf : ([a, b].all (foldedForSure 8)) = false) (hc : ([a, b].all (constantsAlone 8)) = false) : swappedStores [.Tuple [.Name x px, .Name y py] j p] (.Tuple [a, b] j2 p2) env = pure (some [x, y]) := by
  have hb' : env.blockKind = .function := by unfold Env.blockKind; rw [of_decide_eq_true hk]; rfl
  have hx' : env.kindOf x = some .local := hx
  have hy' : env.kindOf y = some .local := hy
  have hxy' : (y == x) = false := by
    cases e : y == x with
    | false => rfl
    | true => rw [beq_iff_eq.mp e] at hxy; simp at hxy
  unfold swappedStores
  simp only [pure_bind, hb', List.length_cons, List.length_nil, List.any_cons, List.any_nil, hf, hc, List.filterMap_cons, List.filterMap_nil, hx', hy', Expr.pos, hl, List.head?_cons, Option.map_some, Option.getD_some, beq_self_eq_true, Bool.and_self, if_true]
  simp [List.eraseDups, List.eraseDupsBy, List.eraseDupsBy.loop, hxy, hxy']
  intro q
  exfalso
  rcases q with q | q
  · split at q
    · cases ha
    · cases q
  · split at q
    · cases hb
    · cases q
end
end Pv
end
section
set_option Elab.async false
set_option linter.all false
set_option maxRecDepth 100000
set_option autoImplicit false
namespace Pv
open PySem PySem.Spec PyProof.Rows L2
section
variable {S : Stat} {L : Lc}
theorem RepL.three {K : PySem.W.Frag} {D : Wd} {x y z : AV} {us : List V} (r : RepL K D [x, y, z] us) : ∃ u v w, us = [u, v, w] ∧ Rep K D x u ∧ Rep K D y v ∧ Rep K D z w := by
  obtain ⟨u, t, e, r1, r2⟩ := r
  obtain ⟨v, w, e2, r3, r4⟩ := RepL.two r2
  exact ⟨u, v, w, by rw [e, e2], r1, r3, r4⟩
def esPar2 (i j : Nat) (f : EvA) : EvS := fun G env h => (f G env h).s env fun vs h1 => match vs with
  | [x, y] => .nx ((env.set i (some x)).set j (some y)) h1
  | _ => .bad
def esPar3 (i j l : Nat) (f : EvA) : EvS := fun G env h => (f G env h).s env fun vs h1 => match vs with
  | [x, y, z] => .nx (((env.set i (some x)).set j (some y)).set l (some z)) h1
  | _ => .bad
def locOnly (L : Lc) (x : Str) : Bool := decide (L.sc.names.lookup x = some .local)
theorem ss_par2 {x y : Str} {i j : Nat} {a b : Expr} {f : EvA} {px py p p2 pos : Pos} {k1 k2 : Nat} (hi : L.N[i]? = some x) (hj : L.N[j]? = some y) (hij : (i == j) = false) (hx : locOnly L x = true) (hy : locOnly L y = true) (hk : kindB L.sc = true) (hl : (py.line == px.line) = true) (hxy : (x == y) = false)
    (ha : notStar a = true) (hb : notStar b = true) (hf : ([a, b].all (foldedForSure 8)) = false) (hc : ([a, b].all (constantsAlone 8)) = false) (hA : SA S L [a, b] f) (hh : L.hot = false) :
    SS S L (.Assign [.Tuple [.Name x px, .Name y py] k1 p] (.Tuple [a, b] k2 p2) pos) (esPar2 i j f) := by
  intro Γ G k X W so c
  have hx' : X.env.scope.names.lookup x = some .local := by rw [c.sc]; exact of_decide_eq_true hx
  have hy' : X.env.scope.names.lookup y = some .local := by rw [c.sc]; exact of_decide_eq_true hy
  refine PS.weak (ps_par (i := i) (j := j) (c.calm hh) (by rw [c.hN]; exact c.nd) (by rw [c.hN]; exact hi) (by rw [c.hN]; exact hj) (fun e => by rw [e] at hij; simp at hij) hx' hy' (hA Γ G k X W so c.toCtxP)
    (swapped2 (by rw [c.sc]; exact hk) hx' hy' hl hxy ha hb hf hc)) fun E σ H ⟨D, h, env, a, o⟩ => ?_
  refine ⟨D, h, env, a, (SOk.bind (R := fun D _ => RepL Γ.K D) a.env o).mono fun us H' ⟨D1, v1, h1, e1, x1, r1, q1, o1⟩ => ?_⟩
  split at o1
  · obtain ⟨u, v, e2, ru, rv⟩ := q1.two
    refine ⟨u, v, e2, ?_⟩
    have q := o1 D1 _ (Ext.refl _) r1 (((a.env.ext x1).set i ru).set j rv)
    rw [e1] at q
    exact q
  · exact o1.elim
theorem swapped3 {x y z : Str} {px py pz p p2 : Pos} {a b c : Expr} {j j2 : Nat} {env : Env} (hk : kindB env.scope = true) (hx : env.scope.names.lookup x = some .local) (hy : env.scope.names.lookup y = some .local) (hz : env.scope.names.lookup z = some .local) (hl : (py.line == px.line) = true) (hl2 : (pz.line == px.line) = true) (hxy : (x == y) = false) (hxz : (x == z) = false) (hyz : (y == z) = false)
    (ha : notStar a = true) (hb : notStar b = true) (hc' : notStar c = true) (hf : ([a, b, c].all (foldedForSure 8)) = false) (hc : ([a, b, c].all (constantsAlone 8)) = false) : swappedStores [.Tuple [.Name x px, .Name y py, .Name z pz] j p] (.Tuple [a, b, c] j2 p2) env = pure (some [x, y, z]) := by
  have hb' : env.blockKind = .function := by unfold Env.blockKind; rw [of_decide_eq_true hk]; rfl
  have hx' : env.kindOf x = some .local := hx
  have hy' : env.kindOf y = some .local := hy
  have hz' : env.kindOf z = some .local := hz
  have sym : ∀ {x y : Str}, (x == y) = false → (y == x) = false := fun {x y} h => by
    cases e : y == x with
    | false => rfl
    | true => rw [beq_iff_eq.mp e] at h; simp at h
  have h1 := sym hxy
  have h2 := sym hxz
  have h3 := sym hyz
  unfold swappedStores
  simp only [pure_bind, hb', List.length_cons, List.length_nil, List.any_cons, List.any_nil, hf, hc, List.filterMap_cons, List.filterMap_nil, hx', hy', hz', Expr.pos, hl, hl2, List.head?_cons, Option.map_some, Option.getD_some, beq_self_eq_true, Bool.and_self, if_true]
  simp [List.eraseDups, List.eraseDupsBy, List.eraseDupsBy.loop, hxy, hxz, hyz, h1, h2, h3]
  intro q
  exfalso
  rcases q with q | q | q
  · split at q
    · cases ha
    · cases q
  · split at q
    · cases hb
    · cases q
  · split at q
    · cases hc'
    · cases q
theorem ss_par3 {x y z : Str} {i j l : Nat} {a b d : Expr} {f : EvA} {px py pz p p2 pos : Pos} {k1 k2 : Nat} (hi : L.N[i]? = some x) (hj : L.N[j]? = some y) (hl' : L.N[l]? = some z) (hij : (i == j) = false) (hil : (i == l) = false) (hjl : (j == l) = false) (hx : locOnly L x = true) (hy : locOnly L y = true) (hz : locOnly L z = true) (hk : kindB L.sc = true)
    (hl : (py.line == px.line) = true) (hl2 : (pz.line == px.line) = true) (hxy : (x == y) = false) (hxz : (x == z) = false) (hyz : (y == z) = false)
    (ha : notStar a = true) (hb : notStar b = true) (hd : notStar d = true) (hf : ([a, b, d].all (foldedForSure 8)) = false) (hc : ([a, b, d].all (constantsAlone 8)) = false) (hA : SA S L [a, b, d] f) (hh : L.hot = false) :
    SS S L (.Assign [.Tuple [.Name x px, .Name y py, .Name z pz] k1 p] (.Tuple [a, b, d] k2 p2) pos) (esPar3 i j l f) := by
  intro Γ G k X W so c
  have hx' : X.env.scope.names.lookup x = some .local := by rw [c.sc]; exact of_decide_eq_true hx
  have hy' : X.env.scope.names.lookup y = some .local := by rw [c.sc]; exact of_decide_eq_true hy
  have hz' : X.env.scope.names.lookup z = some .local := by rw [c.sc]; exact of_decide_eq_true hz
  have ne : ∀ {a b : Nat}, (a == b) = false → a ≠ b := fun {a b} h e => by rw [e] at h; simp at h
  refine PS.weak (ps_par3 (i := i) (j := j) (l := l) (c.calm hh) (by rw [c.hN]; exact c.nd) (by rw [c.hN]; exact hi) (by rw [c.hN]; exact hj) (by rw [c.hN]; exact hl') (ne hij) (ne hil) (ne hjl) hx' hy' hz' (hA Γ G k X W so c.toCtxP)
    (swapped3 (by rw [c.sc]; exact hk) hx' hy' hz' hl hl2 hxy hxz hyz ha hb hd hf hc)) fun E σ H ⟨D, h, env, a, o⟩ => ?_
  refine ⟨D, h, env, a, (SOk.bind (R := fun D _ => RepL Γ.K D) a.env o).mono fun us H' ⟨D1, v1, h1, e1, x1, r1, q1, o1⟩ => ?_⟩
  split at o1
  · obtain ⟨u, v, w, e2, ru, rv, rw'⟩ := q1.three
    refine ⟨u, v, w, e2, ?_⟩
    have q := o1 D1 _ (Ext.refl _) r1 ((((a.env.ext x1).set i ru).set j rv).set l rw')
    rw [e1] at q
    exact q
  · exact o1.elim
/-! x += e: numbers and texts -/
def esAug (i : Nat) (op : Op2) (f : EvE) : EvS := fun G env h => match env[i]? with
  | some (some x) => ((f G env h).bind fun y h1 => op x y h1).s env fun z h2 => .nx (env.set i (some z)) h2
  | _ => .bad
def IpS (op : Operator) (oo : Op2) : Prop := ∃ r : PySem.W.Frag → R2, (∀ X : Cx, OpR X (inplaceOp op) (r X.K)) ∧ OpS oo r
def iaddOp : Op2 := fun x y h => match x, y with
  | .int i, .int j => .ok (.int (i + j)) h
  | .str i, .str j => if i.length + j.length ≤ sizeLine then .ok (.str (i ++ j)) h else .bad
  | _, _ => .bad
theorem ips_add : IpS .Add iaddOp := by
  refine ⟨fun _ x y H Q => (∃ i j, x = .int i ∧ y = .int j ∧ Q (.int (i + j)) H) ∨ (∃ i j, x = .str i ∧ y = .str j ∧ i.length + j.length ≤ sizeLine ∧ Q (.str (i ++ j)) H), fun X => OpR.or iop_add iop_add_str, ?_⟩
  intro Γ D h x y u v Q Wx R rx ry o
  unfold iaddOp at o
  split at o
  · cases rx; cases ry; exact .inl ⟨_, _, rfl, rfl, fin (v := .int _) R rfl o⟩
  · cases rx; cases ry
    split at o
    · rename_i hz
      exact .inr ⟨_, _, rfl, rfl, hz, fin (v := .str _) R rfl o⟩
    · exact o.elim
  · exact o.elim
theorem ips_sub : IpS .Sub subOp := ⟨rSubA, fun X => iop_sub, so_sub⟩
theorem ss_aug {x : Str} {i : Nat} {op : Operator} {oo : Op2} {e : Expr} {f : EvE} {p pos : Pos} (ho : IpS op oo) (hN : L.N[i]? = some x) (hl : locB L x = true) (he : SE S L e f) : SS S L (.AugAssign (.Name x p) op e pos) (esAug i oo f) := by
  obtain ⟨r, h1, h2⟩ := ho
  intro Γ G k X W so c
  obtain ⟨hx1, hx2⟩ := loc_of c.toCtxP hl
  refine PS.weak (ps_aug (i := i) (x := x) (ti := r X.K) (by rw [c.hN]; exact c.nd) (by rw [c.hN]; exact hN) hx1 (he Γ G k X W so c.toCtxP) (h1 X) hx2) fun E σ H ⟨D, h, env, a, o⟩ => ?_
  unfold esAug at o
  split at o
  · rename_i v hv
    obtain ⟨u, eu, ru⟩ := a.env.2 i v hv
    refine ⟨u, eu, D, h, env, a, (OutOk.bind (R1 := fun D _ => Rep Γ.K D) (SOk.bind (R := fun D _ => Rep Γ.K D) a.env o)).mono fun w H' ⟨D1, v1, hh1, e1, x1, r1, q1, o1⟩ => ?_⟩
    rw [c.K, ← e1]
    refine h2 Γ D1 hh1 v v1 u w (fun z H2 => E.nx (σ.set i (some z)) H2) (fun c d H' => W c d σ H') r1 (Rep.ext x1 _ _ ru) q1 (o1.mono fun z H2 ⟨D2, v2, hh2, e2, x2, r2, q2, o2⟩ => ?_)
    have q := o2 D2 _ (Ext.refl _) r2 ((a.env.ext x2).set i q2)
    rw [e2] at q
    exact q
  · exact o.elim
/-! x[i] = e -/
def setOp (x y v : AV) (h : AH) : Out Unit := match x, y with
  | .ref n, .int i => match h[n]? with
    | some (.lst xs) => match ixN xs.length i with
      | some j => if pureA v = true then .ok () (h.set n (.lst (xs.set j v))) else .bad
      | none => .bad
    | _ => .bad
  | _, _ => .bad
def esSetIx (f g l : EvE) : EvS := fun G env h => (l G env h).s env fun v h1 => (f G env h1).s env fun x h2 => (g G env h2).s env fun y h3 => (setOp x y v h3).s env fun _ h4 => .nx env h4
theorem SOk.sbind {α β : Type} {Γ : Cfg} {D : Wd} {o : Out α} {env : Env1} {k : α → AH → SOut} {E : Ends} {W : WX} {R : Wd → AH → α → β → Prop} {σ : L2.St} (en : EnvR Γ.K D env σ) (h : SOk Γ D (o.s env k) E W) {Q : β → Hp → Prop} (q : ∀ (D' : Wd) (v : α) (h' : AH) (u : β), Ext D D' → Rel Γ.K D' h' → R D' h' v u → SOk Γ D' (k v h') E W → Q u D'.H) :
    OutOk Γ D o R Q (fun c d H' => W c d σ H') := (SOk.bind en h).mono fun u H' ⟨D', v, h', e, x, r, rr, o⟩ => by
  rw [← e]
  exact q D' v h' u x r rr o
theorem ss_setix {a b e : Expr} {f g l : EvE} {p pos : Pos} (ha : SE S L a f) (hb : SE S L b g) (he : SE S L e l) (hc : notComp e = true) (ht : notTup e = true) (hsl : notSlice b = true) : SS S L (.Assign [.Subscript a b p] e pos) (esSetIx f g l) := by
  intro Γ G k X W so c
  have hasg : ∀ v, assign (.Subscript a b p) X.env v = (do
      let ov ← holding [v] (eval a X.env)
      let iv ← holding [v, ov] (eval b X.env)
      standAt p
      holding [v, ov, iv] (setItem ov iv v)
      release [v, ov, iv] []) := by
    intro v
    cases b <;> first | rfl | cases hsl
  refine PS.weak (ps_asg (he Γ G k X W so c.toCtxP) (pg_sub (ha Γ G k X W so c.toCtxP) (hb Γ G k X W so c.toCtxP) (set_list (X := X)) hasg) (swaps_of (t := some (.Subscript a b p)) (l := pos.line) (env := X.env) hc : swapsWith e (some (Expr.Subscript a b p)) pos.line X.env = pure false) (swapped_none ht) rfl) fun E σ H ⟨D, h, env, a, o⟩ => ?_
  refine ⟨D, h, env, a, SOk.sbind (R := fun D _ => Rep Γ.K D) a.env o fun D1 v1 h1 u1 x1 r1 q1 o1 => ?_⟩
  refine ⟨D1, h1, env, ⟨rfl, r1, a.env.ext x1, a.ok.ext x1⟩, SOk.sbind (R := fun D _ => Rep Γ.K D) (a.env.ext x1) o1 fun D2 v2 h2 u2 x2 r2 q2 o2 => ?_⟩
  refine ⟨D2, h2, env, ⟨rfl, r2, (a.env.ext x1).ext x2, (a.ok.ext x1).ext x2⟩, SOk.sbind (R := fun D _ => Rep Γ.K D) ((a.env.ext x1).ext x2) o2 fun D3 v3 h3 u3 x3 r3 q3 o3 => ?_⟩
  have en3 := ((a.env.ext x1).ext x2).ext x3
  have q2' := Rep.ext x3 _ _ q2
  have q1' := Rep.ext x3 _ _ (Rep.ext x2 _ _ q1)
  unfold setOp at o3
  cases v2 with
  | ref n =>
    cases v3 with
    | int i =>
      simp only at o3
      split at o3
      · rename_i xs hcell
        split at o3
        · rename_i j hj
          split at o3
          · rename_i hpu
            obtain ⟨b, e2, e3, us, t, q⟩ := ref_lst r3 q2' hcell
            subst e2
            have e4 : u3 = .int i := q3
            subst e4
            refine ⟨b, us, i, j, rfl, rfl, t, by rw [q.length]; exact hj, ?_⟩
            have hx := Ext.wr r3 e3 (.lst (us.set j u1))
            exact o3 (D3.wr b (.lst (us.set j u1))) σ hx (Rel.wr r3 e3 ⟨_, upd_same, RepL.set (Rep.ext hx _ _ q1') j (RepL.ext hx _ _ q)⟩ (pureL_set (r3.pure _ (List.mem_of_getElem? hcell)) hpu)) (en3.ext hx)
          · exact o3.elim
        · exact o3.elim
      · exact o3.elim
    | _ => exact o3.elim
  | _ => cases v3 <;> exact o3.elim
/-! xs.append(e) -/
def sAppend : Str := "append"
def appOp (x v : AV) (h : AH) : Out AV := match x with
  | .ref n => match h[n]? with
    | some (.lst xs) => if pureA v = true ∧ xs.length < 100000 then .ok .non (h.set n (.lst (xs ++ [v]))) else .bad
    | _ => .bad
  | _ => .bad
def evApp (f g : EvE) : EvE := fun G env h => (f G env h).bind fun x h1 => match x with
  | .ref n => match h1[n]? with
    | some (.lst _) => (g G env h1).bind fun v h2 => appOp (.ref n) v h2
    | _ => .bad
  | _ => .bad
theorem se_append {m : Str} {a e : Expr} {f g : EvE} {p pos : Pos} (hm : m = sAppend) (ha : SE S L a f) (he : SE S L e g) (hb : baseOk a = true) (hs : notStar e = true) (hl : (p.endLine == pos.line) = true) : SE S L (.Call (.Attribute a m p) [e] [] pos) (evApp f g) := by
  subst hm
  intro Γ G k X W so c
  have few : ((backTo pos (starEach [e] X.env)).all (fun x => !x.1) && (backToKw pos (keywordEach [] X.env)).all (fun x => x.1.isSome)
      && decide (([e]).length + ([] : List Keyword).length + (if ([] : List Keyword).isEmpty then 0 else 1) < 30)) = true := by
    rw [starEach_cons hs]; rfl
  refine PE.weak (pe_bm PySem.F.plainAttrs_list PySem.F.slot_list_append PySem.F.type_list_append mt_append (ha Γ G k X W so c) (pa_cons (he Γ G k X W so c) pa_nil (starEach_cons hs)) (base_of hb) few hl (starEach_cons hs)) fun σ H Q ⟨D, h, env, a, o⟩ => ?_
  refine ⟨D, h, env, a, (OutOk.bind (R1 := fun D _ => Rep Γ.K D) o).mono fun u H' ⟨D1, v1, h1, e1, x1, r1, q1, o1⟩ => ?_⟩
  split at o1
  · rename_i n
    split at o1
    · rename_i xs hcell
      obtain ⟨b, e2, e3, us, t, q⟩ := ref_lst r1 q1 hcell
      subst e2
      have ty : tyV X.K "list" (.ref b) H' := .inl ⟨rfl, us, SqL.of (by rw [← e1]; exact t)⟩
      refine ⟨ty, D1, h1, env, a.next e1 x1 r1, (OutOk.bind (R1 := fun D _ => Rep Γ.K D) o1).mono fun v H2 ⟨D2, v2, h2, e4, x2, r2, q2, o2⟩ => ?_⟩
      unfold appOp at o2
      simp only at o2
      split at o2
      · rename_i ys hcell2
        split at o2
        · rename_i hp
          obtain ⟨ws, t2, q3⟩ := r2.cell n _ b hcell2 (x2.get e3)
          have hx := Ext.wr r2 (x2.get e3) (.lst (ws ++ [v]))
          have lt : ws.length < sizeLine := by
            rw [q3.length, sizeLine_eq]
            omega
          rw [← e4]
          refine ⟨b, ws, v, rfl, rfl, t2, lt, ?_⟩
          exact o2 (D2.wr b (.lst (ws ++ [v]))) .non hx (Rel.wr r2 (x2.get e3) ⟨_, upd_same, RepL.append (RepL.ext hx _ _ q3) (RepL.cons (Rep.ext hx _ _ q2) rfl)⟩ (pureL_append.mpr ⟨r2.pure _ (List.mem_of_getElem? hcell2), pureL_cons.mpr ⟨hp.1, rfl⟩⟩)) rfl
        · exact o2.elim
      · exact o2.elim
    · exact o1.elim
  · exact o1.elim

/-! ### loops -/
def wfuel : Nat := 2 ^ 200
def whileL (t : EvT) (b : EvS) (G : GT) : Nat → Env1 → AH → SOut
  | 0, _, _ => .bad
  | n + 1, env, h => match t G env h with
    | .ok true h1 => match b G env h1 with
      | .nx env' h' => whileL t b G n env' h'
      | .ct env' h' => whileL t b G n env' h'
      | .brk env' h' => .nx env' h'
      | r => r
    | .ok false h1 => .nx env h1
    | .exc e h1 => .exc e env h1
    | .bad => .bad
def esWhile (t : EvT) (b : EvS) : EvS := fun G env h => whileL t b G wfuel env h
theorem ss_while {e : Expr} {t : EvT} {bs : List Stmt} {b : EvS} {pos : Pos} (ht : ST S L e t) (hb : SSs S L bs b) : SS S L (.While e bs [] pos) (esWhile t b) := by
  intro Γ G k X W so c
  refine PS.weak (ps_while c.pass (ht Γ G k X W so c.toCtxP) (hb Γ G k X W so c)) fun E σ H ⟨D, h, env, a, o⟩ => ?_
  refine ⟨fun n σ H => ∃ (D : Wd) (h : AH) (env : Env1), At Γ D h env σ H ∧ SOk Γ D (whileL t b G n env h) E W, ⟨wfuel, D, h, env, a, o⟩, fun n σ H ⟨D, h, env, a, o⟩ => ?_⟩
  cases n with
  | zero => exact o.elim
  | succ n =>
    refine ⟨D, h, env, a, ?_⟩
    unfold whileL at o
    cases et : t G env h with
    | ok v h1 =>
      rw [et] at o
      cases v with
      | true =>
        intro D' u x' r' eu
        subst eu
        rw [if_pos rfl]
        refine ⟨fun σ' H' => ∃ (D : Wd) (h : AH) (env : Env1), At Γ D h env σ' H' ∧ SOk Γ D (whileL t b G n env h) E W, fun σ' H' w => ⟨n, Nat.lt_succ_self n, w⟩, D', h1, env, ⟨rfl, r', a.env.ext x', a.ok.ext x'⟩, ?_⟩
        cases eb : b G env h1 with
        | nx env' h' => simp only [eb] at o; exact fun D2 σ2 x2 r2 en2 => ⟨D2, h', env', ⟨rfl, r2, en2, (a.ok.ext x').ext x2⟩, SOk.ext (x'.trans x2) o⟩
        | ct env' h' => simp only [eb] at o; exact fun D2 σ2 x2 r2 en2 => ⟨D2, h', env', ⟨rfl, r2, en2, (a.ok.ext x').ext x2⟩, SOk.ext (x'.trans x2) o⟩
        | brk env' h' => simp only [eb] at o; exact fun D2 σ2 x2 r2 en2 => o D2 σ2 (x'.trans x2) r2 en2
        | ret v h' => simp only [eb] at o; exact fun D2 σ2 x2 r2 en2 => o D2 σ2 (x'.trans x2) r2 en2
        | exc e' env' h' => simp only [eb] at o; exact fun D2 σ2 cl d x2 r2 en2 q => o D2 σ2 cl d (x'.trans x2) r2 en2 q
        | bad => simp only [eb] at o; exact o.elim
      | false =>
        intro D' u x' r' eu
        subst eu
        rw [if_neg Bool.false_ne_true]
        exact o D' σ x' r' (a.env.ext x')
    | exc e' h1 =>
      rw [et] at o
      exact fun D' cl d x' r' q => o D' σ cl d x' r' (a.env.ext x') q
    | bad => rw [et] at o; exact o
def forL (src : Src) (tg : Tg) (b : EvS) (G : GT) : Nat → Nat → Env1 → AH → SOut
  | fuel, i, env, h => match srcAt src h i with
    | none => .bad
    | some none => .nx env h
    | some (some v) => match fuel with
      | 0 => .bad
      | fuel + 1 => match setTg tg v env with
        | none => .bad
        | some env1 => match b G env1 h with
          | .nx env' h' => forL src tg b G fuel (i + 1) env' h'
          | .ct env' h' => forL src tg b G fuel (i + 1) env' h'
          | .brk env' h' => .nx env' h'
          | r => r
def esFor (s : EvI) (tg : Tg) (b : EvS) : EvS := fun G env h => (s G env h).s env fun src h1 => forL src tg b G (srcLen src h1) 0 env h1
theorem ss_for {tg e : Expr} {s : EvI} {t : Tg} {bs : List Stmt} {b : EvS} {pos : Pos} (hs : SI S L tg e s) (hg : SG L tg t) (hb : SSs S L bs b) (hn : notSet e = true) (hh : L.hot = false) : SS S L (.For tg e bs [] pos) (esFor s t b) := by
  intro Γ G k X W so c
  refine PS.weak (ps_for c.pass (c.calm hh) (hs Γ G k X W so c.toCtxP) (hg Γ k X W c.toCtxP) (hb Γ G k X W so c) (folded_of hn)) fun E σ H ⟨D, h, env, a, o⟩ => ?_
  refine ⟨D, h, env, a, SOk.sbind (R := fun D _ src J => ItS Γ D src J) a.env o fun D1 src h1 J x1 r1 its o1 => ?_⟩
  refine ⟨fun i n σ H => ∃ (D : Wd) (h : AH) (env : Env1), At Γ D h env σ H ∧ Ext D1 D ∧ SOk Γ D (forL src t b G n i env h) E W, ⟨srcLen src h1, D1, h1, env, ⟨rfl, r1, a.env.ext x1, a.ok.ext x1⟩, Ext.refl _, o1⟩, fun i n σ H ⟨D2, h2, env2, a2, x2, o2⟩ => ?_⟩
  have it := its D2 h2 i x2 a2.rel
  unfold forL at o2
  split at o2
  · exact o2.elim
  · rename_i hsrc
    rw [hsrc] at it
    left
    have q := o2 D2 σ (Ext.refl _) a2.rel a2.env
    rw [a2.hp] at q it
    exact ⟨it, q⟩
  · rename_i v hsrc
    rw [hsrc] at it
    cases n with
    | zero => exact o2.elim
    | succ n =>
      simp only at o2
      obtain ⟨go, yl⟩ := it
      right
      refine ⟨by rw [← a2.hp]; exact go, fun σ' H' => ∃ (D : Wd) (h : AH) (env : Env1), At Γ D h env σ' H' ∧ Ext D1 D ∧ SOk Γ D (forL src t b G n (i + 1) env h) E W, fun σ' H' w => ⟨n, Nat.lt_succ_self n, w⟩, fun x H' y => ?_⟩
      rw [← a2.hp] at y
      obtain ⟨D3, e3, x3, r3, q3⟩ := yl x H' y
      subst e3
      split at o2
      · exact o2.elim
      · rename_i env1 he
        rw [c.K]
        refine gTg_of q3 (a2.env.ext x3) he fun σ' en' _ => ⟨D3, h2, env1, ⟨rfl, r3, en', a2.ok.ext x3⟩, ?_⟩
        cases eb : b G env1 h2 with
        | nx env' h' => simp only [eb] at o2; exact fun D4 σ4 x4 r4 en4 => ⟨D4, h', env', ⟨rfl, r4, en4, (a2.ok.ext x3).ext x4⟩, (x2.trans x3).trans x4, SOk.ext (x3.trans x4) o2⟩
        | ct env' h' => simp only [eb] at o2; exact fun D4 σ4 x4 r4 en4 => ⟨D4, h', env', ⟨rfl, r4, en4, (a2.ok.ext x3).ext x4⟩, (x2.trans x3).trans x4, SOk.ext (x3.trans x4) o2⟩
        | brk env' h' => simp only [eb] at o2; exact fun D4 σ4 x4 r4 en4 => o2 D4 σ4 (x3.trans x4) r4 en4
        | ret v h' => simp only [eb] at o2; exact fun D4 σ4 x4 r4 en4 => o2 D4 σ4 (x3.trans x4) r4 en4
        | exc e' env' h' => simp only [eb] at o2; exact fun D4 σ4 cl d x4 r4 en4 q => o2 D4 σ4 cl d (x3.trans x4) r4 en4 q
        | bad => simp only [eb] at o2; exact o2.elim
end
end Pv
end
section
set_option Elab.async false
set_option linter.all false
set_option maxRecDepth 100000
set_option autoImplicit false
namespace Pv
open PySem PySem.Spec PyProof.Rows L2
section
variable {S : Stat} {L : Lc}
/-! ### comprehensions -/
def wipeE (env : Env1) : List Nat → Env1
  | [] => env
  | v :: vs => (wipeE env vs).set v none
def lcL (src : Src) (tg : Tg) (tt : EvT) (te : EvE) (G : GT) (n0 : Nat) (env : Env1) : Nat → Nat → AH → Out Unit
  | fuel, i, h => match srcAt src h i with
    | none => .bad
    | some none => .ok () h
    | some (some v) => match fuel with
      | 0 => .bad
      | fuel + 1 => match setTg tg v env with
        | none => .bad
        | some env1 => match tt G env1 h with
          | .ok true h1 => match te G env1 h1 with
            | .ok y h2 => match h2[n0]? with
              | some (.lst acc) => if pureA y = true ∧ acc.length < 100000 then lcL src tg tt te G n0 env fuel (i + 1) (h2.set n0 (.lst (acc ++ [y]))) else .bad
              | _ => .bad
            | _ => .bad
          | .ok false h1 => lcL src tg tt te G n0 env fuel (i + 1) h1
          | _ => .bad
def lcFin (cell : Bool) (n0 : Nat) (h : AH) : Out AV := if cell = true then .ok (.ref n0) h else
  if h.length = n0 + 1 then match h[n0]? with
    | some (.lst acc) => .ok (.lst acc) (h.take n0)
    | _ => .bad else .bad
def evLc (cell : Bool) (s : EvI) (tg : Tg) (tt : EvT) (te : EvE) (own : List Nat) : EvE := fun G env h => (s G env h).bind fun src h1 =>
  (lcL src tg tt te G h1.length (wipeE env own) (srcLen src h1) 0 (h1 ++ [.lst []])).bind fun _ h2 => lcFin cell h1.length h2
theorem wipeE_len (env : Env1) : ∀ vs, (wipeE env vs).length = env.length
  | [] => rfl
  | v :: vs => by unfold wipeE; rw [List.length_set, wipeE_len env vs]
theorem EnvR.none {K : PySem.W.Frag} {D : Wd} {env : Env1} {σ : L2.St} (h : EnvR K D env σ) (i : Nat) : EnvR K D (env.set i none) (σ.set i none) := by
  refine ⟨by simp [h.1], fun j w e => ?_⟩
  by_cases hj : i = j
  · subst hj
    by_cases hi : i < env.length
    · rw [List.getElem?_set_self hi] at e
      cases e
    · rw [List.getElem?_eq_none (by simpa using hi)] at e
      cases e
  · rw [List.getElem?_set_ne hj] at e
    obtain ⟨u', e', r'⟩ := h.2 j w e
    exact ⟨u', by rw [List.getElem?_set_ne hj]; exact e', r'⟩
theorem EnvR.wipe {K : PySem.W.Frag} {D : Wd} {env : Env1} {σ : L2.St} (h : EnvR K D env σ) : ∀ vs, EnvR K D (wipeE env vs) (wipe σ vs)
  | [] => h
  | v :: vs => (EnvR.wipe h vs).none v
def blkL (L : Lc) (scope : Scope) : Lc := ⟨L.N, relS scope L.sc, L.hot, fun x => scope.names.lookup x == some .cell, false, false⟩
theorem relabel_eq (scope : Scope) (env : Env) : relabel scope env = relS scope env.scope := rfl
theorem ctx_blk {Γ : Cfg} {k : Nat} {X : Cx} {W : WX} (c : CtxP Γ k L X W) (scope : Scope) (s : Shared) (H : Hp) (C : Addr) (cl : List (Str × Addr)) (fp : List Addr) : CtxP Γ k (blkL L scope) (X.blk s H scope (compEnvC scope cl C X.env) fp) (fun _ _ _ _ => False)  where
  prog := c.prog
  w := c.w
  K := c.K
  mg := c.mg
  base := c.base
  hN := c.hN
  nd := c.nd
  sc := by
    show relabel scope X.env = relS scope L.sc
    rw [relabel_eq, c.sc]
  cells := fun x h => h
  room := c.room
  grd := c.grd
  un := c.un
  calm := c.calm
  takes := L2.takes0
  xn := c.xn
  lam := fun z => Bool.noConfusion z
  exc := fun z => Bool.noConfusion z
def evTs (t : Option EvT) : EvT := match t with
  | some t => t
  | none => fun _ _ h => .ok true h
def STs (S : Stat) (L : Lc) (es : List Expr) (f : EvT) : Prop := ∀ (Γ : Cfg) (G : GT) (k : Nat) (X : Cx) (W : WX), StatOk Γ S G k → CtxP Γ k L X W → PTs X es (tTv Γ W (f G))
theorem PTs.weak {X : Cx} {e : List Expr} {t t' : TT} (h : PTs X e t) (q : ∀ σ H Q, t' σ H Q → t σ H Q) : PTs X e t' := ⟨fun pins s σ H Q I hw => h.run pins s σ H Q I (q σ H Q hw)⟩
def etYes : EvT := fun _ _ h => .ok true h
theorem sts_nil : STs S L [] etYes := fun Γ G k X W so c => PTs.weak pts_nil fun σ H Q ⟨D, h, env, a, o⟩ => by
  have q := finB a.rel o
  rw [a.hp] at q
  exact q
theorem sts_one {e : Expr} {f : EvT} (h : ST S L e f) : STs S L [e] f := fun Γ G k X W so c => pts_one (h Γ G k X W so c)
theorem prefix_eq {α : Type} {a b : List α} (h : a <+: b) (e : b.length = a.length) : b = a := by
  obtain ⟨r, e'⟩ := h
  subst e'
  simp at e
  rw [e, List.append_nil]
theorem lc_of {Γ : Cfg} {G : GT} {W : WX} {cell : Bool} {s : EvI} {tg : Tg} {tt : EvT} {te : EvE} {own : List Nat} (hown : ∀ i ∈ tg.slots, i ∈ own) (σ : L2.St) (H : Hp) (Q : VK) (o : tEv Γ W (evLc cell s tg tt te own G) σ H Q) :
    tLc (tIv Γ W (s G)) (gTg Γ.K tg) (tTv Γ (fun _ _ _ _ => False) (tt G)) (tEv Γ (fun _ _ _ _ => False) (te G)) own σ H Q := by
  obtain ⟨D, h, env, a, o⟩ := o
  refine ⟨D, h, env, a, (OutOk.bind (R1 := fun D _ src J => ItS Γ D src J) o).mono fun J H' ⟨D1, src, h1, e1, x1, r1, its, o1⟩ => ?_⟩
  subst e1
  intro p hp
  have xc := Ext.cel r1 hp (.lst [])
  have rc : Rel Γ.K (D1.cel p (.lst [])) (h1 ++ [.lst []]) := Rel.cel r1 hp ⟨[], upd_same, rfl⟩ rfl
  have atp : (D1.cel p (.lst [])).m[h1.length]? = some p := by
    show (D1.m ++ [p])[h1.length]? = some p
    rw [← r1.len]
    simp
  have en1 := a.env.ext x1
  refine ⟨fun i n H => ∃ (Dw : Wd) (hw : AH), Dw.H = H ∧ Rel Γ.K Dw hw ∧ Ext (D1.cel p (.lst [])) Dw ∧ OutOk Γ D1 ((lcL src tg tt te G h1.length (wipeE env own) n i hw).bind fun _ h2 => lcFin cell h1.length h2) (fun D _ => Rep Γ.K D) Q (fun c d H' => W c d σ H'),
    ⟨srcLen src h1, D1.cel p (.lst []), _, rfl, rc, Ext.refl _, o1⟩, fun i n H ⟨Dw, hw, eH, rw', xw, ow⟩ => ?_⟩
  subst eH
  have it := its Dw hw i (xc.trans xw) rw'
  have wp : Dw.m[h1.length]? = some p := xw.get atp
  unfold lcL at ow
  split at ow
  · exact ow.elim
  · rename_i hsrc
    rw [hsrc] at it
    refine .inl ⟨it, ?_⟩
    have ow : OutOk Γ D1 (lcFin cell h1.length hw) (fun D _ => Rep Γ.K D) Q (fun c d H' => W c d σ H') := ow
    unfold lcFin at ow
    split at ow
    · exact ow Dw (.ref p) (xc.trans xw) rw' ⟨p, rfl, wp⟩
    · split at ow
      · rename_i hlen
        split at ow
        · rename_i acc hacc
          obtain ⟨us, t, q⟩ := rw'.cell _ _ p hacc wp
          have rf := Rel.freeze rw' wp (Nat.le_refl _)
          have hm : Dw.m = D1.m ++ [p] := prefix_eq xw.m (by rw [rw'.len, hlen]; show h1.length + 1 = (D1.m ++ [p]).length; simp [r1.len])
          refine ow { Dw with F := fun b => Dw.F b ∨ b = p, m := Dw.m.take h1.length } (.ref p) ⟨fun b f => ⟨.inl ((xc.trans xw).fz b f).1, ((xc.trans xw).fz b f).2⟩, ?_, (xc.trans xw).c⟩ rf ⟨p, us, rfl, ⟨.inr rfl, t⟩, RepL.pure (D := Dw) (D' := { Dw with F := fun b => Dw.F b ∨ b = p, m := Dw.m.take h1.length }) (fun b f => ⟨Or.inl f, rfl⟩) _ _ (rw'.pure _ (List.mem_of_getElem? hacc)) q⟩
          show D1.m <+: Dw.m.take h1.length
          rw [hm, ← r1.len, List.take_left']
          · exact List.prefix_refl _
          · rfl
        · exact ow.elim
      · exact ow.elim
  · rename_i v hsrc
    rw [hsrc] at it
    obtain ⟨go, yl⟩ := it
    cases n with
    | zero => exact ow.elim
    | succ n =>
      simp only at ow
      refine .inr ⟨go, fun H => ∃ (Dw : Wd) (hw : AH), Dw.H = H ∧ Rel Γ.K Dw hw ∧ Ext (D1.cel p (.lst [])) Dw ∧ OutOk Γ D1 ((lcL src tg tt te G h1.length (wipeE env own) n (i + 1) hw).bind fun _ h2 => lcFin cell h1.length h2) (fun D _ => Rep Γ.K D) Q (fun c d H' => W c d σ H'), fun H' w => ⟨n, Nat.lt_succ_self n, w⟩, fun x H' y => ?_⟩
      obtain ⟨D3, e3, x3, r3, q3⟩ := yl x H' y
      subst e3
      cases hset : setTg tg v (wipeE env own) with
      | none => rw [hset] at ow; exact ow.elim
      | some env1 =>
        rw [hset] at ow
        simp only at ow
        have enw : EnvR Γ.K D3 (wipeE env own) (wipe σ own) := ((en1.wipe own).ext ((xc.trans xw).trans x3))
        refine gTg_of q3 enw hset fun σ' en' sb => ⟨SetBy.wipe sb hown, D3, hw, env1, ⟨rfl, r3, en', a.ok.ext (x1.trans ((xc.trans xw).trans x3))⟩, ?_⟩
        cases et : tt G env1 hw with
        | ok b h2 =>
          rw [et] at ow
          intro D4 u x4 r4 eb
          subst eb
          cases b with
          | true =>
            rw [if_pos rfl]
            refine ⟨D4, h2, env1, ⟨rfl, r4, en'.ext x4, a.ok.ext ((x1.trans ((xc.trans xw).trans x3)).trans x4)⟩, ?_⟩
            simp only at ow
            cases ee : te G env1 h2 with
            | ok z h3 =>
              rw [ee] at ow
              intro D5 w x5 r5 rz
              simp only at ow
              split at ow
              · rename_i acc hacc
                split at ow
                · rename_i hz
                  have w5 : D5.m[h1.length]? = some p := (((xw.trans x3).trans x4).trans x5).get atp
                  obtain ⟨us, t, q⟩ := r5.cell _ _ p hacc w5
                  have hx := Ext.wr r5 w5 (.lst (us ++ [w]))
                  refine ⟨us, t, by rw [q.length, sizeLine_eq]; omega, D5.wr p (.lst (us ++ [w])), _, rfl, Rel.wr (c := .lst (acc ++ [z])) r5 w5 ⟨_, upd_same, RepL.append (RepL.ext hx _ _ q) (RepL.cons (Rep.ext hx _ _ rz) rfl)⟩ (pureL_append.mpr ⟨r5.pure _ (List.mem_of_getElem? hacc), pureL_cons.mpr ⟨hz.1, rfl⟩⟩), ((((xw.trans x3).trans x4).trans x5).trans hx), ow⟩
                · exact ow.elim
              · exact ow.elim
            | exc e h3 => rw [ee] at ow; exact ow.elim
            | bad => rw [ee] at ow; exact ow.elim
          | false =>
            rw [if_neg Bool.false_ne_true]
            exact ⟨D4, h2, rfl, r4, (xw.trans x3).trans x4, ow⟩
        | exc e h2 => rw [et] at ow; exact ow.elim
        | bad => rw [et] at ow; exact ow.elim
theorem lc_mono {wi : TI} {g g' : TG} {tt : TT} {te : TE} {vs : List Nat} {σ : L2.St} {H : Hp} {Q : VK} (h : tLc wi g tt te vs σ H Q) (hg : g = g') : tLc wi g' tt te vs σ H Q := by rw [← hg]; exact h
theorem se_lc {cell : Bool} {elt tg e : Expr} {ifs : List Expr} {scope : Scope} {own : List (Str × Nat)} {s : EvI} {t : Tg} {tt : EvT} {te : EvE} {pos : Pos} (hs : SI S L tg e s) (hb : blkC L.N L.sc scope own = true) (hg : SG (blkL L scope) tg t) (ht : STs S (blkL L scope) ifs tt) (he : SE S (blkL L scope) elt te)
    (hn : notSet e = true) (hh : L.hot = false) (hown : ∀ i ∈ t.slots, i ∈ own.map (·.2)) : SE S L (.ListComp elt [⟨tg, e, ifs, 0⟩] scope pos) (evLc cell s t tt te (own.map (·.2))) := by
  intro Γ G k X W so c
  refine PE.weak (pe_lc (own := own) (g := gTg X.K t) (c.calm hh) (by rw [c.hN]; exact c.nd) (hs Γ G k X W so c) (by rw [c.hN, c.sc]; exact blkOk_by hb) (fun s' H' C cl fp => hg Γ k _ _ (ctx_blk c scope s' H' C cl fp)) (fun s' H' C cl fp => ht Γ G k _ _ so (ctx_blk c scope s' H' C cl fp)) (fun s' H' C cl fp => he Γ G k _ _ so (ctx_blk c scope s' H' C cl fp)) (folded_of hn)) fun σ H Q o => ?_
  exact lc_mono (lc_of hown σ H Q o) (by rw [← c.K])
theorem ss_setLc {cell : Bool} {x : Str} {i : Nat} {elt tg e : Expr} {ifs : List Expr} {scope : Scope} {own : List (Str × Nat)} {s : EvI} {t : Tg} {tt : EvT} {te : EvE} {py pos spos : Pos} (hs : SI S L tg e s) (hb : blkC L.N L.sc scope own = true) (hg : SG (blkL L scope) tg t) (ht : STs S (blkL L scope) ifs tt) (he : SE S (blkL L scope) elt te)
    (hn : notSet e = true) (hh : L.hot = false) (hown : ∀ i ∈ t.slots, i ∈ own.map (·.2)) (hN : L.N[i]? = some x) (hx : locOnly L x = true) (hk : kindB L.sc = true) (hl : (py.line == pos.line) = true) (ha : (scope.names.any fun (n, k) => n == x && (k == .local || k == .cell)) = false) :
    SS S L (.Assign [.Name x py] (.ListComp elt [⟨tg, e, ifs, 0⟩] scope pos) spos) (esSet (.nm i) (evLc cell s t tt te (own.map (·.2)))) := by
  intro Γ G k X W so c
  have c' := c.toCtxP
  have hx' : X.env.scope.names.lookup x = some .local := by rw [c.sc]; exact of_decide_eq_true hx
  refine PS.weak (ps_setLc (i := i) (own := own) (g := gTg X.K t) (c.calm hh) (by rw [c.hN]; exact c.nd) (by rw [c.hN]; exact hN) hx' (sw_true (by rw [c.sc]; exact of_decide_eq_true hk) hx' hl ha) (hs Γ G k X W so c') (by rw [c.hN, c.sc]; exact blkOk_by hb) (fun s' H' C cl fp => hg Γ k _ _ (ctx_blk c' scope s' H' C cl fp)) (fun s' H' C cl fp => ht Γ G k _ _ so (ctx_blk c' scope s' H' C cl fp)) (fun s' H' C cl fp => he Γ G k _ _ so (ctx_blk c' scope s' H' C cl fp)) (folded_of hn)) fun E σ H o => ?_
  have q := asg_of E σ H o
  exact lc_mono (lc_of hown σ H _ q) (by rw [← c.K])
end
end Pv
end
section
set_option Elab.async false
set_option linter.all false
set_option maxRecDepth 100000
set_option autoImplicit false
namespace Pv
open PySem PySem.Spec PyProof.Rows L2
section
variable {S : Stat} {L : Lc}
def esBad : EvS := fun _ _ _ => .bad
theorem ss_bad {st : Stmt} : SS S L st esBad := fun Γ G k X W so c => PS.weak ps_never fun E σ H ⟨D, h, env, a, o⟩ => o.elim
def evBad : EvE := fun _ _ _ => .bad
theorem pe_never {X : Cx} {e : Expr} : PE X e (fun _ _ _ => False) := ⟨fun _ _ _ _ _ _ h => h.elim⟩
theorem se_bad {e : Expr} : SE S L e evBad := fun Γ G k X W so c => PE.weak pe_never fun σ H Q ⟨D, h, env, a, o⟩ => o.elim

def evDict0 : EvE := fun _ _ h => .ok (.dct [] []) h
theorem se_dict0 {pos : Pos} : SE S L (.Dict [] [] pos) evDict0 := fun Γ G k X W so c => PE.weak pe_dnewK fun σ H Q ⟨D, h, env, a, o⟩ => by
  intro p hp
  rw [← a.hp] at hp ⊢
  exact o (D.frz p (.dK [])) (.ref p) (Ext.frz a.rel hp _) (Rel.frz a.rel hp _) ⟨p, [], rfl, ⟨.inr rfl, upd_same⟩, rfl, rfl⟩

/-! ### a def -/
def finD (rc : Bool) (n0 : Nat) (v : AV) (h : AH) : Out AV := match v with
  | .ref n => if n < n0 then .ok v (h.take n0) else match h[n]? with
    | some (.lst xs) => if rc = true then .ok (.ref n0) (h.take n0 ++ [.lst xs]) else .ok (.lst xs) (h.take n0)
    | some (.mat lo k) => if n0 ≤ lo then match matF h lo k with
      | some ys => .ok (.lst ys) (h.take n0)
      | none => .bad else .bad
    | _ => .bad
  | v => if pureA v = true then .ok v (h.take n0) else .bad
def closeD (rc : Bool) (n0 : Nat) (o : SOut) : Out AV := match o with
  | .ret v h' => finD rc n0 v h'
  | .nx _ h' => .ok .non (h'.take n0)
  | .exc e _ h' => match e.val with
    | none => .exc e (h'.take n0)
    | some v => if pureA v = true then .exc e (h'.take n0) else .bad
  | _ => .bad
def runDef (rc : Bool) (n : Nat) (b : EvS) (G : GT) : List AV → AH → Out AV := fun args h => closeD rc h.length (b G (args.map some ++ List.replicate (n - args.length) none) h)
theorem prefix_take {α : Type} {a b : List α} (h : a <+: b) : b.take a.length = a := by
  obtain ⟨r, e⟩ := h
  rw [← e, List.take_left']
  rfl
theorem back {Γ : Cfg} {D D' : Wd} {h h' : AH} (R : Rel Γ.K D h) (x : Ext D D') (R' : Rel Γ.K D' h') : Ext D { D' with m := D'.m.take h.length } ∧ Rel Γ.K { D' with m := D'.m.take h.length } (h'.take h.length) := by
  refine ⟨⟨x.fz, ?_, x.c⟩, R'.cut _⟩
  show D.m <+: D'.m.take h.length
  rw [← R.len, prefix_take x.m]
  exact List.prefix_refl _
theorem finD_of {Γ : Cfg} {rc : Bool} {D D' : Wd} {h h' : AH} {v : AV} {u : V} {Q : VK} {E : XK} (R : Rel Γ.K D h) (x : Ext D D') (R' : Rel Γ.K D' h') (r : Rep Γ.K D' v u) (o : OutOk Γ D (finD rc h.length v h') (fun D _ => Rep Γ.K D) Q E) : Q u D'.H := by
  obtain ⟨x2, R2⟩ := back R x R'
  have go : pureA v = true → OutOk Γ D (.ok v (h'.take h.length)) (fun D _ => Rep Γ.K D) Q E → Q u D'.H := fun p o => o { D' with m := D'.m.take h.length } u x2 R2 (Rep.pure (D := D') (D' := { D' with m := D'.m.take h.length }) (fun _ f => ⟨f, rfl⟩) v u p r)
  unfold finD at o
  split at o
  · rename_i n
    split at o
    · rename_i hn
      obtain ⟨a, e, g⟩ := r
      refine o { D' with m := D'.m.take h.length } u x2 R2 ⟨a, e, ?_⟩
      show (D'.m.take h.length)[n]? = some a
      rw [List.getElem?_take_of_lt hn]
      exact g
    · rename_i hn
      split at o
      · rename_i xs hc
        obtain ⟨a, e, g, us, t, q⟩ := ref_lst R' r hc
        subst e
        have pu := R'.pure _ (List.mem_of_getElem? hc)
        split at o
        · refine o { D' with m := D'.m.take h.length ++ [a] } (.ref a) ⟨x.fz, ?_, x.c⟩ ?_ ⟨a, rfl, ?_⟩
          · show D.m <+: D'.m.take h.length ++ [a]
            rw [← R.len, prefix_take x.m]
            exact ⟨[a], rfl⟩
          · have lt : (D'.m.take h.length).length = (h'.take h.length).length := R2.len
            refine ⟨by show (D'.m.take h.length ++ [a]).length = _; simp only [List.length_append, List.length_singleton, lt], ?_, fun i c b e1 e2 => ?_, R'.fz, fun b hb => ?_, fun c hcm => ?_, R'.tab, fun i lo k e => ?_⟩
            · show (D'.m.take h.length ++ [a]).Nodup
              rw [List.nodup_append]
              refine ⟨R2.nd, by simp, fun y hy z hz => ?_⟩
              have ez : z = a := by simpa using hz
              subst ez
              intro ey
              subst ey
              obtain ⟨i, hi⟩ := List.getElem?_of_mem hy
              have hij : i < h.length := by
                have := (List.getElem?_eq_some_iff.mp hi).1
                simp only [List.length_take] at this
                omega
              rw [List.getElem?_take_of_lt hij] at hi
              have := Rel.wr.nodup_ix' R'.nd hi g
              omega
            · have e2 : (D'.m.take h.length ++ [a])[i]? = some b := e2
              by_cases hi : i < (h'.take h.length).length
              · rw [List.getElem?_append_left hi] at e1
                rw [List.getElem?_append_left (by rw [lt]; exact hi)] at e2
                refine (R2.cell i c b e1 e2).pure (R2.pure c (List.mem_of_getElem? e1)) (fun b f => ⟨f, rfl⟩) rfl rfl fun lo k ec j hj => ?_
                subst ec
                have := R2.mt i lo k e1
                show (D'.m.take h.length ++ [a])[lo + j]? = (D'.m.take h.length)[lo + j]?
                exact List.getElem?_append_left (by rw [lt]; omega)
              · rw [List.getElem?_append_right (by omega)] at e1
                rw [List.getElem?_append_right (by rw [lt]; omega), lt] at e2
                have e0 : i - (h'.take h.length).length = 0 := by
                  have := (List.getElem?_eq_some_iff.mp e1).1
                  simp only [List.length_singleton] at this
                  omega
                rw [e0] at e1 e2
                have e3 : Cell.lst xs = c := by simpa using e1
                have e4 : a = b := by simpa using e2
                subst e3; subst e4
                exact ⟨us, t, RepL.pure (D := D') (D' := { D' with m := D'.m.take h.length ++ [a] }) (fun b f => ⟨f, rfl⟩) _ _ pu q⟩
            · have hb : b ∈ D'.m.take h.length ++ [a] := hb
              rcases List.mem_append.mp hb with z | z
              · exact R2.dis b z
              · rw [List.mem_singleton.mp z]; exact R'.dis a (List.mem_of_getElem? g)
            · rcases List.mem_append.mp hcm with z | z
              · exact R2.pure c z
              · rw [List.mem_singleton.mp z]; exact pu
            · by_cases hi : i < (h'.take h.length).length
              · rw [List.getElem?_append_left hi] at e
                exact R2.mt i lo k e
              · rw [List.getElem?_append_right (by omega)] at e
                have e0 : i - (h'.take h.length).length = 0 := by
                  have := (List.getElem?_eq_some_iff.mp e).1
                  simp only [List.length_singleton] at this
                  omega
                rw [e0] at e
                simp at e
          · show (D'.m.take h.length ++ [a])[h.length]? = some a
            have e5 : (D'.m.take h.length).length = h.length := by rw [← R.len, prefix_take x.m]
            rw [List.getElem?_append_right (by omega), e5, Nat.sub_self]
            rfl
        · refine o { D' with F := fun b => D'.F b ∨ b = a, m := D'.m.take h.length } (.ref a) ⟨fun b f => ⟨.inl (x.fz b f).1, (x.fz b f).2⟩, x2.m, x.c⟩ (Rel.freeze R' g (by omega)) ⟨a, us, rfl, ⟨.inr rfl, t⟩, RepL.pure (D := D') (D' := { D' with F := fun b => D'.F b ∨ b = a, m := D'.m.take h.length }) (fun b f => ⟨Or.inl f, rfl⟩) _ _ pu q⟩
      · rename_i lo k hc
        split at o
        · rename_i hlo
          split at o
          · rename_i ys hy
            obtain ⟨a, e, g, _⟩ := ref_lst R' r hc
            subst e
            obtain ⟨A, R3, rp⟩ := mat_frozen R' g hc hlo hy (by omega)
            exact o { D' with F := fun b => D'.F b ∨ A b, m := D'.m.take h.length } (.ref a) ⟨fun b f => ⟨.inl (x.fz b f).1, (x.fz b f).2⟩, x2.m, x.c⟩ R3 rp
          · exact o.elim
        · exact o.elim
      · exact o.elim
  · split at o
    · rename_i hp
      exact go hp o
    · exact o.elim
theorem close_ok {Γ : Cfg} {D : Wd} {h : AH} {rc : Bool} {r : SOut} {Q : VK} {E : XK} (R : Rel Γ.K D h) (o : OutOk Γ D (closeD rc h.length r) (fun D _ => Rep Γ.K D) Q E) : SOk Γ D r { nx := fun _ H' => Q .non H', rt := Q } (fun cls d _ H => E cls d H) := by
  unfold closeD at o
  cases r with
  | ret v h' => exact fun D' u x' R' r' => finD_of R x' R' r' o
  | nx env' h' =>
    intro D' σ' x' R' en'
    obtain ⟨x2, R2⟩ := back R x' R'
    exact o { D' with m := D'.m.take h.length } .non x2 R2 rfl
  | exc e env' h' =>
    intro D' σ' cls d x' R' en' rx
    obtain ⟨x2, R2⟩ := back R x' R'
    simp only at o
    split at o
    · rename_i hv
      exact o { D' with m := D'.m.take h.length } cls d x2 R2 ⟨rx.1, fun v ev => by rw [hv] at ev; cases ev⟩
    · rename_i v hv
      split at o
      · rename_i hp
        refine o { D' with m := D'.m.take h.length } cls d x2 R2 ⟨rx.1, fun w ew => ?_⟩
        obtain ⟨dd, u, e1, e2, e3, q⟩ := rx.2 w ew
        rw [hv] at ew
        cases ew
        exact ⟨dd, u, e1, e2, e3, Rep.pure (D := D') (D' := { D' with m := D'.m.take h.length }) (fun _ f => ⟨f, rfl⟩) _ u hp q⟩
      · exact o.elim
  | brk env' h' => exact o.elim
  | ct env' h' => exact o.elim
  | bad => exact o.elim
def lcG (lam : Bool) (N : List Str) (sc : Scope) : Lc := ⟨N, sc, false, fun x => sc.names.lookup x == some .cell, lam, false⟩
def lcOf (N : List Str) (sc : Scope) : Lc := lcG false N sc
/-- where a def's lambdas are made -/
def LamD (Γ : Cfg) (qual : Str) (cv : Value) : Prop := ∃ c P : Addr, LamX.TabB Γ.base Γ.mg c P ∧ cv = .ref c ∧ (P, (qual ++ ".<locals>.") ++ "<lambda>") ∈ Γ.T ∧ ∀ p ∈ Γ.T, p.1 = P → p.2 = (qual ++ ".<locals>.") ++ "<lambda>"
theorem start_env {K : PySem.W.Frag} {D : Wd} {as : List AV} {vs : List V} {N : List Str} (r : RepL K D as vs) (hN : vs.length ≤ N.length) : EnvR K D (as.map some ++ List.replicate (N.length - as.length) none) (L2.start N vs) := by
  have el := r.length
  refine ⟨by unfold L2.start; simp [el], fun i v e => ?_⟩
  by_cases hi : i < as.length
  · rw [List.getElem?_append_left (by simpa using hi), List.getElem?_map] at e
    obtain ⟨w, e1, e2⟩ := Option.map_eq_some_iff.mp e
    have e3 : w = v := by simpa using e2
    subst e3
    obtain ⟨u, e4, q⟩ := RepL.get r e1
    refine ⟨u, ?_, q⟩
    unfold L2.start
    rw [List.getElem?_append_left (by simpa [el] using hi), List.getElem?_map, e4]
    rfl
  · rw [List.getElem?_append_right (by simpa using hi)] at e
    have := List.mem_of_getElem? e
    rw [List.mem_replicate] at this
    cases this.2
set_option maxHeartbeats 4000000 in
theorem fn_g {Γ : Cfg} {S : Stat} {G : GT} {k : Nat} {rc lam : Bool} {x qual : Str} {st : Stmt} {f : Addr} {fd : FuncData} {N ps : List Str} {b : EvS} (F : Fun Γ.K x qual st f fd) (sc : FnScope N ps (defScope st)) (hb : SSs S (lcG lam N (defScope st)) (defBody st) b) (so : StatOk Γ S G k) (hlen : ps.length ≤ N.length) (hx : Γ.x = none) (hlam : lam = true → LamD Γ qual fd.code) :
    FnG Γ.P Γ.w Γ.K Γ.mg Γ.base (L2.CX Γ.P Γ.w) (k + 1) f fd ps (spOf Γ ps.length (runDef rc N.length b G)) := by
  obtain ⟨oc, od, kV, doc, pm, an, cdv, ct, osl, rfl, lk, hcd⟩ := F.ex
  refine ⟨fun vs H Q E h => h.1, fun A outer s H args us vs Q E hgd hr e0 hbt r hsp => ?_⟩
  obtain ⟨hl, D, h, as, eD, R, ra, dok, o⟩ := hsp
  have kept : ∀ b o, Γ.base.get? b = some o → s.heap.get? b = some o := fun b o e => (e0.bs b o e).1
  have KX := e0.mod.kin.keeps kept
  have kinds : ∀ y ∈ ps.zip us, (defScope st).names.lookup y.1 = some .local ∨ ((defScope st).names.lookup y.1 = some .cell ∧ ((cellsFrom (s.heap.objs.size + 1) (defScope st).names []).lookup y.1).isSome = true) := fun y hy =>
    (sc.par y.1 (List.of_mem_zip hy).1).imp id fun q => ⟨q, PySem.W.cellsFrom_some _ _ _ (.inl q)⟩
  refine codeAny_call_function hr.depth (KX _ _ lk) rfl sc.co sc.gen rfl (PySem.W.codeRec_of KX hcd) (hbt _ _ _ _ (wpAny_newFunctionEnv_cells sc.kind kinds fun env he s1 xc => ?_))
  subst he
  refine ⟨(e0.mod.nolimit.keeps kept).keeps xc.toInCall.keep, codeAny_func ?_⟩
  have I := inv_start (CX := L2.CX Γ.P Γ.w) (P := Γ.P) (w := Γ.w) (mg := Γ.mg) (N := N) (E := E) sc hr.hd e0 hl r xc
  have hr' : Room k (A.deeper (envOfC qual (defScope st) s.heap.objs.size f cdv)) := hr.deeper _
  have hun := hr.un
  have eq1 : (envOfC qual (defScope st) s.heap.objs.size f cdv).qual = qual ++ ".<locals>." := rfl
  have eq2 : (envOfC qual (defScope st) s.heap.objs.size f cdv).code = cdv := rfl
  have hl2 : lam = true → ∃ c P : Addr, LamX.TabB Γ.base Γ.mg c P ∧ (envOfC qual (defScope st) s.heap.objs.size f cdv).code = .ref c ∧ (P, (envOfC qual (defScope st) s.heap.objs.size f cdv).qual ++ "<lambda>") ∈ Γ.T ∧ ∀ p ∈ Γ.T, p.1 = P → p.2 = (envOfC qual (defScope st) s.heap.objs.size f cdv).qual ++ "<lambda>" := by
    rw [eq1, eq2]
    exact hlam
  have ctx : CtxS Γ k (lcG lam N (defScope st)) (cxOf (L2.CX Γ.P Γ.w) Γ.P Γ.w Γ.K Γ.mg Γ.base N qual (defScope st) f cdv A outer s H E) (fun cls d _ H => E cls d H) :=
    { prog := rfl, w := rfl, K := rfl, mg := rfl, base := rfl, hN := rfl, nd := sc.nd, sc := rfl, cells := fun _ _ => rfl, room := fun _ => hr', grd := hgd, un := by
        show (A.deeper (envOfC qual (defScope st) s.heap.objs.size f cdv)).units + 200 < cLine
        have := hr'.un
        omega
      calm := fun _ => rfl, takes := takes_of rfl rfl rfl rfl, pass := passes_of rfl, stk := rfl, fr := rfl, xn := fun _ => hx, lam := hl2, exc := fun z => Bool.noConfusion z }
  have ends : ∀ {s' : Shared} {σ' : L2.St} {H' : Hp} {v : V} {u : Value}, Inv (cxOf (L2.CX Γ.P Γ.w) Γ.P Γ.w Γ.K Γ.mg Γ.base N qual (defScope st) f cdv A outer s H E) [] σ' H' s' → RelV v u → Q v H' → CE outer Γ.P Γ.w H s Q u s' :=
    fun {s' σ' H' v u} J rv q => ⟨v, H', J.os, J.bare, J.base, J.hok, rv, q⟩
  have hrun := (hb Γ G k _ _ so ctx).run [] s1 (L2.start N vs) H { nx := fun _ H' => Q .non H', rt := Q } I ⟨D, h, _, ⟨eD, R, start_env (N := N) ra (by omega), dok.1, dok.2.1.trans hx.symm, dok.2.2⟩, ?_⟩
  · refine wpAny_mono hrun (fun fl s' hs => ?_) fun e s' hs => hs
    cases fl with
    | ret u =>
      obtain ⟨v, σ', H', J, rv, q⟩ := hs
      exact ends J rv q
    | next =>
      obtain ⟨σ', H', J, q⟩ := hs
      exact ends (v := V.non) (u := Value.none) J rfl q
    | brk =>
      obtain ⟨_, _, _, q⟩ := hs
      exact q.elim
    | cont =>
      obtain ⟨_, _, _, q⟩ := hs
      exact q.elim
  · exact close_ok R o
end
end Pv
end
section
set_option Elab.async false
set_option linter.all false
set_option maxRecDepth 100000
set_option maxHeartbeats 2000000
set_option autoImplicit false
namespace Pv
open PySem PySem.Spec PyProof.Rows L2
/-! ### the exception that is handled comes and goes -/
mutual
theorem Rep.addx {K : PySem.W.Frag} {D : Wd} {y : Option (Addr × Addr × Str)} (hx : D.x = none) : ∀ (v : AV) (u : V), Rep K D v u → Rep K { D with x := y } v u
  | .non, _, h => h
  | .fn _, _, h => h
  | .bl _, _, h => h
  | .int _, _, h => h
  | .str _, _, h => h
  | .tup xs, u, h => by obtain ⟨a, vs, e, t, r⟩ := h; exact ⟨a, vs, e, t, RepL.addx hx xs vs r⟩
  | .lst xs, u, h => by obtain ⟨a, vs, e, t, r⟩ := h; exact ⟨a, vs, e, t, RepL.addx hx xs vs r⟩
  | .kl xs, u, h => by obtain ⟨a, vs, e, t, r⟩ := h; exact ⟨a, vs, e, t, RepL.addx hx xs vs r⟩
  | .dct ks xs, u, h => by obtain ⟨a, vs, e, t, l, r⟩ := h; exact ⟨a, vs, e, t, l, RepL.addx hx xs vs r⟩
  | .ref n, u, h => h
  | .ob c xs, u, h => by obtain ⟨a, dx, fs, vs, e, t, t2, hf, r⟩ := h; exact ⟨a, dx, fs, vs, e, t, t2, hf, RepL.addx hx xs vs r⟩
  | .xn f v, u, h => by obtain ⟨a, dd, w, e, q, _⟩ := h; rw [hx] at q; cases q
theorem RepL.addx {K : PySem.W.Frag} {D : Wd} {y : Option (Addr × Addr × Str)} (hx : D.x = none) : ∀ (vs : List AV) (us : List V), RepL K D vs us → RepL K { D with x := y } vs us
  | [], _, h => h
  | v :: vs, us, h => by obtain ⟨u, r, e, h1, h2⟩ := h; exact ⟨u, r, e, Rep.addx hx v u h1, RepL.addx hx vs r h2⟩
end
theorem EnvR.addx {K : PySem.W.Frag} {D : Wd} {env : Env1} {σ : L2.St} {y : Option (Addr × Addr × Str)} (hx : D.x = Option.none) (h : EnvR K D env σ) : EnvR K { D with x := y } env σ :=
  ⟨h.1, fun i v e => let ⟨u, e', r⟩ := h.2 i v e; ⟨u, e', Rep.addx hx v u r⟩⟩
theorem Rel.setx {K : PySem.W.Frag} {D : Wd} {h : AH} (R : Rel K D h) (y : Option (Addr × Addr × Str)) : Rel K { D with x := y } h :=
  ⟨R.len, R.nd, fun n c a e1 e2 => (R.cell n c a e1 e2).pure (R.pure c (List.mem_of_getElem? e1)) (fun b f => ⟨f, rfl⟩) rfl, R.fz, R.dis, R.pure, R.tab, R.mt⟩
def noX : AV → Bool
  | .ref _ => true
  | v => pureA v
theorem Rep.setx {K : PySem.W.Frag} {D : Wd} {y : Option (Addr × Addr × Str)} {v : AV} {u : V} (h : noX v = true) (r : Rep K D v u) : Rep K { D with x := y } v u := by
  cases v with
  | ref n => exact r
  | _ => exact Rep.pure (D := D) (D' := { D with x := y }) (fun b f => ⟨f, rfl⟩) _ _ h r
theorem StatB.x {Γ : Cfg} {S : Stat} {G : GT} {k : Nat} (so : StatB Γ S G k) (y : Option (Addr × Addr × Str)) : StatB { Γ with x := y } S G k := by
  refine ⟨so.fn, so.const, so.free, so.gcd, fun i e h => ?_, so.cat, so.tick, so.ho, so.oc, fun c e h => let q := so.cl c e h; ⟨q.mg, q.at_, q.kk, q.mkf, q.pr, q.me, q.kc⟩⟩
  obtain ⟨C, h1, h2, h3⟩ := so.ex i e h
  refine ⟨C, h1, h2, ?_⟩
  cases hk : e.kp with
  | none => rw [hk] at h3; exact h3
  | some f =>
    rw [hk] at h3
    obtain ⟨h4, h5, h6, h7, h8⟩ := h3
    exact ⟨h4, h5, h6, h7, h8⟩
theorem StatOk.x {Γ : Cfg} {S : Stat} {G : GT} {k : Nat} (so : StatOk Γ S G k) (y : Option (Addr × Addr × Str)) : StatOk { Γ with x := y } S G k := { toStatB := so.toStatB.x y, low := fun j h1 h2 => (so.low j h1 h2).x y }

section
variable {S : Stat} {L : Lc}
/-! ### raise -/
def esRaise (i : Nat) (f : EvE) : EvS := fun G env h => (f G env h).s env fun _ h' => .exc ⟨i, none⟩ env h'
def esRaiseK (i : Nat) (f : EvE) : EvS := fun G env h => match G ixTick [] h with
  | .ok _ _ => (f G env h).s env fun v h' => if pureA v = true then .exc ⟨i, some v⟩ env h' else .bad
  | _ => .bad
theorem ss_raise {i : Nat} {en : ExS} {x : Str} {e : Expr} {f : EvE} {p pos pos' : Pos} (hi : S.exs[i]? = some en) (hx : en.name = x) (hk : en.kp = none) (hg : glB L.sc x = true) (hn : okName x = true) (he : SE S L e f) (hs : notStar e = true) (hh : L.hot = false) :
    SS S L (.Raise (some (.Call (.Name x p) [e] [] pos)) none pos') (esRaise i f) := by
  intro Γ G k X W so c
  obtain ⟨C, gC, ec, P⟩ := so.ex i en hi
  rw [hk] at P
  rw [hx] at gC
  have P : PlainC Γ.K C := P
  obtain ⟨B, newId, initId, bm, F, q⟩ := P.ex
  have cc := c.toCtxP
  refine PS.weak (ps_raise (cc.calm hh) cc.takes (SkE.pmk_own1 F (by rw [cc.K]; exact q) (by rw [cc.mg]; exact gC) (by rw [cc.K]; exact P.kp) (raises_own (by rw [cc.K]; exact P.sub) (by rw [cc.K]; exact P.ty)) (gl_of cc hg) (he Γ G k X W so cc) (starEach_cons hs) (okName1 hn))) fun D σ H o => ?_
  obtain ⟨D0, h, env, a, o⟩ := o
  refine ⟨D0, h, env, a, (SOk.bind (R := fun D _ => Rep Γ.K D) a.env o).mono fun u H' ⟨D1, v1, h1, e1, x1, r1, q1, o1⟩ => ?_⟩
  have w := o1 D1 σ (.ref C) none (Ext.refl D1) r1 (a.env.ext x1) ⟨ec.symm, fun v hv => (by cases hv)⟩
  rw [e1] at w
  exact w
theorem ss_raiseK {i : Nat} {en : ExS} {x f0 : Str} {e : Expr} {f : EvE} {p pos pos' : Pos} (hi : S.exs[i]? = some en) (hx : en.name = x) (hk : en.kp = some f0) (hg : glB L.sc x = true) (hn : okName x = true) (he : SE S L e f) (hs : notStar e = true) (hh : L.hot = false) :
    SS S L (.Raise (some (.Call (.Name x p) [e] [] pos)) none pos') (esRaiseK i f) := by
  intro Γ G k X W so c
  obtain ⟨C, gC, ec, P⟩ := so.ex i en hi
  rw [hk] at P
  rw [hx] at gC
  obtain ⟨hf, P⟩ := (show Γ.fld i = f0 ∧ KeptC Γ C f0 from P)
  obtain ⟨g, fI, fd, iC, tI, F1, bnd⟩ := P.ini
  have cc := c.toCtxP
  by_cases hk2 : 2 ≤ k
  · have F1' : FnOk X.prog X.w X.K X.mg X.base (L2.CX X.prog X.w) 1 fI fd ["self", g] (Px.spKeep C f0) := by rw [cc.prog, cc.w, cc.K, cc.mg, cc.base]; exact F1
    refine PS.weak (ps_raise (cc.calm hh) cc.takes (Px.pmk_keep (x := x) (by rw [cc.K]; exact P.kc) (by rw [cc.K]; exact iC) (by rw [cc.K]; exact tI) F1' ((cc.room hh).mono hk2) (by rw [cc.K]; exact bnd)
      (passes_call cc.takes fun _ _ _ _ z => False.elim z) (gl_of cc hg) (by rw [cc.mg]; exact gC) (pa_cons (he Γ G k X W so cc) pa_nil (starEach_cons hs)) (okName1 hn) (starEach_cons hs))) fun D σ H o => ?_
    obtain ⟨D0, h, env, a, o⟩ := o
    unfold esRaiseK at o
    cases et : G ixTick [] h with
    | exc e' h' => rw [et] at o; exact o.elim
    | bad => rw [et] at o; exact o.elim
    | ok v' h' =>
      rw [et] at o
      refine ⟨D0, h, env, a, (SOk.bind (R := fun D _ => Rep Γ.K D) a.env o).mono fun u H' ⟨D1, v1, h1, e1, x1, r1, q1, o1⟩ => ?_⟩
      subst e1
      split at o1
      · rename_i hp
        refine ⟨u, rfl, fun d nd => ?_⟩
        have xf := Ext.frz r1 nd (.xd [(f0, u)])
        exact o1 (D1.frz d (.xd [(f0, u)])) σ (.ref C) (some d) xf (Rel.frz r1 nd _) ((a.env.ext x1).ext xf) ⟨ec.symm, fun v hv => by
          cases hv
          exact ⟨d, u, rfl, .inr rfl, by show upd D1.H d _ d = _; rw [upd_same, hf], Rep.ext xf _ _ q1⟩⟩
      · exact o1.elim
  · refine PS.weak ps_never fun D σ H o => ?_
    obtain ⟨D0, h, env, a, o⟩ := o
    unfold esRaiseK at o
    cases et : G ixTick [] h with
    | exc e' h' => rw [et] at o; exact o.elim
    | bad => rw [et] at o; exact o.elim
    | ok v' h' => exact absurd (so.tick h v' h' et) hk2
/-! ### what a caught exception keeps -/
def evXat (f : Str) (i : Nat) : EvE := fun _ env h => match env[i]? with
  | some (some (.xn f' v)) => if f' = f then .ok v h else .bad
  | _ => .bad
theorem se_xat {x f : Str} {i : Nat} {p pos : Pos} (hN : L.N[i]? = some x) (hv : visB L.sc x = true) (hn : okName x = true) (hx : L.exc = true) : SE S L (.Attribute (.Name x p) f pos) (evXat f i) := by
  intro Γ G k X W so c
  obtain ⟨X0, a, dd, C, oe, pn, f0, eX, hz, hd, ex, xc, no⟩ := c.exc hx
  subst eX
  -- what the meaning asks
  have ask : ∀ (σ : L2.St) (H : Hp) (Q : VK), tEv Γ W (evXat f i G) σ H Q → f = f0 ∧ ∃ w : V, σ[i]? = some (some (.ref a)) ∧ H dd = some (.xd [(f, w)]) ∧ Q w H := by
    rintro σ H Q ⟨D, h, env, at_, o⟩
    unfold evXat at o
    split at o
    · rename_i f' v ev
      split at o
      · rename_i hf
        subst hf
        obtain ⟨u, eσ, a', dd', w, eu, qx, ⟨fF, t⟩, r⟩ := at_.env.2 i _ ev
        subst eu
        rw [at_.ok.2.1, ex] at qx
        cases qx
        have q := o D w (Ext.refl D) at_.rel r
        rw [at_.hp] at q t
        exact ⟨rfl, w, eσ, t, q⟩
      · exact o.elim
    · exact o.elim
  by_cases hf : f = f0
  · subst hf
    refine PE.weak (pe_xf xc no hz hd (pe_var (i := i) (x := x) (by rw [c.hN]; exact hN) (by rw [c.sc]; exact vis_of hv) (okName1 hn) (okName2 hn)) (by rfl)) fun σ H Q o => ?_
    obtain ⟨_, w, h1, h2, h3⟩ := ask σ H Q o
    exact ⟨.ref a, h1, rfl, rfl, dd, _, w, rfl, h2, by simp, h3⟩
  · exact PE.weak pe_never fun σ H Q o => hf (ask σ H Q o).1
/-! ### try -/
def retOnly : SOut → SOut
  | .ret v h => if noX v = true then .ret v h else .bad
  | _ => .bad
def noExc : SOut → SOut
  | .exc _ _ _ => .bad
  | o => o
structure Clz where
  j : Nat
  nm : Option Nat
  f : EvS
def runH (xs : List ExS) : List Clz → GT → Exn → Env1 → AH → SOut
  | [], _, e, env, h => .exc e env h
  | q :: r, G, e, env, h => match xs[e.cls]? with
    | none => .bad
    | some en => if en.sup.contains q.j = true then (match q.nm with
        | none => noExc (q.f G env h)
        | some i => match en.kp, e.val with
          | some fl, some v => retOnly (q.f G (env.set i (some (.xn fl v))) h)
          | _, _ => .bad)
      else runH xs r G e env h
def esTry (xs : List ExS) (b : EvS) (cl : List Clz) : EvS := fun G env h => match b G env h with
  | .exc e env' h' => runH xs cl G e env' h'
  | o => o
def hotL (L : Lc) (exc : Bool) : Lc := { L with hot := true, lam := false, exc := exc }
/-- a clause and what it means -/
structure ClzOk (S : Stat) (L : Lc) (x : Str) (on : Option Str) (suite : List Stmt) (q : Clz) : Prop where
  en : ∃ e, S.exs[q.j]? = some e ∧ e.name = x
  gl : glB L.sc x = true
  ok : okName x = true
  nm : match on, q.nm with
    | none, none => SSs S (hotL L false) suite q.f
    | some n, some i => L.N[i]? = some n ∧ locOnly L n = true ∧ SSs S (hotL L true) suite q.f
    | _, _ => False
inductive HdsM (S : Stat) (L : Lc) : List ExceptHandler → List Clz → Prop
  | nil : HdsM S L [] []
  | cons {x : Str} {on : Option Str} {b₀ : Stmt} {suite : List Stmt} {np pos' : Pos} {hds : List ExceptHandler} {q : Clz} {r : List Clz} (h : ClzOk S L x on (b₀ :: suite) q) (t : HdsM S L hds r) :
      HdsM S L (.ExceptHandler (some (.Name x np)) on (b₀ :: suite) pos' :: hds) (q :: r)
theorem pss_ex {X : Cx} {α : Type} {sts : List Stmt} {p : α → Prop} {t : α → TS} (h : ∀ z, p z → PSs X sts (t z)) : PSs X sts (fun D σ H => ∃ z, p z ∧ t z D σ H) :=
  ⟨fun pins s σ H D I ⟨z, hp, hw⟩ => (h z hp).run pins s σ H D I hw⟩
def W0 : WX := fun _ _ _ _ => False
/-- what is known of a caught exception of a class that keeps a value -/
def Caught (Γ : Cfg) (S : Stat) (cls : Value) (d : Option Addr) (z : Addr × Str) : Prop := d = some z.1 ∧ ∃ (i : Nat) (e : ExS), cls = Γ.cls i ∧ S.exs[i]? = some e ∧ e.kp = some z.2
def clTs (Γ : Cfg) (S : Stat) (G : GT) (q : Clz) (a : Addr) (cls : Value) (d : Option Addr) : TS := match q.nm with
  | none => tSv Γ W0 (q.f G)
  | some _ => fun D σ H => ∃ z : Addr × Str, Caught Γ S cls d z ∧ tSv { Γ with x := some (a, z.1, z.2) } W0 (q.f G) D σ H
def toCl (Γ : Cfg) (S : Stat) (G : GT) (q : Clz) : Px.Cl := ⟨Γ.cls q.j, q.nm, clTs Γ S G q⟩
theorem ctx_hot {Γ : Cfg} {k : Nat} {X : Cx} {W : WX} {b : Bool} {y : Option (Addr × Addr × Str)} {a : Addr} {pn : List (Addr × Obj)} (c : CtxS Γ k L X W) (hx : b = true → ExcP { Γ with x := y } (X.suite a pn)) : CtxS { Γ with x := y } k (hotL L b) (X.suite a pn) W0 where
  prog := c.prog
  w := c.w
  K := c.K
  mg := c.mg
  base := c.base
  hN := c.hN
  nd := c.nd
  sc := c.sc
  cells := c.cells
  room := fun z => absurd z (show ¬ true = false by decide)
  grd := c.grd
  un := c.un
  calm := fun z => absurd z (show ¬ true = false by decide)
  takes := takes_none5
  xn := fun z => absurd z (show ¬ true = false by decide)
  lam := fun z => absurd z (show ¬ false = true by decide)
  exc := hx
  pass := PassesOwn.never
  stk := c.stk
  fr := c.fr
theorem hds_all {Γ : Cfg} {G : GT} {k : Nat} {X : Cx} {W : WX} (so : StatOk Γ S G k) (c : CtxS Γ k L X W) : ∀ {hds : List ExceptHandler} {cl : List Clz}, HdsM S L hds cl → Px.HdsAll X hds (cl.map (toCl Γ S G)) := by
  intro hds cl h
  induction h with
  | nil => exact .nil
  | @cons x on b₀ suite np pos' hds q r h t ih =>
    obtain ⟨⟨e, he, hx⟩, hg, hn, hnm⟩ := h
    obtain ⟨C, gC, ec, _⟩ := so.ex q.j e he
    rw [hx] at gC
    refine .cons (q := toCl Γ S G q) ⟨gl_of c.toCtxP hg, okName1 hn, .inl ?_⟩ ?_ ?_ ih
    · rw [c.mg, gC]; exact congrArg some ec.symm
    · show Px.NmOk X on q.nm
      cases on with
      | none =>
        cases hq : q.nm with
        | none => exact True.intro
        | some i => rw [hq] at hnm; exact hnm.elim
      | some n =>
        cases hq : q.nm with
        | none => rw [hq] at hnm; exact hnm.elim
        | some i =>
          rw [hq] at hnm
          refine ⟨by rw [c.hN]; exact hnm.1, ?_⟩
          show X.env.scope.names.lookup n = some .local
          rw [c.sc]
          exact of_decide_eq_true hnm.2.1
    · intro a oe cls d pn hz hd
      show PSs (X.suite a ((a, oe) :: pn)) (b₀ :: suite) (clTs Γ S G q a cls d)
      cases on with
      | none =>
        cases hq : q.nm with
        | some i => rw [hq] at hnm; exact hnm.elim
        | none =>
          rw [hq] at hnm
          unfold clTs
          rw [hq]
          exact hnm Γ G k _ W0 so (ctx_hot (y := Γ.x) (b := false) c fun z => absurd z (by decide))
      | some n =>
        cases hq : q.nm with
        | none => rw [hq] at hnm; exact hnm.elim
        | some i =>
          rw [hq] at hnm
          unfold clTs
          rw [hq]
          refine pss_ex fun z ⟨ed, j, e2, ecl, hj, hk⟩ => ?_
          refine hnm.2.2 { Γ with x := some (a, z.1, z.2) } G k _ W0 (so.x _) (ctx_hot c fun _ => ?_)
          obtain ⟨C2, _, ec2, P⟩ := so.ex j e2 hj
          rw [hk] at P
          obtain ⟨_, P⟩ := (show Γ.fld j = z.2 ∧ KeptC Γ C2 z.2 from P)
          rw [ecl, ec2, ed] at hz
          exact ⟨X, a, z.1, C2, oe, pn, z.2, rfl, hz, hd, rfl, by rw [c.K]; exact P.xf, by rw [c.K]; exact P.no⟩
theorem runH_ok {Γ : Cfg} {G : GT} {k : Nat} {X : Cx} {W : WX} (so : StatOk Γ S G k) (c : CtxS Γ k L X W) (hx : Γ.x = none) {D : Wd} {h : AH} {env : Env1} {σ : L2.St} {cls : Value} {d : Option Addr} {e : Exn} {E : Ends} (R : Rel Γ.K D h) (en : EnvR Γ.K D env σ) (ok : DOk Γ D) (rx : RepX Γ D e cls d) :
    ∀ {hds : List ExceptHandler} {cl : List Clz}, HdsM S L hds cl → SOk Γ D (runH S.exs cl G e env h) E W → Px.wAll X.K W E (cl.map (toCl Γ S G)) cls d σ D.H := by
  intro hds cl hm
  induction hm with
  | nil => exact fun o => o D σ cls d (Ext.refl D) R en rx
  | @cons x on b₀ suite np pos' hds q r hq t ih =>
    intro o
    obtain ⟨⟨e2, he2, _⟩, _, _, hnm⟩ := hq
    unfold runH at o
    cases hs : S.exs[e.cls]? with
    | none => rw [hs] at o; exact o.elim
    | some ex =>
      rw [hs] at o
      simp only at o
      refine ⟨ex.sup.contains q.j, ?_, fun hb => ?_, fun hb => ?_⟩
      · rw [c.K, rx.1]
        exact so.cat e.cls q.j ex e2 hs he2
      · rw [if_pos hb] at o
        intro a na
        show match q.nm with | none => clTs Γ S G q a cls d E σ D.H | some i => clTs Γ S G q a cls d (Px.shut i E) (σ.set i (some (.ref a))) D.H
        cases hn : q.nm with
        | none =>
          rw [hn] at o
          unfold clTs
          rw [hn]
          refine ⟨D, h, env, ⟨rfl, R, en, ok⟩, ?_⟩
          cases hf : q.f G env h with
          | exc e' env' h' => rw [hf] at o; exact o.elim
          | nx env' h' => rw [hf] at o; exact o
          | ret v h' => rw [hf] at o; exact o
          | brk env' h' => rw [hf] at o; exact o
          | ct env' h' => rw [hf] at o; exact o
          | bad => rw [hf] at o; exact o
        | some i =>
          rw [hn] at o
          cases hk : ex.kp with
          | none => rw [hk] at o; exact o.elim
          | some fl =>
            cases hv : e.val with
            | none => rw [hk, hv] at o; exact o.elim
            | some v =>
              rw [hk, hv] at o
              simp only at o
              obtain ⟨dd, u, ed, fF, t, rv⟩ := rx.2 v hv
              obtain ⟨C2, _, ec2, P⟩ := so.ex e.cls ex hs
              rw [hk] at P
              obtain ⟨hfl, P⟩ := (show Γ.fld e.cls = fl ∧ KeptC Γ C2 fl from P)
              rw [hfl] at t
              unfold clTs
              rw [hn]
              refine ⟨(dd, fl), ⟨ed, e.cls, ex, rx.1, hs, hk⟩, ?_⟩
              have dx : D.x = none := ok.2.1.trans hx
              refine ⟨{ D with x := some (a, dd, fl) }, h, env.set i (some (.xn fl v)), ⟨rfl, R.setx _, (EnvR.addx dx en).set i ⟨a, dd, u, rfl, rfl, ⟨fF, t⟩, Rep.addx dx _ _ rv⟩, ok.1, rfl, ok.2.2⟩, ?_⟩
              cases hf : q.f G (env.set i (some (.xn fl v))) h with
              | exc e' env' h' => rw [hf] at o; exact o.elim
              | nx env' h' => rw [hf] at o; exact o.elim
              | brk env' h' => rw [hf] at o; exact o.elim
              | ct env' h' => rw [hf] at o; exact o.elim
              | bad => rw [hf] at o; exact o.elim
              | ret w h' =>
                rw [hf] at o
                intro D2 u2 x2 R2 r2
                have o : SOk Γ D (if noX w = true then .ret w h' else .bad) E W := o
                split at o
                · rename_i hw
                  exact o { D2 with x := none } u2 ⟨x2.fz, x2.m, x2.c.1, dx.symm, x2.c.2.2⟩ (R2.setx none) (Rep.setx hw r2)
                · exact o.elim
      · rw [if_neg (by rw [hb]; decide)] at o
        exact ih o
theorem ss_try {body : List Stmt} {h₀ : ExceptHandler} {hds : List ExceptHandler} {b : EvS} {cl : List Clz} {pos : Pos} (hb : SSs S L body b) (hm : HdsM S L (h₀ :: hds) cl) (hh : L.hot = false) (hxc : L.exc = false) : SS S L (.Try body (h₀ :: hds) [] [] pos) (esTry S.exs b cl) := by
  intro Γ G k X W so c
  refine PS.weak (Px.ps_try_all c.stk c.fr (by rw [c.hN]; exact c.nd) c.takes (tb := fun W' => tSv Γ W' (b G)) (fun W' pn xe tk po => ?_) (hds_all so c hm)) fun E σ H ⟨D, h, env, at_, o⟩ => ?_
  · exact hb Γ G k _ W' so { prog := c.prog, w := c.w, K := c.K, mg := c.mg, base := c.base, hN := c.hN, nd := c.nd, sc := c.sc, cells := c.cells, room := c.room, grd := c.grd, un := c.un, calm := c.calm, takes := tk, xn := c.xn, lam := c.lam, exc := fun z => absurd (hxc.symm.trans z) (by decide), pass := po, stk := c.stk, fr := c.fr }
  · refine ⟨D, h, env, at_, ?_⟩
    unfold esTry at o
    cases eb : b G env h with
    | nx env' h' => rw [eb] at o; exact o
    | ret v h' => rw [eb] at o; exact o
    | brk env' h' => rw [eb] at o; exact o
    | ct env' h' => rw [eb] at o; exact o
    | bad => rw [eb] at o; exact o
    | exc e env' h' =>
      rw [eb] at o
      intro D1 σ1 cls d x1 R1 en1 rx
      exact runH_ok so c (c.xn hh) R1 en1 (at_.ok.ext x1) rx hm (SOk.ext x1 o)
end
end Pv
end
section
set_option Elab.async false
set_option linter.all false
set_option maxRecDepth 100000
set_option maxHeartbeats 2000000
set_option autoImplicit false
namespace Pv
open PySem PySem.Spec PyProof.Rows L2 LamX
/-! ### a lambda without parameters, handed to a def that calls it first -/
section
variable {X : Cx} {pins : List (Addr × Obj)} {σ : L2.St} {H : Hp} {s : Shared}
/-- the frame of the def that got the lambda -/
abbrev gEnv (s : Shared) (qg : Str) (sg : Scope) (g : Addr) (cdg : Value) : Env := envOfC qg sg s.heap.objs.size g cdg
/-- what stands at f: the lambda -/
def LamAt (X : Cx) (h : Heap) (f : Addr) (params : Arguments) (body : Expr) (scope : Scope) (pm : Value) (c' : Addr) (ctv : Value) : Prop :=
  h.get? f = some (PySem.W.kla_obj "<lambda>" (X.env.qual ++ "<lambda>") params body scope (cloFrom X.env.cells scope.names []) pm c' ctv)
theorem act_g {CXg : CXT} {Eg : XK} {Ng : List Str} {qg a : Str} {sg scope : Scope} {g f c' : Addr} {cdg pm ctv : Value} {params : Arguments} {body : Expr} {i : Nat} {pn : List (Addr × Obj)} {xe : Value → Shared → Prop} {E : L2.St → XK} {tb : L2.St → TE} {p1 p2 : Pos}
    (I : Inv X pins σ H s) (LS : LamS X.env.scope scope) (hf : LamAt X s.heap f params body scope pm c' ctv) (no : H f = none) (nfr : f ∉ frs X.stack)
    (none_ : bindArgs (PySem.W.kla_fn "<lambda>" (X.env.qual ++ "<lambda>") params body scope (cloFrom X.env.cells scope.names []) pm (.ref c') ctv) ⟨[], []⟩ = pure [])
    (out : ∀ σZ, PassesAt (L2.CX X.prog X.w) ((cxOf CXg X.prog X.w X.K X.mg X.base Ng qg sg g cdg X.A X.stack s H Eg).tr pn xe) σZ (E σZ)) {k : Nat} (room : Room (k + 1) (X.A.deeper (gEnv s qg sg g cdg)))
    (hb : ∀ (σZ : L2.St) (s1 : Shared) (HZ : Hp), Room k ((X.A.deeper (gEnv s qg sg g cdg)).deeper (lamEnv X scope s1.heap.objs.size f c')) → PE (lamCx X (X.A.deeper (gEnv s qg sg g cdg)) (gEnv s qg sg g cdg :: X.stack) s1 HZ (E σZ) scope f c') body (tb σZ))
    (hN : Ng[i]? = some a) (hv : Vis sg a) (d1 : (a == ("__debug__" : Str)) = false) (d2 : (a == ("__classdict__" : Str)) = false) :
    PE ((cxOf CXg X.prog X.w X.K X.mg X.base Ng qg sg g cdg X.A X.stack s H Eg).tr pn xe) (.Call (.Name a p1) [] [] p2)
      (fun σZ HZ Q => σZ[i]? = some (some (.ref f)) ∧ HZ c' = some (CodeO c' (X.env.qual ++ "<lambda>")) ∧ tb σZ σ HZ Q) := by
  constructor
  intro pinsZ sZ σZ HZ Q IZ ⟨slot, co, ask⟩
  have look := (pe_var (X := (cxOf CXg X.prog X.w X.K X.mg X.base Ng qg sg g cdg X.A X.stack s H Eg).tr pn xe) (pos := p1) (i := i) hN hv d1 d2).run pinsZ sZ σZ HZ (fun v H1 => v = .ref f ∧ H1 = HZ) IZ ⟨.ref f, slot, rfl, rfl⟩
  refine wpAny_Call_Name_kw (thn look fun u s1 k1 => ?_)
  obtain ⟨v, H1, I1, r1, ev, eH⟩ := k1
  subst ev
  rw [eH] at I1
  cases (show u = Value.ref f from r1)
  have there : LamAt X s1.heap f params body scope pm c' ctv := I1.base.keep f _ hf no nfr (fun z => nomatch (show f ∈ ([] : List Addr) from z))
  have un : Un (frs X.stack) [] H HZ s.heap s1.heap := I1.base
  obtain ⟨⟨oc, vs, t, hoc, hdc, hvc⟩, _, _⟩ := I1.hok c' _ co
  refine PySem.W.callWith_F0 ⟨_, _, _, _, there⟩ (wpAny_call (codeAny_mono (R := CR (L2.CX X.prog X.w) (gEnv s qg sg g cdg :: X.stack) X.prog X.w HZ s1 Q (E σZ)) ?run fun r s2 hq => ?_))
  case run =>
    refine PySem.W.kla_callFunE room.depth there rfl LS.co LS.gen rfl ⟨c', oc, vs, t, rfl, hoc, hdc, hvc⟩ ?_
    show wpAny _ _ (bindArgs (PySem.W.kla_fn "<lambda>" (X.env.qual ++ "<lambda>") params body scope (cloFrom X.env.cells scope.names []) pm (.ref c') ctv) ⟨[], []⟩) _ _ _
    rw [none_]
    refine wpAny_pure (wpAny_newFunctionEnv (fun y hy => (LS.own y hy).2) (fun y hy => absurd hy (by simp)) (fun h2 hns same => ⟨I1.nolimit.fresh _ same, ?_⟩) LS.kind)
    have kp : ∀ b o, s1.heap.get? b = some o → h2.get? b = some o := fun b o e => same.extBut b o (Nat.ne_of_lt (Heap.lt_size e)) (Heap.get?_push_of_some _ e)
    have J := lam_start2 (tk := s1.toks + ([] : List (Str × Value)).length) (E := E σZ) (f := f) (c' := c') I LS I1.env0 room.hd un hns kp
    refine PySem.W.kla_codeExpr (wpAny_mono ((hb σZ s1 HZ (room.deeper _)).run [] _ _ HZ Q J ask) (fun v s2 hq => ?_) fun _ _ hq => hq)
    obtain ⟨y, H2, J2, ry, q⟩ := hq
    exact ⟨y, H2, J2.os, J2.bare, J2.base, J2.hok, ry, q⟩
  cases r with
  | error e => exact out σZ pinsZ HZ s1 e s2 I1 hq
  | ok fl =>
    cases fl with
    | ret u => exact I1.after hq
    | next => exact False.elim hq
    | brk => exact False.elim hq
    | cont => exact False.elim hq
end
/-! the meaning of such a def: first what the lambda does, then the rest of the try's body, its clauses, the rest of the def -/
def tryTh (th : AH → Out AV) (bm : EvS) : EvS := fun G env h => match th h with
  | .ok _ h' => bm G env h'
  | .exc e h' => .exc e env h'
  | .bad => .bad
def hoM (xs : List ExS) (n : Nat) (bm : EvS) (cl : List Clz) (br : EvS) : GT → (AH → Out AV) → AH → Out AV := fun G th h =>
  closeD false h.length (esSeq (esTry xs (tryTh th bm) cl) br G (List.replicate n none) h)
structure HoOk (S : Stat) (x : Str) where
  st : Stmt
  Ng : List Str
  a : Str
  p1 : Pos
  p2 : Pos
  p3 : Pos
  p4 : Pos
  ms : List Stmt
  h₀ : ExceptHandler
  hds : List ExceptHandler
  rs : List Stmt
  bm : EvS
  cl : List Clz
  br : EvS
  body : defBody st = .Try (.Expr (.Call (.Name a p1) [] [] p2) p3 :: ms) (h₀ :: hds) [] [] p4 :: rs
  hm : SSs S (lcOf Ng (defScope st)) ms bm
  hc : HdsM S (lcOf Ng (defScope st)) (h₀ :: hds) cl
  hr : SSs S (lcOf Ng (defScope st)) rs br
  sc : FnScope Ng [a] (defScope st)
  n0 : Ng[0]? = some a
  len : 1 ≤ Ng.length
  okn : okName a = true
  vis : visB (defScope st) a = true
  hx : S.hos.lookup x = some (st, a)
def HoOk.m {S : Stat} {x : Str} (o : HoOk S x) : GT → (AH → Out AV) → AH → Out AV := hoM S.exs o.Ng.length o.bm o.cl o.br
def evLam (m : GT → (AH → Out AV) → AH → Out AV) (f : EvE) : EvE := fun G env h => match G ixTick [] h with
  | .ok _ _ => m (dnG 1 G) (fun h' => f (dnG 2 G) env h') h
  | _ => .bad
def lamL (L : Lc) (scope : Scope) : Lc := ⟨L.N, scope, false, fun _ => false, false, false⟩
/-- all but the tables stays -/
theorem rel_extN {K : PySem.W.Frag} {D : Wd} {h : AH} {H1 : Hp} (R : Rel K D h) (e : ExtN D.H H1) (t : Tabs D.T H1) : Ext D { D with H := H1 } ∧ Rel K { D with H := H1 } h := by
  have fz : ∀ a, D.F a → H1 a = D.H a := fun a f => by
    obtain ⟨o, e1, e2⟩ := R.fz a f
    rw [e1]
    exact e a o e1 fun ps z => by subst z; cases e2
  have ce : ∀ a, a ∈ D.m → H1 a = D.H a := fun a ha => by
    obtain ⟨n, hn⟩ := List.getElem?_of_mem ha
    obtain ⟨c, _, q⟩ := R.at hn
    obtain ⟨o, e1, e2⟩ := q.is
    rw [e1]
    exact e a o e1 fun ps z => by subst z; cases e2
  refine ⟨⟨fun a f => ⟨f, fz a f⟩, List.prefix_refl _, rfl, rfl, rfl⟩, R.len, R.nd, fun n c a e1 e2 => ?_, fun a f => ?_, R.dis, R.pure, t, R.mt⟩
  · exact (R.cell n c a e1 e2).pure (R.pure c (List.mem_of_getElem? e1)) (fun b f => ⟨f, fz b f⟩) (ce a (List.mem_of_getElem? e2))
  · obtain ⟨o, e1, e2⟩ := R.fz a f
    exact ⟨o, (fz a f).trans e1, e2⟩
section
variable {S : Stat} {L : Lc}
theorem ctx_lam {Γ : Cfg} {k : Nat} {X : Cx} {A : Around} {outer : List Env} {s : Shared} {H : Hp} {E : XK} {scope : Scope} {f c' : Addr} {W : WX} (c : CtxP Γ k L X W) (hx : Γ.x = none) (hg : A.guards = some []) (k2 : Nat) (room : Room k2 (A.deeper (lamEnv X scope s.heap.objs.size f c'))) :
    CtxP Γ k2 (lamL L scope) (lamCx X A outer s H E scope f c') (fun cls d _ H => E cls d H) where
  prog := c.prog
  w := c.w
  K := c.K
  mg := c.mg
  base := c.base
  hN := c.hN
  nd := c.nd
  sc := rfl
  cells := fun x h => absurd h (show ¬ false = true by decide)
  room := fun _ => room
  grd := hg
  un := by
    have := room.un
    show (A.deeper (lamEnv X scope s.heap.objs.size f c')).units + 200 < cLine
    omega
  calm := fun _ => rfl
  takes := takes_of rfl rfl rfl rfl
  xn := fun _ => hx
  lam := fun z => absurd z (show ¬ false = true by decide)
  exc := fun z => absurd z (show ¬ false = true by decide)
set_option maxHeartbeats 4000000 in
theorem se_lam {x : Str} {o : HoOk S x} {params : Arguments} {body : Expr} {scope : Scope} {lpos p pos : Pos} {f : EvE} (hg : glB L.sc x = true) (hn : okName x = true) (hl : L.lam = true) (hh : L.hot = false) (hLS : lamSB L.sc scope = true)
    (hdef : ∀ env : Env, defaultsOf params env = ([], [])) (hbind : ∀ (q : Str) (cl : List (Str × Addr)) (pm cv ctv : Value), bindArgs (PySem.W.kla_fn "<lambda>" q params body scope cl pm cv ctv) ⟨[], []⟩ = pure [])
    (hb : SE S (lamL L scope) body f) : SE S L (.Call (.Name x p) [.Lambda params body scope lpos] [] pos) (evLam o.m f) := by
  intro Γ G k X W so c
  have hx0 : Γ.x = none := c.xn hh
  by_cases hk2 : 2 ≤ k
  case neg =>
    refine PE.weak pe_never fun σ H Q q => ?_
    obtain ⟨D, h, env, at_, q⟩ := q
    unfold evLam at q
    cases et : G ixTick [] h with
    | exc e' h' => rw [et] at q; exact q.elim
    | bad => rw [et] at q; exact q.elim
    | ok v' h' => exact absurd (so.tick h v' h' et) hk2
  obtain ⟨k2, rfl⟩ : ∃ k2, k = k2 + 2 := ⟨k - 2, by omega⟩
  obtain ⟨cA, P, TB, ecode, hmT, hu⟩ := c.lam hl
  obtain ⟨g, fd, mgx, Fg, bnd⟩ := so.ho x o.st o.a o.hx
  obtain ⟨oc, od, kV, doc, pm, an, cdv, ct, osl, efd, lk, hcd⟩ := Fg.ex
  subst efd
  have LS : LamS X.env.scope scope := by rw [c.sc]; exact lamS_by hLS
  have so1 : StatOk Γ S (dnG 1 G) (k2 + 1) := so.dn (j := 1) (by omega) (by omega)
  have so2 : StatOk Γ S (dnG 2 G) k2 := so.dn (j := 2) (by omega) (by omega)
  constructor
  intro pins s σ H Q I q
  obtain ⟨D, h, env, at_, q⟩ := q
  unfold evLam at q
  have q : OutOk Γ D (o.m (dnG 1 G) (fun h' => f (dnG 2 G) env h') h) (fun D _ => Rep Γ.K D) Q fun cl d H' => W cl d σ H' := by
    cases et : G ixTick [] h with
    | exc e' h' => rw [et] at q; exact q.elim
    | bad => rw [et] at q; exact q.elim
    | ok v' h' => rw [et] at q; exact q
  have hT : Tabs Γ.T H := by
    have t := at_.rel.tab
    rw [at_.ok.1, at_.hp] at t
    exact t
  refine wpAny_Call_Name_kw (ld_glob I (gl_of c hg) (by rw [c.mg]; exact mgx) ?_ (okName1 hn))
  refine PySem.W.callWith_K (h₀ := X.base) I.ok.mod.kin (by rw [c.K]; exact Fg.kp) ?_ (by rfl) (by rfl)
  show wpAny _ _ (spliced ((false, eval (.Lambda params body scope lpos) X.env) :: backTo pos (starEach [] X.env))) _ _ s
  refine Calls.spliced_cons (lam_make2 I TB ecode hmT hu hT (hdef X.env) (LS.has I.ok) fun fa c' pm' ctv H1 s1 I1 eN T1 hfa hfn hfr hco => ?_)
  refine Calls.spliced_nil ⟨I1.kIn, ?_⟩
  -- the world behind the making
  have eN' : ExtN D.H H1 := by rw [at_.hp]; exact eN
  obtain ⟨xD, RD⟩ := rel_extN (H1 := H1) at_.rel eN' (by rw [at_.ok.1]; exact T1)
  generalize hD1 : ({ D with H := H1 } : Wd) = D1 at xD RD
  have eH1 : D1.H = H1 := by rw [← hD1]
  have q1 := OutOk.ext xD q
  have en1 : EnvR Γ.K D1 env σ := at_.env.ext xD
  have ok1 : DOk Γ D1 := at_.ok.ext xD
  have lk' : X.K.lookup g = some ⟨oc, od, .func (PySem.W.fnOf x x (defArgs o.st) (defBody o.st) (defScope o.st) .none kV doc pm an cdv ct), osl⟩ := by rw [c.K]; exact lk
  have grd := c.grd
  have run : codeAny (model X.prog X.w) X.A (.call (.ref g) ⟨[.ref fa], []⟩) (CR (L2.CX X.prog X.w) X.stack X.prog X.w H1 s1 Q fun cl d H' => W cl d σ H') s1 := by
    refine run_ofS (N := o.Ng) (ps := [o.a]) (us := [.ref fa]) (vs := [.ref fa]) lk' (by rw [c.K]; exact hcd) o.sc (k := k2 + 1) (c.room hh) I1.env0 (by
      have b := bnd s1 [.ref fa] (by rw [← c.K]; exact I1.kIn) rfl
      exact b) (.cons rfl .nil) rfl fun room1 => ?_
    rw [o.body]
    -- the context of the def that got the lambda
    have ctxZ : CtxS Γ (k2 + 1) (lcOf o.Ng (defScope o.st)) (cxOf (L2.CX X.prog X.w) X.prog X.w X.K X.mg X.base o.Ng x (defScope o.st) g cdv X.A X.stack s1 H1 fun cl d H' => W cl d σ H') (fun cl d _ H' => W cl d σ H') :=
      { prog := c.prog, w := c.w, K := c.K, mg := c.mg, base := c.base, hN := rfl, nd := o.sc.nd, sc := rfl, cells := fun _ _ => rfl, room := fun _ => room1, grd := grd, un := by
          show (X.A.deeper (envOfC x (defScope o.st) s1.heap.objs.size g cdv)).units + 200 < cLine
          have := room1.un
          omega
        calm := fun _ => rfl, takes := takes_of rfl rfl rfl rfl, pass := passes_of rfl, stk := rfl, fr := rfl, xn := fun _ => hx0, lam := fun z => absurd z (show ¬ false = true by decide), exc := fun z => absurd z (show ¬ false = true by decide) }
    have trZ : ∀ (W' : WX) (pn : List (Addr × Obj)) (xe : Value → Shared → Prop), Takes ((cxOf (L2.CX X.prog X.w) X.prog X.w X.K X.mg X.base o.Ng x (defScope o.st) g cdv X.A X.stack s1 H1 fun cl d H' => W cl d σ H').tr pn xe) W' →
        PassesOwn (model X.prog X.w) (X.A.deeper (envOfC x (defScope o.st) s1.heap.objs.size g cdv)) (envOfC x (defScope o.st) s1.heap.objs.size g cdv) xe →
        CtxS Γ (k2 + 1) (lcOf o.Ng (defScope o.st)) ((cxOf (L2.CX X.prog X.w) X.prog X.w X.K X.mg X.base o.Ng x (defScope o.st) g cdv X.A X.stack s1 H1 fun cl d H' => W cl d σ H').tr pn xe) W' := fun W' pn xe tk po =>
      { prog := ctxZ.prog, w := ctxZ.w, K := ctxZ.K, mg := ctxZ.mg, base := ctxZ.base, hN := ctxZ.hN, nd := ctxZ.nd, sc := ctxZ.sc, cells := ctxZ.cells, room := ctxZ.room, grd := ctxZ.grd, un := ctxZ.un, calm := ctxZ.calm, takes := tk, xn := ctxZ.xn, lam := ctxZ.lam, exc := fun z => absurd z (show ¬ false = true by decide), pass := po, stk := ctxZ.stk, fr := ctxZ.fr }
    -- the try's body: first the lambda
    have first : ∀ (W' : WX) (pn : List (Addr × Obj)) (xe : Value → Shared → Prop), Takes ((cxOf (L2.CX X.prog X.w) X.prog X.w X.K X.mg X.base o.Ng x (defScope o.st) g cdv X.A X.stack s1 H1 fun cl d H' => W cl d σ H').tr pn xe) W' →
        PassesOwn (model X.prog X.w) (X.A.deeper (envOfC x (defScope o.st) s1.heap.objs.size g cdv)) (envOfC x (defScope o.st) s1.heap.objs.size g cdv) xe →
        PSs ((cxOf (L2.CX X.prog X.w) X.prog X.w X.K X.mg X.base o.Ng x (defScope o.st) g cdv X.A X.stack s1 H1 fun cl d H' => W cl d σ H').tr pn xe) (.Expr (.Call (.Name o.a o.p1) [] [] o.p2) o.p3 :: o.ms)
          (fun Ed σZ HZ => σZ[0]? = some (some (.ref fa)) ∧ HZ c' = some (CodeO c' (X.env.qual ++ "<lambda>")) ∧ ∃ (D2 : Wd) (h2 : AH) (envZ : Env1), At Γ D2 h2 envZ σZ HZ ∧ Ext D1 D2 ∧ SOk Γ D2 (tryTh (fun h' => f (dnG 2 G) env h') o.bm (dnG 1 G) envZ h2) Ed W') := by
      intro W' pn xe tk po
      have cz := trZ W' pn xe tk po
      have act := act_g (X := X) (CXg := L2.CX X.prog X.w) (Eg := fun cl d H' => W cl d σ H') (Ng := o.Ng) (qg := x) (a := o.a) (sg := defScope o.st) (g := g) (cdg := cdv) (i := 0) (pn := pn) (xe := xe) (E := fun σZ cl d H' => W' cl d σZ H')
        (tb := fun σZ => tEv Γ (fun cl d _ H' => W' cl d σZ H') (f (dnG 2 G))) (p1 := o.p1) (p2 := o.p2) (k := k2) I1 LS hfa hfn hfr (hbind _ _ _ _ _) (fun σZ => passAt tk σZ) room1
        (fun σZ s2 HZ room2 => hb Γ (dnG 2 G) k2 _ _ so2 (ctx_lam c hx0 (show (X.A.deeper (gEnv s1 x (defScope o.st) g cdv)).guards = some [] from grd) k2 room2)) o.n0 (vis_of o.vis) (okName1 o.okn) (okName2 o.okn)
      refine PSs.weak (pss_cons (ps_expr act (by rfl)) (o.hm Γ (dnG 1 G) (k2 + 1) _ W' so1 cz)) fun Ed σZ HZ w => ?_
      obtain ⟨w1, w2, D2, h2, envZ, atZ, x2, w3⟩ := w
      refine ⟨w1, w2, D2, h2, env, ⟨atZ.hp, atZ.rel, en1.ext x2, atZ.ok⟩, ?_⟩
      have w3 : SOk Γ D2 (match f (dnG 2 G) env h2 with
        | .ok _ h' => o.bm (dnG 1 G) envZ h'
        | .exc e h' => .exc e envZ h'
        | .bad => .bad) Ed W' := w3
      cases ef : f (dnG 2 G) env h2 with
      | bad => rw [ef] at w3; exact w3.elim
      | exc e h3 =>
        rw [ef] at w3
        exact fun D3 cls d x3 R3 rx => w3 D3 σZ cls d x3 R3 (atZ.env.ext x3) rx
      | ok v h3 =>
        rw [ef] at w3
        exact fun D3 u x3 R3 r3 => ⟨D3, h3, envZ, ⟨rfl, R3, atZ.env.ext x3, atZ.ok.ext x3⟩, SOk.ext x3 w3⟩
    refine ⟨_, pss_cons (Px.ps_try_all ctxZ.stk ctxZ.fr o.sc.nd ctxZ.takes first (hds_all so1 ctxZ o.hc)) (o.hr Γ (dnG 1 G) (k2 + 1) _ _ so1 ctxZ), ?_⟩
    -- what is asked
    have start : EnvR Γ.K D1 (List.replicate o.Ng.length none) (L2.start o.Ng [V.ref fa]) := by
      refine ⟨by unfold L2.start; simp; have := o.len; omega, fun i v e => ?_⟩
      have := List.mem_of_getElem? e
      rw [List.mem_replicate] at this
      cases this.2
    refine ⟨by unfold L2.start; rfl, by first | exact hco | (rw [eH1]; exact hco), D1, h, List.replicate o.Ng.length none, ⟨eH1, RD, start, ok1⟩, Ext.refl _, ?_⟩
    have fin := close_ok (rc := false) RD q1
    unfold esSeq at fin
    unfold esTry at fin
    cases et : tryTh (fun h' => f (dnG 2 G) env h') o.bm (dnG 1 G) (List.replicate o.Ng.length none) h with
    | bad => rw [et] at fin; exact fin.elim
    | nx env2 h2 =>
      rw [et] at fin
      exact fun D2 σ2 x2 R2 en2 => ⟨D2, h2, env2, ⟨rfl, R2, en2, ok1.ext x2⟩, SOk.ext x2 fin⟩
    | ret v h2 => rw [et] at fin; exact fin
    | brk env2 h2 => rw [et] at fin; exact fin
    | ct env2 h2 => rw [et] at fin; exact fin
    | exc e env2 h2 =>
      rw [et] at fin
      intro D2 σ2 cls d x2 R2 en2 rx
      have fin2 : SOk Γ D2 (match runH S.exs o.cl (dnG 1 G) e env2 h2 with
        | .nx env' h' => o.br (dnG 1 G) env' h'
        | r => r) { nx := fun _ H' => Q .non H', rt := Q } (fun cl d _ H' => W cl d σ H') := SOk.ext x2 fin
      refine runH_ok (W := fun cl d _ H' => W cl d σ H') so1 ctxZ hx0 R2 en2 (ok1.ext x2) rx o.hc ?_
      cases er : runH S.exs o.cl (dnG 1 G) e env2 h2 with
      | bad => rw [er] at fin2; exact fin2.elim
      | nx env3 h3 =>
        rw [er] at fin2
        exact fun D3 σ3 x3 R3 en3 => ⟨D3, h3, env3, ⟨rfl, R3, en3, (ok1.ext x2).ext x3⟩, SOk.ext x3 fin2⟩
      | ret v h3 => rw [er] at fin2; exact fin2
      | brk env3 h3 => rw [er] at fin2; exact fin2
      | ct env3 h3 => rw [er] at fin2; exact fin2
      | exc e3 env3 h3 => rw [er] at fin2; exact fin2
  refine wpAny_call (codeAny_mono run fun r s2 hq => ?_)
  cases r with
  | error e => exact passAt c.takes σ pins H1 s1 e s2 I1 hq
  | ok fl =>
    cases fl with
    | ret u => exact I1.after hq
    | next => exact False.elim hq
    | brk => exact False.elim hq
    | cont => exact False.elim hq
end
end Pv
end
section
set_option Elab.async false
set_option linter.all false
set_option maxRecDepth 100000
set_option autoImplicit false
namespace Pv
open PySem PySem.Spec PyProof.Rows L2
/-! ### bits -/
def andOp : Op2
  | .int i, .int j, h => .ok (.int (Builtin.bitAnd i j)) h
  | _, _, _ => .bad
def orOp : Op2
  | .int i, .int j, h => .ok (.int (Builtin.bitOr i j)) h
  | _, _, _ => .bad
def shrOp : Op2
  | .int i, .int j, h => if 0 ≤ j then .ok (.int (i / 2 ^ j.toNat)) h else .bad
  | _, _, _ => .bad
def shlOk (i j : Int) : Bool := decide (0 ≤ j ∧ (Builtin.Int.intBits i : Int) + j ≤ 2 ^ 27)
def shlOp : Op2
  | .int i, .int j, h => if shlOk i j then .ok (.int (i * 2 ^ j.toNat)) h else .bad
  | _, _, _ => .bad
theorem so_and : OpS andOp fun _ => rI0 fun i j => .int (Builtin.bitAnd i j) := by
  intro Γ D h x y u v Q Wx R rx ry o
  cases x with
  | int i =>
    cases y with
    | int j => cases rx; cases ry; exact ⟨i, j, rfl, rfl, fin (v := .int (Builtin.bitAnd i j)) R rfl o⟩
    | _ => exact o.elim
  | _ => exact o.elim
theorem so_or : OpS orOp fun _ => rI0 fun i j => .int (Builtin.bitOr i j) := by
  intro Γ D h x y u v Q Wx R rx ry o
  cases x with
  | int i =>
    cases y with
    | int j => cases rx; cases ry; exact ⟨i, j, rfl, rfl, fin (v := .int (Builtin.bitOr i j)) R rfl o⟩
    | _ => exact o.elim
  | _ => exact o.elim
theorem so_shr : OpS shrOp fun _ => rI (fun _ j => 0 ≤ j) fun i j => .int (i / 2 ^ j.toNat) := by
  intro Γ D h x y u v Q Wx R rx ry o
  cases x with
  | int i =>
    cases y with
    | int j =>
      cases rx; cases ry
      simp only [shrOp] at o
      split at o
      · rename_i hm
        exact ⟨i, j, rfl, rfl, hm, fin (v := .int (i / 2 ^ j.toNat)) R rfl o⟩
      · exact o.elim
    | _ => exact o.elim
  | _ => exact o.elim
theorem so_shl : OpS shlOp fun _ => rI CShl fun i j => .int (i * 2 ^ j.toNat) := by
  intro Γ D h x y u v Q Wx R rx ry o
  cases x with
  | int i =>
    cases y with
    | int j =>
      cases rx; cases ry
      simp only [shlOp] at o
      split at o
      · rename_i hm
        have hm' : 0 ≤ j ∧ (Builtin.Int.intBits i : Int) + j ≤ 2 ^ 27 := of_decide_eq_true hm
        exact ⟨i, j, rfl, rfl, hm', fin (v := .int (i * 2 ^ j.toNat)) R rfl o⟩
      · exact o.elim
    | _ => exact o.elim
  | _ => exact o.elim
end Pv
end
section
set_option Elab.async false
set_option linter.all false
set_option maxRecDepth 100000
set_option autoImplicit false
namespace Pv
open PySem PySem.Spec PyProof.Rows L2
section
variable {S : Stat} {L : Lc}
/-! ### comprehensions with two fors -/
def lcL2 (src : Src) (tg : Tg) (tt : EvT) (s1 : EvI) (tg1 : Tg) (tt1 : EvT) (te : EvE) (G : GT) (n0 : Nat) (env : Env1) : Nat → Nat → AH → Out Unit
  | fuel, i, h => match srcAt src h i with
    | none => .bad
    | some none => .ok () h
    | some (some v) => match fuel with
      | 0 => .bad
      | fuel + 1 => match setTg tg v env with
        | none => .bad
        | some env1 => match tt G env1 h with
          | .ok true h1 => match s1 G env1 h1 with
            | .ok src1 h2 => (lcL src1 tg1 tt1 te G n0 (wipeE env1 tg1.slots) (srcLen src1 h2) 0 h2).bind fun _ h3 => lcL2 src tg tt s1 tg1 tt1 te G n0 env fuel (i + 1) h3
            | _ => .bad
          | .ok false h1 => lcL2 src tg tt s1 tg1 tt1 te G n0 env fuel (i + 1) h1
          | _ => .bad
def evLc2 (cell : Bool) (s : EvI) (tg : Tg) (tt : EvT) (s1 : EvI) (tg1 : Tg) (tt1 : EvT) (te : EvE) (own : List Nat) : EvE := fun G env h => (s G env h).bind fun src h1 =>
  (lcL2 src tg tt s1 tg1 tt1 te G h1.length (wipeE env own) (srcLen src h1) 0 (h1 ++ [.lst []])).bind fun _ h2 => lcFin cell h1.length h2
abbrev Wno : WX := fun _ _ _ _ => False
theorem lc2_of {Γ : Cfg} {G : GT} {W : WX} {cell : Bool} {s s1 : EvI} {tg tg1 : Tg} {tt tt1 : EvT} {te : EvE} {own : List Nat} (hown : ∀ i ∈ tg.slots, i ∈ own) (σ : L2.St) (H : Hp) (Q : VK) (o : tEv Γ W (evLc2 cell s tg tt s1 tg1 tt1 te own G) σ H Q) :
    tLc2 (tIv Γ W (s G)) (gTg Γ.K tg) (tTv Γ Wno (tt G)) (tIv Γ Wno (s1 G)) (gTg Γ.K tg1) (tTv Γ Wno (tt1 G)) (tEv Γ Wno (te G)) own tg1.slots σ H Q := by
  obtain ⟨D, h, env, a, o⟩ := o
  refine ⟨D, h, env, a, (OutOk.bind (R1 := fun D _ src J => ItS Γ D src J) o).mono fun J H' ⟨D1, src, h1, e1, x1, r1, its, o1⟩ => ?_⟩
  subst e1
  intro p hp
  have xc := Ext.cel r1 hp (.lst [])
  have rc : Rel Γ.K (D1.cel p (.lst [])) (h1 ++ [.lst []]) := Rel.cel r1 hp ⟨[], upd_same, rfl⟩ rfl
  have atp : (D1.cel p (.lst [])).m[h1.length]? = some p := by
    show (D1.m ++ [p])[h1.length]? = some p
    rw [← r1.len]
    simp
  have en1 := a.env.ext x1
  refine ⟨fun i n H => ∃ (Dw : Wd) (hw : AH), Dw.H = H ∧ Rel Γ.K Dw hw ∧ Ext (D1.cel p (.lst [])) Dw ∧ OutOk Γ D1 ((lcL2 src tg tt s1 tg1 tt1 te G h1.length (wipeE env own) n i hw).bind fun _ h2 => lcFin cell h1.length h2) (fun D _ => Rep Γ.K D) Q (fun c d H' => W c d σ H'),
    ⟨srcLen src h1, D1.cel p (.lst []), _, rfl, rc, Ext.refl _, o1⟩, fun i n H ⟨Dw, hw, eH, rw', xw, ow⟩ => ?_⟩
  subst eH
  have it := its Dw hw i (xc.trans xw) rw'
  have wp : Dw.m[h1.length]? = some p := xw.get atp
  unfold lcL2 at ow
  split at ow
  · exact ow.elim
  · rename_i hsrc
    rw [hsrc] at it
    refine .inl ⟨it, ?_⟩
    have ow : OutOk Γ D1 (lcFin cell h1.length hw) (fun D _ => Rep Γ.K D) Q (fun c d H' => W c d σ H') := ow
    unfold lcFin at ow
    split at ow
    · exact ow Dw (.ref p) (xc.trans xw) rw' ⟨p, rfl, wp⟩
    · split at ow
      · rename_i hlen
        split at ow
        · rename_i acc hacc
          obtain ⟨us, t, q⟩ := rw'.cell _ _ p hacc wp
          have rf := Rel.freeze rw' wp (Nat.le_refl _)
          have hm : Dw.m = D1.m ++ [p] := prefix_eq xw.m (by rw [rw'.len, hlen]; show h1.length + 1 = (D1.m ++ [p]).length; simp [r1.len])
          refine ow { Dw with F := fun b => Dw.F b ∨ b = p, m := Dw.m.take h1.length } (.ref p) ⟨fun b f => ⟨.inl ((xc.trans xw).fz b f).1, ((xc.trans xw).fz b f).2⟩, ?_, (xc.trans xw).c⟩ rf ⟨p, us, rfl, ⟨.inr rfl, t⟩, RepL.pure (D := Dw) (D' := { Dw with F := fun b => Dw.F b ∨ b = p, m := Dw.m.take h1.length }) (fun b f => ⟨Or.inl f, rfl⟩) _ _ (rw'.pure _ (List.mem_of_getElem? hacc)) q⟩
          show D1.m <+: Dw.m.take h1.length
          rw [hm, ← r1.len, List.take_left']
          · exact List.prefix_refl _
          · rfl
        · exact ow.elim
      · exact ow.elim
  · rename_i v hsrc
    rw [hsrc] at it
    obtain ⟨go, yl⟩ := it
    cases n with
    | zero => exact ow.elim
    | succ n =>
      simp only at ow
      refine .inr ⟨go, fun H => ∃ (Dw : Wd) (hw : AH), Dw.H = H ∧ Rel Γ.K Dw hw ∧ Ext (D1.cel p (.lst [])) Dw ∧ OutOk Γ D1 ((lcL2 src tg tt s1 tg1 tt1 te G h1.length (wipeE env own) n (i + 1) hw).bind fun _ h2 => lcFin cell h1.length h2) (fun D _ => Rep Γ.K D) Q (fun c d H' => W c d σ H'), fun H' w => ⟨n, Nat.lt_succ_self n, w⟩, fun x H' y => ?_⟩
      obtain ⟨D3, e3, x3, r3, q3⟩ := yl x H' y
      subst e3
      cases hset : setTg tg v (wipeE env own) with
      | none => rw [hset] at ow; exact ow.elim
      | some env1 =>
        rw [hset] at ow
        simp only at ow
        have enw : EnvR Γ.K D3 (wipeE env own) (wipe σ own) := ((en1.wipe own).ext ((xc.trans xw).trans x3))
        refine gTg_of q3 enw hset fun σ' en' sb => ⟨SetBy.wipe sb hown, D3, hw, env1, ⟨rfl, r3, en', a.ok.ext (x1.trans ((xc.trans xw).trans x3))⟩, ?_⟩
        cases et : tt G env1 hw with
        | ok b h2 =>
          rw [et] at ow
          intro D4 u x4 r4 eb
          subst eb
          cases b with
          | true =>
            rw [if_pos rfl]
            refine ⟨D4, h2, env1, ⟨rfl, r4, en'.ext x4, a.ok.ext ((x1.trans ((xc.trans xw).trans x3)).trans x4)⟩, ?_⟩
            simp only at ow
            cases es : s1 G env1 h2 with
            | ok src1 h3 =>
              rw [es] at ow
              simp only at ow
              intro D5 J1 x5 r5 its1
              have x15 := (((xc.trans xw).trans x3).trans x4).trans x5
              have xw5 := ((xw.trans x3).trans x4).trans x5
              refine ⟨fun j k H => ∃ (Dv : Wd) (hv : AH), Dv.H = H ∧ Rel Γ.K Dv hv ∧ Ext D5 Dv ∧ OutOk Γ D1 (((lcL src1 tg1 tt1 te G h1.length (wipeE env1 tg1.slots) k j hv).bind fun _ h3 => lcL2 src tg tt s1 tg1 tt1 te G h1.length (wipeE env own) n (i + 1) h3).bind fun _ h2 => lcFin cell h1.length h2) (fun D _ => Rep Γ.K D) Q (fun c d H' => W c d σ H'),
                ⟨srcLen src1 h3, D5, h3, rfl, r5, Ext.refl _, ow⟩, fun j k H ⟨Dv, hv, eH, rv, xv, ov⟩ => ?_⟩
              subst eH
              have it1 := its1 Dv hv j xv rv
              have wpv : Dv.m[h1.length]? = some p := (xw5.trans xv).get atp
              unfold lcL at ov
              split at ov
              · exact ov.elim
              · rename_i hsrc1
                rw [hsrc1] at it1
                exact .inl ⟨it1, Dv, hv, rfl, rv, xw5.trans xv, ov⟩
              · rename_i v1 hsrc1
                rw [hsrc1] at it1
                obtain ⟨go1, yl1⟩ := it1
                cases k with
                | zero => exact ov.elim
                | succ k =>
                  simp only at ov
                  refine .inr ⟨go1, fun H => ∃ (Dv : Wd) (hv : AH), Dv.H = H ∧ Rel Γ.K Dv hv ∧ Ext D5 Dv ∧ OutOk Γ D1 (((lcL src1 tg1 tt1 te G h1.length (wipeE env1 tg1.slots) k (j + 1) hv).bind fun _ h3 => lcL2 src tg tt s1 tg1 tt1 te G h1.length (wipeE env own) n (i + 1) h3).bind fun _ h2 => lcFin cell h1.length h2) (fun D _ => Rep Γ.K D) Q (fun c d H' => W c d σ H'), fun H' w => ⟨k, Nat.lt_succ_self k, w⟩, fun x1' H1' y1 => ?_⟩
                  obtain ⟨D6, e6, x6, r6, q6⟩ := yl1 x1' H1' y1
                  subst e6
                  cases hset1 : setTg tg1 v1 (wipeE env1 tg1.slots) with
                  | none => rw [hset1] at ov; exact ov.elim
                  | some env2 =>
                    rw [hset1] at ov
                    simp only at ov
                    have enw1 : EnvR Γ.K D6 (wipeE env1 tg1.slots) (wipe σ' tg1.slots) := ((en'.wipe tg1.slots).ext (((x4.trans x5).trans xv).trans x6))
                    have x16 := (x15.trans xv).trans x6
                    refine gTg_of q6 enw1 hset1 fun σ2' en2 sb1 => ⟨SetBy.wipe sb1 (fun _ z => z), D6, hv, env2, ⟨rfl, r6, en2, a.ok.ext (x1.trans x16)⟩, ?_⟩
                    cases et1 : tt1 G env2 hv with
                    | ok b1 h4 =>
                      rw [et1] at ov
                      intro D7 u1 x7 r7 eb1
                      subst eb1
                      cases b1 with
                      | true =>
                        rw [if_pos rfl]
                        refine ⟨D7, h4, env2, ⟨rfl, r7, en2.ext x7, a.ok.ext ((x1.trans x16).trans x7)⟩, ?_⟩
                        simp only at ov
                        cases ee : te G env2 h4 with
                        | ok z h5 =>
                          rw [ee] at ov
                          intro D8 w x8 r8 rz
                          simp only at ov
                          split at ov
                          · rename_i acc hacc
                            split at ov
                            · rename_i hz
                              have w8 : D8.m[h1.length]? = some p := (((xw5.trans xv).trans x6).trans (x7.trans x8)).get atp
                              obtain ⟨us, t, q⟩ := r8.cell _ _ p hacc w8
                              have hx := Ext.wr r8 w8 (.lst (us ++ [w]))
                              exact ⟨us, t, by rw [q.length, sizeLine_eq]; omega, D8.wr p (.lst (us ++ [w])), _, rfl, Rel.wr (c := .lst (acc ++ [z])) r8 w8 ⟨_, upd_same, RepL.append (RepL.ext hx _ _ q) (RepL.cons (Rep.ext hx _ _ rz) rfl)⟩ (pureL_append.mpr ⟨r8.pure _ (List.mem_of_getElem? hacc), pureL_cons.mpr ⟨hz.1, rfl⟩⟩), (((xv.trans x6).trans (x7.trans x8)).trans hx), ov⟩
                            · exact ov.elim
                          · exact ov.elim
                        | exc e h3 => rw [ee] at ov; exact ov.elim
                        | bad => rw [ee] at ov; exact ov.elim
                      | false =>
                        rw [if_neg Bool.false_ne_true]
                        exact ⟨D7, h4, rfl, r7, (xv.trans x6).trans x7, ov⟩
                    | exc e h2 => rw [et1] at ov; exact ov.elim
                    | bad => rw [et1] at ov; exact ov.elim
            | exc e h3 => rw [es] at ow; exact ow.elim
            | bad => rw [es] at ow; exact ow.elim
          | false =>
            rw [if_neg Bool.false_ne_true]
            exact ⟨D4, h2, rfl, r4, (xw.trans x3).trans x4, ow⟩
        | exc e h2 => rw [et] at ow; exact ow.elim
        | bad => rw [et] at ow; exact ow.elim
theorem lc2_mono {wi wi1 : TI} {g g' g1 g1' : TG} {tt tt1 : TT} {te : TE} {vs vs1 : List Nat} {σ : L2.St} {H : Hp} {Q : VK} (h : tLc2 wi g tt wi1 g1 tt1 te vs vs1 σ H Q) (hg : g = g') (hg1 : g1 = g1') : tLc2 wi g' tt wi1 g1' tt1 te vs vs1 σ H Q := by rw [← hg, ← hg1]; exact h
theorem se_lc2 {cell : Bool} {elt tg e tg1 e1 : Expr} {ifs ifs1 : List Expr} {scope : Scope} {own : List (Str × Nat)} {s s1 : EvI} {t t1 : Tg} {tt tt1 : EvT} {te : EvE} {pos : Pos} (hs : SI S L tg e s) (hb : blkC L.N L.sc scope own = true) (hg : SG (blkL L scope) tg t) (ht : STs S (blkL L scope) ifs tt)
    (hs1 : SI S (blkL L scope) tg1 e1 s1) (hg1 : SG (blkL L scope) tg1 t1) (ht1 : STs S (blkL L scope) ifs1 tt1) (he : SE S (blkL L scope) elt te)
    (hn : notSet e = true) (hn1 : notSet e1 = true) (hh : L.hot = false) (hown : ∀ i ∈ t.slots, i ∈ own.map (·.2)) (hown1 : ∀ i ∈ t1.slots, i ∈ own.map (·.2)) : SE S L (.ListComp elt [⟨tg, e, ifs, 0⟩, ⟨tg1, e1, ifs1, 0⟩] scope pos) (evLc2 cell s t tt s1 t1 tt1 te (own.map (·.2))) := by
  intro Γ G k X W so c
  refine PE.weak (pe_lc2 (own := own) (g := gTg X.K t) (g1 := gTg X.K t1) (c.calm hh) (by rw [c.hN]; exact c.nd) (hs Γ G k X W so c) (by rw [c.hN, c.sc]; exact blkOk_by hb) hown1 (fun s' H' C cl fp => hg Γ k _ _ (ctx_blk c scope s' H' C cl fp)) (fun s' H' C cl fp => ht Γ G k _ _ so (ctx_blk c scope s' H' C cl fp)) (fun s' H' C cl fp => hs1 Γ G k _ _ so (ctx_blk c scope s' H' C cl fp)) (fun s' H' C cl fp => hg1 Γ k _ _ (ctx_blk c scope s' H' C cl fp)) (fun s' H' C cl fp => ht1 Γ G k _ _ so (ctx_blk c scope s' H' C cl fp)) (fun s' H' C cl fp => he Γ G k _ _ so (ctx_blk c scope s' H' C cl fp)) (folded_of hn) (fun env => folded_of hn1)) fun σ H Q o => ?_
  exact lc2_mono (lc2_of hown σ H Q o) (by rw [← c.K]) (by rw [← c.K])
/-! ### list(range(..)) -/
def sLi : Str := "list"
def rgA (a b : Int) : List AV := (List.range (b - a).toNat).map fun i => AV.int (a + (i : Nat))
theorem rep_rg {K : PySem.W.Frag} {D : Wd} (a : Int) : ∀ ns : List Nat, RepL K D (ns.map fun i => AV.int (a + (i : Nat))) (ns.map fun i => V.int (a + (i : Nat)))
  | [] => rfl
  | n :: ns => RepL.cons rfl (rep_rg a ns)
def evLRg1 (f : EvE) : EvE := fun G env h => (f G env h).bind fun x h1 => match x with
  | .int n => if 0 ≤ n ∧ n ≤ 1000 then .ok (.lst (rgA 0 n)) h1 else .bad
  | _ => .bad
def evLRg2 (f g : EvE) : EvE := fun G env h => (f G env h).bind fun x h1 => (g G env h1).bind fun y h2 => match x, y with
  | .int n, .int m => if 0 ≤ n ∧ n ≤ 1000 ∧ 0 ≤ m ∧ m ≤ 1000 then .ok (.lst (rgA n m)) h2 else .bad
  | _, _ => .bad
theorem se_lrg1 {x y : Str} {a : Expr} {f : EvE} {p p1 pos pos1 : Pos} (hxl : x = sLi) (hyr : y = sRange) (hx : x ∈ S.free) (hy : y ∈ S.free) (hgx : glB L.sc x = true) (hgy : glB L.sc y = true) (ha : SE S L a f) (hs : notStar a = true) (hh : L.hot = false) :
    SE S L (.Call (.Name x p) [.Call (.Name y p1) [a] [] pos1] [] pos) (evLRg1 f) := by
  subst hxl; subst hyr
  intro Γ G k X W so c
  refine PE.weak (pe_listRg (c.calm hh) (gl_of c hgx) (by rw [c.mg]; exact so.free _ hx) (prg_1 (gl_of c hgy) (by rw [c.mg]; exact so.free _ hy) (ha Γ G k X W so c) (starEach_cons hs)) (starEach_cons rfl)) fun σ H Q ⟨D, h, env, a, o⟩ => ?_
  refine ⟨D, h, env, a, (OutOk.bind (R1 := fun D _ => Rep Γ.K D) o).mono fun u H' ⟨D1, v1, h1, e1, x1, r1, q1, o1⟩ => ?_⟩
  split at o1
  · split at o1
    · rename_i n hn
      cases q1
      rw [← e1]
      exact ⟨n, rfl, RgOk.of_le (by omega) (by omega) (by omega) (by omega), fin_lst r1 (rep_rg 0 _) o1⟩
    · exact o1.elim
  · exact o1.elim
theorem se_lrg2 {x y : Str} {a b : Expr} {f g : EvE} {p p1 pos pos1 : Pos} (hxl : x = sLi) (hyr : y = sRange) (hx : x ∈ S.free) (hy : y ∈ S.free) (hgx : glB L.sc x = true) (hgy : glB L.sc y = true) (ha : SE S L a f) (hb : SE S L b g) (hs : notStar a = true) (hs2 : notStar b = true) (hh : L.hot = false) :
    SE S L (.Call (.Name x p) [.Call (.Name y p1) [a, b] [] pos1] [] pos) (evLRg2 f g) := by
  subst hxl; subst hyr
  intro Γ G k X W so c
  refine PE.weak (pe_listRg (c.calm hh) (gl_of c hgx) (by rw [c.mg]; exact so.free _ hx) (prg_2 (gl_of c hgy) (by rw [c.mg]; exact so.free _ hy) (ha Γ G k X W so c) (hb Γ G k X W so c) (starEach_cons hs) (starEach_cons hs2) (by rw [starEach_cons hs2]; rfl)) (starEach_cons rfl)) fun σ H Q ⟨D, h, env, a, o⟩ => ?_
  refine ⟨D, h, env, a, (OutOk.bind (R1 := fun D _ => Rep Γ.K D) o).mono fun u H' ⟨D1, v1, h1, e1, x1, r1, q1, o1⟩ => ?_⟩
  refine ⟨D1, h1, env, a.next e1 x1 r1, (OutOk.bind (R1 := fun D _ => Rep Γ.K D) o1).mono fun u2 H2 ⟨D2, v2, h2, e2, x2, r2, q2, o2⟩ => ?_⟩
  split at o2
  · rename_i n m _
    split at o2
    · rename_i hn
      cases q1
      cases q2
      rw [← e2]
      exact ⟨n, m, rfl, rfl, RgOk.of_le (by omega) (by omega) (by omega) (by omega), fin_lst r2 (rep_rg n _) o2⟩
    · exact o2.elim
  · exact o2.elim
end
end Pv
end
section
set_option Elab.async false
set_option linter.all false
set_option maxRecDepth 100000
set_option autoImplicit false
namespace Pv
open PySem PySem.Spec PyProof.Rows L2
section
variable {S : Stat} {L : Lc}
/-! ### defs as values -/
def fnNm (fs : List (Str × Nat × Nat)) (i : Nat) : Option Str := (fs.find? (fun p => p.2.1 == i)).map (·.1)
def fnsU (fs : List (Str × Nat × Nat)) : Bool := fs.all fun p => fs.lookup p.1 == some p.2
theorem ocF_of {fs : List (Str × Nat × Nat)} {mg : Str → Option Value} {i : Nat} {x : Str} {a : Addr} (h : fnNm fs i = some x) (e : mg x = some (.ref a)) : (ocF fs mg i).1 = a := by
  unfold fnNm at h
  unfold ocF
  split
  · rename_i p hp
    rw [hp] at h
    cases h
    rw [e]
  · rename_i hp
    rw [hp] at h
    cases h
def evFn (i : Nat) : EvE := fun _ _ h => .ok (.fn i) h
theorem se_fnv {x : Str} {i n : Nat} {pos : Pos} (hx : S.fns.lookup x = some (i, n)) (hu : fnNm S.fns i = some x) (hg : glB L.sc x = true) (hn : okName x = true) : SE S L (.Name x pos) (evFn i) := by
  intro Γ G k X W so c
  obtain ⟨f, fd, ps, e1, _⟩ := so.fn x i n hx
  refine PE.weak (pe_glob (x := x) (v := .ref f) (gl_of c hg) (by rw [c.mg]; exact e1) rfl (okName1 hn)) fun σ H Q ⟨D, h, env, a, o⟩ => ?_
  have rp : Rep Γ.K D (.fn i) (.ref f) := by
    show V.ref f = .ref (D.oc (1000000 + i)).1
    rw [a.ok.2.2, so.oc i, ocF_of hu e1]
  have q := o D (.ref f) (Ext.refl D) a.rel rp
  rw [a.hp] at q
  exact q
def evCallV (fs : List (Str × Nat × Nat)) (j : Nat) (f : EvA) : EvE := fun G env h => match env[j]? with
  | some (some (.fn i)) => match fs.find? (fun p => p.2.1 == i) with
    | some q => (f G env h).bind (opCall q.2.2 i G)
    | none => .bad
  | _ => .bad
theorem se_callV {y : Str} {j : Nat} {e : Expr} {es : List Expr} {f : EvA} {p pos : Pos} (hN : L.N[j]? = some y) (hv : visB L.sc y = true) (hn : okName y = true) (hu : fnsU S.fns = true) (ha : SA S L (e :: es) f) (hst : (e :: es).all notStar = true) (hh : L.hot = false) :
    SE S L (.Call (.Name y p) (e :: es) [] pos) (evCallV S.fns j f) := by
  intro Γ G k X W so c
  rw [List.all_cons, Bool.and_eq_true] at hst
  refine ⟨fun pins s σ H Q I o => ?_⟩
  obtain ⟨D, h, env, ata, o⟩ := o
  unfold evCallV at o
  cases ev : env[j]? with
  | none => rw [ev] at o; exact o.elim
  | some v =>
    cases v with
    | none => rw [ev] at o; exact o.elim
    | some v =>
      rw [ev] at o
      cases v with
      | fn i =>
        obtain ⟨u, hs, ru⟩ := ata.env.2 j _ ev
        simp only at o
        cases hq : S.fns.find? (fun p => p.2.1 == i) with
        | none => rw [hq] at o; exact o.elim
        | some q0 =>
          rw [hq] at o
          simp only at o
          have hi : q0.2.1 = i := by simpa using List.find?_some hq
          have hm : q0 ∈ S.fns := List.mem_of_find?_eq_some hq
          have hl : S.fns.lookup q0.1 = some (i, q0.2.2) := by
            have := (List.all_eq_true.mp hu) q0 hm
            rw [beq_iff_eq] at this
            rw [this, ← hi]
          obtain ⟨a, fd, ps, e1, e2, e3, F⟩ := so.fn q0.1 i q0.2.2 hl
          have hnm : fnNm S.fns i = some q0.1 := by unfold fnNm; rw [hq]; rfl
          have eu : u = .ref a := by
            have ru' : u = .ref (D.oc (1000000 + i)).1 := ru
            rw [ru', ata.ok.2.2, so.oc i, ocF_of hnm e1]
          subst eu
          refine wpAny_Call_Name_kw (thn ((pe_var (pos := p) (i := j) (x := y) (by rw [c.hN]; exact hN) (by rw [c.sc]; exact vis_of hv) (okName1 hn) (okName2 hn)).run pins s σ H (fun v H1 => v = .ref a ∧ H1 = H) I ⟨.ref a, hs, rfl, rfl⟩) fun u s1 ⟨v, H1, I1, r1, q1⟩ => ?_)
          obtain ⟨rfl, rfl⟩ := q1
          cases r1
          refine PySem.W.callWith_K (h₀ := X.base) I1.ok.mod.kin (by rw [c.K]; exact e2) (thn ((ha Γ G k X W so c).run pos pins s1 σ _ (fun us H1 => spOf Γ q0.2.2 (G i) us H1 Q (WE W σ)) I1 ?_) fun us s1 ⟨vs, H1, I1, r, q⟩ => ⟨I1.kIn, ?_⟩) (starEach_cons hst.1) (starEach_plain hst.2)
          · refine ⟨D, h, env, ata, (OutOk.bind (R1 := fun D _ => RepL Γ.K D) o).mono fun u H' ⟨D1, v1, h1, e1, x1, r1, q1, o1⟩ => ?_⟩
            unfold opCall at o1
            split at o1
            · rename_i hl
              exact ⟨by rw [q1.length]; exact hl, D1, h1, v1, e1, r1, q1, (ata.ok.ext x1).out (c.xn hh), o1⟩
            · exact o1.elim
          · have F' : FnG X.prog X.w X.K X.mg X.base (L2.CX X.prog X.w) k a fd ps (spOf Γ q0.2.2 (G i)) := by rw [c.prog, c.w, c.K, c.mg, c.base]; exact F
            exact fn_runs F' c.grd (c.room hh) (by rw [c.K]; exact e3) (passAt c.takes σ) I1 r q
      | _ => exact o.elim
end
end Pv
end
section
set_option Elab.async false
set_option linter.all false
set_option maxRecDepth 100000
set_option autoImplicit false
namespace Pv
open PySem PySem.Spec PyProof.Rows L2
section
variable {S : Stat} {L : Lc}
/-! ### lists of lists that are changed: a comprehension whose items are new cells -/
def lcM (src : Src) (tg : Tg) (tt : EvT) (te : EvE) (G : GT) (n0 : Nat) (env : Env1) : Nat → Nat → Nat → AH → Out Nat
  | fuel, i, cnt, h => match srcAt src h i with
    | none => .bad
    | some none => .ok cnt h
    | some (some v) => match fuel with
      | 0 => .bad
      | fuel + 1 => match setTg tg v env with
        | none => .bad
        | some env1 => match tt G env1 h with
          | .ok true h1 => match te G env1 h1 with
            | .ok (.ref q) h2 => match h2[n0 + cnt]?, h2[n0 + cnt + 1]? with
              | some (.mat lo r), some (.lst xs) => if q = n0 + cnt + 1 ∧ h2.length = n0 + cnt + 2 ∧ cnt < 1000 ∧ lo = n0 ∧ r = cnt then lcM src tg tt te G n0 env fuel (i + 1) (cnt + 1) (h2.take (n0 + cnt) ++ [.lst xs, .mat n0 (cnt + 1)]) else .bad
              | _, _ => .bad
            | _ => .bad
          | .ok false h1 => lcM src tg tt te G n0 env fuel (i + 1) cnt h1
          | _ => .bad
def evLcM (s : EvI) (tg : Tg) (tt : EvT) (te : EvE) (own : List Nat) : EvE := fun G env h => (s G env h).bind fun src h1 =>
  (lcM src tg tt te G h1.length (wipeE env own) (srcLen src h1) 0 0 (h1 ++ [.mat h1.length 0])).bind fun cnt h2 => match h2[h1.length + cnt]? with
    | some (.mat _ _) => .ok (.ref (h1.length + cnt)) h2
    | _ => .bad
/-- the list that grows goes behind the new cell -/
theorem Rel.turn {K : PySem.W.Frag} {D : Wd} {h : AH} (R : Rel K D h) {n cnt : Nat} {p b : Addr} {xs : List AV} (hl : h.length = n + cnt + 2) (hp : D.m[n + cnt]? = some p) (hb : D.m[n + cnt + 1]? = some b) (hm : h[n + cnt]? = some (.mat n cnt)) (hx : h[n + cnt + 1]? = some (.lst xs)) :
    ∃ us : List V, D.H p = some (.lst us) ∧ us.length = cnt ∧ Rel K { D with m := D.m.take (n + cnt) ++ [b, p], H := upd D.H p (.lst (us ++ [.ref b])) } (h.take (n + cnt) ++ [.lst xs, .mat n (cnt + 1)]) := by
  obtain ⟨us, h1, h2, h3⟩ := R.cell _ _ _ hm hp
  refine ⟨us, h1, h2, ?_⟩
  have len : D.m.length = n + cnt + 2 := R.len.trans hl
  have lt : (D.m.take (n + cnt)).length = n + cnt := by simp [len]
  have lh : (h.take (n + cnt)).length = n + cnt := by simp [hl]
  have ne : b ≠ p := fun e => by
    subst e
    have := Rel.wr.nodup_ix' R.nd hb hp
    omega
  have low : ∀ {i : Nat} {a : Addr}, i < n + cnt → D.m[i]? = some a → a ≠ p := fun hi e z => by
    subst z
    have := Rel.wr.nodup_ix' R.nd e hp
    omega
  have gm : ∀ i, i < n + cnt → (D.m.take (n + cnt) ++ [b, p])[i]? = D.m[i]? := fun i hi => by
    rw [List.getElem?_append_left (by omega), List.getElem?_take_of_lt hi]
  have gh : ∀ i, i < n + cnt → (h.take (n + cnt) ++ [.lst xs, .mat n (cnt + 1)])[i]? = h[i]? := fun i hi => by
    rw [List.getElem?_append_left (by omega), List.getElem?_take_of_lt hi]
  have gm0 : (D.m.take (n + cnt) ++ [b, p])[n + cnt]? = some b := by rw [List.getElem?_append_right (by omega), lt, Nat.sub_self]; rfl
  have gm1 : (D.m.take (n + cnt) ++ [b, p])[n + cnt + 1]? = some p := by rw [List.getElem?_append_right (by omega), lt, show n + cnt + 1 - (n + cnt) = 1 by omega]; rfl
  have gh0 : (h.take (n + cnt) ++ [.lst xs, .mat n (cnt + 1)])[n + cnt]? = some (.lst xs) := by rw [List.getElem?_append_right (by omega), lh, Nat.sub_self]; rfl
  have gh1 : (h.take (n + cnt) ++ [.lst xs, .mat n (cnt + 1)])[n + cnt + 1]? = some (.mat n (cnt + 1)) := by rw [List.getElem?_append_right (by omega), lh, show n + cnt + 1 - (n + cnt) = 1 by omega]; rfl
  have top : ∀ {i : Nat} {c : Cell}, (h.take (n + cnt) ++ [.lst xs, .mat n (cnt + 1)])[i]? = some c → i < n + cnt ∨ i = n + cnt ∨ i = n + cnt + 1 := fun e => by
    have := (List.getElem?_eq_some_iff.mp e).1
    simp only [List.length_append, lh, List.length_cons, List.length_nil] at this
    omega
  have fzp : ¬ D.F p := R.dis p (List.mem_of_getElem? hp)
  have FH : ∀ a, D.F a → D.F a ∧ upd D.H p (.lst (us ++ [.ref b])) a = D.H a := fun a f => ⟨f, upd_ne fun e => fzp (e ▸ f)⟩
  refine ⟨?_, ?_, fun i c a e1 e2 => ?_, fun a f => ?_, fun a ha => ?_, fun c hc => ?_, ?_, fun i lo r e => ?_⟩
  · show (D.m.take (n + cnt) ++ [b, p]).length = _
    simp only [List.length_append, lt, lh, List.length_cons, List.length_nil]
  · show (D.m.take (n + cnt) ++ [b, p]).Nodup
    rw [List.nodup_append]
    refine ⟨R.nd.sublist (List.take_sublist _ _), by simp [ne], fun y hy z hz => ?_⟩
    obtain ⟨i, hi⟩ := List.getElem?_of_mem hy
    have hij : i < n + cnt := by
      have := (List.getElem?_eq_some_iff.mp hi).1
      rw [lt] at this
      exact this
    rw [List.getElem?_take_of_lt hij] at hi
    rcases List.mem_cons.mp hz with q | q
    · subst q
      intro ey
      subst ey
      have := Rel.wr.nodup_ix' R.nd hi hb
      omega
    · rw [List.mem_singleton.mp q]
      exact low hij hi
  · have e2 : (D.m.take (n + cnt) ++ [b, p])[i]? = some a := e2
    rcases top e1 with q | q | q
    · rw [gh i q] at e1
      rw [gm i q] at e2
      refine (R.cell i c a e1 e2).pure (R.pure c (List.mem_of_getElem? e1)) FH (upd_ne (low q e2)) rfl fun lo r ec j hj => ?_
      subst ec
      have := R.mt i lo r e1
      exact gm _ (by omega)
    · subst q
      rw [gh0] at e1
      rw [gm0] at e2
      cases e1; cases e2
      refine (R.cell _ _ b hx hb).pure (R.pure _ (List.mem_of_getElem? hx)) FH (upd_ne ne) rfl fun lo r ec => ?_
      cases ec
    · subst q
      rw [gh1] at e1
      rw [gm1] at e2
      cases e1; cases e2
      refine ⟨us ++ [.ref b], upd_same, by simp [h2], fun j hj => ?_⟩
      by_cases q : j < cnt
      · obtain ⟨y, e3, e4⟩ := h3 j q
        refine ⟨y, ?_, (gm _ (by omega)).trans e4⟩
        rw [List.getElem?_append_left (by omega)]
        exact e3
      · have : j = cnt := by omega
        subst this
        refine ⟨b, ?_, gm0⟩
        rw [List.getElem?_append_right (by omega), h2, Nat.sub_self]
        rfl
  · obtain ⟨o, e, t⟩ := R.fz a f
    exact ⟨o, (FH a f).2.trans e, t⟩
  · have ha : a ∈ D.m.take (n + cnt) ++ [b, p] := ha
    rcases List.mem_append.mp ha with z | z
    · exact R.dis a (List.mem_of_mem_take z)
    · rcases List.mem_cons.mp z with z | z
      · rw [z]; exact R.dis b (List.mem_of_getElem? hb)
      · rw [List.mem_singleton.mp z]; exact fzp
  · rcases List.mem_append.mp hc with z | z
    · exact R.pure c (List.mem_of_mem_take z)
    · rcases List.mem_cons.mp z with z | z
      · rw [z]; exact R.pure _ (List.mem_of_getElem? hx)
      · rw [List.mem_singleton.mp z]; rfl
  · exact tabs_upd R.tab fun u e => by rw [h1] at e; cases e; rfl
  · rcases top e with q | q | q
    · rw [gh i q] at e
      exact R.mt i lo r e
    · subst q
      rw [gh0] at e
      cases e
    · subst q
      rw [gh1] at e
      cases e
      omega
abbrev Wne : WX := fun _ _ _ _ => False
theorem lcM_of {Γ : Cfg} {G : GT} {W : WX} {s : EvI} {tg : Tg} {tt : EvT} {te : EvE} {own : List Nat} (hown : ∀ i ∈ tg.slots, i ∈ own) (σ : L2.St) (H : Hp) (Q : VK) (o : tEv Γ W (evLcM s tg tt te own G) σ H Q) :
    tLc (tIv Γ W (s G)) (gTg Γ.K tg) (tTv Γ Wne (tt G)) (tEv Γ Wne (te G)) own σ H Q := by
  obtain ⟨D, h, env, a, o⟩ := o
  refine ⟨D, h, env, a, (OutOk.bind (R1 := fun D _ src J => ItS Γ D src J) o).mono fun J H' ⟨D1, src, h1, e1, x1, r1, its, o1⟩ => ?_⟩
  subst e1
  intro p hp
  have xc := Ext.cel r1 hp (.lst [])
  have rc : Rel Γ.K (D1.cel p (.lst [])) (h1 ++ [.mat h1.length 0]) := Rel.cel r1 hp ⟨[], upd_same, rfl, fun i hi => absurd hi (by omega)⟩ rfl (fun lo r e => by cases e; omega)
  have atp : (D1.cel p (.lst [])).m[h1.length]? = some p := by
    show (D1.m ++ [p])[h1.length]? = some p
    rw [← r1.len]
    simp
  have en1 := a.env.ext x1
  have ml := r1.len
  refine ⟨fun i n H => ∃ (cnt : Nat) (Dw : Wd) (hw : AH), Dw.H = H ∧ Rel Γ.K Dw hw ∧ Ext D1 Dw ∧ Dw.m[h1.length + cnt]? = some p ∧ OutOk Γ D1 ((lcM src tg tt te G h1.length (wipeE env own) n i cnt hw).bind fun cnt h2 => match h2[h1.length + cnt]? with
      | some (.mat _ _) => .ok (.ref (h1.length + cnt)) h2
      | _ => .bad) (fun D _ => Rep Γ.K D) Q (fun c d H' => W c d σ H'),
    ⟨srcLen src h1, 0, D1.cel p (.lst []), _, rfl, rc, xc, atp, o1⟩, fun i n H ⟨cnt, Dw, hw, eH, rw', xw, wp, ow⟩ => ?_⟩
  subst eH
  have it := its Dw hw i xw rw'
  unfold lcM at ow
  split at ow
  · exact ow.elim
  · rename_i hsrc
    rw [hsrc] at it
    refine .inl ⟨it, ?_⟩
    have ow : OutOk Γ D1 (match hw[h1.length + cnt]? with
      | some (.mat _ _) => .ok (.ref (h1.length + cnt)) hw
      | _ => .bad) (fun D _ => Rep Γ.K D) Q (fun c d H' => W c d σ H') := ow
    split at ow
    · exact ow Dw (.ref p) xw rw' ⟨p, rfl, wp⟩
    · exact ow.elim
  · rename_i v hsrc
    rw [hsrc] at it
    obtain ⟨go, yl⟩ := it
    cases n with
    | zero => exact ow.elim
    | succ n =>
      simp only at ow
      refine .inr ⟨go, fun H => ∃ (cnt : Nat) (Dw : Wd) (hw : AH), Dw.H = H ∧ Rel Γ.K Dw hw ∧ Ext D1 Dw ∧ Dw.m[h1.length + cnt]? = some p ∧ OutOk Γ D1 ((lcM src tg tt te G h1.length (wipeE env own) n (i + 1) cnt hw).bind fun cnt h2 => match h2[h1.length + cnt]? with
        | some (.mat _ _) => .ok (.ref (h1.length + cnt)) h2
        | _ => .bad) (fun D _ => Rep Γ.K D) Q (fun c d H' => W c d σ H'), fun H' w => ⟨n, Nat.lt_succ_self n, w⟩, fun x H' y => ?_⟩
      obtain ⟨D3, e3, x3, r3, q3⟩ := yl x H' y
      subst e3
      cases hset : setTg tg v (wipeE env own) with
      | none => rw [hset] at ow; exact ow.elim
      | some env1 =>
        rw [hset] at ow
        simp only at ow
        have enw : EnvR Γ.K D3 (wipeE env own) (wipe σ own) := ((en1.wipe own).ext (xw.trans x3))
        refine gTg_of q3 enw hset fun σ' en' sb => ⟨SetBy.wipe sb hown, D3, hw, env1, ⟨rfl, r3, en', a.ok.ext (x1.trans (xw.trans x3))⟩, ?_⟩
        cases et : tt G env1 hw with
        | ok b h2 =>
          rw [et] at ow
          intro D4 u x4 r4 eb
          subst eb
          cases b with
          | true =>
            rw [if_pos rfl]
            refine ⟨D4, h2, env1, ⟨rfl, r4, en'.ext x4, a.ok.ext ((x1.trans (xw.trans x3)).trans x4)⟩, ?_⟩
            simp only at ow
            cases ee : te G env1 h2 with
            | ok z h3 =>
              rw [ee] at ow
              intro D5 w x5 r5 rz
              cases z with
              | ref q =>
                simp only at ow
                split at ow
                · rename_i lo r xs hm hx
                  split at ow
                  · rename_i hc
                    obtain ⟨hq, hl, hcn, elo, er⟩ := hc
                    rw [elo, er] at hm
                    obtain ⟨b, eb, hb⟩ := rz
                    subst eb
                    rw [hq] at hb
                    have x15 : Ext D1 D5 := ((xw.trans x3).trans x4).trans x5
                    have p5 : D5.m[h1.length + cnt]? = some p := ((x3.trans x4).trans x5).get wp
                    obtain ⟨us, g1, g2, g3⟩ := Rel.turn r5 hl p5 hb hm hx
                    have len5 : D5.m.length = h1.length + cnt + 2 := r5.len.trans hl
                    have lt : (D5.m.take (h1.length + cnt)).length = h1.length + cnt := by simp [len5]
                    refine ⟨us, g1, by rw [g2, sizeLine_eq]; omega, cnt + 1, _, _, rfl, g3, ⟨fun c f => ⟨(x15.fz c f).1, ?_⟩, ?_, x15.c⟩, ?_, ow⟩
                    · show upd D5.H p _ c = D1.H c
                      have cp : c ≠ p := fun e => by
                        subst e
                        exact r5.dis c (List.mem_of_getElem? p5) (x15.fz c f).1
                      rw [upd_ne cp]
                      exact (x15.fz c f).2
                    · show D1.m <+: D5.m.take (h1.length + cnt) ++ [b, p]
                      obtain ⟨t, et⟩ := x15.m
                      refine List.IsPrefix.trans ?_ (List.prefix_append _ _)
                      rw [← et]
                      rw [List.take_append]
                      rw [List.take_of_length_le (by omega)]
                      exact List.prefix_append _ _
                    · show (D5.m.take (h1.length + cnt) ++ [b, p])[h1.length + (cnt + 1)]? = some p
                      rw [List.getElem?_append_right (by omega), lt, show h1.length + (cnt + 1) - (h1.length + cnt) = 1 by omega]
                      rfl
                  · exact ow.elim
                · exact ow.elim
              | _ => exact ow.elim
            | exc e h3 => rw [ee] at ow; exact ow.elim
            | bad => rw [ee] at ow; exact ow.elim
          | false =>
            rw [if_neg Bool.false_ne_true]
            exact ⟨cnt, D4, h2, rfl, r4, (xw.trans x3).trans x4, (x3.trans x4).get wp, ow⟩
        | exc e h2 => rw [et] at ow; exact ow.elim
        | bad => rw [et] at ow; exact ow.elim
theorem ss_setLcM {x : Str} {i : Nat} {elt tg e : Expr} {ifs : List Expr} {scope : Scope} {own : List (Str × Nat)} {s : EvI} {t : Tg} {tt : EvT} {te : EvE} {py pos spos : Pos} (hs : SI S L tg e s) (hb : blkC L.N L.sc scope own = true) (hg : SG (blkL L scope) tg t) (ht : STs S (blkL L scope) ifs tt) (he : SE S (blkL L scope) elt te)
    (hn : notSet e = true) (hh : L.hot = false) (hown : ∀ i ∈ t.slots, i ∈ own.map (·.2)) (hN : L.N[i]? = some x) (hx : locOnly L x = true) (hk : kindB L.sc = true) (hl : (py.line == pos.line) = true) (ha : (scope.names.any fun (n, k) => n == x && (k == .local || k == .cell)) = false) :
    SS S L (.Assign [.Name x py] (.ListComp elt [⟨tg, e, ifs, 0⟩] scope pos) spos) (esSet (.nm i) (evLcM s t tt te (own.map (·.2)))) := by
  intro Γ G k X W so c
  have c' := c.toCtxP
  have hx' : X.env.scope.names.lookup x = some .local := by rw [c.sc]; exact of_decide_eq_true hx
  refine PS.weak (ps_setLc (i := i) (own := own) (g := gTg X.K t) (c.calm hh) (by rw [c.hN]; exact c.nd) (by rw [c.hN]; exact hN) hx' (sw_true (by rw [c.sc]; exact of_decide_eq_true hk) hx' hl ha) (hs Γ G k X W so c') (by rw [c.hN, c.sc]; exact blkOk_by hb) (fun s' H' C cl fp => hg Γ k _ _ (ctx_blk c' scope s' H' C cl fp)) (fun s' H' C cl fp => ht Γ G k _ _ so (ctx_blk c' scope s' H' C cl fp)) (fun s' H' C cl fp => he Γ G k _ _ so (ctx_blk c' scope s' H' C cl fp)) (folded_of hn)) fun E σ H o => ?_
  have q := asg_of E σ H o
  exact lc_mono (lcM_of hown σ H _ q) (by rw [← c.K])
/-- to a name that is no plain local the comprehension is stored behind its end -/
theorem sw_false {elt : Expr} {gs : List Comprehension} {scope : Scope} {pos py : Pos} {y : Str} {l : Nat} {env : Env} (h : env.scope.names.lookup y ≠ some .local) : swapsWith (.ListComp elt gs scope pos) (some (.Name y py)) l env = pure false := by
  have ky : (env.kindOf y == some .local) = false := beq_eq_false_iff_ne.mpr h
  unfold swapsWith
  simp only [ky, Bool.and_false, Bool.false_and]
theorem ss_setC {x : Str} {i : Nat} {elt : Expr} {gs : List Comprehension} {scope : Scope} {f : EvE} {p cp pos : Pos} (hN : L.N[i]? = some x) (hl : locB L x = true) (he : SE S L (.ListComp elt gs scope cp) f) (hx : L.sc.names.lookup x ≠ some .local) : SS S L (.Assign [.Name x p] (.ListComp elt gs scope cp) pos) (esSet (.nm i) f) := by
  intro Γ G k X W so c
  obtain ⟨h1, h2⟩ := loc_of c.toCtxP hl
  exact PS.weak (ps_set (i := i) (by rw [c.hN]; exact c.nd) (by rw [c.hN]; exact hN) h1 (he Γ G k X W so c.toCtxP) (sw_false (by rw [c.sc]; exact hx)) h2) fun E σ H o => asg_of E σ H o
theorem se_lcM {elt tg e : Expr} {ifs : List Expr} {scope : Scope} {own : List (Str × Nat)} {s : EvI} {t : Tg} {tt : EvT} {te : EvE} {pos : Pos} (hs : SI S L tg e s) (hb : blkC L.N L.sc scope own = true) (hg : SG (blkL L scope) tg t) (ht : STs S (blkL L scope) ifs tt) (he : SE S (blkL L scope) elt te)
    (hn : notSet e = true) (hh : L.hot = false) (hown : ∀ i ∈ t.slots, i ∈ own.map (·.2)) : SE S L (.ListComp elt [⟨tg, e, ifs, 0⟩] scope pos) (evLcM s t tt te (own.map (·.2))) := by
  intro Γ G k X W so c
  refine PE.weak (pe_lc (own := own) (g := gTg X.K t) (c.calm hh) (by rw [c.hN]; exact c.nd) (hs Γ G k X W so c) (by rw [c.hN, c.sc]; exact blkOk_by hb) (fun s' H' C cl fp => hg Γ k _ _ (ctx_blk c scope s' H' C cl fp)) (fun s' H' C cl fp => ht Γ G k _ _ so (ctx_blk c scope s' H' C cl fp)) (fun s' H' C cl fp => he Γ G k _ _ so (ctx_blk c scope s' H' C cl fp)) (folded_of hn)) fun σ H Q o => ?_
  exact lc_mono (lcM_of hown σ H Q o) (by rw [← c.K])
end
end Pv
end
section
set_option Elab.async false
set_option linter.all false
set_option maxRecDepth 100000
set_option autoImplicit false
/-! the greatest of a list of ints, with what is told of an empty one -/
namespace Mx
open PySem PySem.Spec PyProof.Rows L2
theorem args_d (a d : Value) : argsOk "max" ⟨[a], [(Str.ofString "default", d)]⟩ := by unfold argsOk; kernel_rfl
theorem loopNm : (toString "max" ++ toString ".loop" : String) = "max.loop" := by decide
section
variable {P : Program} {w : World} {A : Around} {R : Result → Shared → Prop} {I B : Addr} {fp wr : List Addr} {n : Nat} {ok : Nat → Value → Prop} {St : Nat → Heap → Prop} {bt : Nat → Nat → Bool} {kw : List (Str × Value)}
/-- the best so far is known -/
theorem rest (W : Walks P w A.in1 I fp wr n ok St) (hc : CmpOf P w A.in1 .Gt ok bt) (hB : B ∉ fp) : ∀ (m i : Nat) (s : Shared) (best : Value) (cap : Nat), n = i + 1 + m → St (i + 1) s.heap → ok (argBest bt i) best →
    s.heap.get? B = some ⟨.type "list", none, .seq #[best, best] cap, #[]⟩ →
    (∀ v h' tk, ok (argBest bt (n - 1)) v → (∀ b o, b ∉ wr → b ≠ B → s.heap.get? b = some o → h'.get? b = some o) → R (.ok (.ret v)) { s with heap := h', toks := tk }) →
    codeAny (model P w) A (.builtin "max.loop" ⟨[.ref I, .none, .ref B], kw⟩) R s := by
  have nw : B ∉ wr := fun z => hB (W.sub _ z)
  intro m
  induction m with
  | zero =>
    intro i s best cap hn st pb gB fin
    have en : i + 1 = n := by omega
    refine codeAny_builtin F.entry_max_loop ?_
    rw [Around.under_plainId F.plain_max_loop _]
    refine wpAny_bind (wpAny_seqItems gB rfl ?_)
    refine wpAny_bind (wpAny_tryCatch (W.done s _ _ (en ▸ st) fun h' tk kept => ?_))
    have gB2 := kept B _ nw gB
    refine wpAny_bind ?_
    refine wpAny_updateSeq gB2 rfl (wpAny_bind (wpAny_letGo (wpAny_pure (fin best _ tk (by rw [← en]; exact pb) fun b o h1 h2 e => ?_))))
    exact (Heap.get?_update_other _ _ h2.symm).trans (kept b o h1 e)
  | succ m ih =>
    intro i s best cap hn st pb gB fin
    refine codeAny_builtin F.entry_max_loop ?_
    rw [Around.under_plainId F.plain_max_loop _]
    refine wpAny_bind (wpAny_seqItems gB rfl ?_)
    refine wpAny_bind (wpAny_tryCatch (W.item (i + 1) s _ _ (by omega) st fun v h' tk pv st2 kept => ?_))
    have gB2 := kept B _ nw gB
    show wpAny _ A.in1 (tryCatch (holding [v, v] (richCompare .Gt v best >>= _)) _ >>= _) _ _ _
    refine wpAny_bind (wpAny_tryCatch (wpAny_holding (wpAny_bind (hc (i + 1) (argBest bt i) v best _ _ _ pv pb ?_))))
    refine wpAny_bind (wpAny_holding (wpAny_truthy_bool ?_))
    refine wpAny_bind (wpAny_letGo (wpAny_pure ?_))
    by_cases hb : bt (i + 1) (argBest bt i) = true
    · rw [hb]
      simp only [if_true]
      refine wpAny_bind ?_
      refine wpAny_updateSeq gB2 rfl (wpAny_bind (wpAny_letGo ?_))
      rw [loopNm]
      refine wpAny_pure ⟨plainId_quiet F.plain_max_loop _, ih (i + 1) _ v _ (by omega) (W.frame _ _ _ st2 fun b hbf o e => ?_) (by simp only [argBest, hb, if_true]; exact pv) (Heap.get?_update_self _ gB2 rfl) fun v' h2 tk2 pv' kept2 => ?_⟩
      · exact (Heap.get?_update_other _ _ (fun z : B = b => hB (z ▸ hbf))).trans e
      · exact fin v' h2 tk2 pv' fun b o h1 h3 e => kept2 b o h1 h3 ((Heap.get?_update_other _ _ h3.symm).trans (kept b o h1 e))
    · have hb : bt (i + 1) (argBest bt i) = false := by simpa using hb
      rw [hb]
      simp only [Bool.false_eq_true, if_false]
      refine wpAny_bind (wpAny_letGo ?_)
      rw [loopNm]
      exact wpAny_pure ⟨plainId_quiet F.plain_max_loop _, ih (i + 1) _ best cap (by omega) st2 (by simp only [argBest, hb, Bool.false_eq_true, if_false]; exact pb) gB2 fun v' h2 tk2 pv' kept2 => fin v' h2 tk2 pv' fun b o h1 h3 e => kept2 b o h1 h3 (kept b o h1 e)⟩
/-- from the beginning -/
theorem all_ (W : Walks P w A.in1 I fp wr n ok St) (hc : CmpOf P w A.in1 .Gt ok bt) (hB : B ∉ fp) (hn : 0 < n) {s : Shared} {cap : Nat} (st : St 0 s.heap) (gB : s.heap.get? B = some ⟨.type "list", none, .seq #[] cap, #[]⟩)
    (fin : ∀ v h' tk, ok (argBest bt (n - 1)) v → (∀ b o, b ∉ wr → b ≠ B → s.heap.get? b = some o → h'.get? b = some o) → R (.ok (.ret v)) { s with heap := h', toks := tk }) :
    codeAny (model P w) A (.builtin "max.loop" ⟨[.ref I, .none, .ref B], kw⟩) R s := by
  have nw : B ∉ wr := fun z => hB (W.sub _ z)
  refine codeAny_builtin F.entry_max_loop ?_
  rw [Around.under_plainId F.plain_max_loop _]
  refine wpAny_bind (wpAny_seqItems gB rfl ?_)
  refine wpAny_bind (wpAny_tryCatch (W.item 0 s _ _ hn st fun v h' tk pv st2 kept => ?_))
  have gB2 := kept B _ nw gB
  show wpAny _ A.in1 (updateSeq B (fun _ => #[v, v]) >>= _) _ _ _
  refine wpAny_bind ?_
  refine wpAny_updateSeq gB2 rfl ?_
  rw [loopNm]
  refine wpAny_pure ⟨plainId_quiet F.plain_max_loop _, rest W hc hB (n - 1) 0 _ v _ (by omega) (W.frame _ _ _ st2 fun b hbf o e => ?_) pv (Heap.get?_update_self _ gB2 rfl) fun v' h2 tk2 pv' kept2 => ?_⟩
  · exact (Heap.get?_update_other _ _ (fun z : B = b => hB (z ▸ hbf))).trans e
  · exact fin v' h2 tk2 pv' fun b o h1 h3 e => kept2 b o h1 h3 ((Heap.get?_update_other _ _ h3.symm).trans (kept b o h1 e))
/-- nothing is there -/
theorem none_ (W : Walks P w A.in1 I fp wr 0 ok St) (hB : B ∉ fp) {d : Value} {x : Str} {s : Shared} {cap : Nat} (st : St 0 s.heap) (gB : s.heap.get? B = some ⟨.type "list", none, .seq #[] cap, #[]⟩)
    (fin : ∀ h' tk, (∀ b o, b ∉ wr → b ≠ B → s.heap.get? b = some o → h'.get? b = some o) → R (.ok (.ret d)) { s with heap := h', toks := tk }) :
    codeAny (model P w) A (.builtin "max.loop" ⟨[.ref I, .none, .ref B], [(x, d)]⟩) R s := by
  refine codeAny_builtin F.entry_max_loop ?_
  rw [Around.under_plainId F.plain_max_loop _]
  refine wpAny_bind (wpAny_seqItems gB rfl ?_)
  refine wpAny_bind (wpAny_tryCatch (W.done s _ _ st fun h' tk kept => ?_))
  refine wpAny_bind (wpAny_rule (wpAny_pure ?_))
  exact fin h' tk fun b o h1 h2 e => kept b o h1 e
end
section
variable {P : Program} {w : World} {A : Around} {E : Value → Shared → Prop} {s : Shared} {l : Addr} {xs : Array (Int × Tok)}
theorem max_d {d : Value} {Q : Value → Shared → Prop} (hh : A.handled = none) (hl : s.heap.IsList l (intItems xs))
    (h1 : ∀ v h' tk, (intItems xs)[argBest (fun i j => decide (numAt xs i > numAt xs j)) (xs.size - 1)]? = some v → (∀ b o, s.heap.get? b = some o → h'.get? b = some o) → 0 < xs.size → Q v { s with heap := h', toks := tk })
    (h2 : ∀ h' tk, (∀ b o, s.heap.get? b = some o → h'.get? b = some o) → xs.size = 0 → Q d { s with heap := h', toks := tk }) :
    wpAny (model P w) A (call (.builtin "max") [.ref l] [(Str.ofString "default", d)]) Q E s := by
  refine kmk_tree F.kind_max F.plain_max F.entry_max (args_d _ _) ?_
  refine wpAny_bind (wpAny_of_eq (show Builtin.Builtins.bindParams "max" ["key", "default"] 0 ⟨[], [(Str.ofString "default", d)]⟩ = pure [none, some d] from rfl) ?_)
  refine wpAny_bind (wpAny_pure ?_)
  refine wpAny_bind (iter_intList hl fun s₂ e st hfp hlI => ?_)
  have hkept : ∀ b o, s.heap.get? b = some o → s₂.heap.get? b = some o := fun b o z => by rw [e]; exact Heap.get?_push_of_some _ z
  have hB : s₂.heap.objs.size ∉ [s.heap.objs.size, l] := fun hm => Nat.lt_irrefl _ (hfp _ hm)
  have W := Walks.list (prog := P) (w := w) (A := A.in1) hh s.heap.objs.size l hlI (intItems xs)
  refine wpAny_bind (wpAny_newObj_type ?_)
  rw [loopNm]
  refine wpAny_pure ⟨plainId_quiet F.plain_max_loop _, ?_⟩
  have stB := W.frame 0 _ _ st fun b _ o z => Heap.get?_push_of_some { cls := .type "list", data := .seq #[] 0 } z
  have old : ∀ h' : Heap, (∀ b o, b ∉ [s.heap.objs.size] → b ≠ s₂.heap.objs.size → (s₂.heap.push { cls := .type "list", data := .seq #[] 0 }).get? b = some o → h'.get? b = some o) → ∀ b o, s.heap.get? b = some o → h'.get? b = some o := fun h' k b o z =>
    k b o (fun m => Nat.ne_of_lt (Heap.lt_size z) (List.mem_singleton.mp m)) (Nat.ne_of_lt (Heap.lt_size (hkept b o z))) (Heap.get?_push_of_some _ (hkept b o z))
  have e2 : ∀ h' tk, ({ s₂ with heap := h', toks := tk } : Shared) = { s with heap := h', toks := tk } := fun h' tk => by rw [e]
  by_cases hz : xs.size = 0
  · have hz' : (intItems xs).size = 0 := by simpa [intItems] using hz
    rw [hz'] at W
    refine none_ W hB stB (Heap.get?_push_size _ rfl) fun h' tk k => ?_
    have q := h2 h' tk (old h' k) hz
    rw [← e2] at q
    exact q
  · have hz' : 0 < (intItems xs).size := by have : 0 < xs.size := Nat.pos_of_ne_zero hz; simpa [intItems] using this
    refine all_ W (CmpOf.ints_gt (numAt xs) fun _ _ => intItems_at) hB hz' stB (Heap.get?_push_size _ rfl) fun v h' tk pv k => ?_
    have q := h1 v h' tk (by simpa [intItems] using pv) (old h' k) (Nat.pos_of_ne_zero hz)
    rw [← e2] at q
    exact q
theorem max_ints {its : List Value} {ns : List Int} {d : Value} {Q : Value → Shared → Prop} (hh : A.handled = none) (hl : s.heap.IsList l its.toArray) (hi : IntsAre its ns)
    (h1 : ∀ h' tk m t, (∀ b o, s.heap.get? b = some o → h'.get? b = some o) → m ∈ ns → (∀ a, a ∈ ns → a ≤ m) → Q (.int m t) { s with heap := h', toks := tk })
    (h2 : ∀ h' tk, (∀ b o, s.heap.get? b = some o → h'.get? b = some o) → ns = [] → Q d { s with heap := h', toks := tk }) :
    wpAny (model P w) A (call (.builtin "max") [.ref l] [(Str.ofString "default", d)]) Q E s := by
  obtain ⟨xs, e⟩ := hi.allInts.items
  have hn : numsOf (intItems xs).toList = ns := by rw [← e]; exact hi.numsOf
  rw [nums_intItems] at hn
  subst hn
  rw [e] at hl
  refine max_d hh hl (fun v h' tk hv hk hne => ?_) fun h' tk hk hz => h2 h' tk hk (by
    have : xs.toList = [] := by simpa using hz
    rw [this]; rfl)
  obtain ⟨t, ev⟩ := intItems_at hv
  subst ev
  obtain ⟨k1, k2⟩ := argBest_gt (numAt xs) (xs.size - 1)
  refine h1 h' tk _ t hk ?_ fun a ha => ?_
  · rw [numAt_eq]
    exact PySem.getD_mem (by rw [List.length_map, Array.length_toList]; omega)
  · obtain ⟨j, hj, ea⟩ := mem_getD ha
    subst ea
    rw [List.length_map, Array.length_toList] at hj
    have := k2 j (by omega)
    rw [numAt_eq] at this
    exact this
end
def rMaxDf (K : PySem.W.Frag) : List V → List V → Hp → VK → Prop := fun vs zs H Q => ∃ (a : Addr) (ns : List Int) (d : V), vs = [.ref a] ∧ zs = [d] ∧ SqL K H a (ns.map V.int) ∧ (∀ m, m ∈ ns → (∀ y, y ∈ ns → y ≤ m) → Q (.int m) H) ∧ (ns = [] → Q d H)
theorem cr_maxDf {X : Cx} (hc : X.calm = true) : CallRK X (.builtin "max") [Str.ofString "default"] (rMaxDf X.K) := by
  intro pins s σ H xs zs us ws Q I r rz h
  obtain ⟨a, ns, d, e1, e2, hs, q1, q2⟩ := h
  subst e1; subst e2
  obtain ⟨its, rv, hl, _⟩ := I.list hs
  rw [Vals.ref1 r]
  obtain ⟨u, eu, ru⟩ := vals1 rz
  subst eu
  exact max_ints (I.ok.hd hc) hl.isList rv.ints (fun h' tk m t hk h1 h2 => ⟨.int m, H, I.kept hk, ⟨_, rfl⟩, q1 m h1 h2⟩) fun h' tk hk hz => ⟨d, H, I.kept hk, ru, q2 hz⟩
end Mx
end
section
set_option Elab.async false
set_option linter.all false
set_option maxRecDepth 100000
set_option autoImplicit false
/-! sorted of a tuple of ints -/
namespace Sx
open PySem PySem.Spec PyProof.Rows L2
section
variable {P : Program} {w : World} {A : Around} {E : Value → Shared → Prop} {s : Shared} {t : Addr} {o : Obj} {vs : List Value} {n : Nat}
theorem collected {Q : List Value → Shared → Prop} (ho : s.heap.get? t = some o) (hc : o.cls = .type "tuple") (hd : o.data = .seq vs.toArray n) (hz : vs.length ≤ sizeLine)
    (h : Q vs { s with heap := (s.heap.push (seqObj "list" #[] 0)).update s.heap.objs.size (Obj.mapSeq (· ++ vs.toArray)) }) : wpAny (model P w) A (collect (.ref t)) Q E s := by
  unfold collect
  refine wpAny_bind (wpAny_runValue (codeAny_builtin entry_proto_collect' ?_))
  refine wpAny_bind (wpAny_newList (wpAny_pure ⟨Code.quiet_builtin _ (by decide +kernel), codeAny_builtin entry_list_iadd' ?_⟩))
  show wpAny _ _ (Builtin.List.listExtendWith (.ref s.heap.objs.size) (.ref t) (.ref s.heap.objs.size)) _ _ _
  unfold Builtin.List.listExtendWith
  have ho2 : (s.heap.push (seqObj "list" #[] 0)).get? t = some o := Heap.get?_push_of_some _ ho
  have self : (s.heap.push (seqObj "list" #[] 0)).get? s.heap.objs.size = some (seqObj "list" #[] 0) := Heap.get?_push_size _ rfl
  refine wpAny_bind (wpAny_typeOf (T := "tuple") ⟨o, ho2, hc⟩ ?_)
  have yes : (Value.type "tuple" == Value.type "tuple") = true := rfl
  rw [if_pos (by rw [yes]; simp)]
  refine wpAny_bind (listItems_at ho2 hd ?_)
  refine wpAny_bind (listItems_at (xs := #[]) (n := 0) self rfl ?_)
  rw [if_neg (by simp)]
  refine wpAny_bind (listUpdate_at (xs := #[]) (n := 0) self rfl ?_ (Nat.zero_le _) (by show (#[] ++ vs.toArray).size ≤ sizeLine + 1; simp only [Array.size_append, List.size_toArray, List.length_nil]; omega))
  refine wpAny_pure ?_
  refine wpAny_bind (wpAny_load (get?_update_seq self _) ?_)
  have e : ((#[] : Array Value) ++ vs.toArray).toList = vs := by simp
  refine wpAny_pure ?_
  rw [e]
  exact h
theorem sorted_t {lt : Value → Value → Bool} {Q : Value → Shared → Prop} (O : SrtO.Swo lt) (ho : s.heap.get? t = some o) (hc : o.cls = .type "tuple") (hd : o.data = .seq vs.toArray n) (hz : vs.length ≤ sizeLine)
    (hS : 2 ≤ vs.length → ∀ (h₁ : Heap) (a : Addr), h₁.get? a = some (seqObj "list" vs.toArray 0) → (∀ b x, s.heap.get? b = some x → b ≠ a ∧ h₁.get? b = some x) → SrtO.SortableO P w A.in1.in1 { s with heap := h₁ } a vs lt)
    (h : ∀ out : List Value, SrtO.Srtd lt out → SrtO.Stb lt out vs → Q (.ref (s.heap.objs.size + 1)) { s with heap := sortedAll s.heap vs out.toArray }) : wpAny (model P w) A (call (.builtin "sorted") [.ref t]) Q E s := by
  refine Calls.call_function_entry kind_sorted plain_sorted entry_sorted (args_sorted1 _) ?_
  unfold Builtin.«sorted»
  refine wpAny_bind (m := checkCount "sorted" 1 1 _) (wpAny_pure ?_)
  refine wpAny_bind (collected ho hc hd hz ?_)
  refine wpAny_bind (wpAny_newList ?_ hz)
  generalize hH : (s.heap.push (seqObj "list" #[] 0)).update s.heap.objs.size (Obj.mapSeq (· ++ vs.toArray)) = H1
  have sz : H1.objs.size = s.heap.objs.size + 1 := by rw [← hH, Heap.size_update, size_push']
  have there : (H1.push (seqObj "list" vs.toArray 0)).get? (s.heap.objs.size + 1) = some (seqObj "list" vs.toArray 0) := by rw [← sz]; exact Heap.get?_push_size _ rfl
  have keep : ∀ b x, s.heap.get? b = some x → b ≠ s.heap.objs.size + 1 ∧ (H1.push (seqObj "list" vs.toArray 0)).get? b = some x := fun b x q => by
    have hlt : b < s.heap.objs.size := Heap.lt_size q
    refine ⟨Nat.ne_of_lt (Nat.lt_succ_of_lt hlt), Heap.get?_push_of_some _ ?_⟩
    rw [← hH, Heap.get?_update_ne _ _ _ _ (Nat.ne_of_lt hlt)]
    exact Heap.get?_push_of_some _ q
  show wpAny _ _ _ _ _ { s with heap := H1.push (seqObj "list" vs.toArray 0) }
  rw [sz]
  refine wpAny_bind (wpAny_holding (wpAny_call_entry slot_list_sort ⟨_, there, rfl⟩ entry_list_sort (SrtO.list_sort_ord O there hz (fun h2 => hS h2 _ _ there keep) fun out hs hb => ⟨_, rfl, ?_⟩) (args_list_sort _)))
  refine wpAny_pure ⟨_, rfl, ?_⟩
  have q := h out hs hb
  unfold sortedAll at q
  rw [hH] at q
  exact q
end
def rSortTI (K : PySem.W.Frag) : List V → Hp → VK → Prop := fun vs H Q => ∃ (a : Addr) (ns : List Int), vs = [V.ref a] ∧ SqT K H a (ns.map V.int) ∧ ∀ (ns' : List Int) (p : Addr), ns'.Perm ns → ns'.Pairwise (· ≤ ·) → H p = none → Q (.ref p) (upd H p (.lst (ns'.map V.int)))
theorem cr_sortTI {X : Cx} : CallR X (.builtin "sorted") (rSortTI X.K) := by
  intro pins s σ H vs us Q I r h
  obtain ⟨a, ns, e, ht, q⟩ := h
  subst e
  obtain ⟨its, rv, ⟨o, ho, hcl, n, hd⟩, hz⟩ := I.tuple ht
  rw [Vals.ref1 r]
  have hi := rv.ints
  have hz2 : its.length ≤ sizeLine := by rw [← rv.length]; exact hz
  refine sorted_t SrtO.swo_int ho hcl hd hz2 (fun h2 h₁ a' _ _ => SrtO.ints_sortable hi h2) fun out h1 h2 => ?_
  obtain ⟨k1, k2, k3⟩ := SrtO.ints_out hi h1 h2
  obtain ⟨ep, at_⟩ := PyProof.Rows.sortedAll_at s.heap its out.toArray
  have len : ((out.map SrtO.iv).map V.int).length ≤ sizeLine := by
    rw [List.length_map, k2.length_eq, ← List.length_map (f := V.int)]
    exact hz
  refine ⟨.ref _, upd H (s.heap.objs.size + 1) (.lst ((out.map SrtO.iv).map V.int)), ?_, rfl, q _ _ k2 k3 (I.hok.fresh (Nat.le_succ _))⟩
  exact I.laid (t' := s.toks) (fun _ _ => PyProof.Rows.sortedAll_old) (Nat.le_succ _) ⟨len, out, ep, vals_of_ints k1, at_⟩
end Sx
end
section
set_option Elab.async false
set_option linter.all false
set_option maxRecDepth 100000
set_option autoImplicit false
namespace Pv
open PySem PySem.Spec PyProof.Rows L2

/-! ### fields -/
theorem flds_iff {ns : List Str} {fs : List (Str × V)} {vs : List V} : Flds ns fs vs ↔ (ns.length = vs.length ∧ (∀ (i : Nat) (f : Str) (u : V), (ns : List Str)[i]? = some f → (vs : List V)[i]? = some u → (fs : List (Str × V)).lookup f = some u) ∧ fs.length ≤ ns.length ∧ ∀ f : Str, f ∉ ns → (fs : List (Str × V)).lookup f = none) := by
  cases ns with
  | nil =>
    constructor
    · rintro ⟨rfl, rfl⟩
      exact ⟨rfl, fun i f u h => by simp at h, Nat.le_refl _, fun _ _ => rfl⟩
    · rintro ⟨h1, _, h3, _⟩
      exact ⟨List.length_eq_zero_iff.mp (Nat.le_zero.mp h3), List.length_eq_zero_iff.mp h1.symm⟩
  | cons n ns => exact Iff.rfl
theorem putF_len (f : Str) (v : V) : ∀ (fs : List (Str × V)) (u : V), fs.lookup f = some u → (putF f v fs).length = fs.length
  | [], u, h => by cases h
  | (g, x) :: r, u, h => by
    rw [show putF f v ((g, x) :: r) = (if g = f then (g, v) :: r else (g, x) :: putF f v r) from rfl]
    by_cases e : g = f
    · rw [if_pos e]; rfl
    · rw [if_neg e]
      have hb : (f == g) = false := beq_eq_false_iff_ne.mpr fun z => e z.symm
      rw [List.lookup_cons, hb] at h
      rw [List.length_cons, List.length_cons, putF_len f v r u h]
theorem fldsP_app {ns : List Str} {fs : List (Str × V)} {vs : List V} {f : Str} {y : V} (h : FldsP ns fs vs) (nd : ns.Nodup) (e : ns[vs.length]? = some f) : FldsP ns (putF f y fs) (vs ++ [y]) := by
  obtain ⟨hl, hf⟩ := h
  obtain ⟨h1, h2, h3, h4⟩ := flds_iff.mp hf
  have lt : vs.length < ns.length := (List.getElem?_eq_some_iff.mp e).1
  have tk : ns.take (vs.length + 1) = ns.take vs.length ++ [f] := by
    rw [List.take_add_one, e]; rfl
  have fn : f ∉ ns.take vs.length := by
    intro hm
    obtain ⟨i, hi⟩ := List.getElem?_of_mem hm
    have hlt : i < vs.length := by
      have := (List.getElem?_eq_some_iff.mp hi).1
      simp only [List.length_take] at this
      omega
    rw [List.getElem?_take_of_lt hlt] at hi
    obtain ⟨p1, e1⟩ := List.getElem?_eq_some_iff.mp hi
    obtain ⟨p2, e2⟩ := List.getElem?_eq_some_iff.mp e
    have := (List.getElem_inj nd).mp (e1.trans e2.symm)
    omega
  have ll : (ns.take vs.length).length = vs.length := by rw [List.length_take]; omega
  refine ⟨by rw [List.length_append, List.length_singleton]; omega, ?_⟩
  rw [List.length_append, List.length_singleton, tk]
  refine flds_iff.mpr ⟨by rw [List.length_append, List.length_append, ll]; rfl, fun i g u hi hu => ?_, ?_, fun g hg => ?_⟩
  · rw [lookup_putF]
    by_cases hi2 : i < vs.length
    · rw [List.getElem?_append_left (by omega)] at hi
      rw [List.getElem?_append_left hi2] at hu
      have gm := List.mem_of_getElem? hi
      rw [if_neg (show ¬ g = f from fun z => fn (z ▸ gm))]
      exact h2 i g u hi hu
    · rw [List.getElem?_append_right (by omega)] at hi hu
      have hz : i - vs.length = 0 := by
        have := (List.getElem?_eq_some_iff.mp hu).1
        simp only [List.length_singleton] at this
        exact Nat.lt_one_iff.mp this
      rw [ll, hz] at hi
      rw [hz] at hu
      have e1 : f = g := by simpa using hi
      have e2 : y = u := by simpa using hu
      subst e1; subst e2
      rw [if_pos rfl]
  · have := length_putF f y fs
    rw [List.length_append, List.length_singleton]
    omega
  · rw [lookup_putF]
    have hg2 : g ∉ ns.take vs.length ∧ g ≠ f := ⟨fun z => hg (List.mem_append_left _ z), fun z => hg (List.mem_append_right _ (List.mem_singleton.mpr z))⟩
    rw [if_neg hg2.2]
    exact h4 g hg2.1
theorem fldsP_set {ns : List Str} {fs : List (Str × V)} {vs : List V} {f : Str} {y : V} {j : Nat} (h : FldsP ns fs vs) (nd : ns.Nodup) (e : ns[j]? = some f) (hj : j < vs.length) : FldsP ns (putF f y fs) (vs.set j y) := by
  obtain ⟨hl, hf⟩ := h
  obtain ⟨h1, h2, h3, h4⟩ := flds_iff.mp hf
  have ej : (ns.take vs.length)[j]? = some f := by rw [List.getElem?_take_of_lt hj]; exact e
  have l0 : fs.lookup f = some vs[j] := h2 j f _ ej (List.getElem?_eq_getElem hj)
  refine ⟨by rw [List.length_set]; exact hl, ?_⟩
  rw [List.length_set]
  refine flds_iff.mpr ⟨by rw [List.length_set]; exact h1, fun i g u hi hu => ?_, by rw [putF_len f y fs _ l0]; exact h3, fun g hg => ?_⟩
  · rw [lookup_putF]
    by_cases hij : j = i
    · subst hij
      rw [ej] at hi
      rw [List.getElem?_set_self hj] at hu
      cases hi; cases hu
      rw [if_pos rfl]
    · rw [List.getElem?_set_ne hij] at hu
      have : g ≠ f := by
        intro z
        subst z
        have lt : i < vs.length := (List.getElem?_eq_some_iff.mp hu).1
        rw [List.getElem?_take_of_lt lt] at hi
        obtain ⟨p1, e1⟩ := List.getElem?_eq_some_iff.mp hi
        obtain ⟨p2, e2⟩ := List.getElem?_eq_some_iff.mp e
        exact hij ((List.getElem_inj nd).mp (e2.trans e1.symm))
      rw [if_neg this]
      exact h2 i g u hi hu
  · rw [lookup_putF, if_neg (show ¬ g = f from fun z => hg (z ▸ List.mem_of_getElem? ej))]
    exact h4 g hg

/-! ### which object -/
def obOf (h : AH) : AV → Option (Nat × List AV)
  | .ob c xs => some (c, xs)
  | .ref n => match h[n]? with
    | some (.ob c xs) => some (c, xs)
    | _ => none
  | _ => none
theorem flds_of {ns : List Str} {fs : List (Str × V)} {vs : List V} (h : Flds ns fs vs) : FldsP ns fs vs := by
  have e := (flds_iff.mp h).1
  refine ⟨by omega, ?_⟩
  rw [← e, List.take_length]
  exact h
theorem obOf_rep {Γ : Cfg} {D : Wd} {h : AH} (R : Rel Γ.K D h) {v : AV} {u : V} {c : Nat} {xs : List AV} (r : Rep Γ.K D v u) (e : obOf h v = some (c, xs)) :
    ∃ a dx fs vs, u = .ref a ∧ D.H a = some (.ins (D.oc c).1 dx fs) ∧ FldsP (D.oc c).2 fs vs ∧ RepL Γ.K D xs vs := by
  cases v with
  | ob c' ys =>
    cases e
    obtain ⟨a, dx, fs, vs, e1, ⟨_, t⟩, _, hf, q⟩ := r
    exact ⟨a, dx, fs, vs, e1, t, flds_of hf, q⟩
  | ref n =>
    simp only [obOf] at e
    split at e
    · rename_i c' ys hc
      cases e
      obtain ⟨a, e1, _, dx, fs, vs, t, _, hf, q⟩ := ref_lst R r hc
      exact ⟨a, dx, fs, vs, e1, t, hf, q⟩
    · cases e
  | _ => cases e
theorem fldsP_get {ns : List Str} {fs : List (Str × V)} {vs : List V} {j : Nat} {f : Str} {u : V} (h : FldsP ns fs vs) (e : ns[j]? = some f) (eu : vs[j]? = some u) : fs.lookup f = some u := by
  obtain ⟨h1, h2, h3, h4⟩ := flds_iff.mp h.2
  have lt : j < vs.length := (List.getElem?_eq_some_iff.mp eu).1
  exact h2 j f u (by rw [List.getElem?_take_of_lt lt]; exact e) eu
def ixS : List Str → Str → Option Nat
  | [], _ => none
  | x :: xs, a => if x = a then some 0 else (ixS xs a).map (· + 1)
theorem ixS_get : ∀ {ns : List Str} {a : Str} {j : Nat}, ixS ns a = some j → ns[j]? = some a
  | [], _, _, h => by cases h
  | x :: xs, a, j, h => by
    unfold ixS at h
    split at h
    · rename_i e
      have e2 : 0 = j := Option.some.inj h
      subst e2
      rw [e]; rfl
    · obtain ⟨i, h1, h2⟩ := Option.map_eq_some_iff.mp h
      have h2 : i + 1 = j := h2
      subst h2
      rw [List.getElem?_cons_succ]
      exact ixS_get h1
inductive AtS where
  | no | prop (i : Nat) | fld (j : Nat)
def slotOf (a : Str) (e : ClsS) : AtS := match e.props.lookup a with
  | some i => .prop i
  | none => match ixS e.attrs a with
    | some j => .fld j
    | none => .no
def tickOk (G : GT) (h : AH) : Bool := match G ixTick [] h with
  | .ok _ _ => true
  | _ => false
def atOp (tab : List AtS) (G : GT) (v : AV) (h : AH) : Out AV := match obOf h v with
  | some (c, xs) => match tab[c]? with
    | some (.fld j) => match xs[j]? with
      | some x => .ok x h
      | none => .bad
    | some (.prop i) => if tickOk G h = true then match dnG 1 G i [v] h with
        | .ok x h' => .ok x h'
        | _ => .bad
      else .bad
    | _ => .bad
  | none => .bad
def evAt (tab : List AtS) (f : EvE) : EvE := fun G env h => (f G env h).bind (atOp tab G)
section
variable {S : Stat} {L : Lc}
theorem tick_ok2 {Γ : Cfg} {G : GT} {k : Nat} (so : StatOk Γ S G k) {h : AH} (e : tickOk G h = true) : 2 ≤ k := by
  unfold tickOk at e
  split at e
  · rename_i v h' et
    exact so.tick h v h' et
  · cases e
theorem getprop_g {X : Cx} {k : Nat} {C p g a dx : Addr} {fs : List (Str × V)} {f : Str} {fd : FuncData} {ps : List Str} {sp : Sp} {pins : List (Addr × Obj)} {σ : L2.St} {H : Hp} {s : Shared} {Q : VK} {b : Bool} {E' : Value → Shared → Prop} (I : Inv X pins σ H s) (ea : H a = some (.ins C dx fs)) (c : Cls X.K C) (hp : PropOf X.K C f p g)
    (F : FnG X.prog X.w X.K X.mg X.base (L2.CX X.prog X.w) k g fd ps sp) (hg : X.A.guards = some []) (hr : Room (k + 1) X.A) (hb : Binds X.K fd ps []) (h : sp [.ref a] H Q fun _ _ _ => False) :
    wpAny (model X.prog X.w) X.A (getAttr (.ref a) f b) (EP X pins σ Q) E' s := by
  obtain ⟨mA, O, _, _, _, _⟩ := ins_get I.hok ea
  obtain ⟨od, J, _⟩ := O.look
  obtain ⟨rest, hrec⟩ := hp.rec_
  have I1 := I.tok (s.toks + 1)
  have hl : ([Value.ref a] ++ []).length = ps.length := by
    rw [← F.arity _ _ _ _ h]
    rfl
  have hc : (PySem.W.clsIn X.K C).isSome = true := by
    obtain ⟨cd, hc, _⟩ := PySem.W.any_some c.hd
    rw [hc]
    rfl
  refine PySem.W.get_bind I.kIn J (PySem.W.plainGet_of (c.get f)).1 (PySem.W.findObj_data hc hp.at_ hp.get hp.tak) (PySem.W.plainGet_of (c.get f)).2 (wpAny_call (PySem.W.prop_get (s := { s with toks := s.toks + 1 }) I.kIn hrec ?_))
  refine codeAny_mono (F.go X.A.in1 X.stack { s with toks := s.toks + 1 } H ⟨[.ref a], []⟩ [.ref a] [.ref a] Q _ hg hr.in1 I1.env0.in1 (hb _ [.ref a] I1.kIn hl) (.cons rfl .nil) h) fun r s' hq => ?_
  cases r with
  | error er =>
    obtain ⟨_, _, _, _, _, _, _, _, _, _, _, _, z⟩ := hq
    exact z.elim
  | ok fl =>
    cases fl with
    | ret u =>
      obtain ⟨v, H', I3, rv, q3⟩ := I1.after hq
      show wpAny _ _ (handedOut u) _ _ _
      rw [PySem.W.handedOut_of (handed_of rv)]
      exact wpAny_pure ⟨v, H', I3, rv, q3⟩
    | next => exact False.elim hq
    | brk => exact False.elim hq
    | cont => exact False.elim hq
theorem se_at {a : Str} {e : Expr} {f : EvE} {pos : Pos} (ha : SE S L e f) (hb : baseOk e = true) (hh : L.hot = false) : SE S L (.Attribute e a pos) (evAt (S.cl.map (slotOf a)) f) := by
  intro Γ G k X W so c
  refine ⟨fun pins s σ H Q I ⟨D, h, env, at_, o⟩ => ?_⟩
  refine attr_of (base_of hb) (thn ((ha Γ G k X W so c).run pins s σ H (fun u H1 => ∃ (D1 : Wd) (v : AV) (h1 : AH), D1.H = H1 ∧ Ext D D1 ∧ Rel Γ.K D1 h1 ∧ Rep Γ.K D1 v u ∧ OutOk Γ D1 (atOp (S.cl.map (slotOf a)) G v h1) (fun D _ => Rep Γ.K D) Q fun c d H' => W c d σ H') I ⟨D, h, env, at_, OutOk.bind (R1 := fun D _ => Rep Γ.K D) o⟩) fun u s1 ⟨x, H1, I1, rx, D1, v, h1, e1, x1, r1, q1, o1⟩ => ?_)
  unfold atOp at o1
  split at o1
  case h_2 => exact o1.elim
  rename_i cn xs hob
  obtain ⟨ad, dx, fs, vs, ex, t, hf, q⟩ := obOf_rep r1 q1 hob
  subst ex
  obtain rfl : u = Value.ref ad := rx
  subst e1
  have dok := at_.ok.ext x1
  rw [dok.2.2] at t hf
  split at o1
  · rename_i j hj
    rw [List.getElem?_map] at hj
    obtain ⟨e0, he, hs⟩ := Option.map_eq_some_iff.mp hj
    have ck := so.cl cn e0 he
    unfold slotOf at hs
    split at hs
    · cases hs
    · split at hs
      · rename_i j' hix
        cases hs
        have hat := ixS_get hix
        split at o1
        · rename_i y hy
          obtain ⟨w, ew, rw'⟩ := RepL.get q hy
          rw [ck.at_] at hf
          have l := fldsP_get hf hat ew
          refine getattr_ok I1 t (by rw [c.K]; exact ck.kk.cls) (by rw [c.K]; exact ck.kk.na _ (List.mem_of_getElem? hat)) l fun u' s2 I2 ru => ⟨w, D1.H, I2, ru, ?_⟩
          exact o1 D1 w (Ext.refl _) r1 rw'
        · exact o1.elim
      · cases hs
  · rename_i i hj
    rw [List.getElem?_map] at hj
    obtain ⟨e0, he, hs⟩ := Option.map_eq_some_iff.mp hj
    unfold slotOf at hs
    split at hs
    · rename_i i' hpr
      cases hs
      split at o1
      · rename_i htick
        have hk := tick_ok2 so htick
        obtain ⟨k1, rfl⟩ : ∃ k1, k = k1 + 1 := ⟨k - 1, by omega⟩
        have so1 : StatOk Γ S (dnG 1 G) k1 := so.dn (j := 1) (by omega) (by omega)
        have ck := so1.cl cn e0 he
        obtain ⟨p, g, fd, ps, hp, hb2, F⟩ := ck.pr _ _ hpr
        refine getprop_g (k := k1) I1 t (by rw [c.K]; exact ck.kk.cls) (by rw [c.K]; exact hp) (by rw [c.prog, c.w, c.K, c.mg, c.base]; exact F) c.grd (c.room hh) (by rw [c.K]; exact hb2) ?_
        refine ⟨rfl, D1, h1, [v], rfl, r1, RepL.cons q1 rfl, dok.out (c.xn hh), ?_⟩
        cases eg : dnG 1 G i [v] h1 with
        | ok y h2 => rw [eg] at o1; exact o1
        | exc e2 h2 => rw [eg] at o1; exact o1.elim
        | bad => rw [eg] at o1; exact o1.elim
      · exact o1.elim
    · split at hs
      · cases hs
      · cases hs
  · exact o1.elim

/-! ### self.x = .. -/
def setAtOp (tab : List (Option Nat)) (o y : AV) (env : Env1) (h : AH) : SOut := match o with
  | .ref n => match h[n]? with
    | some (.ob c xs) => match tab[c]? with
      | some (some j) => if pureA y = true then (if j < xs.length then .nx env (h.set n (.ob c (xs.set j y))) else if j = xs.length then .nx env (h.set n (.ob c (xs ++ [y]))) else .bad) else .bad
      | _ => .bad
    | _ => .bad
  | _ => .bad
def esSetAt (tab : List (Option Nat)) (fo fv : EvE) : EvS := fun G env h => (fv G env h).s env fun y h1 => (fo G env h1).s env fun o h2 => setAtOp tab o y env h2
theorem setAt_of {Γ : Cfg} {G : GT} {k : Nat} (so : StatOk Γ S G k) {D : Wd} {h : AH} {env : Env1} {σ : L2.St} {E : Ends} {W : WX} {a : Str} {o y : AV} {u w : V} (R : Rel Γ.K D h) (en : EnvR Γ.K D env σ) (dok : DOk Γ D) (ro : Rep Γ.K D o u) (ry : Rep Γ.K D y w)
    (q : SOk Γ D (setAtOp (S.cl.map fun e => ixS e.attrs a) o y env h) E W) :
    ∃ (ad C dx : Addr) (fs : List (Str × V)), u = .ref ad ∧ D.H ad = some (.ins C dx fs) ∧ Cls Γ.K C ∧ NoAttr Γ.K C a ∧ fs.length < 1000 ∧ E.nx σ (upd D.H ad (.ins C dx (putF a w fs))) := by
  unfold setAtOp at q
  split at q
  · rename_i n
    split at q
    · rename_i c xs hc
      split at q
      · rename_i j htab
        rw [List.getElem?_map] at htab
        obtain ⟨e0, he, hs⟩ := Option.map_eq_some_iff.mp htab
        have hat := ixS_get hs
        have ck := so.cl c e0 he
        split at q
        · rename_i hpu
          obtain ⟨ad, e1, em, dx, fs, vs, t, fo, hf, rl⟩ := ref_lst R ro hc
          subst e1
          have pcell := R.pure _ (List.mem_of_getElem? hc)
          have hlen : fs.length < 1000 := by
            have h3 := (flds_iff.mp hf.2).2.2.1
            have := ck.kk.nd.2
            rw [List.length_take, dok.2.2, ck.at_] at h3
            omega
          have hoc : (D.oc c) = Γ.oc c := by rw [dok.2.2]
          refine ⟨ad, (D.oc c).1, dx, fs, rfl, t, by rw [hoc]; exact ck.kk.cls, by rw [hoc]; exact ck.kk.na _ (List.mem_of_getElem? hat), hlen, ?_⟩
          have hx := Ext.wr R em (.ins (D.oc c).1 dx (putF a w fs))
          have hdx : dx ≠ ad := fun z => R.dis ad (List.mem_of_getElem? em) (z ▸ fo.1)
          have fin : ∀ xs' vs', FldsP (D.oc c).2 (putF a w fs) vs' → RepL Γ.K D xs' vs' → pureL xs' = true → Rel Γ.K (D.wr ad (.ins (D.oc c).1 dx (putF a w fs))) (h.set n (.ob c xs')) := fun xs' vs' hf' r' p' =>
            Rel.wr R em ⟨dx, _, vs', upd_same, ⟨fo.1, (upd_ne hdx).trans fo.2⟩, hf', RepL.ext hx _ _ r'⟩ p'
          have hfe : FldsP e0.attrs fs vs := by rw [← ck.at_, ← hoc]; exact hf
          split at q
          · rename_i hj
            have hj' : j < vs.length := by rw [rl.length]; exact hj
            exact q _ σ hx (fin _ (vs.set j w) (by rw [hoc, ck.at_]; exact fldsP_set hfe ck.kk.nd.1 hat hj') (RepL.set ry j rl) (pureL_set pcell hpu)) (en.ext hx)
          · split at q
            · rename_i hj
              have hj' : j = vs.length := by rw [rl.length]; exact hj
              exact q _ σ hx (fin _ (vs ++ [w]) (by rw [hoc, ck.at_]; exact fldsP_app hfe ck.kk.nd.1 (hj' ▸ hat)) (RepL.append rl (RepL.cons ry rfl)) (pureL_append.mpr ⟨pcell, pureL_cons.mpr ⟨hpu, rfl⟩⟩)) (en.ext hx)
            · exact q.elim
        · exact q.elim
      · exact q.elim
    · exact q.elim
  · exact q.elim
theorem ss_setAt {a : Str} {o e : Expr} {fo fv : EvE} {p pos : Pos} (ho : SE S L o fo) (he : SE S L e fv) (hc : notComp e = true) : SS S L (.Assign [.Attribute o a p] e pos) (esSetAt (S.cl.map fun e => ixS e.attrs a) fo fv) := by
  intro Γ G k X W so c
  refine PS.weak (ps_fld (ho Γ G k X W so c.toCtxP) (he Γ G k X W so c.toCtxP) (swaps_of hc)) fun E σ H ⟨D, h, env, at_, q⟩ => ?_
  refine ⟨D, h, env, at_, (SOk.bind (R := fun D _ => Rep Γ.K D) at_.env q).mono fun u H' ⟨D1, v1, h1, e1, x1, r1, q1, o1⟩ => ?_⟩
  refine ⟨D1, h1, env, at_.next e1 x1 r1, (SOk.bind (R := fun D _ => Rep Γ.K D) (at_.env.ext x1) o1).mono fun w H'' ⟨D2, v2, h2, e2, x2, r2, q2, o2⟩ => ?_⟩
  obtain ⟨ad, C, dx, fs, g1, g2, g3, g4, g5, g6⟩ := setAt_of so r2 ((at_.env.ext x1).ext x2) ((at_.ok.ext x1).ext x2) q2 (Rep.ext x2 _ _ q1) o2
  rw [e2] at g2 g6
  exact ⟨ad, C, dx, fs, g1, g2, by rw [c.K]; exact g3, by rw [c.K]; exact g4, g5, g6⟩

/-! ### a new object -/
def finMk (fz : Bool) (c m n0 : Nat) (h : AH) : Out AV := match h[n0]? with
  | some (.ob c' xs) => if c' = c ∧ xs.length = m ∧ h.length = n0 + 1 then (if fz = true then .ok (.ob c xs) (h.take n0) else .ok (.ref n0) h) else .bad
  | _ => .bad
def mkOp (fz : Bool) (c m i n : Nat) (G : GT) (as : List AV) (h : AH) : Out AV := if as.length + 1 = n then (if tickOk G h = true then match dnG 1 G i (.ref h.length :: as) (h ++ [.ob c []]) with
    | .ok .non h2 => finMk fz c m h.length h2
    | .exc e h2 => match e.val with
      | none => .exc e (h2.take h.length)
      | some v => if pureA v = true then .exc e (h2.take h.length) else .bad
    | _ => .bad
  else .bad) else .bad
def evMk (fz : Bool) (c m i n : Nat) (f : EvA) : EvE := fun G env h => (f G env h).bind (mkOp fz c m i n G)
theorem run_makeG {X : Cx} {σ : L2.St} {C f : Addr} {fd : FuncData} {ps : List Str} {sp : Sp} {k : Nat} {E : XK} {pins : List (Addr × Obj)} {H : Hp} {s : Shared} {Q : VK} {us : List Value} {vs : List V}
    (M : Mk X.K C f) (F : FnG X.prog X.w X.K X.mg X.base (L2.CX X.prog X.w) k f fd ps sp) (hg : X.A.guards = some []) (hr : Room (k + 1) X.A) (hb : Binds X.K fd ps []) (hx : PassesAt (L2.CX X.prog X.w) X σ E) (I : Inv X pins σ H s) (r : Vals vs us)
    (h : ∀ x dx, H x = none → H dx = none → dx ≠ x → sp (.ref x :: vs) (upd (upd H dx (.own x)) x (.ins C dx [])) (fun v H2 => v = .non ∧ Q (.ref x) H2) E) :
    wpAny (model X.prog X.w) X.A (call (.ref C) us) (EP X pins σ Q) X.xe s := by
  have hq := h (s.heap.objs.size + 1) s.heap.objs.size (I.hok.fresh (Nat.le_succ _)) (I.hok.fresh (Nat.le_refl _)) (Nat.ne_of_lt (Nat.lt_succ_self _))
  have I2 := Inv.made (C := C) I
  have r2 : Vals (V.ref (s.heap.objs.size + 1) :: vs) (Value.ref (s.heap.objs.size + 1) :: us) := .cons rfl r
  have hl : (Value.ref (s.heap.objs.size + 1) :: us ++ []).length = ps.length := by
    have e := r2.length
    rw [F.arity _ _ _ _ hq] at e
    rw [List.append_nil]
    exact e.symm
  have bt := hb { s with heap := (s.heap.push PySem.W.emptyDict).push (PySem.W.instObj C s.heap.objs.size) } (Value.ref (s.heap.objs.size + 1) :: us) I2.kIn hl
  rw [List.append_nil] at bt
  refine wpAny_call (make_map (f := f) I.kIn M.makes M.init (beq_iff_eq.mp M.fn) (codeAny_mono (F.go _ X.stack _ _ ⟨Value.ref (s.heap.objs.size + 1) :: us, []⟩ (Value.ref (s.heap.objs.size + 1) :: us) _ _ E hg (hr.make C us []) (I2.env0.make C us []) bt r2 hq) fun r s' hq' => ?_))
  cases r with
  | error e => exact hx pins _ _ e s' I2 hq'
  | ok fl =>
    cases fl with
    | ret u =>
      obtain ⟨v, H', I3, rv, ev, q3⟩ := I2.after hq'
      subst ev
      exact ⟨rv, ⟨V.ref (s.heap.objs.size + 1), H', I3, rfl, q3⟩⟩
    | next => exact False.elim hq'
    | brk => exact False.elim hq'
    | cont => exact False.elim hq'
theorem se_mk {x : Str} {cn : Nat} {e0 : ClsS} {e : Expr} {es : List Expr} {f : EvA} {p pos : Pos} (hx : S.cl[cn]? = some e0) (hnm : e0.name = x) (hg : glB L.sc x = true) (hn : okName x = true) (ha : SA S L (e :: es) f) (hst : (e :: es).all notStar = true) (hh : L.hot = false) :
    SE S L (.Call (.Name x p) (e :: es) [] pos) (evMk e0.frz cn e0.attrs.length e0.init.1 e0.init.2 f) := by
  subst hnm
  intro Γ G k X W so c
  have ck := so.cl cn e0 hx
  rw [List.all_cons, Bool.and_eq_true] at hst
  refine ⟨fun pins s σ H Q I o => ?_⟩
  obtain ⟨D, h, env, ata, o⟩ := o
  obtain ⟨f0, fd0, ps0, M, _, _⟩ := ck.mkf
  refine wpAny_Call_Name_kw (ld_glob I (gl_of c hg) (by rw [c.mg]; exact ck.mg) ?_ (okName1 hn))
  refine PySem.W.callWith_K (h₀ := X.base) I.ok.mod.kin (by rw [c.K]; exact M.kp) (thn ((ha Γ G k X W so c).run pos pins s σ H (fun us H1 => ∃ (D1 : Wd) (v : List AV) (h1 : AH), D1.H = H1 ∧ Ext D D1 ∧ Rel Γ.K D1 h1 ∧ RepL Γ.K D1 v us ∧ OutOk Γ D1 (mkOp e0.frz cn e0.attrs.length e0.init.1 e0.init.2 G v h1) (fun D _ => Rep Γ.K D) Q fun c d H' => W c d σ H') I ⟨D, h, env, ata, OutOk.bind (R1 := fun D _ => RepL Γ.K D) o⟩) fun us s1 ⟨vs, H1, I1, r, D1, v, h1, e1, x1, r1, q1, o1⟩ => ⟨I1.kIn, ?_⟩) (starEach_cons hst.1) (starEach_plain hst.2)
  subst e1
  have dok := ata.ok.ext x1
  unfold mkOp at o1
  split at o1
  case isFalse => exact o1.elim
  rename_i hlen
  split at o1
  case isFalse => exact o1.elim
  rename_i htick
  have hk := tick_ok2 so htick
  obtain ⟨k1, rfl⟩ : ∃ k1, k = k1 + 1 := ⟨k - 1, by omega⟩
  have so1 : StatOk Γ S (dnG 1 G) k1 := so.dn (j := 1) (by omega) (by omega)
  have ck1 := so1.cl cn e0 hx
  obtain ⟨f1, fd1, ps1, M1, B1, F1⟩ := ck1.mkf
  have oce : D1.oc cn = Γ.oc cn := by rw [dok.2.2]
  refine run_makeG (k := k1) (E := fun cl d H' => W cl d σ H') (by rw [c.K]; exact M1) (by rw [c.prog, c.w, c.K, c.mg, c.base]; exact F1) c.grd (c.room hh) (by rw [c.K]; exact B1) (passAt c.takes σ) I1 r fun xa dx hx1 hd1 hne => ?_
  -- the world with the new object
  have xf := Ext.frz r1 hd1 (.own xa)
  have rf := Rel.frz r1 hd1 (.own xa)
  have hxa : (D1.frz dx (.own xa)).H xa = none := (upd_ne fun z => hne z.symm).trans hx1
  have oc2 : (D1.frz dx (.own xa)).oc cn = Γ.oc cn := oce
  have xc := Ext.cel rf hxa (.ins (Γ.oc cn).1 dx [])
  have rc : Rel Γ.K ((D1.frz dx (.own xa)).cel xa (.ins (Γ.oc cn).1 dx [])) (h1 ++ [.ob cn []]) := by
    refine Rel.cel rf hxa ⟨dx, [], [], ?_, ⟨.inr rfl, ?_⟩, ⟨Nat.zero_le _, ?_⟩, rfl⟩ rfl
    · show upd _ xa _ xa = some (.ins (D1.oc cn).1 dx [])
      rw [oce]
      exact upd_same
    · exact (upd_ne hne).trans upd_same
    · exact ⟨rfl, rfl⟩
  have x2 := xf.trans xc
  have gm : ((D1.frz dx (.own xa)).cel xa (.ins (Γ.oc cn).1 dx [])).m[h1.length]? = some xa := by
    show (D1.m ++ [xa])[h1.length]? = some xa
    rw [← r1.len]
    simp
  refine ⟨by show vs.length + 1 = _; rw [q1.length]; exact hlen, (D1.frz dx (.own xa)).cel xa (.ins (Γ.oc cn).1 dx []), h1 ++ [.ob cn []], .ref h1.length :: v, rfl, rc, RepL.cons ⟨xa, rfl, gm⟩ (RepL.ext x2 _ _ q1), (dok.ext x2).out (c.xn hh), ?_⟩
  have back2 : ∀ (D' : Wd) (h2 : AH), Ext ((D1.frz dx (.own xa)).cel xa (.ins (Γ.oc cn).1 dx [])) D' → Rel Γ.K D' h2 → Ext D1 { D' with m := D'.m.take h1.length } ∧ Rel Γ.K { D' with m := D'.m.take h1.length } (h2.take h1.length) := fun D' h2 x' R' => back r1 (x2.trans x') R'
  cases eg : dnG 1 G e0.init.1 (.ref h1.length :: v) (h1 ++ [.ob cn []]) with
  | bad => rw [eg] at o1; exact o1.elim
  | exc e2 h2 =>
    rw [eg] at o1
    intro D' cls d x' R' rx
    obtain ⟨xb, Rb⟩ := back2 D' h2 x' R'
    simp only at o1
    split at o1
    · rename_i hv
      exact o1 { D' with m := D'.m.take h1.length } cls d xb Rb ⟨rx.1, fun v ev => by rw [hv] at ev; cases ev⟩
    · rename_i w hv
      split at o1
      · rename_i hp
        refine o1 { D' with m := D'.m.take h1.length } cls d xb Rb ⟨rx.1, fun z ez => ?_⟩
        obtain ⟨dd, u, g1, g2, g3, q⟩ := rx.2 z ez
        rw [hv] at ez
        cases ez
        exact ⟨dd, u, g1, g2, g3, Rep.pure (D := D') (D' := { D' with m := D'.m.take h1.length }) (fun _ f => ⟨f, rfl⟩) _ u hp q⟩
      · exact o1.elim
  | ok rv h2 =>
    rw [eg] at o1
    cases rv with
    | non =>
      intro D' u x' R' ru
      refine ⟨ru, ?_⟩
      have o1 : OutOk Γ D1 (finMk e0.frz cn e0.attrs.length h1.length h2) (fun D _ => Rep Γ.K D) Q fun c d H' => W c d σ H' := o1
      unfold finMk at o1
      split at o1
      · rename_i c' xs hc
        split at o1
        · rename_i hz
          obtain ⟨z1, z2, z3⟩ := hz
          subst z1
          have gm' : D'.m[h1.length]? = some xa := x'.get gm
          obtain ⟨dx', fs, ws, t, fo, hf, rl⟩ := R'.cell _ _ xa hc gm'
          have dok' : D'.oc = Γ.oc := ((dok.ext x2).ext x').2.2
          split at o1
          · obtain ⟨xb, Rb⟩ := back2 D' h2 x' R'
            have hfull : Flds (D'.oc c').2 fs ws := by
              have e3 : ws.length = (D'.oc c').2.length := by rw [rl.length, z2, dok', ck.at_]
              have := hf.2
              rw [e3, List.take_length] at this
              exact this
            have Rz := Rel.freeze R' gm' (Nat.le_refl _)
            have xz : Ext D1 { D' with F := fun b => D'.F b ∨ b = xa, m := D'.m.take h1.length } := ⟨fun b f => ⟨.inl ((x2.trans x').fz b f).1, ((x2.trans x').fz b f).2⟩, xb.m, (x2.trans x').c⟩
            exact o1 { D' with F := fun b => D'.F b ∨ b = xa, m := D'.m.take h1.length } (.ref xa) xz Rz ⟨xa, dx', fs, ws, rfl, ⟨.inr rfl, t⟩, ⟨.inl fo.1, fo.2⟩, hfull, RepL.pure (D := D') (D' := { D' with F := fun b => D'.F b ∨ b = xa, m := D'.m.take h1.length }) (fun b f => ⟨Or.inl f, rfl⟩) _ _ (R'.pure _ (List.mem_of_getElem? hc)) rl⟩
          · exact o1 D' (.ref xa) (x2.trans x') R' ⟨xa, rfl, gm'⟩
        · exact o1.elim
      · exact o1.elim
    | _ => exact o1.elim

/-! ### isinstance -/
def isiCOp (c : Nat) : AV → AH → Out AV := fun x h => match obOf h x with
  | some (c', _) => .ok (.bl (decide (c' = c))) h
  | none => match tyOf h x with
    | some _ => .ok (.bl false) h
    | none => .bad
def isiOp2 (T : Ty) : AV → AH → Out AV := fun x h => match obOf h x with
  | some _ => .ok (.bl false) h
  | none => isiOp T x h
theorem ty_mem (t : Ty) : t ≠ .non → t.nm ∈ clTys := by cases t <;> simp [Ty.nm, clTys]
theorem ob_tyx {Γ : Cfg} {k : Nat} {G : GT} (so : StatOk Γ S G k) {D : Wd} {h : AH} (R : Rel Γ.K D h) (dok : DOk Γ D) {x : AV} {u : V} {c : Nat} {xs : List AV} {e0 : ClsS} (r : Rep Γ.K D x u) (e : obOf h x = some (c, xs)) (hx : S.cl[c]? = some e0) : TyX Γ.K D.H u (.ref (Γ.oc c).1) := by
  obtain ⟨a, dx, fs, vs, e1, t, _, _⟩ := obOf_rep R r e
  subst e1
  rw [dok.2.2] at t
  have ck := so.cl c e0 hx
  exact .base (.ins t ck.kk.cls ck.kk.t1 ck.kk.t2 ck.kk.t3 ck.kk.t4)
/-- every object's class is one of the text's -/
def obIn (S : Stat) : AV → AH → Bool := fun x h => match obOf h x with
  | some (c, _) => decide (c < S.cl.length)
  | none => true
def evIsiC (cl : Nat) (c : Nat) (f : EvE) : EvE := evOf1 (fun x h => match obOf h x with
  | some (c', _) => if c' < cl then .ok (.bl (decide (c' = c))) h else .bad
  | none => isiCOp c x h) f
theorem se_isiC {e : Expr} {f : EvE} {cn : Nat} {e0 : ClsS} {y x : Str} {p p1 pos : Pos} (hc : S.cl[cn]? = some e0) (hy : e0.name = y) (hi : bootBuiltins x = some (.builtin "isinstance")) (hxf : x ∈ S.free) (hg : glB L.sc x = true) (hgy : glB L.sc y = true) (hn : okName x = true) (hny : okName y = true)
    (ha : SE S L e f) (hst : notStar e = true) : SE S L (.Call (.Name x p) [e, .Name y p1] [] pos) (evIsiC S.cl.length cn f) := by
  subst hy
  intro Γ G k X W so c
  have ck := so.cl cn e0 hc
  have hs2 : [Expr.Name e0.name p1].all notStar = true := rfl
  have py : PE X (.Name e0.name p1) (tC (.ref (Γ.oc cn).1)) := pe_glob (gl_of c hgy) (by rw [c.mg]; exact ck.mg) (show RelV (.ref (Γ.oc cn).1) (.ref (Γ.oc cn).1) from rfl) (okName1 hny)
  refine PE.weak (pe_callB (call_isi (X := X)) (gl_of c hg) (by rw [c.mg]; exact so.free x hxf) hi (pa_cons (ha Γ G k X W so c) (pa_cons py pa_nil (starEach_cons rfl)) (starEach_cons hst)) (okName3 hn) (okName1 hn) (starEach_cons hst) (starEach_plain hs2)) fun σ H Q ⟨D, h, env, a, o⟩ => ?_
  refine ⟨D, h, env, a, (OutOk.bind (R1 := fun D _ => Rep Γ.K D) o).mono fun u H' ⟨D1, v1, h1, e1, x1, r1, q1, o1⟩ => ?_⟩
  split at o1
  · rename_i c' xs hob
    split at o1
    · rename_i hlt
      have q := fin (v := .bl _) r1 rfl o1
      have hx' := List.getElem?_eq_getElem hlt
      have tx := ob_tyx so r1 (a.ok.ext x1) q1 hob hx'
      have kk := (so.cl c' _ hx').kc cn e0 hc
      rw [e1] at q tx
      rw [← c.K] at tx kk
      exact ⟨u, .ref (Γ.oc cn).1, _, _, _, rfl, .own _, tx, kk, q⟩
    · exact o1.elim
  · rename_i hob
    unfold isiCOp at o1
    rw [hob] at o1
    simp only at o1
    split at o1
    · rename_i t ht
      have q := fin (v := .bl false) r1 rfl o1
      have tx := tyOf_x r1 q1 ht
      have kk : PySem.W.kitOne Γ.K (.type t.nm) (.ref (Γ.oc cn).1) = some false := by
        by_cases hn : t = .non
        · subst hn; exact ck.kk.kn
        · exact (ck.kk.kt _ (ty_mem t hn)).2
      rw [e1] at q tx
      rw [← c.K] at tx kk
      exact ⟨u, .ref (Γ.oc cn).1, _, _, _, rfl, .own _, tx, kk, q⟩
    · exact o1.elim
def evIsi2 (cl : Nat) (T : Ty) (f : EvE) : EvE := evOf1 (fun x h => match obOf h x with
  | some (c', _) => if c' < cl then .ok (.bl false) h else .bad
  | none => isiOp T x h) f
theorem se_isi2 {e : Expr} {f : EvE} {T : Ty} {y x : Str} {p p1 pos : Pos} (hT : T ≠ .non) (hy : bootBuiltins y = some (.type T.nm)) (hi : bootBuiltins x = some (.builtin "isinstance")) (hxf : x ∈ S.free) (hyf : y ∈ S.free) (hg : glB L.sc x = true) (hgy : glB L.sc y = true) (hn : okName x = true) (hny : okName y = true)
    (ha : SE S L e f) (hst : notStar e = true) : SE S L (.Call (.Name x p) [e, .Name y p1] [] pos) (evIsi2 S.cl.length T f) := by
  intro Γ G k X W so c
  have hs2 : [Expr.Name y p1].all notStar = true := rfl
  have py : PE X (.Name y p1) (tC (.ty T.nm)) := pe_bltn (gl_of c hgy) (by rw [c.mg]; exact so.free y hyf) hy (show RelV (.ty T.nm) (.type T.nm) from rfl) (okName3 hny) (okName1 hny)
  refine PE.weak (pe_callB (call_isi (X := X)) (gl_of c hg) (by rw [c.mg]; exact so.free x hxf) hi (pa_cons (ha Γ G k X W so c) (pa_cons py pa_nil (starEach_cons rfl)) (starEach_cons hst)) (okName3 hn) (okName1 hn) (starEach_cons hst) (starEach_plain hs2)) fun σ H Q ⟨D, h, env, a, o⟩ => ?_
  refine ⟨D, h, env, a, (OutOk.bind (R1 := fun D _ => Rep Γ.K D) o).mono fun u H' ⟨D1, v1, h1, e1, x1, r1, q1, o1⟩ => ?_⟩
  split at o1
  · rename_i c' xs hob
    split at o1
    · rename_i hlt
      have q := fin (v := .bl _) r1 rfl o1
      have hx' := List.getElem?_eq_getElem hlt
      have tx := ob_tyx so r1 (a.ok.ext x1) q1 hob hx'
      have kk := ((so.cl c' _ hx').kk.kt _ (ty_mem T hT)).1
      rw [e1] at q tx
      rw [← c.K] at tx kk
      exact ⟨u, .ty T.nm, _, _, _, rfl, .ty _, tx, kk, q⟩
    · exact o1.elim
  · unfold isiOp at o1
    split at o1
    · rename_i t ht
      have q := fin (v := .bl _) r1 rfl o1
      have tx := tyOf_x r1 q1 ht
      rw [e1] at q tx
      rw [← c.K] at tx
      exact ⟨u, .ty T.nm, _, _, _, rfl, .ty _, tx, kit_ty (isTy_ok t T hT), q⟩
    · exact o1.elim
end
end Pv
end
section
set_option Elab.async false
set_option linter.all false
set_option maxRecDepth 100000
set_option autoImplicit false
namespace Pv
open PySem PySem.Spec PyProof.Rows L2
section
variable {S : Stat} {L : Lc}
/-! ### f-strings -/
def fmtOp : AV → AH → Out AV := fun x h => match x with
  | .str y => if y.length ≤ sizeLine then .ok (.str y) h else .bad
  | .int i => if i.natAbs.log2 < 1920 then .ok (.str (toString i)) h else .bad
  | x => match toPy1 h x with
    | some d => if PyData.showable d = true ∧ PyData.hasDict d = false ∧ d.depth ≤ 64 ∧ (PyData.shown d).length ≤ sizeLine ∧ isTL d = true then .ok (.str (PyData.shown d)) h else .bad
    | none => .bad
where
  isTL : PyData → Bool
    | .tuple _ => true
    | .list _ => true
    | _ => false
theorem se_fmt {e : Expr} {f : EvE} {pos : Pos} (ha : SE S L e f) : SE S L (.FormattedValue e (-1) none pos) (evOf1 fmtOp f) := by
  intro Γ G k X W so c
  refine ⟨fun pins s σ H Q I ⟨D, h, env, a, o⟩ => ?_⟩
  refine wpAny_FormattedValue_plain (thn ((ha Γ G k X W so c).run pins s σ H _ I ⟨D, h, env, a, OutOk.bind (R1 := fun D _ => Rep Γ.K D) o⟩) fun v s1 ⟨x, H1, I1, rx, D1, v1, h1, e1, x1, r1, q1, o1⟩ => ?_)
  subst e1
  unfold fmtOp at o1
  split at o1
  · split at o1
    · rename_i y hz
      cases q1
      obtain ⟨t, rfl⟩ := rx
      have q := fin (v := .str y) r1 rfl o1
      exact wpAny_formatField_str ⟨.str y, D1.H, I1, ⟨t, rfl⟩, q⟩ ⟨.str y, D1.H, I1.tok _, ⟨_, rfl⟩, q⟩ hz
    · exact o1.elim
  · split at o1
    · rename_i i hz
      cases q1
      obtain ⟨t, rfl⟩ := rx
      have q := fin (v := .str (toString i)) r1 rfl o1
      exact wpAny_formatField_int hz ⟨.str (toString i), D1.H, I1.tok _, ⟨_, rfl⟩, q⟩
    · exact o1.elim
  · split at o1
    · rename_i d hd
      split at o1
      · rename_i hs
        have q := fin (v := .str (PyData.shown d)) r1 rfl o1
        have dp := toPy1_dp r1 _ x d q1 hd
        have hu := c.un
        have grd := c.grd
        rw [← c.K] at dp
        obtain ⟨s1', s2', s3', s4', s5'⟩ := hs
        cases dp with
        | lst hq ha =>
          obtain ⟨as, rd⟩ := Dp.reads I1 _ _ _ (Dp.lst hq ha) rx
          cases rx
          exact formatField_of_reads rd s1' (fun z => by rw [s2'] at z; cases z) grd (by omega) (fun _ _ e => e) (fun h' u tk k => ⟨.str _, D1.H, I1.kept k, ⟨u, rfl⟩, q⟩) s4'
        | tup hq ha =>
          obtain ⟨as, rd⟩ := Dp.reads I1 _ _ _ (Dp.tup hq ha) rx
          cases rx
          exact formatField_of_reads rd s1' (fun z => by rw [s2'] at z; cases z) grd (by omega) (fun _ _ e => e) (fun h' u tk k => ⟨.str _, D1.H, I1.kept k, ⟨u, rfl⟩, q⟩) s4'
        | _ => cases s5'
      · exact o1.elim
    · exact o1.elim
def evJs : List EvE → Str → EvE
  | [], acc => fun _ _ h => .ok (.str acc) h
  | f :: fs, acc => fun G env h => (f G env h).bind fun x h1 => match x with
    | .str y => if (acc ++ y).length ≤ sizeLine then evJs fs (acc ++ y) G env h1 else .bad
    | _ => .bad
def SJ (S : Stat) (L : Lc) (es : List Expr) (fs : List EvE) : Prop := ∀ (Γ : Cfg) (G : GT) (k : Nat) (X : Cx) (W : WX), StatOk Γ S G k → CtxP Γ k L X W → PJ X es (fs.map fun f => tEv Γ W (f G))
theorem sj_nil : SJ S L [] [] := fun _ _ _ _ _ _ _ => .nil
theorem sj_cons {e : Expr} {es : List Expr} {f : EvE} {fs : List EvE} (h : SE S L e f) (t : SJ S L es fs) : SJ S L (e :: es) (f :: fs) := fun Γ G k X W so c => .cons (h Γ G k X W so c) (t Γ G k X W so c)
theorem js_of {Γ : Cfg} {W : WX} {G : GT} {σ : L2.St} : ∀ (fs : List EvE) (acc : Str) (H : Hp) (Q : VK), tEv Γ W (evJs fs acc G) σ H Q → tJs (fs.map fun f => tEv Γ W (f G)) acc σ H fun out H1 => Q (.str out) H1
  | [], acc, H, Q, ⟨D, h, env, a, o⟩ => by
    have q := fin (v := .str acc) a.rel rfl o
    rw [a.hp] at q
    exact q
  | f :: fs, acc, H, Q, ⟨D, h, env, a, o⟩ => by
    refine ⟨D, h, env, a, (OutOk.bind (R1 := fun D _ => Rep Γ.K D) o).mono fun u H' ⟨D1, v1, h1, e1, x1, r1, q1, o1⟩ => ?_⟩
    split at o1
    · rename_i y
      cases q1
      split at o1
      · rename_i hz
        exact ⟨y, rfl, hz, js_of fs (acc ++ y) H' Q ⟨D1, h1, env, a.next e1 x1 r1, o1⟩⟩
      · exact o1.elim
    · exact o1.elim
theorem se_js {v1 v2 : Expr} {rest : List Expr} {fs : List EvE} {pos : Pos} (h : SJ S L (v1 :: v2 :: rest) fs) : SE S L (.JoinedStr (v1 :: v2 :: rest) pos) (evJs fs Str.empty) := by
  intro Γ G k X W so c
  exact PE.weak (pe_joined (h Γ G k X W so c)) fun σ H Q o => js_of fs Str.empty H Q o

/-! ### sorted -/
def insI (i : Int) : List Int → List Int
  | [] => [i]
  | j :: r => if i ≤ j then i :: j :: r else j :: insI i r
def sortI : List Int → List Int
  | [] => []
  | i :: r => insI i (sortI r)
theorem insI_perm (i : Int) : ∀ l, (insI i l).Perm (i :: l)
  | [] => .refl _
  | j :: r => by
    unfold insI
    split
    · exact .refl _
    · exact ((insI_perm i r).cons j).trans (.swap i j r)
theorem sortI_perm : ∀ l, (sortI l).Perm l
  | [] => .refl _
  | i :: r => (insI_perm i (sortI r)).trans ((sortI_perm r).cons i)
theorem insI_sorted (i : Int) : ∀ l, l.Pairwise (· ≤ ·) → (insI i l).Pairwise (· ≤ ·)
  | [], _ => List.pairwise_singleton _ _
  | j :: r, h => by
    obtain ⟨h1, h2⟩ := List.pairwise_cons.mp h
    unfold insI
    split
    · rename_i hij
      refine List.pairwise_cons.mpr ⟨fun x hx => ?_, h⟩
      rcases List.mem_cons.mp hx with e | e
      · rw [e]; exact hij
      · exact Int.le_trans hij (h1 x e)
    · rename_i hij
      refine List.pairwise_cons.mpr ⟨fun x hx => ?_, insI_sorted i r h2⟩
      rcases List.mem_cons.mp ((insI_perm i r).mem_iff.mp hx) with e | e
      · rw [e]; omega
      · exact h1 x e
theorem sortI_sorted : ∀ l, (sortI l).Pairwise (· ≤ ·)
  | [] => .nil
  | i :: r => insI_sorted i _ (sortI_sorted r)
theorem sorted_unique : ∀ {a b : List Int}, a.Perm b → a.Pairwise (· ≤ ·) → b.Pairwise (· ≤ ·) → a = b
  | [], b, p, _, _ => (List.Perm.nil_eq p)
  | x :: xs, [], p, _, _ => absurd p.length_eq (by simp)
  | x :: xs, y :: ys, p, h1, h2 => by
    obtain ⟨a1, a2⟩ := List.pairwise_cons.mp h1
    obtain ⟨b1, b2⟩ := List.pairwise_cons.mp h2
    have e : x = y := by
      have hx : x ∈ y :: ys := p.mem_iff.mp List.mem_cons_self
      have hy : y ∈ x :: xs := p.mem_iff.mpr List.mem_cons_self
      rcases List.mem_cons.mp hx with e | e
      · exact e
      · rcases List.mem_cons.mp hy with e2 | e2
        · exact e2.symm
        · have := b1 x e
          have := a1 y e2
          omega
    subst e
    rw [sorted_unique ((List.perm_cons x).mp p) a2 b2]
def sortOp : List AV → AH → Out AV := fun xs h => match xs with
  | [x] => match (itemsOf h x).bind intsOf with
    | some ns => .ok (.lst ((sortI ns).map AV.int)) h
    | none => .bad
  | _ => .bad
theorem on_sort : OpN sortOp fun K vs H Q => rSortedI K vs H Q ∨ Sx.rSortTI K vs H Q := by
  intro Γ D h xs us Q Wx R r o
  unfold sortOp at o
  split at o
  · rename_i x
    split at o
    · rename_i ns hb
      obtain ⟨ys, hy, hb⟩ := Option.bind_eq_some_iff.mp hb
      obtain ⟨u, e, ru⟩ := r.one
      subst e
      obtain ⟨a, vs, e1, t, q⟩ := itemsOf_sq R ru hy
      subst e1
      have e3 := intsOf_eq hb
      subst e3
      have e2 := q.ofInts
      subst e2
      have go : ∀ (ns' : List Int) (p : Addr), ns'.Perm ns → ns'.Pairwise (· ≤ ·) → D.H p = none → Q (.ref p) (upd D.H p (.lst (ns'.map V.int))) := fun ns' p hp hs hn => by
        have e4 : ns' = sortI ns := sorted_unique (hp.trans (sortI_perm ns).symm) hs (sortI_sorted ns)
        subst e4
        exact fin_lst R (RepL.ints _) o p hn
      rcases t with t | t
      · exact .inl ⟨a, ns, rfl, t, go⟩
      · exact .inr ⟨a, ns, rfl, t, go⟩
    · exact o.elim
  · exact o.elim

/-! ### max(xs, default = d) -/
def maxL : Int → List Int → Int
  | m, [] => m
  | m, i :: r => maxL (if m < i then i else m) r
theorem maxL_mem : ∀ (r : List Int) (m : Int), maxL m r ∈ m :: r ∧ ∀ y, y ∈ m :: r → y ≤ maxL m r
  | [], m => ⟨List.mem_cons_self, fun y h => by rw [List.mem_singleton.mp h]; exact Int.le_refl _⟩
  | i :: r, m => by
    obtain ⟨h1, h2⟩ := maxL_mem r (if m < i then i else m)
    refine ⟨?_, fun y hy => ?_⟩
    · show maxL (if m < i then i else m) r ∈ _
      rcases List.mem_cons.mp h1 with e | e
      · rw [e]
        split
        · exact List.mem_cons_of_mem _ List.mem_cons_self
        · exact List.mem_cons_self
      · exact List.mem_cons_of_mem _ (List.mem_cons_of_mem _ e)
    · show y ≤ maxL (if m < i then i else m) r
      have h0 := h2 _ List.mem_cons_self
      rcases List.mem_cons.mp hy with e | e
      · subst e
        refine Int.le_trans ?_ h0
        split <;> omega
      · rcases List.mem_cons.mp e with e | e
        · subst e
          refine Int.le_trans ?_ h0
          split <;> omega
        · exact h2 y (List.mem_cons_of_mem _ e)
def maxDOp : AV → AV → AH → Out AV := fun x d h => match (lstOf h x).bind intsOf with
  | some [] => .ok d h
  | some (m :: r) => .ok (.int (maxL m r)) h
  | none => .bad
def evMaxD (f g : EvE) : EvE := fun G env h => (f G env h).bind fun x h1 => (g G env h1).bind fun d h2 => maxDOp x d h2
def sMaxN : Str := "max"
def sDefault : Str := "default"
theorem boot_maxN : bootBuiltins sMaxN = some (.builtin "max") := by decide +kernel
theorem kw_one {kv : Expr} {y : Str} {kp : Pos} {env : Env} {pos : Pos} : (backToKw pos (keywordEach [⟨some y, kv, kp⟩] env)).all (·.1.isSome) = true ∧ (backToKw pos (keywordEach [⟨some y, kv, kp⟩] env)).any (·.1.isNone) = false ∧ (backToKw pos (keywordEach [⟨some y, kv, kp⟩] env)).filterMap (·.1) = [y] := ⟨rfl, rfl, rfl⟩
theorem backTo_cons {e : Expr} {env : Env} {pos : Pos} (h : notStar e = true) : backTo pos (starEach [e] env) = (false, eval e env) :: backTo pos (starEach [] env) ∧ (backTo pos (starEach [e] env)).any (·.1) = false := by
  rw [starEach_cons h]
  exact ⟨rfl, rfl⟩
theorem se_maxD {x y : Str} {a d : Expr} {f g : EvE} {p kp pos : Pos} (hx : x = sMaxN) (hy : y = sDefault) (hxf : x ∈ S.free) (hg : glB L.sc x = true) (ha : SE S L a f) (hd : SE S L d g) (hs : notStar a = true) (hh : L.hot = false) :
    SE S L (.Call (.Name x p) [a] [⟨some y, d, kp⟩] pos) (evMaxD f g) := by
  subst hx; subst hy
  intro Γ G k X W so c
  have cr := Mx.cr_maxDf (c.calm hh)
  obtain ⟨k1, k2, k3⟩ := kw_one (kv := d) (y := sDefault) (kp := kp) (env := X.env) (pos := pos)
  obtain ⟨b1, b2⟩ := backTo_cons (env := X.env) (pos := pos) hs
  refine PE.weak (pe_callBK cr (gl_of c hg) (by rw [c.mg]; exact so.free _ hxf) boot_maxN (pa_cons (ha Γ G k X W so c) pa_nil (starEach_cons hs)) (pk_cons (hd Γ G k X W so c) pk_nil) (by decide) (by decide) b1 b2 k1 k2 k3) fun σ H Q ⟨D, h, env, at_, o⟩ => ?_
  refine ⟨D, h, env, at_, (OutOk.bind (R1 := fun D _ => Rep Γ.K D) o).mono fun u H' ⟨D1, v1, h1, e1, x1, r1, q1, o1⟩ => ?_⟩
  refine ⟨D1, h1, env, at_.next e1 x1 r1, (OutOk.bind (R1 := fun D _ => Rep Γ.K D) o1).mono fun w H'' ⟨D2, v2, h2, e2, x2, r2, q2, o2⟩ => ?_⟩
  unfold maxDOp at o2
  have q1' := Rep.ext x2 _ _ q1
  have go : ∀ ns, (lstOf h2 v1).bind intsOf = some ns → ∃ a, u = .ref a ∧ SqL X.K H'' a (ns.map V.int) := fun ns hb => by
    obtain ⟨ys, hy, hb⟩ := Option.bind_eq_some_iff.mp hb
    obtain ⟨a, vs, e3, t, q⟩ := lstOf_sq r2 q1' hy
    have e4 := intsOf_eq hb
    subst e4
    have e5 := q.ofInts
    subst e5
    rw [e2, ← c.K] at t
    exact ⟨a, e3, t⟩
  split at o2
  · rename_i hb
    obtain ⟨a, e3, t⟩ := go [] hb
    have q := fin r2 q2 o2
    rw [e2] at q
    exact ⟨a, [], w, by rw [e3], rfl, t, (fun m hm => absurd hm (by simp)), fun _ => q⟩
  · rename_i m r hb
    obtain ⟨a, e3, t⟩ := go _ hb
    have q := fin (v := .int (maxL m r)) r2 rfl o2
    rw [e2] at q
    refine ⟨a, m :: r, w, by rw [e3], rfl, t, fun z hz hm => ?_, fun z => by cases z⟩
    obtain ⟨g1, g2⟩ := maxL_mem r m
    have : z = maxL m r := Int.le_antisymm (g2 z hz) (hm _ g1)
    rw [this]
    exact q
  · exact o2.elim

/-! ### dicts -/
def keyA : AV → Option Key
  | .int i => some (.inl i)
  | .str x => some (.inr x)
  | _ => none
theorem keyA_of {K : PySem.W.Frag} {D : Wd} {x : AV} {u : V} {k : Key} (r : Rep K D x u) (e : keyA x = some k) : u = kV k := by
  cases x <;> first | (cases e; done) | (cases e; cases r; rfl)
def dGet {α : Type} : List Key → List α → Key → Option α
  | k' :: ks, x :: xs, k => if k' = k then some x else dGet ks xs k
  | _, _, _ => none
def dSet {α : Type} : List Key → List α → Key → α → List α
  | k' :: ks, x :: xs, k, v => (if k' = k then v else x) :: dSet ks xs k v
  | _, xs, _, _ => xs
def hasK (ks : List Key) (k : Key) : Bool := ks.any fun k' => decide (k' = k)
def keysP (ks : List Key) (k : Key) : List Key := if hasK ks k = true then ks else ks ++ [k]
def dPut {α : Type} (ks : List Key) (xs : List α) (k : Key) (v : α) : List α := if hasK ks k = true then dSet ks xs k v else xs ++ [v]
theorem dGet_zip : ∀ (ks : List Key) (vs : List V) (k : Key), valV (ks.zip vs) k = dGet ks vs k
  | [], vs, k => by simp [dGet, valV]
  | k' :: ks, [], k => by simp [dGet, valV]
  | k' :: ks, v :: vs, k => by
    rw [List.zip_cons_cons]
    unfold dGet
    by_cases e : k' = k
    · rw [if_pos e]; exact valV_pos e
    · rw [if_neg e, valV_neg e]; exact dGet_zip ks vs k
theorem dGet_rep {K : PySem.W.Frag} {D : Wd} {k : Key} {x : AV} : ∀ {ks : List Key} {xs : List AV} {us : List V}, RepL K D xs us → dGet ks xs k = some x → ∃ u, dGet ks us k = some u ∧ Rep K D x u
  | [], xs, us, r, e => by cases xs <;> cases e
  | k' :: ks, [], us, r, e => by cases e
  | k' :: ks, y :: ys, us, r, e => by
    obtain ⟨u, t, e1, r1, r2⟩ := r
    subst e1
    unfold dGet at e ⊢
    by_cases h : k' = k
    · rw [if_pos h] at e ⊢
      cases e
      exact ⟨u, rfl, r1⟩
    · rw [if_neg h] at e ⊢
      exact dGet_rep r2 e
theorem hasK_zip : ∀ (ks : List Key) (vs : List V) (k : Key), vs.length = ks.length → ((ks.zip vs).any fun kv => decide (kv.1 = k)) = hasK ks k
  | [], vs, k, h => rfl
  | k' :: ks, [], k, h => by simp at h
  | k' :: ks, v :: vs, k, h => by
    have ih := hasK_zip ks vs k (by simpa using h)
    show (decide (k' = k) || (ks.zip vs).any fun kv => decide (kv.1 = k)) = (decide (k' = k) || hasK ks k)
    rw [ih]
theorem dSet_zip : ∀ (ks : List Key) (vs : List V) (k : Key) (u : V), (ks.zip vs).map (fun kv => if kv.1 = k then (kv.1, u) else kv) = ks.zip (dSet ks vs k u)
  | [], vs, k, u => by simp
  | k' :: ks, [], k, u => by simp [dSet]
  | k' :: ks, v :: vs, k, u => by
    have ih := dSet_zip ks vs k u
    rw [List.zip_cons_cons, List.map_cons, ih]
    show (if k' = k then (k', u) else (k', v)) :: _ = (k', if k' = k then u else v) :: ks.zip (dSet ks vs k u)
    by_cases e : k' = k
    · rw [if_pos e, if_pos e]
    · rw [if_neg e, if_neg e]
theorem dSet_len {α : Type} : ∀ (ks : List Key) (vs : List α) (k : Key) (u : α), (dSet ks vs k u).length = vs.length
  | [], vs, k, u => by simp [dSet]
  | k' :: ks, [], k, u => by simp [dSet]
  | k' :: ks, v :: vs, k, u => by simp [dSet, dSet_len ks vs k u]
theorem dPut_zip {ks : List Key} {vs : List V} {k : Key} {u : V} (h : vs.length = ks.length) : putK (ks.zip vs) k u = (keysP ks k).zip (dPut ks vs k u) ∧ (dPut ks vs k u).length = (keysP ks k).length := by
  unfold putK keysP dPut
  rw [hasK_zip ks vs k h]
  by_cases e : hasK ks k = true
  · rw [if_pos e, if_pos e, if_pos e]
    exact ⟨dSet_zip ks vs k u, by rw [dSet_len, h]⟩
  · rw [if_neg e, if_neg e, if_neg e]
    refine ⟨?_, by simp [h]⟩
    rw [List.zip_append h.symm]
    rfl
theorem dSet_rep {K : PySem.W.Frag} {D : Wd} {k : Key} {x : AV} {u : V} (hx : Rep K D x u) : ∀ {ks : List Key} {xs : List AV} {us : List V}, RepL K D xs us → RepL K D (dSet ks xs k x) (dSet ks us k u)
  | [], xs, us, r => by simpa [dSet] using r
  | k' :: ks, [], us, r => by
    have e : us = [] := r
    subst e
    exact rfl
  | k' :: ks, y :: ys, us, r => by
    obtain ⟨v, t, e1, r1, r2⟩ := r
    subst e1
    refine ⟨_, _, rfl, ?_, dSet_rep hx r2⟩
    by_cases h : k' = k
    · rw [if_pos h, if_pos h]; exact hx
    · rw [if_neg h, if_neg h]; exact r1
theorem dPut_rep {K : PySem.W.Frag} {D : Wd} {k : Key} {x : AV} {u : V} {ks : List Key} {xs : List AV} {us : List V} (hx : Rep K D x u) (r : RepL K D xs us) : RepL K D (dPut ks xs k x) (dPut ks us k u) := by
  unfold dPut
  by_cases e : hasK ks k = true
  · rw [if_pos e, if_pos e]; exact dSet_rep hx r
  · rw [if_neg e, if_neg e]; exact RepL.append r (RepL.cons hx rfl)
theorem dSet_pure {k : Key} {x : AV} (hx : pureA x = true) : ∀ {ks : List Key} {xs : List AV}, pureL xs = true → pureL (dSet ks xs k x) = true
  | [], xs, h => by simpa [dSet] using h
  | _ :: _, [], _ => rfl
  | k' :: ks, y :: ys, h => by
    obtain ⟨h1, h2⟩ := pureL_cons.mp h
    refine pureL_cons.mpr ⟨?_, dSet_pure hx h2⟩
    by_cases e : k' = k
    · rw [if_pos e]; exact hx
    · rw [if_neg e]; exact h1
theorem dPut_pure {k : Key} {x : AV} {ks : List Key} {xs : List AV} (hx : pureA x = true) (h : pureL xs = true) : pureL (dPut ks xs k x) = true := by
  unfold dPut
  split
  · exact dSet_pure hx h
  · exact pureL_append.mpr ⟨h, pureL_cons.mpr ⟨hx, rfl⟩⟩
/-- a dict's keys and values -/
def dctOf (h : AH) : AV → Option (List Key × List AV)
  | .dct ks xs => some (ks, xs)
  | .ref n => match h[n]? with
    | some (.dct ks xs) => some (ks, xs)
    | _ => none
  | _ => none
theorem dctOf_rep {Γ : Cfg} {D : Wd} {h : AH} (R : Rel Γ.K D h) {x : AV} {u : V} {ks : List Key} {xs : List AV} (r : Rep Γ.K D x u) (e : dctOf h x = some (ks, xs)) : ∃ a vs, u = .ref a ∧ D.H a = some (.dK (ks.zip vs)) ∧ vs.length = ks.length ∧ RepL Γ.K D xs vs := by
  cases x with
  | dct ks' ys =>
    cases e
    obtain ⟨a, vs, e1, ⟨_, t⟩, l, q⟩ := r
    exact ⟨a, vs, e1, t, l, q⟩
  | ref n =>
    simp only [dctOf] at e
    split at e
    · rename_i ks' ys hc
      cases e
      obtain ⟨a, e1, _, vs, t, l, q⟩ := ref_lst R r hc
      exact ⟨a, vs, e1, t, l, q⟩
    · cases e
  | _ => cases e
/-- x[y], a dict or a sequence -/
def ixOp2 : Op2 := fun x y h => match dctOf h x with
  | some (ks, xs) => match keyA y with
    | some k => match dGet ks xs k with
      | some v => .ok v h
      | none => .bad
    | none => .bad
  | none => ixOp x y h
def noSl : Expr → Bool
  | .Slice .. => false
  | _ => true
theorem se_ix2 {a b : Expr} {f g : EvE} {pos : Pos} (ha : SE S L a f) (hb : SE S L b g) (hs : notSlice b = true) (hn : NoSl b) : SE S L (.Subscript a b pos) (evOp ixOp2 f g) := by
  intro Γ G k X W so c
  refine ⟨fun pins s σ H Q I ⟨D, h, env, a', o⟩ => ?_⟩
  -- which of both it is, is known beforehand
  cases ef : f G env h with
  | bad => unfold evOp at o; rw [ef] at o; exact o.elim
  | exc e h1 =>
    refine (pe_dget (by have := c.un; omega) (ha Γ G k X W so c) (hb Γ G k X W so c) hn).run pins s σ H Q I ⟨D, h, env, a', ?_⟩
    unfold evOp at o
    rw [ef] at o ⊢
    exact o
  | ok v1 h1 =>
    unfold evOp at o
    rw [ef] at o
    have o : OutOk Γ D ((g G env h1).bind fun y h2 => ixOp2 v1 y h2) (fun D _ => Rep Γ.K D) Q fun c d H' => W c d σ H' := o
    cases eg : g G env h1 with
    | bad => rw [eg] at o; exact o.elim
    | exc e h2 =>
      rw [eg] at o
      refine (pe_dget (by have := c.un; omega) (ha Γ G k X W so c) (hb Γ G k X W so c) hn).run pins s σ H Q I ⟨D, h, env, a', ?_⟩
      rw [ef]
      intro D1 u x1 r1 q1
      refine ⟨D1, h1, env, a'.next rfl x1 r1, ?_⟩
      rw [eg]
      exact OutOk.ext x1 o
    | ok v2 h2 =>
      rw [eg] at o
      have o : OutOk Γ D (ixOp2 v1 v2 h2) (fun D _ => Rep Γ.K D) Q fun c d H' => W c d σ H' := o
      unfold ixOp2 at o
      cases ed : dctOf h2 v1 with
      | some kx =>
        obtain ⟨ks, xs⟩ := kx
        rw [ed] at o
        simp only at o
        split at o
        · rename_i k1 hk1
          split at o
          · rename_i w hw
            refine (pe_dget (by have := c.un; omega) (ha Γ G k X W so c) (hb Γ G k X W so c) hn).run pins s σ H Q I ⟨D, h, env, a', ?_⟩
            rw [ef]
            intro D1 u x1 r1 q1
            refine ⟨D1, h1, env, a'.next rfl x1 r1, ?_⟩
            rw [eg]
            intro D2 u2 x2 r2 q2
            obtain ⟨ad, vs, e1, t, l, q⟩ := dctOf_rep r2 (Rep.ext x2 _ _ q1) ed
            obtain ⟨z, ez, rz⟩ := dGet_rep q hw
            have ek := keyA_of q2 hk1
            subst ek
            refine ⟨ad, z, e1, ?_, o D2 z (x1.trans x2) r2 rz⟩
            have dg := DGet.k (k := k1) t
            rw [dGet_zip, ez] at dg
            exact dg
          · exact o.elim
        · exact o.elim
      | none =>
        rw [ed] at o
        simp only at o
        refine (se_ix ha hb hs Γ G k X W so c).run pins s σ H Q I ⟨D, h, env, a', ?_⟩
        unfold evOp
        rw [ef]
        show OutOk Γ D ((g G env h1).bind fun y h2 => ixOp v1 y h2) _ _ _
        rw [eg]
        exact o
/-- {k: v} -/
def evDict1 (f g : EvE) : EvE := fun G env h => (f G env h).bind fun x h1 => (g G env h1).bind fun y h2 => match keyA x with
  | some k => if pureA y = true then .ok (.dct [k] [y]) h2 else .bad
  | none => .bad
end
end Pv
end
section
set_option Elab.async false
set_option linter.all false
set_option maxRecDepth 100000
set_option autoImplicit false
namespace Pv
open PySem PySem.Spec PyProof.Rows L2
section
variable {S : Stat} {L : Lc}
def evDictC (i j : Int) : EvE := fun _ _ h => .ok (.dct [.inl i] [.int j]) h
theorem se_dictC {i j : Int} {k1 k2 : Nat} {p1 p2 pos : Pos} : SE S L (.Dict [some (.Constant (.int i) k1 p1)] [.Constant (.int j) k2 p2] pos) (evDictC i j) := by
  intro Γ G k X W so c
  refine PE.weak (pe_disp (pps_cons pe_int pe_int pps_nil) rfl rfl (by simp) (by simp)) fun σ H Q ⟨D, h, env, a', o⟩ => ?_
  intro p hp
  rw [← a'.hp] at hp ⊢
  refine ⟨upd_same, [(.inl i, .int j)], rfl, by simp, ?_⟩
  have e : upd (upd D.H p (.dK [])) p (.dK (mergeK [] [((.inl i : Key), V.int j)])) = upd D.H p (.dK [((.inl i : Key), V.int j)]) := by
    funext b
    by_cases hb : b = p
    · subst hb; rw [upd_same, upd_same]; rfl
    · rw [upd_ne hb, upd_ne hb, upd_ne hb]
  rw [e]
  exact o (D.frz p (.dK [((.inl i : Key), V.int j)])) (.ref p) (Ext.frz a'.rel hp _) (Rel.frz a'.rel hp _) ⟨p, [.int j], rfl, ⟨.inr rfl, upd_same⟩, rfl, ⟨.int j, [], rfl, rfl, rfl⟩⟩
/-! ### dict comprehensions -/
def dcL (src : Src) (tg : Tg) (tt : EvT) (tk tv : EvE) (G : GT) (n0 : Nat) (env : Env1) : Nat → Nat → AH → Out Unit
  | fuel, i, h => match srcAt src h i with
    | none => .bad
    | some none => .ok () h
    | some (some v) => match fuel with
      | 0 => .bad
      | fuel + 1 => match setTg tg v env with
        | none => .bad
        | some env1 => match tt G env1 h with
          | .ok true h1 => match tk G env1 h1 with
            | .ok y h2 => match tv G env1 h2 with
              | .ok z h3 => match h3[n0]? with
                | some (.dct ks acc) => match keyA y with
                  | some k => if pureA z = true ∧ acc.length < 100000 ∧ acc.length = ks.length then dcL src tg tt tk tv G n0 env fuel (i + 1) (h3.set n0 (.dct (keysP ks k) (dPut ks acc k z))) else .bad
                  | none => .bad
                | _ => .bad
              | _ => .bad
            | _ => .bad
          | .ok false h1 => dcL src tg tt tk tv G n0 env fuel (i + 1) h1
          | _ => .bad
def dcFin (cell : Bool) (n0 : Nat) (h : AH) : Out AV := if cell = true then .ok (.ref n0) h else
  if h.length = n0 + 1 then match h[n0]? with
    | some (.dct ks acc) => .ok (.dct ks acc) (h.take n0)
    | _ => .bad else .bad
def evDc (cell : Bool) (s : EvI) (tg : Tg) (tt : EvT) (tk tv : EvE) (own : List Nat) : EvE := fun G env h => (s G env h).bind fun src h1 =>
  (dcL src tg tt tk tv G h1.length (wipeE env own) (srcLen src h1) 0 (h1 ++ [.dct [] []])).bind fun _ h2 => dcFin cell h1.length h2
theorem dc_of {Γ : Cfg} {G : GT} {W : WX} {cell : Bool} {s : EvI} {tg : Tg} {tt : EvT} {tk tv : EvE} {own : List Nat} (hown : ∀ i ∈ tg.slots, i ∈ own) (σ : L2.St) (H : Hp) (Q : VK) (o : tEv Γ W (evDc cell s tg tt tk tv own G) σ H Q) :
    tDc (tIv Γ W (s G)) (gTg Γ.K tg) (tTv Γ (fun _ _ _ _ => False) (tt G)) (tEv Γ (fun _ _ _ _ => False) (tk G)) (tEv Γ (fun _ _ _ _ => False) (tv G)) own σ H Q := by
  obtain ⟨D, h, env, a, o⟩ := o
  refine ⟨D, h, env, a, (OutOk.bind (R1 := fun D _ src J => ItS Γ D src J) o).mono fun J H' ⟨D1, src, h1, e1, x1, r1, its, o1⟩ => ?_⟩
  subst e1
  intro p hp
  have xc := Ext.cel r1 hp (.dK [])
  have rc : Rel Γ.K (D1.cel p (.dK [])) (h1 ++ [.dct [] []]) := Rel.cel r1 hp ⟨[], upd_same, rfl, rfl⟩ rfl
  have atp : (D1.cel p (.dK [])).m[h1.length]? = some p := by
    show (D1.m ++ [p])[h1.length]? = some p
    rw [← r1.len]
    simp
  have en1 := a.env.ext x1
  refine ⟨fun i n H => ∃ (Dw : Wd) (hw : AH), Dw.H = H ∧ Rel Γ.K Dw hw ∧ Ext (D1.cel p (.dK [])) Dw ∧ OutOk Γ D1 ((dcL src tg tt tk tv G h1.length (wipeE env own) n i hw).bind fun _ h2 => dcFin cell h1.length h2) (fun D _ => Rep Γ.K D) Q (fun c d H' => W c d σ H'),
    ⟨srcLen src h1, D1.cel p (.dK []), _, rfl, rc, Ext.refl _, o1⟩, fun i n H ⟨Dw, hw, eH, rw', xw, ow⟩ => ?_⟩
  subst eH
  have it := its Dw hw i (xc.trans xw) rw'
  have wp : Dw.m[h1.length]? = some p := xw.get atp
  unfold dcL at ow
  split at ow
  · exact ow.elim
  · rename_i hsrc
    rw [hsrc] at it
    refine .inl ⟨it, ?_⟩
    have ow : OutOk Γ D1 (dcFin cell h1.length hw) (fun D _ => Rep Γ.K D) Q (fun c d H' => W c d σ H') := ow
    unfold dcFin at ow
    split at ow
    · exact ow Dw (.ref p) (xc.trans xw) rw' ⟨p, rfl, wp⟩
    · split at ow
      · rename_i hlen
        split at ow
        · rename_i ks acc hacc
          obtain ⟨us, t, l, q⟩ := rw'.cell _ _ p hacc wp
          have rf := Rel.freeze rw' wp (Nat.le_refl _)
          have hm : Dw.m = D1.m ++ [p] := prefix_eq xw.m (by rw [rw'.len, hlen]; show h1.length + 1 = (D1.m ++ [p]).length; simp [r1.len])
          refine ow { Dw with F := fun b => Dw.F b ∨ b = p, m := Dw.m.take h1.length } (.ref p) ⟨fun b f => ⟨.inl ((xc.trans xw).fz b f).1, ((xc.trans xw).fz b f).2⟩, ?_, (xc.trans xw).c⟩ rf ⟨p, us, rfl, ⟨.inr rfl, t⟩, l, RepL.pure (D := Dw) (D' := { Dw with F := fun b => Dw.F b ∨ b = p, m := Dw.m.take h1.length }) (fun b f => ⟨Or.inl f, rfl⟩) _ _ (rw'.pure _ (List.mem_of_getElem? hacc)) q⟩
          show D1.m <+: Dw.m.take h1.length
          rw [hm, ← r1.len, List.take_left']
          · exact List.prefix_refl _
          · rfl
        · exact ow.elim
      · exact ow.elim
  · rename_i v hsrc
    rw [hsrc] at it
    obtain ⟨go, yl⟩ := it
    cases n with
    | zero => exact ow.elim
    | succ n =>
      simp only at ow
      refine .inr ⟨go, fun H => ∃ (Dw : Wd) (hw : AH), Dw.H = H ∧ Rel Γ.K Dw hw ∧ Ext (D1.cel p (.dK [])) Dw ∧ OutOk Γ D1 ((dcL src tg tt tk tv G h1.length (wipeE env own) n (i + 1) hw).bind fun _ h2 => dcFin cell h1.length h2) (fun D _ => Rep Γ.K D) Q (fun c d H' => W c d σ H'), fun H' w => ⟨n, Nat.lt_succ_self n, w⟩, fun x H' y => ?_⟩
      obtain ⟨D3, e3, x3, r3, q3⟩ := yl x H' y
      subst e3
      cases hset : setTg tg v (wipeE env own) with
      | none => rw [hset] at ow; exact ow.elim
      | some env1 =>
        rw [hset] at ow
        simp only at ow
        have enw : EnvR Γ.K D3 (wipeE env own) (wipe σ own) := ((en1.wipe own).ext ((xc.trans xw).trans x3))
        refine gTg_of q3 enw hset fun σ' en' sb => ⟨SetBy.wipe sb hown, D3, hw, env1, ⟨rfl, r3, en', a.ok.ext (x1.trans ((xc.trans xw).trans x3))⟩, ?_⟩
        cases et : tt G env1 hw with
        | ok b h2 =>
          rw [et] at ow
          intro D4 u x4 r4 eb
          subst eb
          cases b with
          | true =>
            rw [if_pos rfl]
            have ok4 := a.ok.ext ((x1.trans ((xc.trans xw).trans x3)).trans x4)
            refine ⟨D4, h2, env1, ⟨rfl, r4, en'.ext x4, ok4⟩, ?_⟩
            simp only at ow
            cases ee : tk G env1 h2 with
            | ok y1 h3 =>
              rw [ee] at ow
              simp only at ow
              intro D5 w5 x5 r5 ry
              refine ⟨D5, h3, env1, ⟨rfl, r5, (en'.ext x4).ext x5, ok4.ext x5⟩, ?_⟩
              cases ev : tv G env1 h3 with
              | ok z h4 =>
                rw [ev] at ow
                intro D6 w6 x6 r6 rz
                simp only at ow
                split at ow
                · rename_i ks acc hacc
                  split at ow
                  · rename_i k hk
                    split at ow
                    · rename_i hz
                      have wp6 : D6.m[h1.length]? = some p := ((((xw.trans x3).trans x4).trans x5).trans x6).get atp
                      obtain ⟨us, t, l, q⟩ := r6.cell _ _ p hacc wp6
                      have ek := keyA_of (Rep.ext x6 _ _ ry) hk
                      obtain ⟨z1, z2⟩ := dPut_zip (k := k) (u := w6) l
                      have hx := Ext.wr r6 wp6 (.dK ((keysP ks k).zip (dPut ks us k w6)))
                      have hzl : (ks.zip us).length < sizeLine := by
                        rw [List.length_zip, l, Nat.min_self, ← hz.2.2, sizeLine_eq]
                        have := hz.2.1
                        omega
                      refine ⟨ks.zip us, k, ek, t, hzl, D6.wr p (.dK ((keysP ks k).zip (dPut ks us k w6))), _, ?_, Rel.wr (c := .dct (keysP ks k) (dPut ks acc k z)) r6 wp6 ⟨_, upd_same, z2, RepL.ext hx _ _ (dPut_rep rz q)⟩ (dPut_pure hz.1 (r6.pure _ (List.mem_of_getElem? hacc))), (((((xw.trans x3).trans x4).trans x5).trans x6).trans hx), ow⟩
                      rw [z1]
                      rfl
                    · exact ow.elim
                  · exact ow.elim
                · exact ow.elim
              | exc e h4 => rw [ev] at ow; exact ow.elim
              | bad => rw [ev] at ow; exact ow.elim
            | exc e h3 => rw [ee] at ow; exact ow.elim
            | bad => rw [ee] at ow; exact ow.elim
          | false =>
            rw [if_neg Bool.false_ne_true]
            exact ⟨D4, h2, rfl, r4, (xw.trans x3).trans x4, ow⟩
        | exc e h2 => rw [et] at ow; exact ow.elim
        | bad => rw [et] at ow; exact ow.elim
theorem dc_mono {wi : TI} {g g' : TG} {tt : TT} {tk tv : TE} {vs : List Nat} {σ : L2.St} {H : Hp} {Q : VK} (h : tDc wi g tt tk tv vs σ H Q) (hg : g = g') : tDc wi g' tt tk tv vs σ H Q := by rw [← hg]; exact h
theorem se_dc {cell : Bool} {kx vx tg e : Expr} {ifs : List Expr} {scope : Scope} {own : List (Str × Nat)} {s : EvI} {t : Tg} {tt : EvT} {tk tv : EvE} {pos : Pos} (hs : SI S L tg e s) (hb : blkC L.N L.sc scope own = true) (hg : SG (blkL L scope) tg t) (ht : STs S (blkL L scope) ifs tt) (hk : SE S (blkL L scope) kx tk) (he : SE S (blkL L scope) vx tv)
    (hn : notSet e = true) (hh : L.hot = false) (hown : ∀ i ∈ t.slots, i ∈ own.map (·.2)) : SE S L (.DictComp kx vx [⟨tg, e, ifs, 0⟩] scope pos) (evDc cell s t tt tk tv (own.map (·.2))) := by
  intro Γ G k X W so c
  refine PE.weak (pe_dc (own := own) (g := gTg X.K t) (c.calm hh) (by rw [c.hN]; exact c.nd) (hs Γ G k X W so c) (by rw [c.hN, c.sc]; exact blkOk_by hb) (fun s' H' C cl fp => hg Γ k _ _ (ctx_blk c scope s' H' C cl fp)) (fun s' H' C cl fp => ht Γ G k _ _ so (ctx_blk c scope s' H' C cl fp)) (fun s' H' C cl fp => hk Γ G k _ _ so (ctx_blk c scope s' H' C cl fp)) (fun s' H' C cl fp => he Γ G k _ _ so (ctx_blk c scope s' H' C cl fp)) (folded_of hn)) fun σ H Q o => ?_
  exact dc_mono (dc_of hown σ H Q o) (by rw [← c.K])
theorem sw_dict {kx vx : Expr} {gs : List Comprehension} {scope : Scope} {pos py : Pos} {y : Str} {l : Nat} {env : Env} (hk : env.scope.kind = .function) (hy : env.scope.names.lookup y = some .local) (hl : (py.line == pos.line) = true)
    (ha : (scope.names.any fun (n, k) => n == y && (k == .local || k == .cell)) = false) : swapsWith (.DictComp kx vx gs scope pos) (some (.Name y py)) l env = pure true := by
  have k1 : env.kindOf y = some .local := hy
  have k2 : env.blockKind = .function := by unfold Env.blockKind; rw [hk]; rfl
  unfold swapsWith
  simp only [k2, k1, ha, Expr.pos, hl]
  rfl
theorem ps_setDc {X : Cx} {i : Nat} {y : Str} {py : Pos} {kx vx tg iter : Expr} {ifs : List Expr} {scope : Scope} {own : List (Str × Nat)} {pos spos : Pos} {wi : TI} {g : TG} {tt : TT} {tk tv : TE} (hc : X.calm = true) (hN : X.N.Nodup) (hy : X.N[i]? = some y) (hyl : X.env.scope.names.lookup y = some .local)
    (hsw : swapsWith (.DictComp kx vx [⟨tg, iter, ifs, 0⟩] scope pos) (some (.Name y py)) spos.line X.env = pure true) (hi : PI X tg iter wi) (ok : BlkOk X.N X.env.scope scope own)
    (hg : ∀ (s : Shared) (H : Hp) (C : Addr) (cl : List (Str × Addr)) (fp : List Addr), PG (X.blk s H scope (compEnvC scope cl C X.env) fp) tg g) (ht : ∀ (s : Shared) (H : Hp) (C : Addr) (cl : List (Str × Addr)) (fp : List Addr), PTs (X.blk s H scope (compEnvC scope cl C X.env) fp) ifs tt)
    (hk : ∀ (s : Shared) (H : Hp) (C : Addr) (cl : List (Str × Addr)) (fp : List Addr), PE (X.blk s H scope (compEnvC scope cl C X.env) fp) kx tk) (he : ∀ (s : Shared) (H : Hp) (C : Addr) (cl : List (Str × Addr)) (fp : List Addr), PE (X.blk s H scope (compEnvC scope cl C X.env) fp) vx tv)
    (hs : ∀ x, foldedSetIterable iter X.env x = pure x) : PS X (.Assign [.Name y py] (.DictComp kx vx [⟨tg, iter, ifs, 0⟩] scope pos) spos) (tAsg (tDc wi g tt tk tv (own.map (·.2))) (gName i)) := by
  constructor
  intro pins s σ H D I h
  rw [exec_Assign_Name_used _ _ _ _ hsw]
  refine wpAny_bind (wpAny_standAt (wpAny_bind ?_))
  have h : tDc wi g tt tk tv (own.map (·.2)) σ H (fun x H1 => gName i x σ H1 D.nx) := h
  have core := dc_core (Qf := fun _ s' => SP X pins D .next s') (use := some (assign (.Name y py) X.env)) (pos := pos) (pos' := firstIterPos [⟨tg, iter, ifs, 0⟩] pos) hc hN I hi ok hg ht hk he hs h fun L C s' m H' I' q hn f => by
    show wpAny _ _ (assign (.Name y py) X.env (.ref L)) _ _ _
    refine wpAny_assign_Name (store_ok2 (v := V.ref L) I' hN hy (.inl hyl) rfl (fun s2 I2 ⟨a, sb, ha⟩ => ?_) (.inr hyl))
    obtain ⟨f0, f1, f2, f3, f4, f5⟩ := f
    have other : C ≠ a := ha.elim (fun z => z ▸ f1) fun z e => f4 y a z e.symm
    exact ⟨m, hn.sameBut sb other, fun h3 sb3 => ⟨_, H', I2.turned (t' := s2.toks) (fun b o hb e => (sb3.2 b hb).trans e) f0 f1 f3 f4 f5, q⟩⟩
  refine wpAny_bind (thn core fun _ s' hq => wpAny_pure (wpAny_pure hq))
theorem ss_setDc {cell : Bool} {x : Str} {i : Nat} {kx vx tg e : Expr} {ifs : List Expr} {scope : Scope} {own : List (Str × Nat)} {s : EvI} {t : Tg} {tt : EvT} {tk tv : EvE} {py pos spos : Pos} (hs : SI S L tg e s) (hb : blkC L.N L.sc scope own = true) (hg : SG (blkL L scope) tg t) (ht : STs S (blkL L scope) ifs tt) (hk : SE S (blkL L scope) kx tk) (he : SE S (blkL L scope) vx tv)
    (hn : notSet e = true) (hh : L.hot = false) (hown : ∀ i ∈ t.slots, i ∈ own.map (·.2)) (hN : L.N[i]? = some x) (hx : locOnly L x = true) (hkd : kindB L.sc = true) (hl : (py.line == pos.line) = true) (ha : (scope.names.any fun (n, k) => n == x && (k == .local || k == .cell)) = false) :
    SS S L (.Assign [.Name x py] (.DictComp kx vx [⟨tg, e, ifs, 0⟩] scope pos) spos) (esSet (.nm i) (evDc cell s t tt tk tv (own.map (·.2)))) := by
  intro Γ G k X W so c
  have c' := c.toCtxP
  have hx' : X.env.scope.names.lookup x = some .local := by rw [c.sc]; exact of_decide_eq_true hx
  refine PS.weak (ps_setDc (i := i) (own := own) (g := gTg X.K t) (c.calm hh) (by rw [c.hN]; exact c.nd) (by rw [c.hN]; exact hN) hx' (sw_dict (by rw [c.sc]; exact of_decide_eq_true hkd) hx' hl ha) (hs Γ G k X W so c') (by rw [c.hN, c.sc]; exact blkOk_by hb) (fun s' H' C cl fp => hg Γ k _ _ (ctx_blk c' scope s' H' C cl fp)) (fun s' H' C cl fp => ht Γ G k _ _ so (ctx_blk c' scope s' H' C cl fp)) (fun s' H' C cl fp => hk Γ G k _ _ so (ctx_blk c' scope s' H' C cl fp)) (fun s' H' C cl fp => he Γ G k _ _ so (ctx_blk c' scope s' H' C cl fp)) (folded_of hn)) fun E σ H o => ?_
  have q := asg_of E σ H o
  exact dc_mono (dc_of hown σ H _ q) (by rw [← c.K])
theorem sw_dictF {kx vx : Expr} {gs : List Comprehension} {scope : Scope} {pos py : Pos} {y : Str} {l : Nat} {env : Env} (h : env.scope.names.lookup y ≠ some .local) : swapsWith (.DictComp kx vx gs scope pos) (some (.Name y py)) l env = pure false := by
  have k1 : (env.kindOf y == some .local) = false := beq_eq_false_iff_ne.mpr h
  unfold swapsWith
  simp only [k1, Bool.and_false, Bool.false_and]
theorem ss_setDC {x : Str} {i : Nat} {kx vx : Expr} {gs : List Comprehension} {scope : Scope} {f : EvE} {p cp pos : Pos} (hN : L.N[i]? = some x) (hl : locB L x = true) (he : SE S L (.DictComp kx vx gs scope cp) f) (hx : L.sc.names.lookup x ≠ some .local) : SS S L (.Assign [.Name x p] (.DictComp kx vx gs scope cp) pos) (esSet (.nm i) f) := by
  intro Γ G k X W so c
  obtain ⟨h1, h2⟩ := loc_of c.toCtxP hl
  exact PS.weak (ps_set (i := i) (by rw [c.hN]; exact c.nd) (by rw [c.hN]; exact hN) h1 (he Γ G k X W so c.toCtxP) (sw_dictF (by rw [c.sc]; exact hx)) h2) fun E σ H o => asg_of E σ H o
end
end Pv
end
section
set_option Elab.async false
set_option linter.all false
set_option maxRecDepth 100000
set_option autoImplicit false
namespace Pv
open PySem PySem.Spec PyProof.Rows L2

/-! ### from the text to what it means -/
def ixOf : (N : List Str) → (x : Str) → Option { i : Nat // N[i]? = some x }
  | [], _ => none
  | y :: N, x => if h : y = x then some ⟨0, by rw [h]; rfl⟩ else match ixOf N x with
    | some ⟨i, hi⟩ => some ⟨i + 1, hi⟩
    | none => none
structure BltR (hot : Bool) (x : Str) where
  id : String
  p0 : List AV → AH → Out AV
  r : PySem.W.Frag → List V → Hp → VK → Prop
  hc : ∀ X : Cx, X.A.units + 200 < cLine → X.A.guards = some [] → (hot = false → X.calm = true) → CallR X (.builtin id) (r X.K)
  hs : OpN p0 r
  hv : bootBuiltins x = some (.builtin id)
structure TyR (hot : Bool) (x : Str) where
  T : String
  p0 : List AV → AH → Out AV
  r : PySem.W.Frag → List V → Hp → VK → Prop
  hc : ∀ X : Cx, X.A.units + 200 < cLine → X.A.guards = some [] → (hot = false → X.calm = true) → CallR X (.type T) (r X.K)
  hs : OpN p0 r
  hv : bootBuiltins x = some (.type T)
def sLen : Str := "len"
def sAbs : Str := "abs"
def sMax : Str := "max"
def sMin : Str := "min"
def sRepr : Str := "repr"
def sAll : Str := "all"
def sAny : Str := "any"
def sSum : Str := "sum"
def sInt : Str := "int"
def sBool : Str := "bool"
def sTuple : Str := "tuple"
def sList : Str := "list"
def sStr : Str := "str"
def sDict : Str := "dict"
def sIsi : Str := "isinstance"
theorem boot_len : bootBuiltins sLen = some (.builtin "len") := by decide +kernel
theorem boot_abs : bootBuiltins sAbs = some (.builtin "abs") := by decide +kernel
theorem boot_max : bootBuiltins sMax = some (.builtin "max") := by decide +kernel
theorem boot_min : bootBuiltins sMin = some (.builtin "min") := by decide +kernel
theorem boot_repr : bootBuiltins sRepr = some (.builtin "repr") := by decide +kernel
theorem boot_all : bootBuiltins sAll = some (.builtin "all") := by decide +kernel
theorem boot_any : bootBuiltins sAny = some (.builtin "any") := by decide +kernel
theorem boot_sum : bootBuiltins sSum = some (.builtin "sum") := by decide +kernel
theorem boot_int : bootBuiltins sInt = some (.type "int") := by decide +kernel
theorem boot_bool : bootBuiltins sBool = some (.type "bool") := by decide +kernel
theorem boot_tuple : bootBuiltins sTuple = some (.type "tuple") := by decide +kernel
theorem boot_list : bootBuiltins sList = some (.type "list") := by decide +kernel
theorem boot_str : bootBuiltins sStr = some (.type "str") := by decide +kernel
theorem boot_dict : bootBuiltins sDict = some (.type "dict") := by decide +kernel
theorem boot_isi : bootBuiltins sIsi = some (.builtin "isinstance") := by decide +kernel
def sSorted : Str := "sorted"
theorem boot_sorted : bootBuiltins sSorted = some (.builtin "sorted") := by decide +kernel
def bltOf (hot : Bool) (x : Str) : Option (BltR hot x) :=
  if h : x = sLen then some ⟨"len", opLen, rLenA, fun X _ _ _ => call_lenA, on_len, by rw [h]; exact boot_len⟩
  else if h : x = sAbs then some ⟨"abs", opAbs, fun _ => _, fun X _ _ _ => call_abs, on_abs, by rw [h]; exact boot_abs⟩
  else if h : x = sMax ∧ hot = false then some ⟨"max", opMax, fun _ => _, fun X _ _ c => call_max2 (c h.2), on_max, by rw [h.1]; exact boot_max⟩
  else if h : x = sMin ∧ hot = false then some ⟨"min", opMin, fun _ => _, fun X _ _ c => call_min2 (c h.2), on_min, by rw [h.1]; exact boot_min⟩
  else if h : x = sRepr then some ⟨"repr", reprOp, rRepr, fun X u g _ => call_reprA u g, on_repr, by rw [h]; exact boot_repr⟩
  else if h : x = sAll ∧ hot = false then some ⟨"all", opBls fun bs => bs.all id, rAll, fun X _ _ c => cr_all (c h.2), on_bls _, by rw [h.1]; exact boot_all⟩
  else if h : x = sAny ∧ hot = false then some ⟨"any", opBls fun bs => bs.any id, rAny, fun X _ _ c => cr_any (c h.2), on_bls _, by rw [h.1]; exact boot_any⟩
  else if h : x = sSum ∧ hot = false then some ⟨"sum", opSum, rSum, fun X _ _ c => cr_sum (c h.2), on_sum, by rw [h.1]; exact boot_sum⟩
  else if h : x = sSorted then some ⟨"sorted", sortOp, _, fun X _ _ _ => CallR.or cr_sortedI Sx.cr_sortTI, on_sort, by rw [h]; exact boot_sorted⟩
  else none
def tyOfN (hot : Bool) (x : Str) : Option (TyR hot x) :=
  if h : x = sInt then some ⟨"int", opInt, fun _ => _, fun X _ _ _ => call_int1, on_int, by rw [h]; exact boot_int⟩
  else if h : x = sBool then some ⟨"bool", opBool, fun _ => _, fun X _ _ _ => call_bool1, on_bool, by rw [h]; exact boot_bool⟩
  else if h : x = sTuple then some ⟨"tuple", opTuple, _, fun X _ _ _ => call_tuple_of, on_tuple, by rw [h]; exact boot_tuple⟩
  else if h : x = sList then some ⟨"list", opList, _, fun X _ _ _ => call_list_of, on_list, by rw [h]; exact boot_list⟩
  else none
def clsOf (x : Str) : Option { T : Ty // T ≠ .non ∧ bootBuiltins x = some (.type T.nm) } :=
  if h : x = sInt then some ⟨.int, by decide, by rw [h]; exact boot_int⟩
  else if h : x = sBool then some ⟨.bl, by decide, by rw [h]; exact boot_bool⟩
  else if h : x = sTuple then some ⟨.tup, by decide, by rw [h]; exact boot_tuple⟩
  else if h : x = sList then some ⟨.lst, by decide, by rw [h]; exact boot_list⟩
  else if h : x = sStr then some ⟨.str, by decide, by rw [h]; exact boot_str⟩
  else if h : x = sDict then some ⟨.dct, by decide, by rw [h]; exact boot_dict⟩
  else none
/-- a name of a dict -/
def dkB (l : List Str) : Expr → Bool
  | .Name x _ => l.any fun y => decide (y = x)
  | _ => false
/-- the place of an own class -/
structure ClI (xs : List ClsS) (x : Str) where
  i : Nat
  e : ClsS
  hi : xs[i]? = some e
  hx : e.name = x
def clIx : (xs : List ClsS) → (x : Str) → Option (ClI xs x)
  | [], _ => none
  | e :: xs, x => if h : e.name = x then some ⟨0, e, rfl, h⟩ else match clIx xs x with
    | some ⟨i, e', hi, hx⟩ => some ⟨i + 1, e', by simpa using hi, hx⟩
    | none => none
section
variable (S : Stat)
abbrev CE (L : Lc) (e : Expr) := Option { f : EvE // SE S L e f }
abbrev CT (L : Lc) (e : Expr) := Option { f : EvT // ST S L e f }
abbrev CA (L : Lc) (es : List Expr) := Option { f : EvA // SA S L es f }
variable {S}
def compA {L : Lc} (rec : (e : Expr) → CE S L e) : (es : List Expr) → CA S L es
  | [] => some ⟨evNil, sa_nil⟩
  | .Starred a p :: es => match rec a, compA rec es with
    | some ⟨f, hf⟩, some ⟨g, hg⟩ => some ⟨evStar f g, sa_star hf hg⟩
    | _, _ => none
  | e :: es => match rec e, compA rec es with
    | some ⟨f, hf⟩, some ⟨g, hg⟩ => if h : notStar e = true then some ⟨evCons f g, sa_cons hf hg h⟩ else none
    | _, _ => none
def compJ {L : Lc} (rec : (e : Expr) → CE S L e) : (es : List Expr) → Option { fs : List EvE // SJ S L es fs }
  | [] => some ⟨[], sj_nil⟩
  | e :: es => match rec e, compJ rec es with
    | some ⟨f, hf⟩, some ⟨fs, hs⟩ => some ⟨f :: fs, sj_cons hf hs⟩
    | _, _ => none
theorem noSl_of {e : Expr} (h : notSlice e = true) : NoSl e := by
  intro ov iv
  cases e <;> first | rfl | cases h
def compBool {L : Lc} (rec : (e : Expr) → CE S L e) (op : BoolOp) (pos : Pos) : (es : List Expr) → CE S L (.BoolOp op es pos)
  | [] => none
  | [a] => match rec a with
    | some ⟨f, hf⟩ => some ⟨f, se_one hf⟩
    | none => none
  | a :: b :: es => match rec a, compBool rec op pos (b :: es) with
    | some ⟨f, hf⟩, some ⟨g, hg⟩ => match op, hg with
      | .And, hg => some ⟨evAnd f g, se_and hf hg⟩
      | .Or, hg => some ⟨evOr f g, se_or hf hg⟩
    | _, _ => none
def compBoolT {L : Lc} (rec : (e : Expr) → CT S L e) (op : BoolOp) (pos : Pos) : (es : List Expr) → Option { f : EvT // SW S L (.BoolOp op es pos) f }
  | [] => none
  | [a] => match rec a with
    | some ⟨f, hf⟩ => some ⟨f, sw_one hf⟩
    | none => none
  | a :: b :: es => match rec a, compBoolT rec op pos (b :: es) with
    | some ⟨f, hf⟩, some ⟨g, hg⟩ => match op, hg with
      | .And, hg => some ⟨etAnd f g, sw_and hf hg⟩
      | .Or, hg => some ⟨etOr f g, sw_or hf hg⟩
    | _, _ => none
def compT {L : Lc} (rec : (e : Expr) → CE S L e) : Nat → (e : Expr) → CT S L e
  | 0, _ => none
  | n + 1, e => match e with
    | .UnaryOp .Not a pos => match compT rec n a with
      | some ⟨f, hf⟩ => some ⟨etNot f, st_not hf⟩
      | none => none
    | .BoolOp op es pos => match compBoolT (compT rec n) op pos es with
      | some ⟨f, hf⟩ => some ⟨f, hf.st⟩
      | none => none
    | .Compare a [op] [b] pos => match rec a, rec b with
      | some ⟨f, hf⟩, some ⟨g, hg⟩ => if h : notSet b = true then some ⟨_, st_cmp (cmpOf op).2 hf hg h⟩ else none
      | _, _ => none
    | .Compare a [o1, o2] [b, d] pos => match rec a, rec b, rec d with
      | some ⟨f, hf⟩, some ⟨g, hg⟩, some ⟨l, hl⟩ => if h : notSet d = true then some ⟨_, st_chain (cmpOf o1).2 (cmpOf o2).2 hf hg hl h⟩ else none
      | _, _, _ => none
    | e => match rec e with
      | some ⟨f, hf⟩ => if h : plainTest e = true then some ⟨etOf f, st_val hf h⟩ else none
      | none => none
def compO {L : Lc} (rec : (e : Expr) → CE S L e) : (e : Option Expr) → Option { f : GT → Env1 → AH → Out (Option Int) // SO S L e f }
  | none => some ⟨eoNone, so_none⟩
  | some e => match rec e with
    | some ⟨f, hf⟩ => some ⟨eoSome f, so_some hf⟩
    | none => none
def compG1 (L : Lc) : (e : Expr) → Option { i : Nat // SG L e (.nm i) }
  | .Name x pos => match ixOf L.N x with
    | some ⟨i, hi⟩ => if h : locB L x = true then some ⟨i, sg_nm hi h⟩ else none
    | none => none
  | _ => none
def compGs (L : Lc) : (es : List Expr) → Option { is : List Nat // SGs L es is ∧ es.all isName = true ∧ es.length = is.length }
  | [] => some ⟨[], sgs_nil, rfl, rfl⟩
  | e :: es => match compG1 L e, compGs L es with
    | some ⟨i, hi⟩, some ⟨is, h1, h2, h3⟩ => if h : isName e = true then some ⟨i :: is, sgs_cons hi h1 h, by rw [List.all_cons, h, h2]; rfl, by rw [List.length_cons, List.length_cons, h3]⟩ else none
    | _, _ => none
def compG (L : Lc) : (e : Expr) → Option { t : Tg // SG L e t }
  | .Tuple es j pos => match compGs L es with
    | some ⟨is, h1, h2, h3⟩ => if h : L.hot = false then some ⟨.tp is, sg_tp h1 h2 h3 h⟩ else none
    | none => none
  | e => match compG1 L e with
    | some ⟨i, hi⟩ => some ⟨.nm i, hi⟩
    | none => none
def memB (x : Str) (l : List Str) : Bool := l.any fun y => decide (y = x)
theorem mem_of {x : Str} {l : List Str} (h : memB x l = true) : x ∈ l := by
  obtain ⟨y, h1, h2⟩ := List.any_eq_true.mp h
  rw [← of_decide_eq_true h2]
  exact h1
/-- what is walked -/
def compI {L : Lc} (rec : (e : Expr) → CE S L e) (tg : Expr) : (e : Expr) → Option { f : EvI // SI S L tg e f }
  | .Call (.Name x p) [a] [] pos =>
    if hr : x = sRange then match rec a with
      | some ⟨f, hf⟩ => if h : memB x S.free = true ∧ glB L.sc x = true ∧ notStar a = true then some ⟨_, si_rng1 hr (mem_of h.1) h.2.1 (sa_cons hf sa_nil h.2.2) h.2.2⟩ else none
      | none => none
    else if hr : x = sRev then match rec a with
      | some ⟨f, hf⟩ => if h : memB x S.free = true ∧ glB L.sc x = true ∧ notStar a = true then some ⟨_, si_rev hr (mem_of h.1) h.2.1 hf h.2.2⟩ else none
      | none => none
    else if hr : x = sEnum then match tg with
      | .Tuple elts kk tpos => match rec a with
        | some ⟨f, hf⟩ => if h : memB x S.free = true ∧ glB L.sc x = true ∧ notStar a = true then some ⟨_, si_enum hr (mem_of h.1) h.2.1 (sa_cons hf sa_nil h.2.2) h.2.2⟩ else none
        | none => none
      | _ => none
    else match rec (.Call (.Name x p) [a] [] pos) with
      | some ⟨f, hf⟩ => some ⟨eiSeq f, si_seq hf⟩
      | none => none
  | .Call (.Name x p) [a] [⟨some y, .Constant (.int i) j cp, kp⟩] pos =>
    if hr : x = sEnum ∧ y = sStart then match tg with
      | .Tuple elts kk tpos => match rec a with
        | some ⟨f, hf⟩ => if h : memB x S.free = true ∧ glB L.sc x = true ∧ notStar a = true ∧ (0 ≤ i ∧ i < 1000) then
            some ⟨_, si_enumS (k0 := i.toNat) hr.1 hr.2 (mem_of h.1) h.2.1 (sa_cons hf sa_nil h.2.2.1) (fun X => by rw [Int.toNat_of_nonneg h.2.2.2.1]; exact pe_int) (by omega) h.2.2.1⟩ else none
        | none => none
      | _ => none
    else none
  | .Call (.Name x p) [a, b] [] pos =>
    if hr : x = sRange then match rec a, rec b with
      | some ⟨f, hf⟩, some ⟨g, hg⟩ => if h : memB x S.free = true ∧ glB L.sc x = true ∧ notStar a = true ∧ notStar b = true then some ⟨_, si_rng2 hr (mem_of h.1) h.2.1 (sa_cons hf (sa_cons hg sa_nil h.2.2.2) h.2.2.1) h.2.2.1 h.2.2.2⟩ else none
      | _, _ => none
    else if hr : x = sZip then match tg with
      | .Tuple elts kk tpos => match rec a, rec b with
        | some ⟨f, hf⟩, some ⟨g, hg⟩ => if h : memB x S.free = true ∧ glB L.sc x = true ∧ notStar a = true ∧ notStar b = true then some ⟨_, si_zip hr (mem_of h.1) h.2.1 (sa_cons hf (sa_cons hg sa_nil h.2.2.2) h.2.2.1) h.2.2.1 h.2.2.2⟩ else none
        | _, _ => none
      | _ => none
    else match rec (.Call (.Name x p) [a, b] [] pos) with
      | some ⟨f, hf⟩ => some ⟨eiSeq f, si_seq hf⟩
      | none => none
  | e => match rec e with
    | some ⟨f, hf⟩ => some ⟨eiSeq f, si_seq hf⟩
    | none => none
def compTs {L : Lc} (rec : (e : Expr) → CE S L e) : (es : List Expr) → Option { f : EvT // STs S L es f }
  | [] => some ⟨etYes, sts_nil⟩
  | [e] => match compT rec 40 e with
    | some ⟨f, hf⟩ => some ⟨f, sts_one hf⟩
    | none => none
  | _ => none
/-- the block's own names, with their places -/
def ownOf (N : List Str) (scope : Scope) : List (Str × Nat) := scope.names.filterMap fun (x, k) => if k == .local || k == .cell then (ixOf N x).map fun i => (x, i.1) else none
structure LcR (S : Stat) (L : Lc) (elt tg e : Expr) (ifs : List Expr) (scope : Scope) where
  s : EvI
  t : Tg
  tt : EvT
  te : EvE
  hs : SI S L tg e s
  hb : blkC L.N L.sc scope (ownOf L.N scope) = true
  hg : SG (blkL L scope) tg t
  ht : STs S (blkL L scope) ifs tt
  he : SE S (blkL L scope) elt te
  hn : notSet e = true
  hh : L.hot = false
  ho : ∀ i ∈ t.slots, i ∈ (ownOf L.N scope).map (·.2)
def compLc {L : Lc} (rec : (L : Lc) → (e : Expr) → CE S L e) (elt tg e : Expr) (ifs : List Expr) (scope : Scope) : Option (LcR S L elt tg e ifs scope) :=
  match compI (rec L) tg e, compG (blkL L scope) tg, compTs (rec (blkL L scope)) ifs, rec (blkL L scope) elt with
  | some ⟨s, hs⟩, some ⟨t, hg⟩, some ⟨tt, ht⟩, some ⟨te, he⟩ =>
    if hb : blkC L.N L.sc scope (ownOf L.N scope) = true then if hn : notSet e = true then if hh : L.hot = false then if ho : ∀ i ∈ t.slots, i ∈ (ownOf L.N scope).map (·.2) then some ⟨s, t, tt, te, hs, hb, hg, ht, he, hn, hh, ho⟩ else none else none else none else none
  | _, _, _, _ => none
def compCall {L : Lc} (rec : (e : Expr) → CE S L e) (x : Str) (p : Pos) (e : Expr) (es : List Expr) (pos : Pos) : CE S L (.Call (.Name x p) (e :: es) [] pos) :=
  match compA rec (e :: es) with
  | none => none
  | some ⟨f, hf⟩ => if h : glB L.sc x = true ∧ okName x = true ∧ (e :: es).all notStar = true then
      match hx : S.fns.lookup x with
      | some (i, n) => if hh : L.hot = false then some ⟨_, se_call hx h.1 h.2.1 hf h.2.2 hh⟩ else none
      | none => match clIx S.cl x with
       | some ⟨c, e0, hc, hnm⟩ => if hh : L.hot = false then some ⟨evMk e0.frz c e0.attrs.length e0.init.1 e0.init.2 f, se_mk hc hnm h.1 h.2.1 hf h.2.2 hh⟩ else none
       | none => if hm : memB x S.free = true then
          match bltOf L.hot x with
          | some r => some ⟨_, se_blt r.hc r.hs (mem_of hm) r.hv h.1 h.2.1 hf h.2.2⟩
          | none => match tyOfN L.hot x with
            | some r => some ⟨_, se_ty r.hc r.hs (mem_of hm) r.hv h.1 h.2.1 hf h.2.2⟩
            | none => none
        else if hm : memB x S.gcds = true then match e, es, hf, h with
          | a, [b], hf, h => some ⟨_, se_gcd on_gcd (mem_of hm) h.1 h.2.1 hf h.2.2⟩
          | _, _, _, _ => none
        else none
    else match ixOf L.N x with
      | some ⟨j, hj⟩ => if h2 : visB L.sc x = true ∧ okName x = true ∧ fnsU S.fns = true ∧ (e :: es).all notStar = true ∧ L.hot = false then some ⟨evCallV S.fns j f, se_callV hj h2.1 h2.2.1 h2.2.2.1 hf h2.2.2.2.1 h2.2.2.2.2⟩ else none
      | none => none
/-- a def's name as a value -/
def compFn (S : Stat) (L : Lc) (x : Str) (pos : Pos) : CE S L (.Name x pos) := match hx : S.fns.lookup x with
  | some (i, n) => if h : fnNm S.fns i = some x ∧ glB L.sc x = true ∧ okName x = true then some ⟨evFn i, se_fnv hx h.1 h.2.1 h.2.2⟩ else none
  | none => none
def binOf (op : Operator) : Option { oo : Op2 // ∃ r : PySem.W.Frag → R2, (∀ X : Cx, OpR X (binaryOp op) (r X.K)) ∧ OpS oo r } := match op with
  | .Add => some ⟨addOp, rAddA, fun X => op_addA, so_add⟩
  | .Sub => some ⟨subOp, rSubA, fun X => op_sub, so_sub⟩
  | .Mult => some ⟨mulOp, rMulA, fun X => op_mulB, so_mul⟩
  | .Mod => some ⟨modOp, rModA, fun X => op_mod, so_mod⟩
  | .FloorDiv => some ⟨fdivOp, rFdivA, fun X => op_fdivW, so_fdiv⟩
  | .Pow => some ⟨powOp, rPowA, fun X => op_powA, so_pow⟩
  | .BitAnd => some ⟨andOp, fun _ => _, fun X => op_and, so_and⟩
  | .BitOr => some ⟨orOp, fun _ => _, fun X => op_or, so_or⟩
  | .RShift => some ⟨shrOp, fun _ => _, fun X => op_shr, so_shr⟩
  | .LShift => some ⟨shlOp, fun _ => _, fun X => op_shlW, so_shl⟩
  | _ => none
theorem se_bin' {L : Lc} {op : Operator} {oo : Op2} {a b : Expr} {f g : EvE} {pos : Pos} (ho : ∃ r : PySem.W.Frag → R2, (∀ X : Cx, OpR X (binaryOp op) (r X.K)) ∧ OpS oo r) (ha : SE S L a f) (hb : SE S L b g) : SE S L (.BinOp a op b pos) (evOp oo f g) := by
  obtain ⟨r, h1, h2⟩ := ho
  exact se_bin (fun X _ => h1 X) h2 ha hb
abbrev HoT (S : Stat) := (x : Str) → Option (HoOk S x)
def compE (S : Stat) (Hs : HoT S) : Nat → (L : Lc) → (e : Expr) → CE S L e
  | 0, _, _ => none
  | n + 1, L, e => match e with
    | .Name x pos => match ixOf L.N x with
      | some ⟨i, hi⟩ => if h : visB L.sc x = true ∧ okName x = true then some ⟨evVar i, se_var hi h.1 h.2⟩ else match hx : S.consts.lookup x with
        | some v => if h : glB L.sc x = true ∧ okName x = true then some ⟨evC v, se_glob hx h.1 h.2⟩ else none
        | none => none
      | none => match hx : S.consts.lookup x with
        | some v => if h : glB L.sc x = true ∧ okName x = true then some ⟨evC v, se_glob hx h.1 h.2⟩ else none
        | none => compFn S L x pos
    | .Constant (.int i) j pos => some ⟨evC (.int i), se_c (fun _ => pe_int) fun _ _ => rfl⟩
    | .Constant (.bool b) j pos => some ⟨evC (.bl b), se_c (fun _ => pe_bl) fun _ _ => rfl⟩
    | .Constant (.str x) j pos => some ⟨evC (.str x), se_c (fun _ => pe_str) fun _ _ => rfl⟩
    | .Dict [] [] pos => some ⟨evDict0, se_dict0⟩
    | .Constant .none j pos => some ⟨evC .non, se_c (fun _ => pe_non) fun _ _ => rfl⟩
    | .BinOp a op b pos => match binOf op, compE S Hs n L a, compE S Hs n L b with
      | some ⟨oo, ho⟩, some ⟨f, hf⟩, some ⟨g, hg⟩ => some ⟨evOp oo f g, se_bin' ho hf hg⟩
      | _, _, _ => none
    | .UnaryOp .USub a pos => match compE S Hs n L a with
      | some ⟨f, hf⟩ => some ⟨evOf1 negOp f, se_neg hf⟩
      | none => none
    | .UnaryOp .Not a pos => match compE S Hs n L a with
      | some ⟨f, hf⟩ => some ⟨evOf1 notOp f, se_not hf⟩
      | none => none
    | .BoolOp op es pos => compBool (compE S Hs n L) op pos es
    | .IfExp t a b pos => match compT (compE S Hs n L) n t, compE S Hs n L a, compE S Hs n L b with
      | some ⟨t, ht⟩, some ⟨f, hf⟩, some ⟨g, hg⟩ => some ⟨evIf t f g, se_if ht hf hg⟩
      | _, _, _ => none
    | .Compare a [op] [b] pos => match compE S Hs n L a, compE S Hs n L b with
      | some ⟨f, hf⟩, some ⟨g, hg⟩ => if h : notSet b = true then some ⟨_, se_cmp (cmpOf op).2 hf hg h⟩ else none
      | _, _ => none
    | .Compare a [o1, o2] [b, d] pos => match compE S Hs n L a, compE S Hs n L b, compE S Hs n L d with
      | some ⟨f, hf⟩, some ⟨g, hg⟩, some ⟨l, hl⟩ => if h : notSet d = true then some ⟨_, se_chain (cmpOf o1).2 (cmpOf o2).2 hf hg hl h⟩ else none
      | _, _, _ => none
    | .Tuple es j pos => match compA (compE S Hs n L) es with
      | some ⟨f, hf⟩ => some ⟨evOf opTup f, se_tup hf⟩
      | none => none
    | .List es pos => match compA (compE S Hs n L) es with
      | some ⟨f, hf⟩ => some ⟨evOf opLst f, se_lst hf⟩
      | none => none
    | .Subscript a (.Slice lo hi none p2) pos => match compE S Hs n L a, compO (compE S Hs n L) lo, compO (compE S Hs n L) hi with
      | some ⟨f, hf⟩, some ⟨g, hg⟩, some ⟨l, hl⟩ => some ⟨evSl f g l, se_sl hf hg hl⟩
      | _, _, _ => none
    | .Subscript a b pos => match compE S Hs n L a, compE S Hs n L b with
      | some ⟨f, hf⟩, some ⟨g, hg⟩ => if h : notSlice b = true then (if dkB S.dk a = true then some ⟨evOp ixOp2 f g, se_ix2 hf hg h (noSl_of h)⟩ else some ⟨evOp ixOp f g, se_ix hf hg h⟩) else none
      | _, _ => none
    | .JoinedStr (v1 :: v2 :: rest) pos => match compJ (compE S Hs n L) (v1 :: v2 :: rest) with
      | some ⟨fs, hs⟩ => some ⟨evJs fs Str.empty, se_js hs⟩
      | none => none
    | .FormattedValue e conv spec pos => if h : conv = -1 ∧ spec = none then match compE S Hs n L e with
        | some ⟨f, hf⟩ => some ⟨evOf1 fmtOp f, by rw [h.1, h.2]; exact se_fmt hf⟩
        | none => none
      else none
    | .Dict [some (.Constant (.int i) k1 p1)] [.Constant (.int j) k2 p2] pos => some ⟨evDictC i j, se_dictC⟩
    | .DictComp kx vx [⟨tg, e, ifs, 0⟩] scope pos => match compI (compE S Hs n L) tg e, compG (blkL L scope) tg, compTs (compE S Hs n (blkL L scope)) ifs, compE S Hs n (blkL L scope) kx, compE S Hs n (blkL L scope) vx with
      | some ⟨s, hs⟩, some ⟨t, hg⟩, some ⟨tt, ht⟩, some ⟨tk, hk⟩, some ⟨tv, hv⟩ =>
        if h : blkC L.N L.sc scope (ownOf L.N scope) = true ∧ notSet e = true ∧ L.hot = false ∧ (∀ i ∈ t.slots, i ∈ (ownOf L.N scope).map (·.2)) then some ⟨evDc false s t tt tk tv _, se_dc hs h.1 hg ht hk hv h.2.1 h.2.2.1 h.2.2.2⟩ else none
      | _, _, _, _, _ => none
    | .ListComp elt [⟨tg, e, ifs, 0⟩] scope pos => match compLc (compE S Hs n) elt tg e ifs scope with
      | some r => some ⟨evLc false r.s r.t r.tt r.te _, se_lc r.hs r.hb r.hg r.ht r.he r.hn r.hh r.ho⟩
      | none => none
    | .ListComp elt [⟨tg, e, ifs, 0⟩, ⟨tg1, e1, ifs1, 0⟩] scope pos => match compI (compE S Hs n L) tg e, compG (blkL L scope) tg, compTs (compE S Hs n (blkL L scope)) ifs, compI (compE S Hs n (blkL L scope)) tg1 e1, compG (blkL L scope) tg1, compTs (compE S Hs n (blkL L scope)) ifs1, compE S Hs n (blkL L scope) elt with
      | some ⟨s, hs⟩, some ⟨t, hg⟩, some ⟨tt, ht⟩, some ⟨s1, hs1⟩, some ⟨t1, hg1⟩, some ⟨tt1, ht1⟩, some ⟨te, he⟩ =>
        if h : blkC L.N L.sc scope (ownOf L.N scope) = true ∧ notSet e = true ∧ notSet e1 = true ∧ L.hot = false ∧ (∀ i ∈ t.slots, i ∈ (ownOf L.N scope).map (·.2)) ∧ (∀ i ∈ t1.slots, i ∈ (ownOf L.N scope).map (·.2)) then
          some ⟨evLc2 false s t tt s1 t1 tt1 te _, se_lc2 hs h.1 hg ht hs1 hg1 ht1 he h.2.1 h.2.2.1 h.2.2.2.1 h.2.2.2.2.1 h.2.2.2.2.2⟩ else none
      | _, _, _, _, _, _, _ => none
    | .Attribute (.Name x p) a pos => match ixOf L.N x with
      | some ⟨i, hi⟩ => if h : visB L.sc x = true ∧ okName x = true ∧ L.exc = true then some ⟨evXat a i, se_xat hi h.1 h.2.1 h.2.2⟩ else match compE S Hs n L (.Name x p) with
        | some ⟨f, hf⟩ => if h : L.hot = false then some ⟨evAt (S.cl.map (slotOf a)) f, se_at hf rfl h⟩ else none
        | none => none
      | none => none
    | .Attribute e a pos => match compE S Hs n L e with
      | some ⟨f, hf⟩ => if h : L.hot = false ∧ baseOk e = true then some ⟨evAt (S.cl.map (slotOf a)) f, se_at hf h.2 h.1⟩ else none
      | none => none
    | .Call (.Name x p) [.Lambda ⟨[], [], none, [], [], none, []⟩ body scope lpos] [] pos => match Hs x, compE S Hs n (lamL L scope) body with
      | some o, some ⟨f, hf⟩ => if h : glB L.sc x = true ∧ okName x = true ∧ L.lam = true ∧ L.hot = false ∧ LamX.lamSB L.sc scope = true then some ⟨evLam o.m f, se_lam h.1 h.2.1 h.2.2.1 h.2.2.2.1 h.2.2.2.2 (fun _ => rfl) (fun _ _ _ _ _ => rfl) hf⟩ else none
      | _, _ => none
    | .Call (.Name x p) [a, .Name y p1] [] pos =>
      if hi : x = sIsi then match clIx S.cl y, compE S Hs n L a with
        | some ⟨c, e0, hc, hnm⟩, some ⟨f, hf⟩ => if h : memB x S.free = true ∧ glB L.sc x = true ∧ glB L.sc y = true ∧ okName x = true ∧ okName y = true ∧ notStar a = true then
            some ⟨evIsiC S.cl.length c f, se_isiC hc hnm (by rw [hi]; exact boot_isi) (mem_of h.1) h.2.1 h.2.2.1 h.2.2.2.1 h.2.2.2.2.1 hf h.2.2.2.2.2⟩ else none
        | none, some ⟨f, hf⟩ => match clsOf y with
         | some ⟨T, hT, hy⟩ => if h : memB x S.free = true ∧ memB y S.free = true ∧ glB L.sc x = true ∧ glB L.sc y = true ∧ okName x = true ∧ okName y = true ∧ notStar a = true then
            (if S.cl.isEmpty = true then some ⟨evOf1 (isiOp T) f, se_isi hT hy (by rw [hi]; exact boot_isi) (mem_of h.1) (mem_of h.2.1) h.2.2.1 h.2.2.2.1 h.2.2.2.2.1 h.2.2.2.2.2.1 hf h.2.2.2.2.2.2⟩
            else some ⟨evIsi2 S.cl.length T f, se_isi2 hT hy (by rw [hi]; exact boot_isi) (mem_of h.1) (mem_of h.2.1) h.2.2.1 h.2.2.2.1 h.2.2.2.2.1 h.2.2.2.2.2.1 hf h.2.2.2.2.2.2⟩) else none
         | none => none
        | _, none => none
      else compCall (compE S Hs n L) x p a [.Name y p1] pos
    | .Call (.Name x p) [.Call (.Name y p1) [a] [] pos1] [] pos =>
      if hi : x = sLi ∧ y = sRange then match compE S Hs n L a with
        | some ⟨f, hf⟩ => if h : memB x S.free = true ∧ memB y S.free = true ∧ glB L.sc x = true ∧ glB L.sc y = true ∧ notStar a = true ∧ L.hot = false then
            some ⟨evLRg1 f, se_lrg1 hi.1 hi.2 (mem_of h.1) (mem_of h.2.1) h.2.2.1 h.2.2.2.1 hf h.2.2.2.2.1 h.2.2.2.2.2⟩ else none
        | none => none
      else compCall (compE S Hs n L) x p (.Call (.Name y p1) [a] [] pos1) [] pos
    | .Call (.Name x p) [.Call (.Name y p1) [a, b] [] pos1] [] pos =>
      if hi : x = sLi ∧ y = sRange then match compE S Hs n L a, compE S Hs n L b with
        | some ⟨f, hf⟩, some ⟨g, hg⟩ => if h : memB x S.free = true ∧ memB y S.free = true ∧ glB L.sc x = true ∧ glB L.sc y = true ∧ notStar a = true ∧ notStar b = true ∧ L.hot = false then
            some ⟨evLRg2 f g, se_lrg2 hi.1 hi.2 (mem_of h.1) (mem_of h.2.1) h.2.2.1 h.2.2.2.1 hf hg h.2.2.2.2.1 h.2.2.2.2.2.1 h.2.2.2.2.2.2⟩ else none
        | _, _ => none
      else compCall (compE S Hs n L) x p (.Call (.Name y p1) [a, b] [] pos1) [] pos
    | .Call (.Name x p) (e :: es) [] pos => compCall (compE S Hs n L) x p e es pos
    | .Call (.Name x p) [a] [⟨some y, d, kp⟩] pos => match compE S Hs n L a, compE S Hs n L d with
      | some ⟨f, hf⟩, some ⟨g, hg⟩ => if h : x = sMaxN ∧ y = sDefault ∧ memB x S.free = true ∧ glB L.sc x = true ∧ notStar a = true ∧ L.hot = false then some ⟨evMaxD f g, se_maxD h.1 h.2.1 (mem_of h.2.2.1) h.2.2.2.1 hf hg h.2.2.2.2.1 h.2.2.2.2.2⟩ else none
      | _, _ => none
    | .Call (.Attribute a m p) [e] [] pos => if hm : m = sAppend then match compE S Hs n L a, compE S Hs n L e with
        | some ⟨f, hf⟩, some ⟨g, hg⟩ => if h : baseOk a = true ∧ notStar e = true ∧ (p.endLine == pos.line) = true then some ⟨evApp f g, se_append hm hf hg h.1 h.2.1 h.2.2⟩ else none
        | _, _ => none
      else none
    | _ => none

/-! ### statements -/
abbrev CS (S : Stat) (L : Lc) (st : Stmt) := Option { f : EvS // SS S L st f }
abbrev CSs (S : Stat) (L : Lc) (st : List Stmt) := Option { f : EvS // SSs S L st f }
def compSs {S : Stat} {L : Lc} (rec : (st : Stmt) → CS S L st) : (sts : List Stmt) → CSs S L sts
  | [] => some ⟨esNx, sss_nil⟩
  | [st] => match rec st with
    | some ⟨f, hf⟩ => some ⟨f, sss_one hf⟩
    | none => some ⟨esBad, sss_one ss_bad⟩
  | st :: st2 :: sts => match rec st, compSs rec (st2 :: sts) with
    | some ⟨f, hf⟩, some ⟨g, hg⟩ => some ⟨esSeq f g, sss_cons hf hg⟩
    | none, some ⟨g, hg⟩ => some ⟨esSeq esBad g, sss_cons ss_bad hg⟩
    | _, _ => none
def ipOf (op : Operator) : Option { oo : Op2 // IpS op oo } := match op with
  | .Add => some ⟨iaddOp, ips_add⟩
  | .Sub => some ⟨subOp, ips_sub⟩
  | _ => none
/-- a copy that is a cell -/
def compCopy {S : Stat} {L : Lc} (Hs : HoT S) (n : Nat) (x : Str) (p : Pos) (a : Expr) (pos : Pos) : CE S L (.Call (.Name x p) [a] [] pos) :=
  match compA (compE S Hs n L) [a] with
  | none => none
  | some ⟨f, hf⟩ => if h : x = sList ∧ memB x S.free = true ∧ glB L.sc x = true ∧ okName x = true ∧ [a].all notStar = true then
      some ⟨evOf opListC f, se_ty (r := fun K xs H Q => ∃ p ys, xs = [.ref p] ∧ (SqL K H p ys ∨ SqT K H p ys) ∧ ∀ l, H l = none → Q (.ref l) (upd H l (.lst ys))) (fun X _ _ _ => call_list_of) on_listC (mem_of h.2.1) (by rw [h.1]; exact boot_list) h.2.2.1 h.2.2.2.1 hf h.2.2.2.2⟩ else none
/-- the items of a list of cells -/
def compItem {S : Stat} {L : Lc} (Hs : HoT S) (n : Nat) : (e : Expr) → CE S L e
  | .ListComp elt [⟨tg, e, ifs, 0⟩] scope pos => match compLc (compE S Hs n) elt tg e ifs scope with
    | some r => some ⟨evLc true r.s r.t r.tt r.te _, se_lc (cell := true) r.hs r.hb r.hg r.ht r.he r.hn r.hh r.ho⟩
    | none => none
  | .Call (.Name x p) [a] [] pos => compCopy Hs n x p a pos
  | .List es pos => match compA (compE S Hs n L) es with
    | some ⟨f, hf⟩ => some ⟨evOf opCel f, se_cel hf⟩
    | none => none
  | _ => none
/-- a value that is to be a cell -/
def compCell {S : Stat} {L : Lc} (Hs : HoT S) (n : Nat) : (e : Expr) → Option { f : EvE // SE S L e f ∧ notComp e = true }
  | .List es pos => match compA (compE S Hs n L) es with
    | some ⟨f, hf⟩ => some ⟨evOf opCel f, se_cel hf, rfl⟩
    | none => none
  | .Call (.Name x p) [a] [] pos => match (if x = sList then compCopy (S := S) (L := L) Hs n x p a pos else compE S Hs n L (.Call (.Name x p) [a] [] pos)) with
    | some ⟨f, hf⟩ => some ⟨f, hf, rfl⟩
    | none => none
  | e => match compE S Hs n L e with
    | some ⟨f, hf⟩ => if h : notComp e = true then some ⟨f, hf, h⟩ else none
    | none => none
/-- two parts of a tuple that is unpacked: lists that are changed are cells -/
def compPart {S : Stat} {L : Lc} (Hs : HoT S) (mu : List Str) (x : Str) (e : Expr) : CE S L e := if memB x mu = true then match compCell (S := S) (L := L) Hs 40 e with
    | some ⟨f, hf, _⟩ => some ⟨f, hf⟩
    | none => none
  else compE S Hs 40 L e
def pairA {S : Stat} {L : Lc} {a b : Expr} (f : CE S L a) (g : CE S L b) : CA S L [a, b] := match f, g with
  | some ⟨f, hf⟩, some ⟨g, hg⟩ => if h : notStar a = true ∧ notStar b = true then some ⟨evCons f (evCons g evNil), sa_cons hf (sa_cons hg sa_nil h.2) h.1⟩ else none
  | _, _ => none
def notLoc (sc : Scope) (x : Str) : Bool := !decide (sc.names.lookup x = some .local)
theorem notLoc_kind {env : Env} {x : Str} (h : notLoc env.scope x = true) : (env.kindOf x == some .local) = false := by
  refine beq_eq_false_iff_ne.mpr fun e => ?_
  have e' : env.scope.names.lookup x = some .local := e
  unfold notLoc at h
  rw [decide_eq_true e'] at h
  cases h
theorem swap2_none {x y : Str} {px py p p2 : Pos} {a b : Expr} {k1 k2 : Nat} {env : Env} (h : [a, b].all (foldedForSure 8) = true ∨ notLoc env.scope x = true ∨ notLoc env.scope y = true) : swappedStores [.Tuple [.Name x px, .Name y py] k1 p] (.Tuple [a, b] k2 p2) env = pure none := by
  unfold swappedStores
  simp only [List.filterMap_cons, List.filterMap_nil]
  rcases h with h | h | h
  · rw [h]
    repeat' split
    all_goals first | rfl | simp_all
  · simp only [notLoc_kind h, Bool.false_and]
    repeat' split
    all_goals first | rfl | simp_all
  · simp only [notLoc_kind h, Bool.false_and]
    repeat' split
    all_goals first | rfl | simp_all
set_option maxHeartbeats 4000000 in
theorem swap3_none {x y z : Str} {px py pz p p2 : Pos} {a b d : Expr} {k1 k2 : Nat} {env : Env} (h : [a, b, d].all (foldedForSure 8) = true ∨ notLoc env.scope x = true ∨ notLoc env.scope y = true ∨ notLoc env.scope z = true) : swappedStores [.Tuple [.Name x px, .Name y py, .Name z pz] k1 p] (.Tuple [a, b, d] k2 p2) env = pure none := by
  unfold swappedStores
  simp only [List.filterMap_cons, List.filterMap_nil]
  rcases h with h | h | h | h
  · rw [h]
    repeat' split
    all_goals first | rfl | simp_all
  · simp only [notLoc_kind h, Bool.false_and]
    repeat' split
    all_goals first | rfl | simp_all
  · simp only [notLoc_kind h, Bool.false_and]
    repeat' split
    all_goals first | rfl | simp_all
  · simp only [notLoc_kind h, Bool.false_and]
    repeat' split
    all_goals first | rfl | simp_all
/-- the place of a class -/
structure ExI (xs : List ExS) (x : Str) where
  i : Nat
  e : ExS
  hi : xs[i]? = some e
  hx : e.name = x
def exIx : (xs : List ExS) → (x : Str) → Option (ExI xs x)
  | [], _ => none
  | e :: xs, x => if h : e.name = x then some ⟨0, e, rfl, h⟩ else match exIx xs x with
    | some ⟨i, e', hi, hx⟩ => some ⟨i + 1, e', by simpa using hi, hx⟩
    | none => none
def compH {S : Stat} {L : Lc} (rec : (b : Bool) → (sts : List Stmt) → CSs S (hotL L b) sts) : (hds : List ExceptHandler) → Option { cl : List Clz // HdsM S L hds cl }
  | [] => some ⟨[], .nil⟩
  | .ExceptHandler (some (.Name x np)) none (b₀ :: suite) pos' :: hds => match exIx S.exs x, rec false (b₀ :: suite), compH rec hds with
    | some ⟨i, en, hi, hx⟩, some ⟨f, hf⟩, some ⟨cl, hm⟩ => if h : glB L.sc x = true ∧ okName x = true then some ⟨⟨i, none, f⟩ :: cl, .cons ⟨⟨en, hi, hx⟩, h.1, h.2, hf⟩ hm⟩ else none
    | _, _, _ => none
  | .ExceptHandler (some (.Name x np)) (some n) (b₀ :: suite) pos' :: hds => match exIx S.exs x, rec true (b₀ :: suite), compH rec hds, ixOf L.N n with
    | some ⟨i, en, hi, hx⟩, some ⟨f, hf⟩, some ⟨cl, hm⟩, some ⟨k, hk⟩ => if h : glB L.sc x = true ∧ okName x = true ∧ locOnly L n = true then some ⟨⟨i, some k, f⟩ :: cl, .cons ⟨⟨en, hi, hx⟩, h.1, h.2.1, hk, h.2.2, hf⟩ hm⟩ else none
    | _, _, _, _ => none
  | _ => none
/-- mu: the names of lists that are changed; rc: a list that is made for the return is to be changed by the caller -/
def compS (S : Stat) (Hs : HoT S) (mu : List Str) (rc : Bool) : Nat → (L : Lc) → (st : Stmt) → CS S L st
  | 0, _, _ => none
  | n + 1, L, st => match st with
    | .Pass pos => some ⟨esNx, ss_pass⟩
    | .Break pos => some ⟨esBrk, ss_brk⟩
    | .Continue pos => some ⟨esCt, ss_ct⟩
    | .Raise (some (.Call (.Name x p) [e] [] pos)) none pos' => match exIx S.exs x with
      | none => some ⟨esBad, ss_bad⟩
      | some ⟨i, en, hi, hx⟩ => match hk : en.kp, compE S Hs 40 L e with
        | none, some ⟨f, hf⟩ => if h : glB L.sc x = true ∧ okName x = true ∧ notStar e = true ∧ L.hot = false then some ⟨esRaise i f, ss_raise hi hx hk h.1 h.2.1 hf h.2.2.1 h.2.2.2⟩ else none
        | some f0, some ⟨f, hf⟩ => if h : glB L.sc x = true ∧ okName x = true ∧ notStar e = true ∧ L.hot = false then some ⟨esRaiseK i f, ss_raiseK hi hx hk h.1 h.2.1 hf h.2.2.1 h.2.2.2⟩ else none
        | _, none => none
    | .Raise e c pos => some ⟨esBad, ss_bad⟩
    | .Try body (h₀ :: hds) [] [] pos => match compSs (compS S Hs mu rc n L) body, compH (fun b => compSs (compS S Hs mu rc n (hotL L b))) (h₀ :: hds) with
      | some ⟨b, hb⟩, some ⟨cl, hm⟩ => if h : L.hot = false ∧ L.exc = false then some ⟨esTry S.exs b cl, ss_try hb hm h.1 h.2⟩ else none
      | _, _ => none
    | .Return none pos => some ⟨esRetN, ss_retN⟩
    | .Return (some e) pos => if rc = true then match compCell (S := S) (L := L) Hs 40 e with
        | some ⟨f, hf, _⟩ => some ⟨esRet f, ss_ret hf⟩
        | none => none
      else match compE S Hs 40 L e with
        | some ⟨f, hf⟩ => some ⟨esRet f, ss_ret hf⟩
        | none => none
    | .Expr (.Constant (.str x) j pos) pos' => some ⟨esNx, ss_doc⟩
    | .Expr e pos => match compE S Hs 40 L e with
      | some ⟨f, hf⟩ => if h : notComp e = true then some ⟨esDrop f, ss_expr hf h⟩ else none
      | none => none
    | .If e as bs pos => match compT (compE S Hs 40 L) 40 e, compSs (compS S Hs mu rc n L) as, compSs (compS S Hs mu rc n L) bs with
      | some ⟨t, ht⟩, some ⟨f, hf⟩, some ⟨g, hg⟩ => some ⟨esIf t f g, ss_if ht hf hg⟩
      | _, _, _ => none
    | .While e bs [] pos => match compT (compE S Hs 40 L) 40 e, compSs (compS S Hs mu rc n L) bs with
      | some ⟨t, ht⟩, some ⟨f, hf⟩ => some ⟨esWhile t f, ss_while ht hf⟩
      | _, _ => none
    | .For tg e bs [] pos => match compI (compE S Hs 40 L) tg e, compG L tg, compSs (compS S Hs mu rc n L) bs with
      | some ⟨s, hs⟩, some ⟨t, ht⟩, some ⟨f, hf⟩ => if h : notSet e = true ∧ L.hot = false then some ⟨esFor s t f, ss_for hs ht hf h.1 h.2⟩ else none
      | _, _, _ => none
    | .Assign [.Name x p] (.ListComp elt [⟨tg, e, ifs, 0⟩] scope cp) pos => if memB (x ++ ("[]" : Str)) mu = true then match compI (compE S Hs 40 L) tg e, compG (blkL L scope) tg, compTs (compE S Hs 40 (blkL L scope)) ifs, compItem (S := S) (L := blkL L scope) Hs 40 elt, ixOf L.N x with
      | some ⟨s, hs⟩, some ⟨t, hg⟩, some ⟨tt, ht⟩, some ⟨te, he⟩, some ⟨i, hi⟩ =>
        if h : (locOnly L x = true ∧ kindB L.sc = true ∧ (p.line == cp.line) = true ∧ (scope.names.any fun (n, k) => n == x && (k == .local || k == .cell)) = false) ∧ blkC L.N L.sc scope (ownOf L.N scope) = true ∧ notSet e = true ∧ L.hot = false ∧ (∀ i ∈ t.slots, i ∈ (ownOf L.N scope).map (·.2)) then
          some ⟨_, ss_setLcM hs h.2.1 hg ht he h.2.2.1 h.2.2.2.1 h.2.2.2.2 hi h.1.1 h.1.2.1 h.1.2.2.1 h.1.2.2.2⟩
        else if h : (locB L x = true ∧ L.sc.names.lookup x ≠ some .local) ∧ blkC L.N L.sc scope (ownOf L.N scope) = true ∧ notSet e = true ∧ L.hot = false ∧ (∀ i ∈ t.slots, i ∈ (ownOf L.N scope).map (·.2)) then
          some ⟨_, ss_setC hi h.1.1 (se_lcM hs h.2.1 hg ht he h.2.2.1 h.2.2.2.1 h.2.2.2.2) h.1.2⟩ else none
      | _, _, _, _, _ => none
      else match compLc (compE S Hs 40) elt tg e ifs scope, ixOf L.N x with
      | some r, some ⟨i, hi⟩ => if h : locOnly L x = true ∧ kindB L.sc = true ∧ (p.line == cp.line) = true ∧ (scope.names.any fun (n, k) => n == x && (k == .local || k == .cell)) = false then
          some ⟨_, ss_setLc (cell := memB x mu) r.hs r.hb r.hg r.ht r.he r.hn r.hh r.ho hi h.1 h.2.1 h.2.2.1 h.2.2.2⟩
        else if h : locB L x = true ∧ L.sc.names.lookup x ≠ some .local then some ⟨_, ss_setC hi h.1 (se_lc (cell := memB x mu) r.hs r.hb r.hg r.ht r.he r.hn r.hh r.ho) h.2⟩ else none
      | _, _ => none
    | .Assign [.Name x p] (.DictComp kx vx [⟨tg, e, ifs, 0⟩] scope cp) pos => match compI (compE S Hs 40 L) tg e, compG (blkL L scope) tg, compTs (compE S Hs 40 (blkL L scope)) ifs, compE S Hs 40 (blkL L scope) kx, compE S Hs 40 (blkL L scope) vx, ixOf L.N x with
      | some ⟨s, hs⟩, some ⟨t, hg⟩, some ⟨tt, ht⟩, some ⟨tk, hk⟩, some ⟨tv, hv⟩, some ⟨i, hi⟩ =>
        if h : (locOnly L x = true ∧ kindB L.sc = true ∧ (p.line == cp.line) = true ∧ (scope.names.any fun (n, k) => n == x && (k == .local || k == .cell)) = false) ∧ blkC L.N L.sc scope (ownOf L.N scope) = true ∧ notSet e = true ∧ L.hot = false ∧ (∀ i ∈ t.slots, i ∈ (ownOf L.N scope).map (·.2)) then
          some ⟨esSet (.nm i) (evDc (memB x mu) s t tt tk tv _), ss_setDc hs h.2.1 hg ht hk hv h.2.2.1 h.2.2.2.1 h.2.2.2.2 hi h.1.1 h.1.2.1 h.1.2.2.1 h.1.2.2.2⟩
        else if h : (locB L x = true ∧ L.sc.names.lookup x ≠ some .local) ∧ blkC L.N L.sc scope (ownOf L.N scope) = true ∧ notSet e = true ∧ L.hot = false ∧ (∀ i ∈ t.slots, i ∈ (ownOf L.N scope).map (·.2)) then
          some ⟨esSet (.nm i) (evDc (memB x mu) s t tt tk tv _), ss_setDC hi h.1.1 (se_dc hs h.2.1 hg ht hk hv h.2.2.1 h.2.2.2.1 h.2.2.2.2) h.1.2⟩ else none
      | _, _, _, _, _, _ => none
    | .Assign [.Attribute o a p] e pos => match compE S Hs 40 L o, compE S Hs 40 L e with
      | some ⟨fo, ho⟩, some ⟨fv, hv⟩ => if h : notComp e = true then some ⟨esSetAt (S.cl.map fun e => ixS e.attrs a) fo fv, ss_setAt ho hv h⟩ else none
      | _, _ => none
    | .Assign [.Name x p] e pos => match ixOf L.N x with
      | some ⟨i, hi⟩ => if h : locB L x = true then if memB x mu = true then match compCell (S := S) (L := L) Hs 40 e with
            | some ⟨f, hf, hc⟩ => some ⟨_, ss_set hi h hf hc⟩
            | none => none
          else match compE S Hs 40 L e with
            | some ⟨f, hf⟩ => if hc : notComp e = true then some ⟨_, ss_set hi h hf hc⟩ else none
            | none => none
        else none
      | none => none
    | .Assign [.Tuple [.Name x px, .Name y py] k1 p] (.Tuple [a, b] k2 p2) pos => match ixOf L.N x, ixOf L.N y, pairA (compPart (S := S) (L := L) Hs mu x a) (compPart (S := S) (L := L) Hs mu y b) with
      | some ⟨i, hi⟩, some ⟨j, hj⟩, some ⟨f, hf⟩ => if h : (i == j) = false ∧ locOnly L x = true ∧ locOnly L y = true ∧ kindB L.sc = true ∧ (py.line == px.line) = true ∧ (x == y) = false ∧ notStar a = true ∧ notStar b = true ∧ ([a, b].all (foldedForSure 8)) = false ∧ ([a, b].all (constantsAlone 8)) = false ∧ L.hot = false then
          some ⟨_, ss_par2 hi hj h.1 h.2.1 h.2.2.1 h.2.2.2.1 h.2.2.2.2.1 h.2.2.2.2.2.1 h.2.2.2.2.2.2.1 h.2.2.2.2.2.2.2.1 h.2.2.2.2.2.2.2.2.1 h.2.2.2.2.2.2.2.2.2.1 hf h.2.2.2.2.2.2.2.2.2.2⟩ else match compG L (.Tuple [.Name x px, .Name y py] k1 p) with
          | some ⟨.tp is, hg⟩ => if h : [a, b].all (foldedForSure 8) = true ∨ notLoc L.sc x = true ∨ notLoc L.sc y = true then some ⟨_, ss_unp hg (se_tup hf) rfl fun env e => swap2_none (by rw [e]; exact h)⟩ else none
          | _ => none
      | _, _, _ => none
    | .Assign [.Tuple [.Name x px, .Name y py, .Name z pz] k1 p] (.Tuple [a, b, d] k2 p2) pos => match ixOf L.N x, ixOf L.N y, ixOf L.N z, compA (compE S Hs 40 L) [a, b, d] with
      | some ⟨i, hi⟩, some ⟨j, hj⟩, some ⟨l, hl⟩, some ⟨f, hf⟩ => if h : ((i == j) = false ∧ (i == l) = false ∧ (j == l) = false) ∧ (locOnly L x = true ∧ locOnly L y = true ∧ locOnly L z = true ∧ kindB L.sc = true) ∧ ((py.line == px.line) = true ∧ (pz.line == px.line) = true) ∧ ((x == y) = false ∧ (x == z) = false ∧ (y == z) = false) ∧ (notStar a = true ∧ notStar b = true ∧ notStar d = true) ∧ ([a, b, d].all (foldedForSure 8)) = false ∧ ([a, b, d].all (constantsAlone 8)) = false ∧ L.hot = false then
          some ⟨_, ss_par3 hi hj hl h.1.1 h.1.2.1 h.1.2.2 h.2.1.1 h.2.1.2.1 h.2.1.2.2.1 h.2.1.2.2.2 h.2.2.1.1 h.2.2.1.2 h.2.2.2.1.1 h.2.2.2.1.2.1 h.2.2.2.1.2.2 h.2.2.2.2.1.1 h.2.2.2.2.1.2.1 h.2.2.2.2.1.2.2 h.2.2.2.2.2.1 h.2.2.2.2.2.2.1 hf h.2.2.2.2.2.2.2⟩ else match compG L (.Tuple [.Name x px, .Name y py, .Name z pz] k1 p), compE S Hs 40 L (.Tuple [a, b, d] k2 p2) with
          | some ⟨.tp is, hg⟩, some ⟨f, hf⟩ => if h : [a, b, d].all (foldedForSure 8) = true ∨ notLoc L.sc x = true ∨ notLoc L.sc y = true ∨ notLoc L.sc z = true then some ⟨_, ss_unp hg hf rfl fun env e => swap3_none (by rw [e]; exact h)⟩ else none
          | _, _ => none
      | _, _, _, _ => none
    | .Assign [.Tuple es j p] e pos => match compG L (.Tuple es j p), compE S Hs 40 L e with
      | some ⟨.tp is, hg⟩, some ⟨f, hf⟩ => if h : notComp e = true ∧ notTup e = true then some ⟨_, ss_unp hg hf h.1 fun env _ => swapped_none h.2⟩ else none
      | _, _ => none
    | .Assign [.Subscript a b p] e pos => match compE S Hs 40 L a, compE S Hs 40 L b, compE S Hs 40 L e with
      | some ⟨f, hf⟩, some ⟨g, hg⟩, some ⟨l, hl⟩ => if h : notComp e = true ∧ notTup e = true ∧ notSlice b = true then some ⟨_, ss_setix hf hg hl h.1 h.2.1 h.2.2⟩ else none
      | _, _, _ => none
    | .AugAssign (.Name x p) op e pos => match ixOf L.N x, ipOf op, compE S Hs 40 L e with
      | some ⟨i, hi⟩, some ⟨oo, ho⟩, some ⟨f, hf⟩ => if h : locB L x = true then some ⟨_, ss_aug ho hi h hf⟩ else none
      | _, _, _ => none
    | _ => none
end
end Pv
end
section
set_option Elab.async false
set_option linter.all false
set_option maxRecDepth 100000
set_option autoImplicit false
namespace Pv
open PySem PySem.Spec PyProof.Rows L2

theorem got {α : Type} {P : α → Prop} {o : Option { f : α // P f }} {f : α} (h : o.map (·.1) = some f) : P f := by
  cases o with
  | none => cases h
  | some x =>
    have e : x.1 = f := Option.some.inj h
    rw [← e]
    exact x.2
/-! ### the law's own call -/
/-- the heap H tells nothing but the script, at a, and the tables -/
structure Lone (K : PySem.W.Frag) (a : Addr) (ns : List Int) (ts : List Addr) (H : Hp) : Prop where
  ok : ∀ b u, H b = some u → (b = a ∧ (∃ o, u = .frz o (.lst (ns.map V.int))) ∧ K.lookup a = none ∧ b ∉ ts) ∨ (b ∈ ts ∧ u = .tbl #[])
  tb : ∀ b ∈ ts, H b = some (.tbl #[])
section
variable {P : Program} {w : World} {K : PySem.W.Frag} {mg mb : Str → Option Value} {k : Nat} {fa a : Addr} {fd : FuncData} {x : Str} {g : List AV → AH → Out AV} {s₁ : Shared} {vs : List Value} {ns : List Int} {cls : Nat → Value} {fld : Nat → Str} {oc : Nat → Addr × List Str} {cs : List (Addr × Addr × Str)}
/-- what is known of the tables -/
structure TabsIn (K : PySem.W.Frag) (mg : Str → Option Value) (h : Heap) (cs : List (Addr × Addr × Str)) : Prop where
  emp : ∀ p ∈ cs, h.get? p.2.1 = some { cls := .none, data := .fields #[] }
  no : ∀ p ∈ cs, K.lookup p.2.1 = none
  hd : ∀ p ∈ cs, PySem.W.CodeHd h p.1 p.2.1
theorem law_go {H : Hp} (lone : Lone K a ns (cs.map fun p => p.2.1) H) (hok : HOk P w H s₁.heap) (rep : ∀ Γ : Cfg, Γ.K = K → Rep Γ.K ⟨fun b => H b ≠ none ∧ b ∉ cs.map (fun p => p.2.1), [], H, cs.map (·.2), none, oc⟩ (.kl (ns.map AV.int)) (.ref a))
    (KX : K.In s₁.heap) (hns : s₁.heap.Ns mainGlobals mg) (hb : s₁.heap.Ns builtinsNs mb) (hbb : ∀ x : Str, x ≠ "__name__" → mb x = bootBuiltins x) (hlim : s₁.heap.NoLimit) (hg : s₁.gens = #[]) (T : TabsIn K mg s₁.heap cs)
    (hbm : ∃ (bm : Addr) (ob : Obj), mg "__builtins__" = some (.ref bm) ∧ bm ≠ builtinsNs ∧ s₁.heap.get? bm = some ob ∧ ob.cls = .type "module" ∧ ob.dict = some builtinsNs ∧ ob.data = .plain)
    (ha : s₁.heap.get? a = some { cls := .type "list", data := .seq vs.toArray }) (hr : Room k callerA) (hbind : ∀ (s : Shared) (u : Value), BindsTo s fd ⟨[u], []⟩ [(x, u)])
    (F : ∀ base : Heap, K.In base → base.Ns mainGlobals mg → (∀ p ∈ cs, LamX.TabB base mg p.1 p.2.1) → FnG P w K mg base (L2.CX P w) k fa fd [x] (spOf ⟨P, w, K, mg, base, cls, fld, cs.map (·.2), none, oc⟩ 1 g)) (holds : g [.kl (ns.map AV.int)] [] = .ok (.bl true) []) :
    codeAny (model P w) callerA (.call (.ref fa) ⟨[.ref a], []⟩) (fun r s' => r = .ok (.ret (.bool true)) ∧ PySem.OldK s₁.heap s'.heap ∧ s'.os = s₁.os ∧ AllBare s'.gens) s₁ := by
  have isT : ∀ b, b ∈ cs.map (fun p => p.2.1) → s₁.heap.get? b = some { cls := .none, data := .fields #[] } ∧ K.lookup b = none := fun b hb => by
    obtain ⟨p, hp, e⟩ := List.mem_map.mp hb
    subst e
    exact ⟨T.emp p hp, T.no p hp⟩
  -- what is neither a sequence nor an empty table is not hidden
  have away : ∀ {b : Addr} {o : Obj}, s₁.heap.get? b = some o → (∀ vs n, o.data ≠ .seq vs n) → o.data ≠ .fields #[] → H b = none := fun {b o} e d1 d2 => by
    cases q : H b with
    | none => rfl
    | some u =>
      rcases lone.ok b u q with ⟨e', _⟩ | ⟨hm, _⟩
      · rw [e', ha] at e
        cases e
        exact absurd rfl (d1 _ _)
      · rw [(isT b hm).1] at e
        cases e
        exact absurd rfl d2
  have ns_of : ∀ {b : Addr} {m : Str → Option Value}, s₁.heap.Ns b m → (hidT s₁.heap H).Ns b m := fun {b m} ⟨o, es, ep, e, d, r⟩ => ⟨o, es, ep, hidT_get e (away e (fun v n z => by rw [d] at z; cases z) fun z => by rw [d] at z; cases z), d, r⟩
  have kin : K.In (hidT s₁.heap H) := fun b o e => hidT_get (KX b o e) (by
    cases q : H b with
    | none => rfl
    | some u =>
      rcases lone.ok b u q with ⟨e1, _, e2, _⟩ | ⟨hm, _⟩
      · rw [e1, e2] at e; cases e
      · rw [(isT b hm).2] at e; cases e)
  have md : Mod K mg (hidT s₁.heap H) := ⟨kin, ns_of hns, ⟨mb, ns_of hb, hbb⟩, by obtain ⟨mc, h1, h2⟩ := hlim; exact ⟨mc, ns_of h1, h2⟩⟩
  have tabB : ∀ p ∈ cs, LamX.TabB (hidT s₁.heap H) mg p.1 p.2.1 := fun p hp => by
    refine ⟨?_, ?_, fun z => ?_⟩
    · obtain ⟨o, us, file, tf, flags, tg, inF, text, tt, e1, r1, r2, r3, rs⟩ := T.hd p hp
      exact ⟨o, us, file, tf, flags, tg, inF, text, tt, hidT_get e1 (away e1 (fun vs n z => by rw [r2] at z; cases z) fun z => by rw [r2] at z; cases z; simp at r3), r1, r2, r3, rs⟩
    · obtain ⟨bm, ob, b1, b2, b3, b4, b5, b6⟩ := hbm
      refine ⟨bm, ob, b1, b2, fun q => ?_, fun q => ?_, hidT_get b3 (away b3 (fun vs n z => by rw [b6] at z; cases z) fun z => by rw [b6] at z; cases z), b4, b5, b6⟩
      · obtain ⟨o, es, ep, e, hd, _⟩ := hns
        rw [q, e] at b3
        cases b3
        rw [hd] at b6
        cases b6
      · rw [q, T.emp p hp] at b3
        cases b3
        cases b6
    · obtain ⟨o, es, ep, e, hd, _⟩ := hns
      rw [z, T.emp p hp] at e
      cases e
      cases hd
  have e0 : Env0 P w K mg (hidT s₁.heap H) callerA [] s₁ H := by
    refine ⟨rfl, md, fun b o e => of_hidT e, Nat.le_of_eq (hidT_size _ _), trivial, fun b hb => ?_, hok, .of_eq hg⟩
    cases (show b ∈ ([] : List Addr) from hb)
  have start : spOf ⟨P, w, K, mg, hidT s₁.heap H, cls, fld, cs.map (·.2), none, oc⟩ 1 g [.ref a] H (fun v _ => v = .bl true) fun _ _ _ => False := by
    refine ⟨rfl, ⟨fun b => H b ≠ none ∧ b ∉ cs.map (fun p => p.2.1), [], H, cs.map (·.2), none, oc⟩, [], [.kl (ns.map AV.int)], rfl, ⟨rfl, List.nodup_nil, fun n c b e => by simp at e, fun b f => ?_, fun b hb => (by cases hb), fun c hc => (by cases hc), fun p hp => ?_, fun n lo r e => by simp at e⟩, RepL.cons (rep _ rfl) rfl, ⟨rfl, rfl, rfl⟩, ?_⟩
    · obtain ⟨f1, f2⟩ := f
      cases q : H b with
      | none => exact absurd q f1
      | some u =>
        rcases lone.ok b u q with ⟨_, ⟨o, e⟩, _⟩ | ⟨hm, _⟩
        · subst e; exact ⟨_, q, rfl⟩
        · exact absurd hm f2
    · have hp : p ∈ cs.map (·.2) := hp
      obtain ⟨t, ht, e⟩ := List.mem_map.mp hp
      subst e
      exact LamX.TabS.nil (lone.tb _ (List.mem_map.mpr ⟨t, ht, rfl⟩))
    · rw [holds]
      exact fun D' u _ _ r => r
  refine codeAny_mono ((F _ kin (ns_of hns) tabB).go callerA [] s₁ H _ [.ref a] [.ref a] _ _ rfl hr e0 (hbind s₁ (.ref a)) (.cons rfl .nil) start) fun r s' h => ?_
  match r, h with
  | .ok (.ret u), ⟨v, H', os, bare, un, hok', rv, q⟩ =>
    have q' : v = .bl true := q
    subst q'
    have eu : u = Value.bool true := rv
    subst eu
    have same : ∀ b o, b ∉ cs.map (fun p => p.2.1) → s₁.heap.get? b = some o → s'.heap.get? b = some o := fun b o nb e => by
      cases q : H b with
      | none => exact un.keep b o e q (fun z => by cases (show b ∈ ([] : List Addr) from z)) (by simp)
      | some z =>
        rcases lone.ok b z q with ⟨_, ⟨ob, ez⟩, _⟩ | ⟨hm, _⟩
        · subst ez
          have t1 : s₁.heap.get? b = some ob := (hok b _ q).1
          have t2 : s'.heap.get? b = some ob := (hok' b _ (un.frzs b ob _ q)).1
          rw [t1] at e
          rw [← e]
          exact t2
        · exact absurd hm nb
    have grown : ∀ b, b ∈ cs.map (fun p => p.2.1) → ∃ more : Array Value, s'.heap.get? b = some { cls := .none, data := .fields more } := fun b hb => by
      obtain ⟨more, z⟩ := un.tbls b #[] (lone.tb b hb)
      exact ⟨_, hok' b _ z⟩
    refine ⟨rfl, ⟨fun b o e => ?_, fun b o e => ?_⟩, os, bare⟩
    · by_cases hm : b ∈ cs.map (fun p => p.2.1)
      · obtain ⟨p, hp, ep⟩ := List.mem_map.mp hm
        obtain ⟨more, z⟩ := grown b hm
        rw [(isT b hm).1] at e
        cases e
        refine .inr (.inl ⟨?_, rfl, #[], more, rfl, by rw [Array.empty_append]; exact z⟩)
        rw [← ep]
        exact ((T.hd p hp).tab (T.emp p hp)).isCodeTable
      · exact .inl (same b o hm e)
    · by_cases hm : b ∈ cs.map (fun p => p.2.1)
      · obtain ⟨more, z⟩ := grown b hm
        exact ⟨_, z⟩
      · exact ⟨o, same b o hm e⟩
  | .error e, h =>
    obtain ⟨_, _, _, _, _, _, _, _, _, _, _, _, z⟩ := h
    exact z.elim
/-- what is known of the law's own def at the head's heap -/
def LawG (P : Program) (w : World) (K : PySem.W.Frag) (k : Nat) (x : Str) (g : List AV → AH → Out AV) (mg : Str → Option Value) (fa : Addr) (h : Heap) : Prop :=
  ∃ (fd : FuncData) (cs : List (Addr × Addr × Str)) (cls : Nat → Value) (fld : Nat → Str) (oc : Nat → Addr × List Str), TabsIn K mg h cs ∧ (∀ (s : Shared) (u : Value), BindsTo s fd ⟨[u], []⟩ [(x, u)]) ∧
    ∀ base : Heap, K.In base → base.Ns mainGlobals mg → (∀ p ∈ cs, LamX.TabB base mg p.1 p.2.1) → FnG P w K mg base (L2.CX P w) k fa fd [x] (spOf ⟨P, w, K, mg, base, cls, fld, cs.map (·.2), none, oc⟩ 1 g)
/-- the table of the def at fx is empty -/
def TabE (K : PySem.W.Frag) (fx : Addr) (h : Heap) : Prop := ∀ (c P : Addr) (o : Obj) (fd : FuncData) (e : Value) (dd : Option Addr) (vs : Array Value) (sl : Array (Option Value)), K.lookup fx = some o → o.data = .func fd → fd.code = .ref c → K.lookup c = some ⟨e, dd, .fields vs, sl⟩ → vs[11]? = some (.ref P) →
  h.get? P = some { cls := .none, data := .fields #[] }
theorem walk_g {l : PySem.W.OpenLaw} {n k : Nat} {q : Program} {loose : List Str} {XP : (Str → Option Value) → Heap → Prop} {YP : World → Heap → Prop} {d : DefRec} {K : Params → PySem.W.Frag} {x : Str} {g : List AV → AH → Out AV} (ls : List Str)
    (hn : l.most = some n) (hn2 : n ≤ sizeLine) (hdf : d.params.defaults = []) (hr : Room k callerA) (hrec : (ls.all fun x => (PyProof.Rows.recsOf q).any fun e => e.name == x) = true) (hY : ∀ (w : World) (h : Heap), YP w h → (K w.params).In h)
    (F : ∀ (w : World) (mg : Str → Option Value) (fa : Addr) (h : Heap), (K w.params).In h → h.Ns mainGlobals mg → mg d.name = some (.ref fa) → (∀ x ∈ ls, ∀ fx, mg x = some (.ref fx) → TabE (K w.params) fx h) → LawG l.prog w (K w.params) k x g mg fa h)
    (holds : ∀ ns : List Int, ns.length ≤ n → g [.kl (ns.map AV.int)] [] = .ok (.bl true) []) : PySem.W.WalkO q loose XP YP l.row.toRowW d [] (fun f vs => PySem.call f vs) := by
  refine Att.attach_call hn hdf fun w s₀ s₁ mg mb fa o pm cd doc a vs ns G Y ho hd hcd hmg hobj hints hlen hg => ?_
  have KX := hY w _ Y
  have own : ∀ x ∈ ls, ∀ fx, mg x = some (.ref fx) → TabE (K w.params) fx s₁.heap := fun x hx fx hfx c P o1 fd1 e dd vs1 sl k1 k2 k3 k4 k5 => by
    obtain ⟨dL, hm, hn1⟩ := List.any_eq_true.mp (List.all_eq_true.mp hrec x hx)
    have hn2 : dL.name = x := beq_iff_eq.mp hn1
    obtain ⟨a', o', fd', c', P', h1, h2, h3, h4, h5, h6⟩ := G.T.tab dL hm
    rw [hn2, hfx] at h1
    cases h1
    rw [KX _ _ k1] at h2
    cases h2
    rw [k2] at h3
    cases h3
    rw [k3] at h4
    cases h4
    obtain ⟨⟨oc, vc, e1, _, e3, e4⟩, hP⟩ := h6
    rw [KX _ _ k4] at e1
    cases e1
    cases e3
    rw [k5] at e4
    cases e4
    exact hP
  obtain ⟨fd, cs, cls, fld, oc, T, hb, hF⟩ := F w mg fa _ KX G.T.g hmg own
  have rv := vals_ints hints
  have hsz : ns.length ≤ sizeLine := Nat.le_trans hlen hn2
  have isT : ∀ b, b ∈ cs.map (fun p => p.2.1) → s₁.heap.get? b = some { cls := .none, data := .fields #[] } := fun b hb => by
    obtain ⟨p, hp, e⟩ := List.mem_map.mp hb
    subst e
    exact T.emp p hp
  have aT : a ∉ cs.map (fun p => p.2.1) := fun z => by
    have q := isT a z
    rw [hobj] at q
    cases q
  cases hk : (K w.params).lookup a with
  | some o' =>
    have e := KX a o' hk
    rw [hobj] at e
    cases e
    refine law_go (cs := cs) (oc := oc) (H := fun b => if b ∈ cs.map (fun p => p.2.1) then some (.tbl #[]) else none) ⟨fun b u z => ?_, fun b hm => if_pos hm⟩ (fun b u z => ?_) (fun Γ eK => ⟨a, ns.map V.int, rfl, .inr ?_, RepL.ints ns⟩) KX G.T.g G.T.b G.T.builtins G.T.nolimit hg T G.T.bmain hobj hr hb hF (holds ns hlen)
    · by_cases hm : b ∈ cs.map (fun p => p.2.1)
      · have z' := (if_pos hm).symm.trans z
        cases z'
        exact .inr ⟨hm, rfl⟩
      · have z' := (if_neg hm).symm.trans z
        cases z'
    · by_cases hm : b ∈ cs.map (fun p => p.2.1)
      · have z' := (if_pos hm).symm.trans z
        cases z'
        exact isT b hm
      · have z' := (if_neg hm).symm.trans z
        cases z'
    · rw [eK]
      exact ⟨_, vs.toArray, _, hk, rfl, rfl, rfl, by rw [List.size_toArray, hints.length]; exact hsz, by simpa using rv⟩
  | none =>
    refine law_go (cs := cs) (oc := oc) (H := fun b => if b = a then some (.frz { cls := .type "list", data := .seq vs.toArray } (.lst (ns.map V.int))) else if b ∈ cs.map (fun p => p.2.1) then some (.tbl #[]) else none) ⟨fun b u z => ?_, fun b hm => (if_neg (fun e : b = a => aT (e ▸ hm))).trans (if_pos hm)⟩ (fun b u z => ?_)
      (fun Γ eK => ⟨a, ns.map V.int, rfl, .inl ⟨⟨?_, aT⟩, _, if_pos rfl⟩, RepL.ints ns⟩) KX G.T.g G.T.b G.T.builtins G.T.nolimit hg T G.T.bmain hobj hr hb hF (holds ns hlen)
    · by_cases h : b = a
      · have z' := (if_pos h).symm.trans z
        exact .inl ⟨h, ⟨_, (Option.some.inj z').symm⟩, hk, h ▸ aT⟩
      · have z1 := (if_neg h).symm.trans z
        by_cases hm : b ∈ cs.map (fun p => p.2.1)
        · have z' := (if_pos hm).symm.trans z1
          cases z'
          exact .inr ⟨hm, rfl⟩
        · have z' := (if_neg hm).symm.trans z1
          cases z'
    · by_cases h : b = a
      · have z' := (if_pos h).symm.trans z
        have ez := Option.some.inj z'
        subst ez
        subst h
        exact ⟨hobj, by rw [List.length_map]; exact hsz, vs, _, rv, hobj⟩
      · have z1 := (if_neg h).symm.trans z
        by_cases hm : b ∈ cs.map (fun p => p.2.1)
        · have z' := (if_pos hm).symm.trans z1
          cases z'
          exact isT b hm
        · have z' := (if_neg hm).symm.trans z1
          cases z'
    · show (if a = a then _ else _) ≠ none
      rw [if_pos rfl]
      intro z
      cases z
end

/-! ### what the head tells -/
structure FnFc (K : PySem.W.Frag) (x : Str) (st : Stmt) (cd : Value) : Prop where
  ex : ∃ (f : Addr) (oc : Value) (od : Option Addr) (kV doc pm : Value) (an : Option Addr) (ct : Value) (sl : Array (Option Value)), PySem.W.nsIn K mainGlobals x = some (some (.ref f)) ∧
    K.lookup f = some ⟨oc, od, .func (PySem.W.fnOf x x (defArgs st) (defBody st) (defScope st) .none kV doc pm an cd ct), sl⟩ ∧ PySem.W.codeIn K cd x = true ∧ PySem.W.keepIn K (.ref f) = true
def FnF (K : PySem.W.Frag) (x : Str) (st : Stmt) : Prop := ∃ cd, FnFc K x st cd
theorem fnF_mk {K : PySem.W.Frag} {x : Str} {st : Stmt} {f : Addr} {oc : Value} {od : Option Addr} {kV doc pm : Value} {an : Option Addr} {cd ct : Value} {sl : Array (Option Value)} (a : PySem.W.nsIn K mainGlobals x = some (some (.ref f)))
    (l : K.lookup f = some ⟨oc, od, .func (PySem.W.fnOf x x (defArgs st) (defBody st) (defScope st) .none kV doc pm an cd ct), sl⟩) (c : PySem.W.codeIn K cd x = true) (k : PySem.W.keepIn K (.ref f) = true) : FnFc K x st cd := ⟨f, oc, od, kV, doc, pm, an, ct, sl, a, l, c, k⟩
/-- a def's code object and its table -/
structure CodeK (K : PySem.W.Frag) (c P : Addr) : Prop where
  ex : ∃ (dd : Option Addr) (vs : Array Value) (sl : Array (Option Value)) (file : Str) (tf : Tok) (flags : Int) (tg : Tok) (inF : Bool) (text : Int) (tt : Tok), K.lookup c = some ⟨.type "code", dd, .fields vs, sl⟩ ∧ vs[11]? = some (.ref P) ∧ vs.getD 11 .none = .ref P ∧ vs.getD 18 .none = .str file tf ∧
    vs.getD 7 .none = .int flags tg ∧ vs.getD 9 .none = .bool inF ∧ vs.getD 10 .none = .int text tt ∧ c ≠ P ∧ K.lookup P = none
theorem codeK_mk {K : PySem.W.Frag} {c P : Addr} {dd : Option Addr} {vs : Array Value} {sl : Array (Option Value)} {file : Str} {tf : Tok} {flags : Int} {tg : Tok} {inF : Bool} {text : Int} {tt : Tok} (a : K.lookup c = some ⟨.type "code", dd, .fields vs, sl⟩) (h1 : vs[11]? = some (.ref P)) (h2 : vs.getD 11 .none = .ref P) (h3 : vs.getD 18 .none = .str file tf)
    (h4 : vs.getD 7 .none = .int flags tg) (h5 : vs.getD 9 .none = .bool inF) (h6 : vs.getD 10 .none = .int text tt) (h7 : c ≠ P) (h8 : K.lookup P = none) : CodeK K c P := ⟨dd, vs, sl, file, tf, flags, tg, inF, text, tt, a, h1, h2, h3, h4, h5, h6, h7, h8⟩
/-- the classes of errors at Cs: who catches whom -/
def catB (K : PySem.W.Frag) (Cs : List Addr) (xs : List ExS) : Bool := (List.range xs.length).all fun i => (List.range xs.length).all fun j => match Cs[i]?, xs[i]?, Cs[j]? with
  | some C, some e, some C' => PySem.W.exmOne K (.ref C) (.ref C') == some (e.sup.contains j)
  | _, _, _ => false
def ocC (cl : List ClsS) (mg : Str → Option Value) (c : Nat) : Addr × List Str := match cl[c]? with
  | some e => match mg e.name with
    | some (.ref C) => (C, e.attrs)
    | _ => (0, [])
  | none => (0, [])
structure Base (Γ : Cfg) (cs : List (Addr × Addr × Str)) (Cs : List Addr) (xs : List ExS) (fs : List (Str × Nat × Nat)) (cl : List ClsS) : Prop where
  oc2 : ∀ c : Nat, c < cl.length → Γ.oc c = ocC cl Γ.mg c
  oc : ∀ i : Nat, Γ.oc (1000000 + i) = ocF fs Γ.mg i
  kin : Γ.K.In Γ.base
  ns : Γ.base.Ns mainGlobals Γ.mg
  x0 : Γ.x = none
  T : Γ.T = cs.map (·.2)
  tb : ∀ p ∈ cs, LamX.TabB Γ.base Γ.mg p.1 p.2.1
  cls : ∀ i : Nat, Γ.cls i = .ref (Cs.getD i 0)
  fld : ∀ i : Nat, Γ.fld i = ((xs[i]?).bind (·.kp)).getD (Str.ofString "")
def Ent (Γ : Cfg) (k : Nat) (x : Str) (n : Nat) (g : List AV → AH → Out AV) : Prop := ∃ (f : Addr) (fd : FuncData) (ps : List Str), Γ.mg x = some (.ref f) ∧ PySem.W.keepIn Γ.K (.ref f) = true ∧ Binds Γ.K fd ps [] ∧ FnG Γ.P Γ.w Γ.K Γ.mg Γ.base (L2.CX Γ.P Γ.w) k f fd ps (spOf Γ n g)
def BindOk (x : Str) (st : Stmt) (ps : List Str) : Prop := ∀ (kV doc pm : Value) (an : Option Addr) (cdv ct : Value) (us : List Value), us.length = ps.length → bindArgs (PySem.W.fnOf x x (defArgs st) (defBody st) (defScope st) .none kV doc pm an cdv ct) ⟨us, []⟩ = pure (ps.zip us)
section
variable {Γ : Cfg} {S : Stat} {G : GT} {k : Nat} {x : Str} {st : Stmt} {cs : List (Addr × Addr × Str)} {Cs : List Addr} {xs : List ExS} {fs : List (Str × Nat × Nat)} {cl : List ClsS}
def LamIn (cs : List (Addr × Addr × Str)) (x : Str) (c P : Addr) : Prop := (c, P, (x ++ ".<locals>.") ++ "<lambda>") ∈ cs ∧ ∀ p ∈ cs, p.2.1 = P → p.2.2 = (x ++ ".<locals>.") ++ "<lambda>"
theorem ent_s {N ps : List Str} {rc : Bool} {b : EvS} (B : Base Γ cs Cs xs fs cl) (F : FnF Γ.K x st) (sc : FnScope N ps (defScope st)) (hb : SSs S (lcOf N (defScope st)) (defBody st) b) (bind : BindOk x st ps) (so : StatOk Γ S G k) (hlen : ps.length ≤ N.length) :
    Ent Γ (k + 1) x ps.length (runDef rc N.length b G) := by
  obtain ⟨cd, F⟩ := F
  obtain ⟨f, oc, od, kV, doc, pm, an, ct, sl, a, l, c, kp⟩ := F.ex
  have Fu := fun_mk (st := st) l c kp
  exact ⟨f, _, ps, PySem.W.mg_of B.kin B.ns a, kp, Fu.binds bind, fn_g Fu sc hb so hlen B.x0 fun z => absurd z (show ¬ false = true by decide)⟩
/-- a def with lambdas -/
theorem ent_l {N ps : List Str} {rc : Bool} {b : EvS} {c P : Addr} (B : Base Γ cs Cs xs fs cl) (F : FnFc Γ.K x st (.ref c)) (hT : LamIn cs x c P) (sc : FnScope N ps (defScope st)) (hb : SSs S (lcG true N (defScope st)) (defBody st) b) (bind : BindOk x st ps) (so : StatOk Γ S G k) (hlen : ps.length ≤ N.length) :
    Ent Γ (k + 1) x ps.length (runDef rc N.length b G) := by
  obtain ⟨f, oc, od, kV, doc, pm, an, ct, sl, a, l, cI, kp⟩ := F.ex
  have Fu := fun_mk (st := st) l cI kp
  refine ⟨f, _, ps, PySem.W.mg_of B.kin B.ns a, kp, Fu.binds bind, fn_g Fu sc hb so hlen B.x0 fun _ => ⟨c, P, B.tb _ hT.1, rfl, ?_, fun p hp e => ?_⟩⟩
  · rw [B.T]
    exact List.mem_map.mpr ⟨_, hT.1, rfl⟩
  · rw [B.T] at hp
    obtain ⟨q, hq, e2⟩ := List.mem_map.mp hp
    subst e2
    exact hT.2 q hq e
theorem ent_0 {ps : List Str} {n : Nat} (B : Base Γ cs Cs xs fs cl) (F : FnF Γ.K x st) (bind : BindOk x st ps) (hn : n = ps.length) : Ent Γ 0 x n (fun _ _ => .bad) := by
  obtain ⟨cd, F⟩ := F
  obtain ⟨f, oc, od, kV, doc, pm, an, ct, sl, a, l, c, kp⟩ := F.ex
  have Fu := fun_mk (st := st) l c kp
  refine ⟨f, _, ps, PySem.W.mg_of B.kin B.ns a, kp, Fu.binds bind, fun vs H Q E h => h.1.trans hn, fun A outer s H args us vs Q E hgd hr e0 hbt r hsp => ?_⟩
  obtain ⟨_, D, h, as, _, _, _, _, o⟩ := hsp
  exact o.elim
theorem ho_of {a : Str} (B : Base Γ cs Cs xs fs cl) (F : FnF Γ.K x st) (bind : BindOk x st [a]) : ∃ (f : Addr) (fd : FuncData), Γ.mg x = some (.ref f) ∧ Fun Γ.K x x st f fd ∧ Binds Γ.K fd [a] [] := by
  obtain ⟨cd, F⟩ := F
  obtain ⟨f, oc, od, kV, doc, pm, an, ct, sl, q, l, c, kp⟩ := F.ex
  have Fu := fun_mk (st := st) l c kp
  exact ⟨f, _, PySem.W.mg_of B.kin B.ns q, Fu, Fu.binds bind⟩
theorem mem_lookup' {β : Type} {x : Str} {v : β} : ∀ {l : List (Str × β)}, l.lookup x = some v → (x, v) ∈ l
  | [], h => by cases h
  | (y, w) :: l, h => by
    rw [List.lookup_cons] at h
    cases e : x == y with
    | true =>
      rw [e] at h
      have e1 := beq_iff_eq.mp e
      have e2 : w = v := Option.some.inj h
      rw [e1, e2]
      exact List.mem_cons_self
    | false =>
      rw [e] at h
      exact List.mem_cons_of_mem _ (mem_lookup' h)
theorem cat_of (B : Base Γ cs Cs xs fs cl) (h : catB Γ.K Cs xs = true) : ∀ (i j : Nat) (e f : ExS), xs[i]? = some e → xs[j]? = some f → PySem.W.exmOne Γ.K (Γ.cls i) (Γ.cls j) = some (e.sup.contains j) := by
  intro i j e f hi hj
  have li : i < xs.length := (List.getElem?_eq_some_iff.mp hi).1
  have lj : j < xs.length := (List.getElem?_eq_some_iff.mp hj).1
  have h1 := List.all_eq_true.mp (List.all_eq_true.mp h i (List.mem_range.mpr li)) j (List.mem_range.mpr lj)
  rw [B.cls, B.cls]
  cases h2 : Cs[i]? with
  | none => rw [h2] at h1; cases h1
  | some C =>
    cases h3 : Cs[j]? with
    | none => rw [h2, hi, h3] at h1; cases h1
    | some C' =>
      rw [h2, hi, h3] at h1
      have := beq_iff_eq.mp h1
      rw [List.getD_eq_getElem?_getD, List.getD_eq_getElem?_getD, h2, h3]
      exact this
/-- the classes, one after the other -/
def ExAll (Γ : Cfg) : Nat → List ExS → Prop
  | _, [] => True
  | i, e :: r => ExOk Γ i e ∧ ExAll Γ (i + 1) r
theorem ExAll.get : ∀ {xs : List ExS} {n : Nat}, ExAll Γ n xs → ∀ (i : Nat) (e : ExS), xs[i]? = some e → ExOk Γ (n + i) e
  | [], _, _, _, _, h => by simp at h
  | x :: xs, n, a, 0, e, h => by
    have : x = e := by simpa using h
    subst this
    exact a.1
  | x :: xs, n, a, i + 1, e, h => by
    have := ExAll.get a.2 i e (by simpa using h)
    rwa [Nat.add_assoc, Nat.add_comm 1 i] at this
theorem ex_plain {e : ExS} {i : Nat} {C : Addr} {B newId initId : String} {bm : List Value} (B0 : Base Γ cs Cs xs fs cl) (hC : Cs.getD i 0 = C) (hk : e.kp = none) (a : PySem.W.nsIn Γ.K mainGlobals e.name = some (some (.ref C))) (F : ExcBaseFacts B newId initId bm) (q : PySem.W.excIn Γ.K C bm newId = true)
    (kp : PySem.W.keepIn Γ.K (.ref C) = true) (sub : PySem.W.subIn Γ.K (.ref C) (.type "BaseException") = some true) (ty : PySem.W.typeIn Γ.K (.ref C) = some (.type "type")) : ExOk Γ i e := by
  refine ⟨C, PySem.W.mg_of B0.kin B0.ns a, by rw [B0.cls, hC], ?_⟩
  rw [hk]
  exact ⟨⟨B, newId, initId, bm, F, q⟩, kp, sub, ty⟩
/-- a class with an __init__ of one statement -/
structure KpF (K : PySem.W.Frag) (e : ExS) (C : Addr) (f g : Str) : Prop where
  a : PySem.W.nsIn K mainGlobals e.name = some (some (.ref C))
  kc : Px.KeepC K C f
  ini : ∃ (fI : Addr) (qual : Str) (pa : Arguments) (bd : List Stmt) (sg : Scope) (kV doc pm : Value) (an : Option Addr) (cdv ct oc : Value) (od : Option Addr) (osl : Array (Option Value)) (p1 p2 p3 p4 : Pos), PySem.W.findIn K (.ref C) "__init__" = some (some (.ref fI)) ∧ PySem.W.typeIn K (.ref fI) = some (.type "function") ∧
    K.lookup fI = some ⟨oc, od, .func (PySem.W.fnOf "__init__" qual pa bd sg .none kV doc pm an cdv ct), osl⟩ ∧ PySem.W.codeIn K cdv qual = true ∧ FnScope ["self", g] ["self", g] sg ∧ bd = [.Assign [.Attribute (.Name "self" p1) f p2] (.Name g p3) p4] ∧
    ∀ us : List Value, us.length = 2 → bindArgs (PySem.W.fnOf "__init__" qual pa bd sg .none kV doc pm an cdv ct) ⟨us, []⟩ = pure ((["self", g] : List Str).zip us)
  g1 : (g == ("__debug__" : Str)) = false
  g2 : (g == ("__classdict__" : Str)) = false
  xf : xfB K C = true
  no : PySem.W.findIn K (.ref C) f = some none
theorem ex_kept {e : ExS} {i : Nat} {C : Addr} {f g : Str} (B0 : Base Γ cs Cs xs fs cl) (hC : Cs.getD i 0 = C) (hx : xs[i]? = some e) (hk : e.kp = some f) (F : KpF Γ.K e C f g) : ExOk Γ i e := by
  obtain ⟨fI, qual, pa, bd, sg, kV, doc, pm, an, cdv, ct, oc, od, osl, p1, p2, p3, p4, i1, i2, lk, hcd, sc, hb, bind⟩ := F.ini
  refine ⟨C, PySem.W.mg_of B0.kin B0.ns F.a, by rw [B0.cls, hC], ?_⟩
  rw [hk]
  refine ⟨by rw [B0.fld, hx]; show (e.kp).getD _ = f; rw [hk]; rfl, F.kc, ⟨g, fI, _, i1, i2, Px.fn_keep lk hcd sc hb F.kc F.g1 F.g2, fun s us k l => ?_⟩, xfB_ok F.xf, F.no⟩
  rw [List.append_nil] at l ⊢
  exact .of_eq (bind us l)
/-! own classes -/
def BindQ (x qual : Str) (st : Stmt) (ps : List Str) : Prop := ∀ (kV doc pm : Value) (an : Option Addr) (cdv ct : Value) (us : List Value), us.length = ps.length → bindArgs (PySem.W.fnOf x qual (defArgs st) (defBody st) (defScope st) .none kV doc pm an cdv ct) ⟨us, []⟩ = pure (ps.zip us)
def ClAll (Γ : Cfg) (S : Stat) (G : GT) (k : Nat) : Nat → List ClsS → Prop
  | _, [] => True
  | i, e :: r => ClOk Γ S G k i e ∧ ClAll Γ S G k (i + 1) r
theorem ClAll.get : ∀ {xs : List ClsS} {n : Nat}, ClAll Γ S G k n xs → ∀ (i : Nat) (e : ClsS), xs[i]? = some e → ClOk Γ S G k (n + i) e
  | [], _, _, _, _, h => by simp at h
  | x :: xs, n, a, 0, e, h => by
    have : x = e := by simpa using h
    subst this
    exact a.1
  | x :: xs, n, a, i + 1, e, h => by
    have := ClAll.get a.2 i e (by simpa using h)
    rwa [Nat.add_assoc, Nat.add_comm 1 i] at this
/-- what the head tells of a method -/
structure MtF (K : PySem.W.Frag) (C : Addr) (m qual : Str) (st : Stmt) : Prop where
  ex : ∃ (f : Addr) (oc : Value) (od : Option Addr) (kV doc pm : Value) (an : Option Addr) (cd ct : Value) (sl : Array (Option Value)), PySem.W.findIn K (.ref C) m = some (some (.ref f)) ∧ PySem.W.isFn K (.ref f) = true ∧ PySem.W.keepIn K (.ref f) = true ∧
    K.lookup f = some ⟨oc, od, .func (PySem.W.fnOf m qual (defArgs st) (defBody st) (defScope st) .none kV doc pm an cd ct), sl⟩ ∧ PySem.W.codeIn K cd qual = true
theorem mtF_mk {K : PySem.W.Frag} {C : Addr} {m qual : Str} {st : Stmt} {f : Addr} {oc : Value} {od : Option Addr} {kV doc pm : Value} {an : Option Addr} {cd ct : Value} {sl : Array (Option Value)} (a : PySem.W.findIn K (.ref C) m = some (some (.ref f))) (b : PySem.W.isFn K (.ref f) = true) (k : PySem.W.keepIn K (.ref f) = true)
    (l : K.lookup f = some ⟨oc, od, .func (PySem.W.fnOf m qual (defArgs st) (defBody st) (defScope st) .none kV doc pm an cd ct), sl⟩) (c : PySem.W.codeIn K cd qual = true) : MtF K C m qual st := ⟨f, oc, od, kV, doc, pm, an, cd, ct, sl, a, b, k, l, c⟩
/-- .. of a property -/
structure PrF (K : PySem.W.Frag) (C : Addr) (m qual : Str) (st : Stmt) : Prop where
  ex : ∃ (p f : Addr) (oc : Value) (od : Option Addr) (kV doc pm : Value) (an : Option Addr) (cd ct : Value) (sl : Array (Option Value)), PropOf K C m p f ∧ PySem.W.keepIn K (.ref f) = true ∧
    K.lookup f = some ⟨oc, od, .func (PySem.W.fnOf m qual (defArgs st) (defBody st) (defScope st) .none kV doc pm an cd ct), sl⟩ ∧ PySem.W.codeIn K cd qual = true
theorem prF_mk {K : PySem.W.Frag} {C : Addr} {m qual : Str} {st : Stmt} {p f : Addr} {rest : List Value} {oc : Value} {od : Option Addr} {kV doc pm : Value} {an : Option Addr} {cd ct : Value} {sl : Array (Option Value)} (a : PySem.W.findIn K (.ref C) m = some (some (.ref p))) (b : PySem.W.specialIn K (.ref p) "__get__" = some (some (.builtin "property.__get__"))) (t : PySem.W.takesIn K (.ref p) = some true)
    (r : PySem.W.recIn K p "property" = some (.ref f :: rest)) (kg : PySem.W.keepIn K (.ref f) = true) (l : K.lookup f = some ⟨oc, od, .func (PySem.W.fnOf m qual (defArgs st) (defBody st) (defScope st) .none kV doc pm an cd ct), sl⟩) (c : PySem.W.codeIn K cd qual = true) : PrF K C m qual st := ⟨p, f, oc, od, kV, doc, pm, an, cd, ct, sl, ⟨a, b, t, ⟨rest, r⟩⟩, kg, l, c⟩
/-- .. of the class itself -/
def clB (K : PySem.W.Frag) (C : Addr) : Bool := PySem.W.plainGet K C Str.empty && PySem.W.hasDictIn K C && PySem.W.plainOver K C && (PySem.W.takesIn K (.builtin "object.__class__") == some true) && (PySem.W.mroIn K C (.type "object") == some true) && PySem.W.makesIn K C &&
  (clTys.all fun T => (PySem.W.kitOne K (.ref C) (.type T) == some false) && (PySem.W.kitOne K (.type T) (.ref C) == some false)) && (PySem.W.kitOne K (.type "NoneType") (.ref C) == some false)
def ktC (K : PySem.W.Frag) (Cc : List Addr) : Bool := (List.range Cc.length).all fun i => (List.range Cc.length).all fun j => match Cc[i]?, Cc[j]? with
  | some C, some C' => PySem.W.kitOne K (.ref C) (.ref C') == some (decide (i = j))
  | _, _ => false
structure ClF (K : PySem.W.Frag) (e : ClsS) (C : Addr) : Prop where
  a : PySem.W.nsIn K mainGlobals e.name = some (some (.ref C))
  b : clB K C = true
  kp : PySem.W.keepIn K (.ref C) = true
  sa : PySem.W.findIn K (.ref C) "__setattr__" = some (some (.builtin "object.__setattr__"))
  t1 : PySem.W.findIn K (.ref C) "__class__" = some (some (.builtin "object.__class__"))
  t2 : PySem.W.specialIn K (.builtin "object.__class__") "__get__" = some (some (.builtin "getset_descriptor.__get__"))
  na : ∀ f, f ∈ e.attrs → PySem.W.findIn K (.ref C) f = some none
  nd : e.attrs.Nodup ∧ e.attrs.length < 900
theorem ClF.kk {K : PySem.W.Frag} {e : ClsS} {C : Addr} (F : ClF K e C) : ClsK K e C ∧ PySem.W.makesIn K C = true := by
  have h := F.b
  unfold clB at h
  simp only [Bool.and_eq_true, beq_iff_eq] at h
  obtain ⟨⟨⟨⟨⟨⟨⟨h1, h2⟩, h3⟩, h4⟩, h5⟩, h6⟩, h7⟩, h8⟩ := h
  refine ⟨⟨⟨h1, h2, h3, F.sa⟩, F.t1, F.t2, h4, h5, F.na, F.nd, fun T hT => ?_, h8⟩, h6⟩
  have := List.all_eq_true.mp h7 T hT
  simpa only [Bool.and_eq_true, beq_iff_eq] using this
def MtEnt (Γ : Cfg) (k : Nat) (C : Addr) (m : Str) (n : Nat) (g : List AV → AH → Out AV) : Prop := ∃ (f : Addr) (fd : FuncData) (ps : List Str), Meth Γ.K C m f ∧ Binds Γ.K fd ps [] ∧ FnG Γ.P Γ.w Γ.K Γ.mg Γ.base (L2.CX Γ.P Γ.w) k f fd ps (spOf Γ n g)
def PrEnt (Γ : Cfg) (k : Nat) (C : Addr) (m : Str) (g : List AV → AH → Out AV) : Prop := ∃ (p f : Addr) (fd : FuncData) (ps : List Str), PropOf Γ.K C m p f ∧ Binds Γ.K fd ps [] ∧ FnG Γ.P Γ.w Γ.K Γ.mg Γ.base (L2.CX Γ.P Γ.w) k f fd ps (spOf Γ 1 g)
theorem bad_g {n : Nat} {f : Addr} {fd : FuncData} {ps : List Str} (hn : n = ps.length) : FnG Γ.P Γ.w Γ.K Γ.mg Γ.base (L2.CX Γ.P Γ.w) 0 f fd ps (spOf Γ n fun _ _ => .bad) := by
  refine ⟨fun vs H Q E h => h.1.trans hn, fun A outer s H args us vs Q E hgd hr e0 hbt r hsp => ?_⟩
  obtain ⟨_, D, h, as, _, _, _, _, o⟩ := hsp
  exact o.elim
theorem binds_q {m qual : Str} {f : Addr} {fd : FuncData} {ps : List Str} (Fu : Fun Γ.K m qual st f fd) (bind : BindQ m qual st ps) : Binds Γ.K fd ps [] := by
  obtain ⟨oc, od, kV, doc, pm, an, cdv, ct, osl, rfl, lk, hcd⟩ := Fu.ex
  intro s us hk hl
  rw [List.append_nil] at hl ⊢
  exact .of_eq (bind kV doc pm an cdv ct us hl)
theorem mt_s {C : Addr} {m qual : Str} {N ps : List Str} {rc : Bool} {b : EvS} (B : Base Γ cs Cs xs fs cl) (F : MtF Γ.K C m qual st) (sc : FnScope N ps (defScope st)) (hb : SSs S (lcOf N (defScope st)) (defBody st) b) (bind : BindQ m qual st ps) (so : StatOk Γ S G k) (hlen : ps.length ≤ N.length) : MtEnt Γ (k + 1) C m ps.length (runDef rc N.length b G) := by
  obtain ⟨f, oc, od, kV, doc, pm, an, cd, ct, sl, a, b1, b2, l, c⟩ := F.ex
  have Fu : Fun Γ.K m qual st f _ := ⟨⟨oc, od, kV, doc, pm, an, cd, ct, sl, rfl, l, c⟩, b2⟩
  exact ⟨f, _, ps, ⟨a, b1, b2⟩, binds_q Fu bind, fn_g Fu sc hb so hlen B.x0 fun z => absurd z (show ¬ false = true by decide)⟩
theorem mt_0 {C : Addr} {m qual : Str} {ps : List Str} {n : Nat} (F : MtF Γ.K C m qual st) (bind : BindQ m qual st ps) (hn : n = ps.length) : MtEnt Γ 0 C m n (fun _ _ => .bad) := by
  obtain ⟨f, oc, od, kV, doc, pm, an, cd, ct, sl, a, b1, b2, l, c⟩ := F.ex
  have Fu : Fun Γ.K m qual st f _ := ⟨⟨oc, od, kV, doc, pm, an, cd, ct, sl, rfl, l, c⟩, b2⟩
  exact ⟨f, _, ps, ⟨a, b1, b2⟩, binds_q Fu bind, bad_g hn⟩
theorem pr_s {C : Addr} {m qual : Str} {N ps : List Str} {rc : Bool} {b : EvS} (B : Base Γ cs Cs xs fs cl) (F : PrF Γ.K C m qual st) (sc : FnScope N ps (defScope st)) (hb : SSs S (lcOf N (defScope st)) (defBody st) b) (bind : BindQ m qual st ps) (so : StatOk Γ S G k) (hlen : ps.length ≤ N.length) (h1 : ps.length = 1) : PrEnt Γ (k + 1) C m (runDef rc N.length b G) := by
  obtain ⟨p, f, oc, od, kV, doc, pm, an, cd, ct, sl, a, b2, l, c⟩ := F.ex
  have Fu : Fun Γ.K m qual st f _ := ⟨⟨oc, od, kV, doc, pm, an, cd, ct, sl, rfl, l, c⟩, b2⟩
  have g := fn_g (rc := rc) Fu sc hb so hlen B.x0 fun z => absurd z (show ¬ false = true by decide)
  rw [h1] at g
  exact ⟨p, f, _, ps, a, binds_q Fu bind, g⟩
theorem pr_0 {C : Addr} {m qual : Str} {ps : List Str} (F : PrF Γ.K C m qual st) (bind : BindQ m qual st ps) (hn : 1 = ps.length) : PrEnt Γ 0 C m (fun _ _ => .bad) := by
  obtain ⟨p, f, oc, od, kV, doc, pm, an, cd, ct, sl, a, b2, l, c⟩ := F.ex
  have Fu : Fun Γ.K m qual st f _ := ⟨⟨oc, od, kV, doc, pm, an, cd, ct, sl, rfl, l, c⟩, b2⟩
  exact ⟨p, f, _, ps, a, binds_q Fu bind, bad_g hn⟩
theorem cl_of {Cc : List Addr} {c : Nat} {e : ClsS} {C : Addr} (B : Base Γ cs Cs S.exs S.fns S.cl) (hc : S.cl[c]? = some e) (F : ClF Γ.K e C) (mk : MtEnt Γ k C "__init__" e.init.2 (G e.init.1)) (pr : ∀ p ∈ e.props, PrEnt Γ k C p.1 (G p.2)) (me : ∀ p ∈ e.meths, MtEnt Γ k C p.1 p.2.2 (G p.2.1)) (kt : ktC Γ.K Cc = true) (hCc : Cc[c]? = some C)
    (hl : Cc.length = S.cl.length) (names : ∀ (i : Nat) (e' : ClsS) (C' : Addr), S.cl[i]? = some e' → Cc[i]? = some C' → PySem.W.nsIn Γ.K mainGlobals e'.name = some (some (.ref C'))) : ClOk Γ S G k c e := by
  have at_ : ∀ (i : Nat) (e' : ClsS) (C' : Addr), S.cl[i]? = some e' → Cc[i]? = some C' → Γ.oc i = (C', e'.attrs) := fun i e' C' h1 h2 => by
    have lt : i < S.cl.length := (List.getElem?_eq_some_iff.mp h1).1
    rw [B.oc2 i lt]
    unfold ocC
    rw [h1]
    simp only
    rw [PySem.W.mg_of B.kin B.ns (names i e' C' h1 h2)]
  have me0 := at_ c e C hc hCc
  obtain ⟨kk, mks⟩ := F.kk
  refine ⟨?_, by rw [me0], by rw [me0]; exact kk, ?_, fun a i h => ?_, fun m i n h => ?_, fun c' e' h => ?_⟩
  · rw [me0]; exact PySem.W.mg_of B.kin B.ns F.a
  · obtain ⟨f, fd, ps, m1, b1, g1⟩ := mk
    rw [me0]
    exact ⟨f, fd, ps, ⟨mks, m1.at_, m1.fn, F.kp⟩, b1, g1⟩
  · rw [me0]
    exact pr _ (mem_lookup' h)
  · rw [me0]
    exact me _ (mem_lookup' h)
  · have lt' : c' < Cc.length := by rw [hl]; exact (List.getElem?_eq_some_iff.mp h).1
    have lt : c < Cc.length := (List.getElem?_eq_some_iff.mp hCc).1
    have h2 := List.getElem?_eq_getElem lt'
    rw [me0, at_ c' e' _ h h2]
    have := List.all_eq_true.mp (List.all_eq_true.mp kt c (List.mem_range.mpr lt)) c' (List.mem_range.mpr lt')
    rw [hCc, h2] at this
    exact beq_iff_eq.mp this
/-- the n-th statement of a class's body -/
def methAt (st : Stmt) (j : Nat) : Stmt := match st with
  | .ClassDef _ _ _ body _ _ _ _ _ _ _ => body.getD j (.Pass ⟨0, 0, 0, 0⟩)
  | _ => .Pass ⟨0, 0, 0, 0⟩
theorem statB_mk (B : Base Γ cs Cs S.exs S.fns S.cl) (fn : ∀ p ∈ S.fns, Ent Γ k p.1 p.2.2 (G p.2.1)) (const : ∀ p ∈ S.consts, ∃ (V : V) (u : Value), Γ.mg p.1 = some u ∧ RelV V u ∧ ∀ D, Rep Γ.K D p.2 V) (free : ∀ x ∈ S.free, Γ.mg x = none) (gcd : ∀ x, x ∈ S.gcds → Γ.mg x = some (.builtin "math.gcd"))
    (ex : ExAll Γ 0 S.exs) (cat : catB Γ.K Cs S.exs = true) (tick : ∀ h v h', G ixTick [] h = .ok v h' → 2 ≤ k) (ho : ∀ p ∈ S.hos, ∃ (f : Addr) (fd : FuncData), Γ.mg p.1 = some (.ref f) ∧ Fun Γ.K p.1 p.1 p.2.1 f fd ∧ Binds Γ.K fd [p.2.2] []) (cls : ClAll Γ S G k 0 S.cl) : StatB Γ S G k :=
  ⟨fun x i n h => fn _ (mem_lookup' h), fun x v h => const _ (mem_lookup' h), fun x h => free x h, gcd, fun i e h => by have := ex.get i e h; rwa [Nat.zero_add] at this, cat_of B cat, tick, fun x st a h => ho _ (mem_lookup' h), B.oc, fun c e h => by have := cls.get c e h; rwa [Nat.zero_add] at this⟩
theorem statOk_succ {G' : GT} (hd : dnG 1 G' = G) (b : StatB Γ S G' (k + 1)) (o : StatOk Γ S G k) : StatOk Γ S G' (k + 1) := by
  refine { toStatB := b, low := fun j h1 hj => ?_ }
  by_cases h2 : j = 1
  · subst h2
    rw [hd]
    exact o.toStatB
  · have e : dnG j G' = dnG (j - 1) G := by
      rw [← hd, dnG_dnG, Nat.sub_add_cancel h1]
    rw [e, show k + 1 - j = k - (j - 1) by omega]
    exact o.low (j - 1) (by omega) (by omega)
theorem statOk_zero (b : StatB Γ S G 0) : StatOk Γ S G 0 := { toStatB := b, low := fun j h1 h2 => absurd h1 (by omega) }
theorem const_int {x : Str} {i : Int} {t : Tok} (B : Base Γ cs Cs xs fs cl) (a : PySem.W.nsIn Γ.K mainGlobals x = some (some (.int i t))) : ∃ (V : V) (u : Value), Γ.mg x = some u ∧ RelV V u ∧ ∀ D, Rep Γ.K D (.int i) V :=
  ⟨.int i, _, PySem.W.mg_of B.kin B.ns a, ⟨t, rfl⟩, fun _ => rfl⟩
/-- a constant that is a tuple -/
structure TupC (K : PySem.W.Frag) (x : Str) (vs : List V) : Prop where
  ex : ∃ (a : Addr) (dd : Option Addr) (its : Array Value) (n : Nat) (sl : Array (Option Value)), PySem.W.nsIn K mainGlobals x = some (some (.ref a)) ∧ K.lookup a = some ⟨.type "tuple", dd, .seq its n, sl⟩ ∧ its.size ≤ sizeLine ∧ Vals vs its.toList
theorem tupC_mk {K : PySem.W.Frag} {x : Str} {vs : List V} {a : Addr} {dd : Option Addr} {its : Array Value} {n : Nat} {sl : Array (Option Value)} (h1 : PySem.W.nsIn K mainGlobals x = some (some (.ref a))) (h2 : K.lookup a = some ⟨.type "tuple", dd, .seq its n, sl⟩) (h3 : its.size ≤ 1000) (h4 : Vals vs its.toList) : TupC K x vs :=
  ⟨a, dd, its, n, sl, h1, h2, by rw [sizeLine_eq]; omega, h4⟩
theorem const_tup {x : Str} {vs : List V} {ys : List AV} (B : Base Γ cs Cs xs fs cl) (h : TupC Γ.K x vs) (r : ∀ D, RepL Γ.K D ys vs) : ∃ (V : V) (u : Value), Γ.mg x = some u ∧ RelV V u ∧ ∀ D, Rep Γ.K D (.tup ys) V := by
  obtain ⟨a, dd, its, n, sl, h1, h2, h3, h4⟩ := h.ex
  exact ⟨.ref a, .ref a, PySem.W.mg_of B.kin B.ns h1, rfl, fun D => ⟨a, vs, rfl, .inr ⟨_, its, n, h2, rfl, rfl, h3, h4⟩, r D⟩⟩
/-- the classes' names -/
def NamesOk (K : PySem.W.Frag) (cl : List ClsS) (Cc : List Addr) : Prop := ∀ (i : Nat) (e' : ClsS) (C' : Addr), cl[i]? = some e' → Cc[i]? = some C' → PySem.W.nsIn K mainGlobals e'.name = some (some (.ref C'))
theorem names_nil {K : PySem.W.Frag} {Cc : List Addr} : NamesOk K [] Cc := fun i e C h => by simp at h
theorem names_cons {K : PySem.W.Frag} {e : ClsS} {C : Addr} {cl : List ClsS} {Cc : List Addr} (h : PySem.W.nsIn K mainGlobals e.name = some (some (.ref C))) (t : NamesOk K cl Cc) : NamesOk K (e :: cl) (C :: Cc) := fun i e' C' h1 h2 => by
  cases i with
  | zero =>
    have q1 : e = e' := by simpa using h1
    have q2 : C = C' := by simpa using h2
    subst q1; subst q2
    exact h
  | succ i => exact t i e' C' (by simpa using h1) (by simpa using h2)
theorem free_of {x : Str} (B : Base Γ cs Cs xs fs cl) (a : PySem.W.nsIn Γ.K mainGlobals x = some none) : Γ.mg x = none := PySem.W.mg_none_of B.kin B.ns a
theorem gcd_of {x : Str} (B : Base Γ cs Cs xs fs cl) (a : PySem.W.nsIn Γ.K mainGlobals x = some (some (.builtin "math.gcd"))) : Γ.mg x = some (.builtin "math.gcd") := PySem.W.mg_of B.kin B.ns a
theorem all_nil {α : Type} {P : α → Prop} : ∀ x ∈ ([] : List α), P x := fun _ h => by cases h
theorem all_cons {α : Type} {P : α → Prop} {a : α} {l : List α} (h : P a) (t : ∀ x ∈ l, P x) : ∀ x ∈ a :: l, P x := fun x hx => by
  rcases List.mem_cons.mp hx with e | e
  · rw [e]; exact h
  · exact t x e
/-- further functions: ticks, and those of a level below -/
def stepX (G : GT) : GT := fun i => if i = ixTick then fun _ h => G (ixTick + 1) [] h else if i = ixTick + 1 then fun _ h => .ok .non h else fun _ _ => .bad
end
theorem tabs_in {K : PySem.W.Frag} {mg : Str → Option Value} {h : Heap} (KX : K.In h) {cs : List (Addr × Addr × Str)} (H : ∀ p ∈ cs, CodeK K p.1 p.2.1 ∧ ∃ (x : Str) (st : Stmt), FnFc K x st (.ref p.1) ∧ ∀ fx, PySem.W.nsIn K mainGlobals x = some (some (.ref fx)) → TabE K fx h) : TabsIn K mg h cs := by
  refine ⟨fun p hp => ?_, fun p hp => ?_, fun p hp => ?_⟩
  · obtain ⟨C, x, st, F, e⟩ := H p hp
    obtain ⟨f, oc, od, kV, doc, pm, an, ct, sl, a, l, c, kp⟩ := F.ex
    obtain ⟨dd, vs, sl2, file, tf, flags, tg, inF, text, tt, l2, v11, _⟩ := C.ex
    exact e f a p.1 p.2.1 _ _ _ dd vs sl2 l rfl rfl l2 v11
  · obtain ⟨C, _⟩ := H p hp
    obtain ⟨dd, vs, sl2, file, tf, flags, tg, inF, text, tt, l2, v11, _, _, _, _, _, _, no⟩ := C.ex
    exact no
  · obtain ⟨C, _⟩ := H p hp
    obtain ⟨dd, vs, sl2, file, tf, flags, tg, inF, text, tt, l2, v11, v11', v18, v7, v9, v10, ne, no⟩ := C.ex
    exact ⟨_, vs, file, tf, flags, tg, inF, text, tt, KX _ _ l2, rfl, rfl, v11, v11', v18, v7, v9, v10, ne⟩
def clsOf' (Cs : List Addr) : Nat → Value := fun i => .ref (Cs.getD i 0)
def ocOf (cl : List ClsS) (fs : List (Str × Nat × Nat)) (mg : Str → Option Value) : Nat → Addr × List Str := fun n => if n < 1000000 then ocC cl mg n else ocF fs mg (n - 1000000)
theorem ocOf_at (cl : List ClsS) (fs : List (Str × Nat × Nat)) (mg : Str → Option Value) (i : Nat) : ocOf cl fs mg (1000000 + i) = ocF fs mg i := by
  unfold ocOf
  rw [if_neg (by omega), Nat.add_sub_cancel_left]
theorem ocOf_cl (cl : List ClsS) (fs : List (Str × Nat × Nat)) (mg : Str → Option Value) (c : Nat) (h : c < 1000000) : ocOf cl fs mg c = ocC cl mg c := by
  unfold ocOf
  rw [if_pos h]
def fldOf' (xs : List ExS) : Nat → Str := fun i => ((xs[i]?).bind (·.kp)).getD (Str.ofString "")
theorem law_f {P : Program} {w : World} {K : PySem.W.Frag} {mg : Str → Option Value} {fa : Addr} {h : Heap} {x p : Str} {st : Stmt} {N : List Str} {b : EvS} {S : Stat} {G : GT} {k : Nat} {cs : List (Addr × Addr × Str)} {Cs : List Addr} {cd : Value} {lam : Bool} (KX : K.In h) (Gn : h.Ns mainGlobals mg) (hmg : mg x = some (.ref fa)) (T : TabsIn K mg h cs)
    (F : FnFc K x st cd) (bind : BindOk x st [p]) (sc : FnScope N [p] (defScope st)) (hb : SSs S (lcG lam N (defScope st)) (defBody st) b) (hN : 1 ≤ N.length) (hlam : lam = true → ∃ c P : Addr, cd = .ref c ∧ LamIn cs x c P) (hcl : S.cl.length < 1000000) (so : ∀ Γ : Cfg, Γ.K = K → Base Γ cs Cs S.exs S.fns S.cl → StatOk Γ S G k) :
    LawG P w K (k + 1) p (runDef false N.length b G) mg fa h := by
  obtain ⟨f, oc, od, kV, doc, pm, an, ct, sl, a, l, c, kp⟩ := F.ex
  have e := hmg.symm.trans (PySem.W.mg_of KX Gn a)
  cases e
  have Fu := fun_mk (st := st) l c kp
  refine ⟨_, cs, clsOf' Cs, fldOf' S.exs, ocOf S.cl S.fns mg, T, fun s u => .of_eq (bind kV doc pm an cd ct [u] rfl), fun base h1 h2 h3 => ?_⟩
  have B : Base ⟨P, w, K, mg, base, clsOf' Cs, fldOf' S.exs, cs.map (·.2), none, ocOf S.cl S.fns mg⟩ cs Cs S.exs S.fns S.cl := ⟨fun c hc => ocOf_cl _ _ _ c (by omega), fun i => ocOf_at _ _ _ i, h1, h2, rfl, rfl, h3, fun _ => rfl, fun _ => rfl⟩
  refine fn_g (Γ := ⟨P, w, K, mg, base, clsOf' Cs, fldOf' S.exs, cs.map (·.2), none, ocOf S.cl S.fns mg⟩) Fu sc hb (so _ rfl B) hN rfl fun hl => ?_
  obtain ⟨c0, P0, ec, hT⟩ := hlam hl
  refine ⟨c0, P0, h3 _ hT.1, ec, List.mem_map.mpr ⟨_, hT.1, rfl⟩, fun p hp e => ?_⟩
  obtain ⟨q, hq, e2⟩ := List.mem_map.mp hp
  subst e2
  exact hT.2 q hq e
/-! ### the built-in bases -/
structure RootF (B newId initId : String) (bm : List Value) : Prop where
  base : ExcBaseFacts B newId initId bm
  store : StoreFacts B bm "object.__setattr__" "object"
abbrev bm_ValueError : List Value := [.type "ValueError", .type "Exception", .type "BaseException", .type "object"]
theorem rt_ValueError : RootF "ValueError" "ValueError.__new__" "ValueError.__init__" bm_ValueError := ⟨F.excBase_ValueError, F.store_ValueError⟩
abbrev bm_IndexError : List Value := [.type "IndexError", .type "LookupError", .type "Exception", .type "BaseException", .type "object"]
theorem rt_IndexError : RootF "IndexError" "IndexError.__new__" "IndexError.__init__" bm_IndexError := ⟨F.excBase_IndexError, F.store_IndexError⟩
abbrev bm_LookupError : List Value := [.type "LookupError", .type "Exception", .type "BaseException", .type "object"]
theorem rt_LookupError : RootF "LookupError" "LookupError.__new__" "LookupError.__init__" bm_LookupError := ⟨F.excBase_LookupError, F.store_LookupError⟩
abbrev bm_OverflowError : List Value := [.type "OverflowError", .type "ArithmeticError", .type "Exception", .type "BaseException", .type "object"]
theorem rt_OverflowError : RootF "OverflowError" "OverflowError.__new__" "OverflowError.__init__" bm_OverflowError := ⟨F.excBase_OverflowError, F.store_OverflowError⟩
abbrev bm_ArithmeticError : List Value := [.type "ArithmeticError", .type "Exception", .type "BaseException", .type "object"]
theorem rt_ArithmeticError : RootF "ArithmeticError" "ArithmeticError.__new__" "ArithmeticError.__init__" bm_ArithmeticError := ⟨F.excBase_ArithmeticError, F.store_ArithmeticError⟩
structure PlF (K : PySem.W.Frag) (x : Str) (C : Addr) (bm : List Value) (newId : String) : Prop where
  a : PySem.W.nsIn K mainGlobals x = some (some (.ref C))
  q : PySem.W.excIn K C bm newId = true
  kp : PySem.W.keepIn K (.ref C) = true
  sub : PySem.W.subIn K (.ref C) (.type "BaseException") = some true
  ty : PySem.W.typeIn K (.ref C) = some (.type "type")
theorem ex_plain' {Γ : Cfg} {cs : List (Addr × Addr × Str)} {Cs : List Addr} {xs : List ExS} {fs : List (Str × Nat × Nat)} {cl : List ClsS} {e : ExS} {i : Nat} {C : Addr} {B newId initId : String} {bm : List Value} (R : RootF B newId initId bm) (B0 : Base Γ cs Cs xs fs cl) (hC : Cs.getD i 0 = C) (hk : e.kp = none) (F : PlF Γ.K e.name C bm newId) : ExOk Γ i e :=
  ex_plain B0 hC hk F.a R.base F.q F.kp F.sub F.ty
def iniOf (st : Stmt) : Stmt := match st with
  | .ClassDef _ _ _ body _ _ _ _ _ _ _ => body.getD 0 (.Pass ⟨0, 0, 0, 0⟩)
  | _ => .Pass ⟨0, 0, 0, 0⟩
def sSelf : Str := "self"
def isIni (f g : Str) : List Stmt → Bool
  | [.Assign [.Attribute (.Name s _) f' _] (.Name g' _) _] => decide (s = sSelf) && decide (f' = f) && decide (g' = g)
  | _ => false
theorem isIni_of {f g : Str} {bd : List Stmt} (h : isIni f g bd = true) : ∃ p1 p2 p3 p4, bd = [.Assign [.Attribute (.Name "self" p1) f p2] (.Name g p3) p4] := by
  unfold isIni at h
  split at h
  · rename_i s p1 f' p2 g' p3 p4
    simp only [Bool.and_eq_true, decide_eq_true_eq] at h
    obtain ⟨⟨h1, h2⟩, h3⟩ := h
    subst h1 h2 h3
    exact ⟨p1, p2, p3, p4, rfl⟩
  · cases h
theorem kpF_mk {K : PySem.W.Frag} {e : ExS} {C fI : Addr} {f g : Str} {B newId initId : String} {bm : List Value} {qual : Str} {pa : Arguments} {bd : List Stmt} {sg : Scope} {kV doc pm : Value} {an : Option Addr} {cdv ct oc : Value} {od : Option Addr} {osl : Array (Option Value)} (rt : RootF B newId initId bm)
    (xa : PySem.W.nsIn K mainGlobals e.name = some (some (.ref C))) (xb : PySem.W.excInitIn K C bm newId = true) (xo : PySem.W.excOver K C bm = true) (xs : PySem.W.findIn K (.ref C) "__setattr__" = some (some (.builtin "object.__setattr__"))) (xt : PySem.W.takerIn K C f = some none) (xh : PySem.W.hasDictIn K C = true)
    (xc : PySem.W.keepIn K (.ref C) = true) (xd : PySem.W.subIn K (.ref C) (.type "BaseException") = some true) (xe : PySem.W.typeIn K (.ref C) = some (.type "type")) (xf : PySem.W.findIn K (.ref C) "__init__" = some (some (.ref fI))) (xg : PySem.W.typeIn K (.ref fI) = some (.type "function"))
    (xi : K.lookup fI = some ⟨oc, od, .func (PySem.W.fnOf "__init__" qual pa bd sg .none kV doc pm an cdv ct), osl⟩) (xj : PySem.W.codeIn K cdv qual = true) (xk : xfB K C = true) (xl : PySem.W.findIn K (.ref C) f = some none) (sc : FnScope ["self", g] ["self", g] sg) (hb : isIni f g bd = true)
    (bind : ∀ us : List Value, us.length = 2 → bindArgs (PySem.W.fnOf "__init__" qual pa bd sg .none kV doc pm an cdv ct) ⟨us, []⟩ = pure ((["self", g] : List Str).zip us)) (g1 : (g == ("__debug__" : Str)) = false) (g2 : (g == ("__classdict__" : Str)) = false) : KpF K e C f g := by
  obtain ⟨p1, p2, p3, p4, hb⟩ := isIni_of hb
  exact ⟨xa, ⟨⟨B, newId, initId, bm, rt.base, rt.store, xb, xo⟩, xs, xt, xh, xd, xe, xc⟩, ⟨fI, qual, pa, bd, sg, kV, doc, pm, an, cdv, ct, oc, od, osl, p1, p2, p3, p4, xf, xg, xi, xj, sc, hb, bind⟩, g1, g2, xk, xl⟩
theorem sss_bad {S : Stat} {L : Lc} {sts : List Stmt} : SSs S L sts esBad := fun Γ G k X W so c => ⟨fun pins s σ H D I o => let ⟨_, _, _, _, o⟩ := o; o.elim⟩
/-- a def that calls what it gets, from its text -/
def compHo (S : Stat) (x : Str) (st : Stmt) (Ng : List Str) (a : Str) (sc : FnScope Ng [a] (defScope st)) (hx : S.hos.lookup x = some (st, a)) : Option (HoOk S x) := match hb : defBody st with
  | .Try (.Expr (.Call (.Name a' p1) [] [] p2) p3 :: ms) (h₀ :: hds) [] [] p4 :: rs => match compSs (compS S (fun _ => none) [] false 40 (lcOf Ng (defScope st))) ms, compH (fun b => compSs (compS S (fun _ => none) [] false 40 (hotL (lcOf Ng (defScope st)) b))) (h₀ :: hds), compSs (compS S (fun _ => none) [] false 40 (lcOf Ng (defScope st))) rs with
    | some ⟨bm, hbm⟩, some ⟨cl, hcl⟩, some ⟨br, hbr⟩ => if h : a' = a ∧ Ng[0]? = some a ∧ 1 ≤ Ng.length ∧ okName a = true ∧ visB (defScope st) a = true then
        some { st := st, Ng := Ng, a := a, p1 := p1, p2 := p2, p3 := p3, p4 := p4, ms := ms, h₀ := h₀, hds := hds, rs := rs, bm := bm, cl := cl, br := br, body := by rw [hb, h.1], hm := hbm, hc := hcl, hr := hbr, sc := sc, n0 := h.2.1, len := h.2.2.1, okn := h.2.2.2.1, vis := h.2.2.2.2, hx := hx } else none
    | _, _, _ => none
  | _ => none
end Pv
end
section
set_option Elab.async false
set_option linter.all false
set_option maxRecDepth 100000
set_option autoImplicit false
namespace Pv
open PySem PySem.Spec PyProof.Rows L2

/-! ### to reckon -/
section
variable {G : GT} {env : Env1} {h : AH}
@[simp] theorem x_bind_ok {α β : Type} {v : α} {f : α → AH → Out β} : (Out.ok v h).bind f = f v h := id rfl
@[simp] theorem x_bind_exc {α β : Type} {e : Exn} {f : α → AH → Out β} : (Out.exc e h : Out α).bind f = .exc e h := id rfl
@[simp] theorem x_bind_bad {α β : Type} {f : α → AH → Out β} : (Out.bad : Out α).bind f = .bad := id rfl
@[simp] theorem x_s_ok {α : Type} {v : α} {k : α → AH → SOut} : (Out.ok v h).s env k = k v h := id rfl
@[simp] theorem x_s_exc {α : Type} {e : Exn} {k : α → AH → SOut} : (Out.exc e h : Out α).s env k = .exc e env h := id rfl
@[simp] theorem x_s_bad {α : Type} {k : α → AH → SOut} : (Out.bad : Out α).s env k = .bad := id rfl
@[simp] theorem x_var {i : Nat} : evVar i G env h = match env[i]? with | some (some v) => .ok v h | _ => .bad := id rfl
@[simp] theorem x_c {v : AV} : evC v G env h = .ok v h := id rfl
@[simp] theorem x_op {op : Op2} {f g : EvE} : evOp op f g G env h = (f G env h).bind fun x h1 => (g G env h1).bind fun y h2 => op x y h2 := id rfl
@[simp] theorem x_of {p : List AV → AH → Out AV} {f : EvA} : evOf p f G env h = (f G env h).bind p := id rfl
@[simp] theorem x_of1 {p : AV → AH → Out AV} {f : EvE} : evOf1 p f G env h = (f G env h).bind p := id rfl
@[simp] theorem x_nil : evNil G env h = .ok [] h := id rfl
@[simp] theorem x_cons {f : EvE} {g : EvA} : evCons f g G env h = (f G env h).bind fun x h1 => (g G env h1).bind fun xs h2 => .ok (x :: xs) h2 := id rfl
@[simp] theorem x_star {f : EvE} {g : EvA} : evStar f g G env h = (f G env h).bind fun x h1 => match itemsF x with
  | some ys => (g G env h1).bind fun xs h2 => .ok (ys ++ xs) h2
  | none => .bad := id rfl
@[simp] theorem o_itfT {xs : List AV} : itemsF (.tup xs) = some xs := id rfl
@[simp] theorem o_itfL {xs : List AV} : itemsF (.lst xs) = some xs := id rfl
@[simp] theorem o_enumT {xs : List AV} : opEnum [.tup xs] h = .ok (.snap (enumL 0 xs)) h := id rfl
@[simp] theorem o_enumS {k : Nat} {xs : List AV} : opEnumS k [.tup xs] h = .ok (.snap (enumL k xs)) h := id rfl
@[simp] theorem o_zipT {xs ys : List AV} : opZip [.tup xs, .tup ys] h = .ok (.snap (zipA xs ys)) h := id rfl
@[simp] theorem o_mulT {xs : List AV} {k : Int} : mulOp (.tup xs) (.int k) h = if xs ≠ [] ∧ -1000 ≤ k ∧ k ≤ 1000 ∧ xs.length ≤ 1000 then .ok (.tup (List.replicate k.toNat xs).flatten) h else .bad := id rfl
@[simp] theorem x_call {n i : Nat} {f : EvA} : evCall n i f G env h = (f G env h).bind (opCall n i G) := id rfl
@[simp] theorem x_opCall {n i : Nat} {xs : List AV} : opCall n i G xs h = if xs.length = n then G i xs h else .bad := id rfl
@[simp] theorem x_and {f g : EvE} : evAnd f g G env h = (f G env h).bind fun x h1 => match x with | .bl b => if b = true then g G env h1 else .ok (.bl false) h1 | _ => .bad := id rfl
@[simp] theorem x_or {f g : EvE} : evOr f g G env h = (f G env h).bind fun x h1 => match x with | .bl b => if b = true then .ok (.bl true) h1 else g G env h1 | _ => .bad := id rfl
@[simp] theorem x_if {t : EvT} {f g : EvE} : evIf t f g G env h = (t G env h).bind fun b h1 => if b = true then f G env h1 else g G env h1 := id rfl
@[simp] theorem x_chain {o1 o2 : Op2} {f g l : EvE} : evChain o1 o2 f g l G env h = (f G env h).bind fun x h1 => (g G env h1).bind fun y h2 => (o1 x y h2).bind fun z h3 => match z with
  | .bl b => if b = true then (l G env h3).bind fun w h4 => o2 y w h4 else .ok (.bl false) h3
  | _ => .bad := id rfl
@[simp] theorem x_sl {f : EvE} {g l : GT → Env1 → AH → Out (Option Int)} : evSl f g l G env h = (f G env h).bind fun x h1 => (g G env h1).bind fun lo h2 => (l G env h2).bind fun hi h3 => slOp x lo hi h3 := id rfl
@[simp] theorem x_oN : eoNone G env h = .ok none h := id rfl
@[simp] theorem x_oS {f : EvE} : eoSome f G env h = (f G env h).bind fun x h1 => match x with | .int i => .ok (some i) h1 | _ => .bad := id rfl
@[simp] theorem x_dict0 : evDict0 G env h = .ok (.dct [] []) h := id rfl
@[simp] theorem x_tand {f g : EvT} : etAnd f g G env h = (f G env h).bind fun b h1 => if b = true then g G env h1 else .ok false h1 := id rfl
@[simp] theorem x_tor {f g : EvT} : etOr f g G env h = (f G env h).bind fun b h1 => if b = true then .ok true h1 else g G env h1 := id rfl
@[simp] theorem x_tnot {f : EvT} : etNot f G env h = (f G env h).bind fun b h1 => .ok (!b) h1 := id rfl
@[simp] theorem x_tof {f : EvE} : etOf f G env h = (f G env h).bind fun x h1 => match truB h1 x with | some b => .ok b h1 | none => .bad := id rfl
@[simp] theorem x_tb {f : EvE} : etB f G env h = (f G env h).bind fun x h1 => match x with | .bl b => .ok b h1 | _ => .bad := id rfl
@[simp] theorem x_tyes : etYes G env h = .ok true h := id rfl
@[simp] theorem x_nx : esNx G env h = .nx env h := id rfl
@[simp] theorem x_bad : esBad G env h = .bad := id rfl
@[simp] theorem x_brk : esBrk G env h = .brk env h := id rfl
@[simp] theorem x_ct : esCt G env h = .ct env h := id rfl
@[simp] theorem x_seq {f g : EvS} : esSeq f g G env h = match f G env h with | .nx env' h' => g G env' h' | r => r := id rfl
@[simp] theorem x_drop {f : EvE} : esDrop f G env h = (f G env h).s env fun _ h1 => .nx env h1 := id rfl
@[simp] theorem x_ret {f : EvE} : esRet f G env h = (f G env h).s env fun v h1 => .ret v h1 := id rfl
@[simp] theorem x_retN : esRetN G env h = .ret .non h := id rfl
@[simp] theorem x_sif {t : EvT} {f g : EvS} : esIf t f g G env h = (t G env h).s env fun b h1 => if b = true then f G env h1 else g G env h1 := id rfl
@[simp] theorem x_set {t : Tg} {f : EvE} : esSet t f G env h = (f G env h).s env fun v h1 => match setTg t v env with | some env' => .nx env' h1 | none => .bad := id rfl
@[simp] theorem x_par2 {i j : Nat} {f : EvA} : esPar2 i j f G env h = (f G env h).s env fun vs h1 => match vs with | [x, y] => .nx ((env.set i (some x)).set j (some y)) h1 | _ => .bad := id rfl
@[simp] theorem x_par3 {i j l : Nat} {f : EvA} : esPar3 i j l f G env h = (f G env h).s env fun vs h1 => match vs with | [x, y, z] => .nx (((env.set i (some x)).set j (some y)).set l (some z)) h1 | _ => .bad := id rfl
@[simp] theorem x_setix {f g l : EvE} : esSetIx f g l G env h = (l G env h).s env fun v h1 => (f G env h1).s env fun x h2 => (g G env h2).s env fun y h3 => (setOp x y v h3).s env fun _ h4 => .nx env h4 := id rfl
@[simp] theorem x_app {f g : EvE} : evApp f g G env h = (f G env h).bind fun x h1 => match x with
  | .ref n => match h1[n]? with
    | some (.lst _) => (g G env h1).bind fun v h2 => appOp (.ref n) v h2
    | _ => .bad
  | _ => .bad := id rfl
@[simp] theorem x_lc {cell : Bool} {s : EvI} {tg : Tg} {tt : EvT} {te : EvE} {own : List Nat} : evLc cell s tg tt te own G env h = (s G env h).bind fun src h1 =>
  (lcL src tg tt te G h1.length (wipeE env own) (srcLen src h1) 0 (h1 ++ [.lst []])).bind fun _ h2 => lcFin cell h1.length h2 := id rfl
@[simp] theorem x_for {s : EvI} {tg : Tg} {b : EvS} : esFor s tg b G env h = (s G env h).s env fun src h1 => forL src tg b G (srcLen src h1) 0 env h1 := id rfl
@[simp] theorem x_while {t : EvT} {b : EvS} : esWhile t b G env h = whileL t b G wfuel env h := id rfl
@[simp] theorem x_iseq {f : EvE} : eiSeq f G env h = (f G env h).bind srcOf := id rfl
@[simp] theorem x_iof {p : List AV → AH → Out Src} {f : EvA} : eiOf p f G env h = (f G env h).bind p := id rfl
@[simp] theorem x_irev {f : EvE} : eiRev f G env h = (f G env h).bind revOp := id rfl
/-! operators -/
@[simp] theorem o_tnm {i : Nat} {v : AV} : setTg (.nm i) v env = some (env.set i (some v)) := id rfl
@[simp] theorem o_ttp {is : List Nat} {xs : List AV} : setTg (.tp is) (.tup xs) env = if xs.length = is.length then some (setsA is xs env) else none := id rfl
@[simp] theorem o_sets1 {i : Nat} {is : List Nat} {x : AV} {xs : List AV} : setsA (i :: is) (x :: xs) env = setsA is xs (env.set i (some x)) := id rfl
@[simp] theorem o_sets0 {xs : List AV} : setsA [] xs env = env := by cases xs <;> rfl
@[simp] theorem o_add {i j : Int} : addOp (.int i) (.int j) h = .ok (.int (i + j)) h := id rfl
@[simp] theorem o_addT {xs ys : List AV} : addOp (.tup xs) (.tup ys) h = if xs.length + ys.length ≤ sizeLine then .ok (.tup (xs ++ ys)) h else .bad := id rfl
@[simp] theorem o_addL {xs ys : List AV} : addOp (.lst xs) (.lst ys) h = if xs.length + ys.length ≤ sizeLine then .ok (.lst (xs ++ ys)) h else .bad := id rfl
@[simp] theorem o_addS {x y : Str} : addOp (.str x) (.str y) h = if x.length + y.length ≤ sizeLine then .ok (.str (x ++ y)) h else .bad := id rfl
@[simp] theorem o_sub {i j : Int} : subOp (.int i) (.int j) h = .ok (.int (i - j)) h := id rfl
@[simp] theorem o_mul {i j : Int} : mulOp (.int i) (.int j) h = if mulOk i j = true then .ok (.int (i * j)) h else .bad := id rfl
@[simp] theorem o_mod {i j : Int} : modOp (.int i) (.int j) h = if 0 < j then .ok (.int (i % j)) h else .bad := id rfl
@[simp] theorem o_div {i j : Int} : fdivOp (.int i) (.int j) h = if divOk j = true then .ok (.int (i / j)) h else .bad := id rfl
@[simp] theorem o_pow {i j : Int} : powOp (.int i) (.int j) h = if powOk i j = true then .ok (.int (i ^ j.toNat)) h else .bad := id rfl
@[simp] theorem o_neg {i : Int} : negOp (.int i) h = .ok (.int (-i)) h := id rfl
@[simp] theorem o_not {b : Bool} : notOp (.bl b) h = .ok (.bl (!b)) h := id rfl
@[simp] theorem o_lt {i j : Int} : ltOp (.int i) (.int j) h = .ok (.bl (decide (i < j))) h := id rfl
@[simp] theorem o_ltT {xs ys : List AV} : ltOp (.tup xs) (.tup ys) h = match intsOf xs, intsOf ys with | some ns, some ms => .ok (.bl (HT.lexLt ns ms)) h | _, _ => .bad := id rfl
@[simp] theorem o_le {i j : Int} : leOp (.int i) (.int j) h = .ok (.bl (decide (i ≤ j))) h := id rfl
@[simp] theorem o_gt {i j : Int} : gtOp (.int i) (.int j) h = .ok (.bl (decide (j < i))) h := id rfl
@[simp] theorem o_ge {i j : Int} : geOp (.int i) (.int j) h = .ok (.bl (decide (j ≤ i))) h := id rfl
@[simp] theorem o_is {x : AV} : isOp x .non h = .ok (.bl (isN x)) h := by cases x <;> rfl
@[simp] theorem o_isnot {x : AV} : isNotOp x .non h = .ok (.bl (!isN x)) h := by cases x <;> rfl
@[simp] theorem o_eq {x y : AV} : eqOp x y h = match eqB h x y with | some b => .ok (.bl b) h | none => .bad := id rfl
@[simp] theorem o_ne {x y : AV} : neOp x y h = match eqB h x y with | some b => .ok (.bl (!b)) h | none => .bad := id rfl
@[simp] theorem o_eqI {i j : Int} : eqB h (.int i) (.int j) = some (decide (i = j)) := by
  rw [← Bool.beq_eq_decide_eq]
  simp [eqB, toPy1, toPy, SeqAt.shaped, PyData.canLay0, PyData.depth, PyData.eqv]
@[simp] theorem o_eqBl {i j : Bool} : eqB h (.bl i) (.bl j) = some (i == j) := by
  simp [eqB, toPy1, toPy, SeqAt.shaped, PyData.canLay0, PyData.depth, PyData.eqv]
@[simp] theorem o_ixT {xs : List AV} {i : Int} : ixOp (.tup xs) (.int i) h = match atI xs i with | some v => .ok v h | none => .bad := id rfl
@[simp] theorem o_ixL {xs : List AV} {i : Int} : ixOp (.lst xs) (.int i) h = match atI xs i with | some v => .ok v h | none => .bad := id rfl
@[simp] theorem o_ixK {xs : List AV} {i : Int} : ixOp (.kl xs) (.int i) h = match atI xs i with | some v => .ok v h | none => .bad := id rfl
@[simp] theorem o_ixR {n : Nat} {i : Int} : ixOp (.ref n) (.int i) h = match h[n]? with
    | some (.lst xs) => (match atI xs i with | some v => .ok v h | none => .bad)
    | some (.mat lo r) => (match atI (matI lo r) i with | some v => .ok v h | none => .bad)
    | _ => .bad := by
  unfold ixOp itemsOf
  cases e : h[n]? with
  | none => simp only [e]
  | some c => cases c <;> simp only [e] <;> rfl
@[simp] theorem o_in {b : Bool} {x y : AV} : inOp b x y h = match itemsOf h y with | some ys => if flatA x = true ∧ ys.all flatA = true then .ok (.bl (if b then !inA x ys else inA x ys)) h else inD b x y h | none => .bad := id rfl
@[simp] theorem o_itT {xs : List AV} : itemsOf h (.tup xs) = some xs := id rfl
@[simp] theorem o_itL {xs : List AV} : itemsOf h (.lst xs) = some xs := id rfl
@[simp] theorem o_itK {xs : List AV} : itemsOf h (.kl xs) = some xs := id rfl
@[simp] theorem o_itR {n : Nat} : itemsOf h (.ref n) = match h[n]? with | some (.lst xs) => some xs | some (.mat lo r) => some (matI lo r) | _ => none := id rfl
@[simp] theorem o_tup {xs : List AV} : opTup xs h = if xs.length ≤ 1000 then .ok (.tup xs) h else .bad := id rfl
@[simp] theorem o_lst {xs : List AV} : opLst xs h = if xs.length ≤ 1000 then .ok (.lst xs) h else .bad := id rfl
@[simp] theorem o_cel {xs : List AV} : opCel xs h = if xs.length ≤ 1000 ∧ pureL xs = true then .ok (.ref h.length) (h ++ [.lst xs]) else .bad := id rfl
@[simp] theorem o_lenT {xs : List AV} : opLen [.tup xs] h = .ok (.int xs.length) h := id rfl
@[simp] theorem o_lenL {xs : List AV} : opLen [.lst xs] h = .ok (.int xs.length) h := id rfl
@[simp] theorem o_lenK {xs : List AV} : opLen [.kl xs] h = .ok (.int xs.length) h := id rfl
@[simp] theorem o_int {i : Int} : opInt [.int i] h = .ok (.int i) h := id rfl
@[simp] theorem o_intB {b : Bool} : opInt [.bl b] h = .ok (.int (if b then 1 else 0)) h := id rfl
@[simp] theorem o_abs {i : Int} : opAbs [.int i] h = .ok (.int (if i < 0 then -i else i)) h := id rfl
@[simp] theorem o_max {i j : Int} : opMax [.int i, .int j] h = .ok (.int (if j > i then j else i)) h := id rfl
@[simp] theorem o_min {i j : Int} : opMin [.int i, .int j] h = .ok (.int (if j < i then j else i)) h := id rfl
@[simp] theorem o_gcd {i j : Int} : opGcd [.int i, .int j] h = .ok (.int ((Nat.gcd i.natAbs j.natAbs : Nat) : Int)) h := id rfl
@[simp] theorem o_isi {T : Ty} {x : AV} : isiOp T x h = match tyOf h x with | some t => .ok (.bl (isTy t T)) h | none => .bad := id rfl
@[simp] theorem o_rng1 {j : Int} : opRng1 [.int j] h = if -(2 ^ 62) ≤ j ∧ j < 2 ^ 62 then .ok (.rng 0 j.toNat) h else .bad := id rfl
@[simp] theorem o_rng2 {i j : Int} : opRng2 [.int i, .int j] h = if -(2 ^ 62) ≤ i ∧ i < 2 ^ 62 ∧ -(2 ^ 62) ≤ j ∧ j < 2 ^ 62 then .ok (.rng i (j - i).toNat) h else .bad := id rfl
@[simp] theorem o_srcT {xs : List AV} : srcOf (.tup xs) h = .ok (.snap xs) h := id rfl
@[simp] theorem o_srcL {xs : List AV} : srcOf (.lst xs) h = .ok (.snap xs) h := id rfl
@[simp] theorem o_srcK {xs : List AV} : srcOf (.kl xs) h = .ok (.snap xs) h := id rfl
@[simp] theorem o_slT {xs : List AV} {lo hi : Option Int} : slOp (.tup xs) lo hi h = .ok (.tup (cutA xs lo hi)) h := id rfl
@[simp] theorem o_tuple {x : AV} : opTuple [x] h = match itemsOf h x with | some xs => .ok (.tup xs) h | none => .bad := id rfl
@[simp] theorem o_list {x : AV} : opList [x] h = match itemsOf h x with | some xs => .ok (.lst xs) h | none => .bad := id rfl
@[simp] theorem o_set {n : Nat} {i : Int} {v : AV} : setOp (.ref n) (.int i) v h = match h[n]? with
    | some (.lst xs) => match ixN xs.length i with
      | some j => if pureA v = true then .ok () (h.set n (.lst (xs.set j v))) else .bad
      | none => .bad
    | _ => .bad := id rfl
@[simp] theorem o_truB {b : Bool} : truB h (.bl b) = some b := id rfl
@[simp] theorem o_pureI {i : Int} : pureA (.int i) = true := id rfl
@[simp] theorem o_pureB {i : Bool} : pureA (.bl i) = true := id rfl
@[simp] theorem o_pureS {i : Str} : pureA (.str i) = true := id rfl
@[simp] theorem o_pureN : pureA .non = true := id rfl
@[simp] theorem o_pureT {xs : List AV} : pureA (.tup xs) = pureL xs := id rfl
@[simp] theorem o_pureL {xs : List AV} : pureA (.lst xs) = pureL xs := id rfl
@[simp] theorem o_pureD {ks : List Key} {xs : List AV} : pureA (.dct ks xs) = pureL xs := id rfl
@[simp] theorem o_pureR {n : Nat} : pureA (.ref n) = false := id rfl
@[simp] theorem o_pl0 : pureL [] = true := id rfl
@[simp] theorem o_pl1 {x : AV} {xs : List AV} : pureL (x :: xs) = (pureA x && pureL xs) := id rfl
@[simp] theorem ite_ok {c : Prop} [Decidable c] {a b : Bool} : (if c then Out.ok (AV.bl a) h else Out.ok (AV.bl b) h) = Out.ok (AV.bl (if c then a else b)) h := by split <;> rfl
@[simp] theorem ite_okB {c : Prop} [Decidable c] {a b : Bool} : (if c then Out.ok a h else Out.ok b h) = Out.ok (if c then a else b) h := by split <;> rfl
@[simp] theorem ite_okI {c : Prop} [Decidable c] {a b : Int} : (if c then Out.ok (AV.int a) h else Out.ok (AV.int b) h) = Out.ok (AV.int (if c then a else b)) h := by split <;> rfl
end
theorem ixB0 {xs : List AV} {x : AV} : atI (x :: xs) 0 = some x := by
  unfold atI ixN
  rw [if_pos (Int.le_refl 0), if_pos (by simp only [List.length_cons]; omega)]
  rfl
theorem ixB1 {xs : List AV} {x y : AV} : atI (x :: y :: xs) 1 = some y := by
  unfold atI ixN
  rw [if_pos (by decide), if_pos (by simp only [List.length_cons]; omega)]
  rfl
theorem ixB2 {xs : List AV} {x y z : AV} : atI (x :: y :: z :: xs) 2 = some z := by
  unfold atI ixN
  rw [if_pos (by decide), if_pos (by simp only [List.length_cons]; omega)]
  rfl
/-! the end of a def -/
@[simp] theorem f_pure {rc : Bool} {n0 : Nat} {h : AH} {v : AV} (p : pureA v = true) : finD rc n0 v h = .ok v (h.take n0) := by
  cases v with
  | ref n => cases p
  | _ => exact (if_pos p : (if _ = true then Out.ok _ (h.take n0) else Out.bad) = _)
@[simp] theorem f_ref {rc : Bool} {n0 n : Nat} {h : AH} (p : n < n0) : finD rc n0 (.ref n) h = .ok (.ref n) (h.take n0) := if_pos p
@[simp] theorem take_set_len {h : AH} {n : Nat} {c : Cell} : (h.set n c).take h.length = h.set n c := by
  rw [List.take_of_length_le]
  simp
@[simp] theorem take_app_len {h : AH} {c : List Cell} : (h ++ c).take h.length = h := by simp
theorem run_eq {rc : Bool} {n : Nat} {b : EvS} {G : GT} {args : List AV} {h : AH} {v : AV} {h' : AH} (e : b G (args.map some ++ List.replicate (n - args.length) none) h = .ret v h') : runDef rc n b G args h = finD rc h.length v h' := by
  unfold runDef closeD
  simp only [closeD, e]
theorem run_nx {rc : Bool} {n : Nat} {b : EvS} {G : GT} {args : List AV} {h : AH} {env : Env1} {h' : AH} (e : b G (args.map some ++ List.replicate (n - args.length) none) h = .nx env h') : runDef rc n b G args h = .ok .non (h'.take h.length) := by
  unfold runDef closeD
  simp only [closeD, e]
/-- a def whose value needs no cell, and that changes none -/
theorem run_pure {rc : Bool} {n : Nat} {b : EvS} {G : GT} {args : List AV} {h : AH} {v : AV} (p : pureA v = true) (e : b G (args.map some ++ List.replicate (n - args.length) none) h = .ret v h) : runDef rc n b G args h = .ok v h := by
  rw [run_eq e, f_pure p, List.take_length]
theorem run_cell {rc : Bool} {n : Nat} {b : EvS} {G : GT} {args : List AV} {h : AH} {v : AV} {h' : AH} (p : pureA v = true) (hl : h'.length = h.length) (e : b G (args.map some ++ List.replicate (n - args.length) none) h = .ret v h') : runDef rc n b G args h = .ok v h' := by
  rw [run_eq e, f_pure p, List.take_of_length_le (Nat.le_of_eq hl)]
end Pv
end
section
set_option Elab.async false
set_option linter.all false
set_option maxRecDepth 100000
set_option maxHeartbeats 4000000
namespace Pv
open PySem PySem.Spec PyProof.Rows L2
/-! ### loops over a known row -/
theorem snap_at {xs : List AV} {h : AH} {i : Nat} : srcAt (.snap xs) h i = some xs[i]? := rfl
theorem for_inv {tg : Tg} {b : EvS} {G : GT} {xs : List AV} (I : Env1 → AH → Prop) (st : ∀ v ∈ xs, ∀ env h, I env h → ∃ env1, setTg tg v env = some env1 ∧ ∃ env' h', b G env1 h = .nx env' h' ∧ I env' h') : ∀ (fuel i : Nat) (env : Env1) (h : AH), xs.length ≤ fuel + i → I env h → ∃ env' h', forL (.snap xs) tg b G fuel i env h = .nx env' h' ∧ I env' h'
  | fuel, i, env, h, hl, hI => by
    by_cases hi : i < xs.length
    · obtain ⟨env1, e1, env', h', e2, I2⟩ := st xs[i] (List.getElem_mem hi) env h hI
      cases fuel with
      | zero => omega
      | succ fuel =>
        obtain ⟨env2, h2, e3, I3⟩ := for_inv I st fuel (i + 1) env' h' (by omega) I2
        refine ⟨env2, h2, ?_, I3⟩
        unfold forL
        simp only [snap_at, List.getElem?_eq_getElem hi, e1, e2]
        exact e3
    · refine ⟨env, h, ?_, hI⟩
      unfold forL
      simp only [snap_at, List.getElem?_eq_none (Nat.le_of_not_lt hi)]
theorem for_rng {tg : Tg} {b : EvS} {G : GT} {lo : Int} {n : Nat} (I : Env1 → AH → Prop) (st : ∀ i : Nat, i < n → ∀ env h, I env h → ∃ env1, setTg tg (.int (lo + i)) env = some env1 ∧ ∃ env' h', b G env1 h = .nx env' h' ∧ I env' h') : ∀ (fuel i : Nat) (env : Env1) (h : AH), n ≤ fuel + i → I env h → ∃ env' h', forL (.rng lo n) tg b G fuel i env h = .nx env' h' ∧ I env' h'
  | fuel, i, env, h, hl, hI => by
    by_cases hi : i < n
    · obtain ⟨env1, e1, env', h', e2, I2⟩ := st i hi env h hI
      cases fuel with
      | zero => omega
      | succ fuel =>
        obtain ⟨env2, h2, e3, I3⟩ := for_rng I st fuel (i + 1) env' h' (by omega) I2
        refine ⟨env2, h2, ?_, I3⟩
        unfold forL
        simp only [srcAt, if_pos hi, e1, e2]
        exact e3
    · refine ⟨env, h, ?_, hI⟩
      unfold forL
      simp only [srcAt, if_neg hi]
theorem lc_go {tg : Tg} {tt : EvT} {te : EvE} {G : GT} {env : Env1} {h : AH} {xs : List AV} {p : AV → Bool} {f : AV → AV} (hx : xs.length ≤ 1000)
    (st : ∀ v ∈ xs, ∀ c, ∃ env1, setTg tg v env = some env1 ∧ tt G env1 (h ++ [c]) = .ok (p v) (h ++ [c]) ∧ (p v = true → te G env1 (h ++ [c]) = .ok (f v) (h ++ [c]) ∧ pureA (f v) = true)) :
    ∀ (fuel i : Nat) (acc : List AV), xs.length ≤ fuel + i → acc.length ≤ i → lcL (.snap xs) tg tt te G h.length env fuel i (h ++ [.lst acc]) = .ok () (h ++ [.lst (acc ++ ((xs.drop i).filter p).map f)])
  | fuel, i, acc, hl, ha => by
    by_cases hi : i < xs.length
    · obtain ⟨env1, e1, e2, e3⟩ := st xs[i] (List.getElem_mem hi) (.lst acc)
      have ed : xs.drop i = xs[i] :: xs.drop (i + 1) := List.drop_eq_getElem_cons hi
      cases fuel with
      | zero => omega
      | succ fuel =>
        unfold lcL
        simp only [snap_at, List.getElem?_eq_getElem hi, e1, e2]
        by_cases hp : p xs[i] = true
        · obtain ⟨e4, e5⟩ := e3 hp
          have := lc_go hx st fuel (i + 1) (acc ++ [f xs[i]]) (by omega) (by simp; omega)
          simp only [hp, e4]
          simp only [List.getElem?_concat_length, e5, true_and]
          rw [if_pos (by omega), List.set_append_right _ _ (Nat.le_refl _), Nat.sub_self, List.set_cons_zero, this, ed, List.filter_cons_of_pos hp]
          simp
        · have hp' : p xs[i] = false := by simpa using hp
          have := lc_go hx st fuel (i + 1) acc (by omega) (by omega)
          simp only [hp']
          rw [this, ed, List.filter_cons_of_neg hp]
    · have en : xs.drop i = [] := List.drop_eq_nil_of_le (Nat.le_of_not_lt hi)
      unfold lcL
      simp only [snap_at, List.getElem?_eq_none (Nat.le_of_not_lt hi), en, List.filter_nil, List.map_nil, List.append_nil]
theorem lc_ok {s : EvI} {tg : Tg} {tt : EvT} {te : EvE} {own : List Nat} {G : GT} {env : Env1} {h : AH} {xs : List AV} (p : AV → Bool) (f : AV → AV) (es : s G env h = .ok (.snap xs) h) (hx : xs.length ≤ 1000)
    (st : ∀ v ∈ xs, ∀ c, ∃ env1, setTg tg v (wipeE env own) = some env1 ∧ tt G env1 (h ++ [c]) = .ok (p v) (h ++ [c]) ∧ (p v = true → te G env1 (h ++ [c]) = .ok (f v) (h ++ [c]) ∧ pureA (f v) = true)) :
    evLc false s tg tt te own G env h = .ok (.lst ((xs.filter p).map f)) h := by
  have := lc_go hx st xs.length 0 [] (by omega) (by simp)
  simp only [evLc, es, x_bind_ok, srcLen]
  rw [this, x_bind_ok]
  simp [lcFin]
theorem lc_map {s : EvI} {tg : Tg} {te : EvE} {own : List Nat} {G : GT} {env : Env1} {h : AH} {xs : List AV} (f : AV → AV) (es : s G env h = .ok (.snap xs) h) (hx : xs.length ≤ 1000)
    (st : ∀ v ∈ xs, ∀ c, ∃ env1, setTg tg v (wipeE env own) = some env1 ∧ te G env1 (h ++ [c]) = .ok (f v) (h ++ [c]) ∧ pureA (f v) = true) :
    evLc false s tg etYes te own G env h = .ok (.lst (xs.map f)) h := by
  have := lc_ok (tt := etYes) (own := own) (te := te) (tg := tg) (fun _ => true) f es hx fun v hv c => by
    obtain ⟨env1, e1, e2, e3⟩ := st v hv c
    exact ⟨env1, e1, rfl, fun _ => ⟨e2, e3⟩⟩
  rw [this, List.filter_eq_self.mpr fun _ _ => rfl]
theorem for_ix {tg : Tg} {b : EvS} {G : GT} {xs : List AV} (I : Nat → Env1 → AH → Prop) (st : ∀ i v, xs[i]? = some v → ∀ env h, I i env h → ∃ env1, setTg tg v env = some env1 ∧ ∃ env' h', b G env1 h = .nx env' h' ∧ I (i + 1) env' h') : ∀ (fuel i : Nat) (env : Env1) (h : AH), xs.length = fuel + i → I i env h → ∃ env' h', forL (.snap xs) tg b G fuel i env h = .nx env' h' ∧ I xs.length env' h'
  | 0, i, env, h, hl, hI => by
    refine ⟨env, h, ?_, ?_⟩
    · unfold forL
      simp only [snap_at, List.getElem?_eq_none (show xs.length ≤ i by omega)]
    · rw [hl, Nat.zero_add]; exact hI
  | fuel + 1, i, env, h, hl, hI => by
    have hi : i < xs.length := by omega
    obtain ⟨env1, e1, env', h', e2, I2⟩ := st i xs[i] (List.getElem?_eq_getElem hi) env h hI
    obtain ⟨env2, h2, e3, I3⟩ := for_ix I st fuel (i + 1) env' h' (by omega) I2
    refine ⟨env2, h2, ?_, I3⟩
    unfold forL
    simp only [snap_at, List.getElem?_eq_getElem hi, e1, e2]
    exact e3
/-! ### draws -/
def SpAt (h : AH) (n : Nat) : Prop := ∃ a b c : Int, h[n]? = some (.lst [.int a, .int b, .int c])
def Sp (n : Nat) (h h' : AH) : Prop := ∃ a b c : Int, h' = h.set n (.lst [.int a, .int b, .int c])
theorem SpAt.lt {h : AH} {n : Nat} (s : SpAt h n) : n < h.length := by
  obtain ⟨a, b, c, e⟩ := s
  exact (List.getElem?_eq_some_iff.mp e).1
theorem Sp.at {h h' : AH} {n : Nat} (s : SpAt h n) (p : Sp n h h') : SpAt h' n := by
  obtain ⟨a, b, c, e⟩ := p
  subst e
  exact ⟨a, b, c, List.getElem?_set_self s.lt⟩
theorem Sp.trans {h h' h'' : AH} {n : Nat} (p : Sp n h h') (q : Sp n h' h'') : Sp n h h'' := by
  obtain ⟨a, b, c, e⟩ := p
  obtain ⟨a', b', c', e'⟩ := q
  subst e; subst e'
  exact ⟨a', b', c', by rw [List.set_set]⟩
theorem Sp.len {h h' : AH} {n : Nat} (p : Sp n h h') : h'.length = h.length := by
  obtain ⟨a, b, c, e⟩ := p
  subst e
  simp
theorem Sp.take {h h' : AH} {n : Nat} (p : Sp n h h') : h'.take h.length = h' := by
  rw [List.take_of_length_le]
  rw [p.len]
  exact Nat.le_refl _
theorem Sp.other {h h' : AH} {n j : Nat} (p : Sp n h h') (hj : n ≠ j) : h'[j]? = h[j]? := by
  obtain ⟨a, b, c, e⟩ := p
  subst e
  exact List.getElem?_set_ne hj
def TOk (t : Int) : Prop := 0 < t ∧ t.natAbs.log2 < 9000
theorem TOk.small {t : Int} (h0 : 0 < t) (h : t < 2 ^ 60) : TOk t := by
  refine ⟨h0, ?_⟩
  have e : t.natAbs ≠ 0 := by omega
  have := (Nat.log2_lt e).mpr (show t.natAbs < 2 ^ 60 by omega)
  omega
theorem mulL {i j : Int} (h1 : -(2 ^ 64) < i) (h2 : i < 2 ^ 64) : mulOk i j = true := decide_eq_true (.inl ⟨h1, h2⟩)
theorem mulR {i j : Int} (h1 : -(2 ^ 64) < j) (h2 : j < 2 ^ 64) : mulOk i j = true := decide_eq_true (.inr (.inl ⟨h1, h2⟩))
theorem atI_some {xs : List AV} {r : Int} (h0 : 0 ≤ r) (h1 : r < xs.length) : ∃ v, atI xs r = some v ∧ v ∈ xs := by
  have hr : r.toNat < xs.length := by omega
  refine ⟨xs[r.toNat], ?_, List.getElem_mem hr⟩
  unfold atI ixN
  rw [if_pos h0, if_pos h1]
  exact List.getElem?_eq_getElem hr
theorem pure_mem {v : AV} : ∀ {xs : List AV}, pureL xs = true → v ∈ xs → pureA v = true
  | x :: xs, p, m => by
    have p' := pureL_cons.mp p
    rcases List.mem_cons.mp m with e | e
    · rw [e]; exact p'.1
    · exact pure_mem p'.2 e

theorem rng1_ok {N : Nat} (hN : (N : Int) < 2 ^ 62) (h : AH) : opRng1 [.int (N : Int)] h = .ok (.rng 0 N) h := by
  rw [o_rng1, if_pos ⟨by omega, hN⟩, Int.toNat_natCast]
theorem howmany (ns : List Int) (m : Nat) : ∃ N : Nat, N ≤ m + 1 ∧ 1 ≤ N ∧ (if (if (ns.length : Int) < ((m + 1 : Nat) : Int) then (ns.length : Int) else ((m + 1 : Nat) : Int)) > 1 then (if (ns.length : Int) < ((m + 1 : Nat) : Int) then (ns.length : Int) else ((m + 1 : Nat) : Int)) else 1) = (N : Int) := by
  by_cases h3 : (ns.length : Int) < ((m + 1 : Nat) : Int)
  · rw [if_pos h3]
    by_cases h1 : (ns.length : Int) > 1
    · rw [if_pos h1]; exact ⟨ns.length, by omega, by omega, rfl⟩
    · rw [if_neg h1]; exact ⟨1, by omega, by omega, rfl⟩
  · rw [if_neg h3]
    by_cases h1 : ((m + 1 : Nat) : Int) > 1
    · rw [if_pos h1]; exact ⟨m + 1, by omega, by omega, rfl⟩
    · rw [if_neg h1]; exact ⟨1, by omega, by omega, rfl⟩
theorem for_rngI {tg : Tg} {b : EvS} {G : GT} {lo : Int} {n : Nat} (I : Nat → Env1 → AH → Prop) (st : ∀ i : Nat, i < n → ∀ env h, I i env h → ∃ env1, setTg tg (.int (lo + i)) env = some env1 ∧ ∃ env' h', b G env1 h = .nx env' h' ∧ I (i + 1) env' h') : ∀ (fuel i : Nat) (env : Env1) (h : AH), n ≤ fuel + i → i ≤ n → I i env h → ∃ env' h', forL (.rng lo n) tg b G fuel i env h = .nx env' h' ∧ I n env' h'
  | fuel, i, env, h, hl, hin, hI => by
    by_cases hi : i < n
    · obtain ⟨env1, e1, env', h', e2, I2⟩ := st i hi env h hI
      cases fuel with
      | zero => omega
      | succ fuel =>
        obtain ⟨env2, h2, e3, I3⟩ := for_rngI I st fuel (i + 1) env' h' (by omega) (by omega) I2
        refine ⟨env2, h2, ?_, I3⟩
        unfold forL
        simp only [srcAt, if_pos hi, e1, e2]
        exact e3
    · have e : i = n := by omega
      subst e
      refine ⟨env, h, ?_, hI⟩
      unfold forL
      simp only [srcAt, if_neg hi]
theorem srcLen_rng {lo : Int} {n : Nat} {h : AH} : srcLen (.rng lo n) h = n := rfl
def retV : SOut → Option AV
  | .ret v _ => some v
  | _ => none
theorem retV_ex {o : SOut} {v : AV} (h : retV o = some v) : ∃ g, o = .ret v g := by
  cases o with
  | ret w g => cases h; exact ⟨g, rfl⟩
  | _ => cases h
/-! ### straight on -/
section
variable {G : GT} {env env' : Env1} {h h' : AH}
theorem seq_nx {f g : EvS} (e : f G env h = .nx env' h') : esSeq f g G env h = g G env' h' := by rw [x_seq, e]
/-- the cell that draws stand in -/
abbrev SC (a b c : Int) : Cell := .lst [.int a, .int b, .int c]
theorem sp_last {p : AH} {a b c : Int} {h' : AH} (s : Sp p.length (p ++ [SC a b c]) h') : ∃ a' b' c', h' = p ++ [SC a' b' c'] := by
  obtain ⟨a', b', c', e⟩ := s
  refine ⟨a', b', c', ?_⟩
  rw [e, List.set_append_right _ _ (Nat.le_refl _), Nat.sub_self]
  rfl
theorem sp_mid {p q : AH} {a b c : Int} {h' : AH} (s : Sp p.length (p ++ SC a b c :: q) h') : ∃ a' b' c', h' = p ++ SC a' b' c' :: q := by
  obtain ⟨a', b', c', e⟩ := s
  refine ⟨a', b', c', ?_⟩
  rw [e, List.set_append_right _ _ (Nat.le_refl _), Nat.sub_self]
  rfl
theorem sp_at {p : AH} {a b c : Int} : SpAt (p ++ [SC a b c]) p.length := ⟨a, b, c, by simp⟩
theorem draw_nx {i ia n : Nat} {me : EvE} {xs : List AV} {v : AV} (h0 : env[0]? = some (some (.ref n))) (hm : me G env h = .ok (.lst xs) h) (e : G ia [.ref n, .lst xs] h = .ok v h') : esSet (.nm i) (evCall 2 ia (evCons (evVar 0) (evCons me evNil))) G env h = .nx (env.set i (some v)) h' := by
  simp [h0, hm, e]
theorem drawE {ia n : Nat} {me : EvE} {xs : List AV} {v : AV} (h0 : env[0]? = some (some (.ref n))) (hm : me G env h = .ok (.lst xs) h) (e : G ia [.ref n, .lst xs] h = .ok v h') : evCall 2 ia (evCons (evVar 0) (evCons me evNil)) G env h = .ok v h' := by
  simp [h0, hm, e]
theorem set_nx {i : Nat} {e : EvE} {v : AV} (e1 : e G env h = .ok v h') : esSet (.nm i) e G env h = .nx (env.set i (some v)) h' := by
  rw [x_set, e1]; rfl
theorem met_nx {i : Nat} {e : EvE} {v : AV} (e1 : e G env h = .ok v h) (hp : pureA v = true) : esSet (.nm i) (evOf opCel (evCons e evNil)) G env h = .nx (env.set i (some (.ref h.length))) (h ++ [.lst [v]]) := by
  have hp' : pureL [v] = true := pureL_cons.mpr ⟨hp, rfl⟩
  simp [e1, opCel, hp']
theorem app_nx {i n : Nat} {e : EvE} {v : AV} {xs : List AV} (h0 : env[i]? = some (some (.ref n))) (hn : h[n]? = some (.lst xs)) (e1 : e G env h = .ok v h) (hp : pureA v = true) (hl : xs.length < 100000) : esDrop (evApp (evVar i) e) G env h = .nx env (h.set n (.lst (xs ++ [v]))) := by
  rw [x_drop]
  unfold evApp
  simp only [x_var, h0, x_bind_ok, hn, e1]
  unfold appOp
  simp only [hn]
  rw [if_pos ⟨hp, hl⟩]
  rfl
theorem ret_v {e : EvE} {v : AV} (e1 : e G env h = .ok v h') : esRet e G env h = .ret v h' := by
  rw [x_ret, e1]; rfl
/-- if met != due: return False -/
theorem if_no {t : EvT} {f g : EvS} (e : t G env h = .ok false h) : esIf t f g G env h = g G env h := by
  rw [x_sif, e]; rfl
/-- a word, and the repr of a value behind it -/
def numS (w : Str) (v : AV) : AV := match reprOp [v] [] with
  | .ok (.str x) _ => .str (w ++ x)
  | _ => .non
def repS (v : AV) : AV := match reprOp [v] [] with
  | .ok (.str x) _ => .str x
  | _ => .non
end
/-- data that == can tell -/
def okD (h : AH) (v : AV) : Bool := match toPy h v with
  | some d => d.canLay0 && decide (d.depth ≤ 60)
  | none => false
def okL (h : AH) : List AV → Bool
  | [] => true
  | x :: xs => okD h x && okL h xs
theorem okL_cons {h : AH} {x : AV} {xs : List AV} (a : okD h x = true) (b : okL h xs = true) : okL h (x :: xs) = true := by
  show (okD h x && okL h xs) = true
  rw [a, b]; rfl
theorem okL_py {h : AH} : ∀ {xs : List AV}, okL h xs = true → ∃ ds, toPyL h xs = some ds ∧ PyData.canLayAll0 ds = true ∧ PyData.depthAll ds ≤ 60
  | [], _ => ⟨[], rfl, rfl, by decide⟩
  | x :: xs, e => by
    have e : (okD h x && okL h xs) = true := e
    rw [Bool.and_eq_true] at e
    obtain ⟨e1, e2⟩ := e
    obtain ⟨ds, h1, h2, h3⟩ := okL_py e2
    unfold okD at e1
    cases hx : toPy h x with
    | none => rw [hx] at e1; cases e1
    | some d =>
      rw [hx] at e1
      have e1 : (d.canLay0 && decide (d.depth ≤ 60)) = true := e1
      rw [Bool.and_eq_true, decide_eq_true_eq] at e1
      refine ⟨d :: ds, ?_, ?_, ?_⟩
      · simp only [toPyL, hx, h1]
      · simp only [PyData.canLayAll0, e1.1, h2, Bool.and_self]
      · simp only [PyData.depthAll]
        exact Nat.max_le.mpr ⟨e1.2, h3⟩
theorem eq_cell {h : AH} {n : Nat} {xs : List AV} (hn : h[n]? = some (.lst xs)) (hk : okL h xs = true) : eqB h (.ref n) (.lst xs) = some true := by
  obtain ⟨ds, h1, h2, h3⟩ := okL_py hk
  have s : SeqAt.shaped (.list ds) = true := by
    unfold SeqAt.shaped
    rw [Bool.and_eq_true, decide_eq_true_eq]
    refine ⟨by simpa only [PyData.canLay0] using h2, ?_⟩
    show PyData.depthAll ds + 1 ≤ 64
    omega
  have t1 : toPy1 h (.ref n) = some (.list ds) := by simp only [toPy1, hn, h1, Option.map_some]
  have t2 : toPy1 h (.lst xs) = some (.list ds) := by simp only [toPy1, toPy, h1, Option.map_some]
  unfold eqB
  rw [t1, t2]
  simp only [s, and_self, if_true]
  exact congrArg some (SeqAt.eqv_refl _ (by simpa only [PyData.canLay0] using h2))
theorem ret_eq {G : GT} {env : Env1} {h : AH} {i n : Nat} {e : EvE} {xs : List AV} (h0 : env[i]? = some (some (.ref n))) (hn : h[n]? = some (.lst xs)) (e1 : e G env h = .ok (.lst xs) h) (hk : okL h xs = true) : esRet (evOp eqOp (evVar i) e) G env h = .ret (.bl true) h := by
  refine ret_v ?_
  rw [x_op]
  simp only [x_var, h0, x_bind_ok, e1, o_eq, eq_cell hn hk]
theorem ne_no {G : GT} {env : Env1} {h : AH} {i n : Nat} {e : EvE} {xs : List AV} (h0 : env[i]? = some (some (.ref n))) (hn : h[n]? = some (.lst xs)) (e1 : e G env h = .ok (.lst xs) h) (hk : okL h xs = true) : etB (evOp neOp (evVar i) e) G env h = .ok false h := by
  rw [x_tb, x_op]
  simp only [x_var, h0, x_bind_ok, e1, o_ne, eq_cell hn hk]
  rfl
end Pv
end
section
set_option Elab.async false
set_option linter.all false
set_option maxRecDepth 100000
set_option autoImplicit false
namespace Pv
open PySem PySem.Spec PyProof.Rows L2
theorem o_tup0 (h : AH) : opTup [] h = .ok (.tup []) h := rfl
theorem o_tup1 (x0 : AV) (h : AH) : opTup [x0] h = .ok (.tup [x0]) h := rfl
theorem o_tup2 (x0 x1 : AV) (h : AH) : opTup [x0, x1] h = .ok (.tup [x0, x1]) h := rfl
theorem o_tup3 (x0 x1 x2 : AV) (h : AH) : opTup [x0, x1, x2] h = .ok (.tup [x0, x1, x2]) h := rfl
theorem o_tup4 (x0 x1 x2 x3 : AV) (h : AH) : opTup [x0, x1, x2, x3] h = .ok (.tup [x0, x1, x2, x3]) h := rfl
/-! a loop, turn by turn -/
section
variable {G : GT} {env env1 env2 env' : Env1} {h h2 h' : AH} {tg : Tg} {b : EvS} {v : AV} {xs : List AV} {s : EvI} {n i : Nat}
theorem for_go (es : s G env h = .ok (.snap xs) h) (hl : xs.length = n) (e : forL (.snap xs) tg b G n 0 env h = .nx env' h') : esFor s tg b G env h = .nx env' h' := by
  subst hl
  unfold esFor
  rw [es]
  exact e
theorem for_step {src : Src} (h1 : srcAt src h i = some (some v)) (ht : setTg tg v env = some env1) (hb : b G env1 h = .nx env2 h2) : forL src tg b G (n + 1) i env h = forL src tg b G n (i + 1) env2 h2 := by
  rw [forL.eq_def]
  simp only [h1, ht, hb]
theorem for_end {src : Src} (h1 : srcAt src h i = some none) : forL src tg b G n i env h = .nx env h := by
  rw [forL.eq_def]
  simp only [h1]
end
section
variable {G : GT} {env : Env1} {h : AH} {i n : Nat} {xs : List AV} {e : EvE}
theorem op_eqc (h0 : env[i]? = some (some (.ref n))) (hn : h[n]? = some (.lst xs)) (e1 : e G env h = .ok (.lst xs) h) (hk : okL h xs = true) : evOp eqOp (evVar i) e G env h = .ok (.bl true) h := by
  unfold evOp
  have e0 : evVar i G env h = .ok (.ref n) h := by unfold evVar; rw [h0]
  rw [e0]
  show (e G env h).bind _ = _
  rw [e1]
  show eqOp (.ref n) (.lst xs) h = _
  unfold eqOp
  rw [eq_cell hn hk]
theorem ret_and {f g : EvE} (h1 : f G env h = .ok (.bl true) h) (h2 : g G env h = .ok (.bl true) h) : esRet (evAnd f g) G env h = .ret (.bl true) h := by
  refine ret_v ?_
  unfold evAnd
  rw [h1]
  exact h2
end
end Pv
end
section
set_option Elab.async false
set_option linter.all false
set_option maxRecDepth 100000
set_option autoImplicit false
namespace Pv.K24
open PySem PySem.Spec PyProof.Rows L2

def topS (i : Nat) : Stmt := PySem.Challenge.pw_pauseplay_k24_errors_of_machines.main.body.getD i (.Pass ⟨0, 0, 0, 0⟩)
def cls0 : ClsS := ⟨"Machine", ["_clocks", "_places", "_deeds", "_most"], (42, 4), [("clocks", 43), ("places", 44), ("deeds", 45), ("most", 46)], [], true⟩
def S : Stat where
  fns := [(("is_whole" : Str), (0 : Nat), (1 : Nat)), (("is_whole_between" : Str), (1 : Nat), (3 : Nat)), (("is_mark" : Str), (2 : Nat), (1 : Nat)), (("is_pair" : Str), (3 : Nat), (1 : Nat)), (("is_ascending" : Str), (4 : Nat), (3 : Nat)), (("check_clocks" : Str), (5 : Nat), (1 : Nat)), (("code_of" : Str), (6 : Nat), (1 : Nat)), (("bound_of" : Str), (7 : Nat), (1 : Nat)), (("lot_of" : Str), (8 : Nat), (1 : Nat)), (("code_sum" : Str), (9 : Nat), (2 : Nat)), (("free_row" : Str), (10 : Nat), (2 : Nat)), (("whole_grid" : Str), (11 : Nat), (1 : Nat)), (("tighter_row" : Str), (12 : Nat), (3 : Nat)), (("cut_grid" : Str), (13 : Nat), (4 : Nat)), (("kept_grid" : Str), (14 : Nat), (2 : Nat)), (("is_rule_up_to" : Str), (15 : Nat), (3 : Nat)), (("is_rule" : Str), (16 : Nat), (2 : Nat)), (("is_from_above" : Str), (17 : Nat), (2 : Nat)), (("is_from_below" : Str), (18 : Nat), (2 : Nat)), (("are_sides_ascending" : Str), (19 : Nat), (1 : Nat)), (("is_place" : Str), (20 : Nat), (2 : Nat)), (("are_rules_of_deed" : Str), (21 : Nat), (2 : Nat)), (("wrong_part" : Str), (22 : Nat), (3 : Nat)), (("machine_fault" : Str), (23 : Nat), (3 : Nat)), (("greatest_number" : Str), (24 : Nat), (2 : Nat)), (("check_machine" : Str), (25 : Nat), (1 : Nat)), (("check_place" : Str), (26 : Nat), (2 : Nat)), (("check_deed" : Str), (27 : Nat), (2 : Nat)), (("limits_grid" : Str), (28 : Nat), (2 : Nat)), (("open_grid" : Str), (29 : Nat), (2 : Nat)), (("limits" : Str), (30 : Nat), (2 : Nat)), (("open_lot" : Str), (31 : Nat), (2 : Nat)), (("deeds_at" : Str), (32 : Nat), (3 : Nat)), (("is_order" : Str), (33 : Nat), (2 : Nat)), (("placed" : Str), (34 : Nat), (2 : Nat)), (("without_deed" : Str), (35 : Nat), (2 : Nat)), (("_law_spins" : Str), (36 : Nat), (2 : Nat)), (("_law_spin" : Str), (37 : Nat), (2 : Nat)), (("_law_among" : Str), (38 : Nat), (2 : Nat)), (("_law_right" : Str), (40 : Nat), (1 : Nat)), (("law" : Str), (41 : Nat), (1 : Nat))]
  consts := [("TOO_GREAT", (.int (1000000000000000000000000000000000000000000000000000000000000))), ("MOST_CLOCKS", (.int (4))), ("NO_BOUND", (.int (115792089237316195423570985008687907853269984665640564039457584007913129639936))), ("AT_MOST_NOUGHT", (.int (1))), ("LEAST_OF_RING", (.int (2))), ("GREATEST_NUMBER", (.int (1000000000))), ("MOST_PLACES", (.int (12))), ("MOST_DEEDS", (.int (40))), ("MOST_NUMBER", (.int (20))), ("OWNERS", (.tup [(.str "own"), (.str "foe")]))]
  free := [("abs" : Str), ("all" : Str), ("bool" : Str), ("enumerate" : Str), ("int" : Str), ("isinstance" : Str), ("len" : Str), ("list" : Str), ("max" : Str), ("min" : Str), ("range" : Str), ("repr" : Str), ("sorted" : Str), ("tuple" : Str), ("zip" : Str)]
  gcds := []
  exs := [⟨("PlayError" : Str), none, [0]⟩, ⟨("InvalidMachine" : Str), none, [0, 1]⟩, ⟨("InvalidPlaces" : Str), none, [0, 2]⟩, ⟨("InvalidOperation" : Str), none, [0, 3]⟩, ⟨("InvalidNumber" : Str), some ("given" : Str), [4]⟩]
  hos := [(("_law_met" : Str), topS 62, ("call" : Str))]
  cl := [cls0]
  dk := [("told_anew" : Str)]
/-! _law_met -/
abbrev s39 : Stmt := topS 62
def N39 : List Str := ["call", "error"]
def P39 : List Str := ["call"]
theorem sc39 : FnScope N39 P39 (defScope s39) := ⟨rfl, rfl, rfl, by decide +kernel, rfl, by decide +kernel, by decide +kernel⟩
def bm39 : EvS := esNx
def cl39 : List Clz := [⟨1, none, (esRet (evC (.str "machine")))⟩, ⟨2, none, (esRet (evC (.str "places")))⟩, ⟨3, none, (esRet (evC (.str "operation")))⟩, ⟨4, some 1, (esRet (evOp addOp (evC (.str "number ")) (evOf reprOp (evCons (evXat "given" 1) evNil))))⟩]
def br39 : EvS := (esRet (evC (.str "fine")))
def ho39 : HoOk S "_law_met" := (compHo S "_law_met" s39 N39 "call" sc39 rfl).get (by kernel_rfl)
theorem hm39 : ho39.m = hoM S.exs N39.length bm39 cl39 br39 := by kernel_rfl
def Hs : HoT S := fun x => if h : x = "_law_met" then some (h ▸ ho39) else none
/-! is_whole -/
abbrev s0 : Stmt := topS 2
def N0 : List Str := ["value"]
def P0 : List Str := ["value"]
theorem sc0 : FnScope N0 P0 (defScope s0) := ⟨rfl, rfl, rfl, by decide +kernel, rfl, by decide +kernel, by decide +kernel⟩
def b0 : EvS := (esRet (evAnd (evIsi2 1 .int (evVar 0)) (evAnd (evOf1 notOp (evIsi2 1 .bl (evVar 0))) (evChain ltOp ltOp (evOf1 negOp (evC (.int (1000000000000000000000000000000000000000000000000000000000000)))) (evVar 0) (evC (.int (1000000000000000000000000000000000000000000000000000000000000)))))))
theorem h0 : SSs S (lcOf N0 (defScope s0)) (defBody s0) b0 := got (o := compSs (compS S Hs [] false 40 (lcOf N0 (defScope s0))) (defBody s0)) (by kernel_rfl)
/-! is_whole_between -/
abbrev s1 : Stmt := topS 3
def N1 : List Str := ["value", "least", "greatest"]
def P1 : List Str := ["value", "least", "greatest"]
theorem sc1 : FnScope N1 P1 (defScope s1) := ⟨rfl, rfl, rfl, by decide +kernel, rfl, by decide +kernel, by decide +kernel⟩
def b1 : EvS := (esRet (evAnd (evCall 1 0 (evCons (evVar 0) evNil)) (evChain leOp leOp (evVar 1) (evVar 0) (evVar 2))))
theorem h1 : SSs S (lcOf N1 (defScope s1)) (defBody s1) b1 := got (o := compSs (compS S Hs [] false 40 (lcOf N1 (defScope s1))) (defBody s1)) (by kernel_rfl)
/-! is_mark -/
abbrev s2 : Stmt := topS 4
def N2 : List Str := ["value"]
def P2 : List Str := ["value"]
theorem sc2 : FnScope N2 P2 (defScope s2) := ⟨rfl, rfl, rfl, by decide +kernel, rfl, by decide +kernel, by decide +kernel⟩
def b2 : EvS := (esRet (evCall 3 1 (evCons (evVar 0) (evCons (evC (.int 0)) (evCons (evC (.int 1)) evNil)))))
theorem h2 : SSs S (lcOf N2 (defScope s2)) (defBody s2) b2 := got (o := compSs (compS S Hs [] false 40 (lcOf N2 (defScope s2))) (defBody s2)) (by kernel_rfl)
/-! is_pair -/
abbrev s3 : Stmt := topS 5
def N3 : List Str := ["value"]
def P3 : List Str := ["value"]
theorem sc3 : FnScope N3 P3 (defScope s3) := ⟨rfl, rfl, rfl, by decide +kernel, rfl, by decide +kernel, by decide +kernel⟩
def b3 : EvS := (esRet (evAnd (evIsi2 1 .tup (evVar 0)) (evOp eqOp (evOf opLen (evCons (evVar 0) evNil)) (evC (.int 2)))))
theorem h3 : SSs S (lcOf N3 (defScope s3)) (defBody s3) b3 := got (o := compSs (compS S Hs [] false 40 (lcOf N3 (defScope s3))) (defBody s3)) (by kernel_rfl)
/-! is_ascending -/
abbrev s4 : Stmt := topS 6
def N4 : List Str := ["value", "least", "greatest", "item", "following"]
def P4 : List Str := ["value", "least", "greatest"]
theorem sc4 : FnScope N4 P4 (defScope s4) := ⟨rfl, rfl, rfl, by decide +kernel, rfl, by decide +kernel, by decide +kernel⟩
def b4 : EvS := (esSeq (esIf (etNot (etOf (evIsi2 1 .tup (evVar 0)))) (esRet (evC (.bl false))) esNx) (esSeq (esIf (etNot (etOf (evOf (opBls fun bs => bs.all id) (evCons (evLc false (eiSeq (evVar 0)) (.nm 3) etYes (evCall 3 1 (evCons (evVar 3) (evCons (evVar 1) (evCons (evVar 2) evNil)))) [3]) evNil)))) (esRet (evC (.bl false))) esNx) (esRet (evOf (opBls fun bs => bs.all id) (evCons (evLc false (eiOf opZip (evCons (evVar 0) (evCons (evSl (evVar 0) (eoSome (evC (.int 1))) eoNone) evNil))) (.tp [3, 4]) etYes (evOp ltOp (evVar 3) (evVar 4)) [3, 4]) evNil)))))
theorem h4 : SSs S (lcOf N4 (defScope s4)) (defBody s4) b4 := got (o := compSs (compS S Hs [] false 40 (lcOf N4 (defScope s4))) (defBody s4)) (by kernel_rfl)
/-! check_clocks -/
abbrev s5 : Stmt := topS 15
def N5 : List Str := ["clocks"]
def P5 : List Str := ["clocks"]
theorem sc5 : FnScope N5 P5 (defScope s5) := ⟨rfl, rfl, rfl, by decide +kernel, rfl, by decide +kernel, by decide +kernel⟩
def b5 : EvS := (esIf (etNot (etOf (evCall 3 1 (evCons (evVar 0) (evCons (evC (.int 0)) (evCons (evC (.int (4))) evNil)))))) (esRaiseK 4 (evVar 0)) esNx)
theorem h5 : SSs S (lcOf N5 (defScope s5)) (defBody s5) b5 := got (o := compSs (compS S Hs [] false 40 (lcOf N5 (defScope s5))) (defBody s5)) (by kernel_rfl)
/-! code_of -/
abbrev s6 : Stmt := topS 20
def N6 : List Str := ["bound"]
def P6 : List Str := ["bound"]
theorem sc6 : FnScope N6 P6 (defScope s6) := ⟨rfl, rfl, rfl, by decide +kernel, rfl, by decide +kernel, by decide +kernel⟩
def b6 : EvS := (esRet (evIf (etB (evOp isOp (evVar 0) (evC .non))) (evC (.int (115792089237316195423570985008687907853269984665640564039457584007913129639936))) (evOp addOp (evOp mulOp (evC (.int 2)) (evOp ixOp (evVar 0) (evC (.int 0)))) (evOp ixOp (evVar 0) (evC (.int 1))))))
theorem h6 : SSs S (lcOf N6 (defScope s6)) (defBody s6) b6 := got (o := compSs (compS S Hs [] false 40 (lcOf N6 (defScope s6))) (defBody s6)) (by kernel_rfl)
/-! bound_of -/
abbrev s7 : Stmt := topS 21
def N7 : List Str := ["code"]
def P7 : List Str := ["code"]
theorem sc7 : FnScope N7 P7 (defScope s7) := ⟨rfl, rfl, rfl, by decide +kernel, rfl, by decide +kernel, by decide +kernel⟩
def b7 : EvS := (esRet (evIf (etB (evOp eqOp (evVar 0) (evC (.int (115792089237316195423570985008687907853269984665640564039457584007913129639936))))) (evC .non) (evOf opTup (evCons (evOp shrOp (evVar 0) (evC (.int 1))) (evCons (evOp andOp (evVar 0) (evC (.int 1))) evNil)))))
theorem h7 : SSs S (lcOf N7 (defScope s7)) (defBody s7) b7 := got (o := compSs (compS S Hs [] false 40 (lcOf N7 (defScope s7))) (defBody s7)) (by kernel_rfl)
/-! lot_of -/
abbrev s8 : Stmt := topS 22
def N8 : List Str := ["grid", "row", "code"]
def P8 : List Str := ["grid"]
theorem sc8 : FnScope N8 P8 (defScope s8) := ⟨rfl, rfl, rfl, by decide +kernel, rfl, by decide +kernel, by decide +kernel⟩
def b8 : EvS := (esRet (evOf opTuple (evCons (evLc false (eiSeq (evVar 0)) (.nm 1) etYes (evOf opTuple (evCons (evLc false (eiSeq (evVar 1)) (.nm 2) etYes (evCall 1 7 (evCons (evVar 2) evNil)) [2]) evNil)) [1]) evNil)))
theorem h8 : SSs S (lcOf N8 (defScope s8)) (defBody s8) b8 := got (o := compSs (compS S Hs [] false 40 (lcOf N8 (defScope s8))) (defBody s8)) (by kernel_rfl)
/-! code_sum -/
abbrev s9 : Stmt := topS 23
def N9 : List Str := ["one", "other"]
def P9 : List Str := ["one", "other"]
theorem sc9 : FnScope N9 P9 (defScope s9) := ⟨rfl, rfl, rfl, by decide +kernel, rfl, by decide +kernel, by decide +kernel⟩
def b9 : EvS := (esSeq (esIf (etOr (etB (evOp eqOp (evVar 0) (evC (.int (115792089237316195423570985008687907853269984665640564039457584007913129639936))))) (etB (evOp eqOp (evVar 1) (evC (.int (115792089237316195423570985008687907853269984665640564039457584007913129639936)))))) (esRet (evC (.int (115792089237316195423570985008687907853269984665640564039457584007913129639936)))) esNx) (esRet (evOp subOp (evOp addOp (evVar 0) (evVar 1)) (evOp andOp (evOp orOp (evVar 0) (evVar 1)) (evC (.int 1))))))
theorem h9 : SSs S (lcOf N9 (defScope s9)) (defBody s9) b9 := got (o := compSs (compS S Hs [] false 40 (lcOf N9 (defScope s9))) (defBody s9)) (by kernel_rfl)
/-! free_row -/
abbrev s10 : Stmt := topS 24
def N10 : List Str := ["clock", "many", "to"]
def P10 : List Str := ["clock", "many"]
theorem sc10 : FnScope N10 P10 (defScope s10) := ⟨rfl, rfl, rfl, by decide +kernel, rfl, by decide +kernel, by decide +kernel⟩
def b10 : EvS := (esRet (evOf opTuple (evCons (evLc false (eiOf opRng1 (evCons (evVar 1) evNil)) (.nm 2) etYes (evIf (etB (evOp eqOp (evVar 2) (evVar 0))) (evC (.int (1))) (evC (.int (115792089237316195423570985008687907853269984665640564039457584007913129639936)))) [2]) evNil)))
theorem h10 : SSs S (lcOf N10 (defScope s10)) (defBody s10) b10 := got (o := compSs (compS S Hs [] false 40 (lcOf N10 (defScope s10))) (defBody s10)) (by kernel_rfl)
/-! whole_grid -/
abbrev s11 : Stmt := topS 25
def N11 : List Str := ["clocks", "first", "clock"]
def P11 : List Str := ["clocks"]
theorem sc11 : FnScope N11 P11 (defScope s11) := ⟨rfl, rfl, rfl, by decide +kernel, rfl, by decide +kernel, by decide +kernel⟩
def b11 : EvS := (esSeq (esSet (.nm 1) (evOf opTuple (evCons (evOp mulOp (evOf opLst (evCons (evC (.int (1))) evNil)) (evOp addOp (evVar 0) (evC (.int 1)))) evNil))) (esRet (evOf opTup (evCons (evVar 1) (evStar (evLc false (eiOf opRng2 (evCons (evC (.int 1)) (evCons (evOp addOp (evVar 0) (evC (.int 1))) evNil))) (.nm 2) etYes (evCall 2 10 (evCons (evVar 2) (evCons (evOp addOp (evVar 0) (evC (.int 1))) evNil))) [2]) evNil)))))
theorem h11 : SSs S (lcOf N11 (defScope s11)) (defBody s11) b11 := got (o := compSs (compS S Hs [] false 40 (lcOf N11 (defScope s11))) (defBody s11)) (by kernel_rfl)
/-! tighter_row -/
abbrev s12 : Stmt := topS 26
def N12 : List Str := ["row", "start", "ends", "code", "end"]
def P12 : List Str := ["row", "start", "ends"]
theorem sc12 : FnScope N12 P12 (defScope s12) := ⟨rfl, rfl, rfl, by decide +kernel, rfl, by decide +kernel, by decide +kernel⟩
def b12 : EvS := (esSeq (esIf (etB (evOp eqOp (evVar 1) (evC (.int (115792089237316195423570985008687907853269984665640564039457584007913129639936))))) (esRet (evVar 0)) esNx) (esRet (evOf opTuple (evCons (evLc false (eiOf opZip (evCons (evVar 0) (evCons (evVar 2) evNil))) (.tp [3, 4]) etYes (evIf (etOr (etB (evOp eqOp (evVar 4) (evC (.int (115792089237316195423570985008687907853269984665640564039457584007913129639936))))) (etB (evOp ltOp (evVar 3) (evOp addOp (evVar 1) (evVar 4))))) (evVar 3) (evOp subOp (evOp addOp (evVar 1) (evVar 4)) (evOp andOp (evOp orOp (evVar 1) (evVar 4)) (evC (.int 1))))) [3, 4]) evNil))))
theorem h12 : SSs S (lcOf N12 (defScope s12)) (defBody s12) b12 := got (o := compSs (compS S Hs [] false 40 (lcOf N12 (defScope s12))) (defBody s12)) (by kernel_rfl)
/-! cut_grid -/
abbrev s13 : Stmt := topS 27
def N13 : List Str := ["grid", "one", "other", "code", "ends", "row"]
def P13 : List Str := ["grid", "one", "other", "code"]
theorem sc13 : FnScope N13 P13 (defScope s13) := ⟨rfl, rfl, rfl, by decide +kernel, rfl, by decide +kernel, by decide +kernel⟩
def b13 : EvS := (esSeq (esIf (etB (evOp leOp (evOp ixOp (evOp ixOp (evVar 0) (evVar 1)) (evVar 2)) (evVar 3))) (esRet (evVar 0)) esNx) (esSeq (esIf (etB (evOp ltOp (evOp addOp (evOp ixOp (evOp ixOp (evVar 0) (evVar 2)) (evVar 1)) (evVar 3)) (evC (.int (2))))) (esRet (evC .non)) esNx) (esSeq (esSet (.nm 4) (evOp ixOp (evVar 0) (evVar 2))) (esRet (evOf opTuple (evCons (evLc false (eiSeq (evVar 0)) (.nm 5) etYes (evCall 3 12 (evCons (evVar 5) (evCons (evCall 2 9 (evCons (evOp ixOp (evVar 5) (evVar 1)) (evCons (evVar 3) evNil))) (evCons (evVar 4) evNil)))) [5]) evNil))))))
theorem h13 : SSs S (lcOf N13 (defScope s13)) (defBody s13) b13 := got (o := compSs (compS S Hs [] false 40 (lcOf N13 (defScope s13))) (defBody s13)) (by kernel_rfl)
/-! kept_grid -/
abbrev s14 : Stmt := topS 28
def N14 : List Str := ["clocks", "rules", "grid", "one", "other", "bound"]
def P14 : List Str := ["clocks", "rules"]
theorem sc14 : FnScope N14 P14 (defScope s14) := ⟨rfl, rfl, rfl, by decide +kernel, rfl, by decide +kernel, by decide +kernel⟩
def b14 : EvS := (esSeq (esSet (.nm 2) (evCall 1 11 (evCons (evVar 0) evNil))) (esSeq (esFor (eiSeq (evVar 1)) (.tp [3, 4, 5]) (esSeq (esSet (.nm 2) (evCall 4 13 (evCons (evVar 2) (evCons (evVar 3) (evCons (evVar 4) (evCons (evCall 1 6 (evCons (evVar 5) evNil)) evNil)))))) (esIf (etB (evOp isOp (evVar 2) (evC .non))) (esRet (evC .non)) esNx))) (esRet (evVar 2))))
theorem h14 : SSs S (lcOf N14 (defScope s14)) (defBody s14) b14 := got (o := compSs (compS S Hs [] false 40 (lcOf N14 (defScope s14))) (defBody s14)) (by kernel_rfl)
/-! is_rule_up_to -/
abbrev s15 : Stmt := topS 31
def N15 : List Str := ["clocks", "value", "greatest", "one", "other", "bound"]
def P15 : List Str := ["clocks", "value", "greatest"]
theorem sc15 : FnScope N15 P15 (defScope s15) := ⟨rfl, rfl, rfl, by decide +kernel, rfl, by decide +kernel, by decide +kernel⟩
def b15 : EvS := (esSeq (esIf (etNot (etAnd (etOf (evIsi2 1 .tup (evVar 1))) (etB (evOp eqOp (evOf opLen (evCons (evVar 1) evNil)) (evC (.int 3)))))) (esRet (evC (.bl false))) esNx) (esSeq (esSet (.tp [3, 4, 5]) (evVar 1)) (esSeq (esIf (etNot (etAnd (etOf (evCall 3 1 (evCons (evVar 3) (evCons (evC (.int 0)) (evCons (evVar 0) evNil))))) (etAnd (etOf (evCall 3 1 (evCons (evVar 4) (evCons (evC (.int 0)) (evCons (evVar 0) evNil))))) (etB (evOp neOp (evVar 3) (evVar 4)))))) (esRet (evC (.bl false))) esNx) (esRet (evAnd (evCall 1 3 (evCons (evVar 5) evNil)) (evAnd (evCall 3 1 (evCons (evOp ixOp (evVar 5) (evC (.int 0))) (evCons (evOf1 negOp (evVar 2)) (evCons (evVar 2) evNil)))) (evCall 1 2 (evCons (evOp ixOp (evVar 5) (evC (.int 1))) evNil))))))))
theorem h15 : SSs S (lcOf N15 (defScope s15)) (defBody s15) b15 := got (o := compSs (compS S Hs [] false 40 (lcOf N15 (defScope s15))) (defBody s15)) (by kernel_rfl)
/-! is_rule -/
abbrev s16 : Stmt := topS 32
def N16 : List Str := ["clocks", "value"]
def P16 : List Str := ["clocks", "value"]
theorem sc16 : FnScope N16 P16 (defScope s16) := ⟨rfl, rfl, rfl, by decide +kernel, rfl, by decide +kernel, by decide +kernel⟩
def b16 : EvS := (esSeq (esDrop (evCall 1 5 (evCons (evVar 0) evNil))) (esRet (evCall 3 15 (evCons (evVar 0) (evCons (evVar 1) (evCons (evC (.int (1000000000))) evNil))))))
theorem h16 : SSs S (lcOf N16 (defScope s16)) (defBody s16) b16 := got (o := compSs (compS S Hs [] false 40 (lcOf N16 (defScope s16))) (defBody s16)) (by kernel_rfl)
/-! is_from_above -/
abbrev s17 : Stmt := topS 38
def N17 : List Str := ["clocks", "value"]
def P17 : List Str := ["clocks", "value"]
theorem sc17 : FnScope N17 P17 (defScope s17) := ⟨rfl, rfl, rfl, by decide +kernel, rfl, by decide +kernel, by decide +kernel⟩
def b17 : EvS := (esRet (evAnd (evCall 2 16 (evCons (evVar 0) (evCons (evVar 1) evNil))) (evAnd (evOp eqOp (evOp ixOp (evVar 1) (evC (.int 1))) (evC (.int 0))) (evChain leOp leOp (evC (.int 0)) (evOp ixOp (evOp ixOp (evVar 1) (evC (.int 2))) (evC (.int 0))) (evC (.int (20)))))))
theorem h17 : SSs S (lcOf N17 (defScope s17)) (defBody s17) b17 := got (o := compSs (compS S Hs [] false 40 (lcOf N17 (defScope s17))) (defBody s17)) (by kernel_rfl)
/-! is_from_below -/
abbrev s18 : Stmt := topS 39
def N18 : List Str := ["clocks", "value"]
def P18 : List Str := ["clocks", "value"]
theorem sc18 : FnScope N18 P18 (defScope s18) := ⟨rfl, rfl, rfl, by decide +kernel, rfl, by decide +kernel, by decide +kernel⟩
def b18 : EvS := (esRet (evAnd (evCall 2 16 (evCons (evVar 0) (evCons (evVar 1) evNil))) (evAnd (evOp eqOp (evOp ixOp (evVar 1) (evC (.int 0))) (evC (.int 0))) (evChain leOp leOp (evC (.int 0)) (evOf1 negOp (evOp ixOp (evOp ixOp (evVar 1) (evC (.int 2))) (evC (.int 0)))) (evC (.int (20)))))))
theorem h18 : SSs S (lcOf N18 (defScope s18)) (defBody s18) b18 := got (o := compSs (compS S Hs [] false 40 (lcOf N18 (defScope s18))) (defBody s18)) (by kernel_rfl)
/-! are_sides_ascending -/
abbrev s19 : Stmt := topS 40
def N19 : List Str := ["rules", "sides", "rule", "side", "following"]
def P19 : List Str := ["rules"]
theorem sc19 : FnScope N19 P19 (defScope s19) := ⟨rfl, rfl, rfl, by decide +kernel, rfl, by decide +kernel, by decide +kernel⟩
def b19 : EvS := (esSeq (esSet (.nm 1) (evLc false (eiSeq (evVar 0)) (.nm 2) etYes (evOf opTup (evCons (evOp ixOp (evVar 2) (evC (.int 0))) (evCons (evOp ixOp (evVar 2) (evC (.int 1))) evNil))) [2])) (esRet (evOf (opBls fun bs => bs.all id) (evCons (evLc false (eiOf opZip (evCons (evVar 1) (evCons (evSl (evVar 1) (eoSome (evC (.int 1))) eoNone) evNil))) (.tp [3, 4]) etYes (evOp ltOp (evVar 3) (evVar 4)) [3, 4]) evNil))))
theorem h19 : SSs S (lcOf N19 (defScope s19)) (defBody s19) b19 := got (o := compSs (compS S Hs [] false 40 (lcOf N19 (defScope s19))) (defBody s19)) (by kernel_rfl)
/-! is_place -/
abbrev s20 : Stmt := topS 41
def N20 : List Str := ["clocks", "value", "rule"]
def P20 : List Str := ["clocks", "value"]
theorem sc20 : FnScope N20 P20 (defScope s20) := ⟨rfl, rfl, rfl, by decide +kernel, rfl, by decide +kernel, by decide +kernel⟩
def b20 : EvS := (esSeq (esIf (etNot (etAnd (etOf (evIsi2 1 .tup (evVar 1))) (etOf (evOf (opBls fun bs => bs.all id) (evCons (evLc false (eiSeq (evVar 1)) (.nm 2) etYes (evCall 2 17 (evCons (evVar 0) (evCons (evVar 2) evNil))) [2]) evNil))))) (esRet (evC (.bl false))) esNx) (esRet (evAnd (evCall 1 19 (evCons (evVar 1) evNil)) (evOf (opBls fun bs => bs.all id) (evCons (evLc false (eiSeq (evVar 1)) (.nm 2) etYes (evOp neOp (evOp ixOp (evVar 2) (evC (.int 2))) (evOf opTup (evCons (evC (.int 0)) (evCons (evC (.int 0)) evNil)))) [2]) evNil)))))
theorem h20 : SSs S (lcOf N20 (defScope s20)) (defBody s20) b20 := got (o := compSs (compS S Hs [] false 40 (lcOf N20 (defScope s20))) (defBody s20)) (by kernel_rfl)
/-! are_rules_of_deed -/
abbrev s21 : Stmt := topS 42
def N21 : List Str := ["clocks", "value", "rule"]
def P21 : List Str := ["clocks", "value"]
theorem sc21 : FnScope N21 P21 (defScope s21) := ⟨rfl, rfl, rfl, by decide +kernel, rfl, by decide +kernel, by decide +kernel⟩
def b21 : EvS := (esSeq (esIf (etNot (etOf (evIsi2 1 .tup (evVar 1)))) (esRet (evC (.bl false))) esNx) (esSeq (esIf (etNot (etOf (evOf (opBls fun bs => bs.all id) (evCons (evLc false (eiSeq (evVar 1)) (.nm 2) etYes (evOr (evCall 2 17 (evCons (evVar 0) (evCons (evVar 2) evNil))) (evCall 2 18 (evCons (evVar 0) (evCons (evVar 2) evNil)))) [2]) evNil)))) (esRet (evC (.bl false))) esNx) (esRet (evCall 1 19 (evCons (evVar 1) evNil)))))
theorem h21 : SSs S (lcOf N21 (defScope s21)) (defBody s21) b21 := got (o := compSs (compS S Hs [] false 40 (lcOf N21 (defScope s21))) (defBody s21)) (by kernel_rfl)
/-! wrong_part -/
abbrev s22 : Stmt := topS 43
def N22 : List Str := ["clocks", "many_places", "value", "owner", "start", "goal", "rules", "back"]
def P22 : List Str := ["clocks", "many_places", "value"]
theorem sc22 : FnScope N22 P22 (defScope s22) := ⟨rfl, rfl, rfl, by decide +kernel, rfl, by decide +kernel, by decide +kernel⟩
def b22 : EvS := (esSeq (esIf (etNot (etAnd (etOf (evIsi2 1 .tup (evVar 2))) (etB (evOp eqOp (evOf opLen (evCons (evVar 2) evNil)) (evC (.int 5)))))) (esRet (evC (.str "deed"))) esNx) (esSeq (esSet (.tp [3, 4, 5, 6, 7]) (evVar 2)) (esSeq (esIf (etB (evOp (inOp true) (evVar 3) (evC (.tup [(.str "own"), (.str "foe")])))) (esRet (evC (.str "owner"))) esNx) (esSeq (esIf (etNot (etOf (evCall 3 1 (evCons (evVar 4) (evCons (evC (.int 0)) (evCons (evOp subOp (evVar 1) (evC (.int 1))) evNil)))))) (esRet (evC (.str "start"))) esNx) (esSeq (esIf (etNot (etOf (evCall 3 1 (evCons (evVar 5) (evCons (evC (.int 0)) (evCons (evOp subOp (evVar 1) (evC (.int 1))) evNil)))))) (esRet (evC (.str "goal"))) esNx) (esSeq (esIf (etNot (etOf (evCall 2 21 (evCons (evVar 0) (evCons (evVar 6) evNil))))) (esRet (evC (.str "rules"))) esNx) (esRet (evIf (etOf (evCall 3 4 (evCons (evVar 7) (evCons (evC (.int 1)) (evCons (evVar 0) evNil))))) (evC .non) (evC (.str "back"))))))))))
theorem h22 : SSs S (lcOf N22 (defScope s22)) (defBody s22) b22 := got (o := compSs (compS S Hs [] false 40 (lcOf N22 (defScope s22))) (defBody s22)) (by kernel_rfl)
/-! machine_fault -/
abbrev s23 : Stmt := topS 44
def N23 : List Str := ["clocks", "places", "deeds", "index", "place", "deed", "part"]
def P23 : List Str := ["clocks", "places", "deeds"]
theorem sc23 : FnScope N23 P23 (defScope s23) := ⟨rfl, rfl, rfl, by decide +kernel, rfl, by decide +kernel, by decide +kernel⟩
def b23 : EvS := (esSeq (esIf (etNot (etOf (evCall 3 1 (evCons (evVar 0) (evCons (evC (.int 0)) (evCons (evC (.int (4))) evNil)))))) (esRet (evOf opTup (evCons (evC (.str "clocks")) evNil))) esNx) (esSeq (esIf (etNot (etAnd (etOf (evIsi2 1 .tup (evVar 1))) (etB (evChain leOp leOp (evC (.int 1)) (evOf opLen (evCons (evVar 1) evNil)) (evC (.int (12))))))) (esRet (evOf opTup (evCons (evC (.str "places")) evNil))) esNx) (esSeq (esIf (etNot (etAnd (etOf (evIsi2 1 .tup (evVar 2))) (etB (evOp leOp (evOf opLen (evCons (evVar 2) evNil)) (evC (.int (40))))))) (esRet (evOf opTup (evCons (evC (.str "deeds")) evNil))) esNx) (esSeq (esFor (eiOf opEnum (evCons (evVar 1) evNil)) (.tp [3, 4]) (esIf (etNot (etOf (evCall 2 20 (evCons (evVar 0) (evCons (evVar 4) evNil))))) (esRet (evOf opTup (evCons (evC (.str "place")) (evCons (evVar 3) evNil)))) esNx)) (esSeq (esFor (eiOf opEnum (evCons (evVar 2) evNil)) (.tp [3, 5]) (esSeq (esSet (.nm 6) (evCall 3 22 (evCons (evVar 0) (evCons (evOf opLen (evCons (evVar 1) evNil)) (evCons (evVar 5) evNil))))) (esIf (etB (evOp isNotOp (evVar 6) (evC .non))) (esRet (evOf opTup (evCons (evC (.str "deed")) (evCons (evVar 3) (evCons (evVar 6) evNil))))) esNx))) (esRet (evC .non)))))))
theorem h23 : SSs S (lcOf N23 (defScope s23)) (defBody s23) b23 := got (o := compSs (compS S Hs [] false 40 (lcOf N23 (defScope s23))) (defBody s23)) (by kernel_rfl)
/-! greatest_number -/
abbrev s24 : Stmt := topS 45
def N24 : List Str := ["places", "deeds", "rules", "place", "rule", "deed"]
def P24 : List Str := ["places", "deeds"]
theorem sc24 : FnScope N24 P24 (defScope s24) := ⟨rfl, rfl, rfl, by decide +kernel, rfl, by decide +kernel, by decide +kernel⟩
def b24 : EvS := (esSeq (esSet (.nm 2) (evOp addOp (evLc2 false (eiSeq (evVar 0)) (.nm 3) etYes (eiSeq (evVar 3)) (.nm 4) etYes (evVar 4) [3, 4]) (evLc2 false (eiSeq (evVar 1)) (.nm 5) etYes (eiSeq (evOp ixOp (evVar 5) (evC (.int 3)))) (.nm 4) etYes (evVar 4) [5, 4]))) (esRet (evMaxD (evLc false (eiSeq (evVar 2)) (.nm 4) etYes (evOf opAbs (evCons (evOp ixOp (evOp ixOp (evVar 4) (evC (.int 2))) (evC (.int 0))) evNil)) [4]) (evC (.int 0)))))
theorem h24 : SSs S (lcOf N24 (defScope s24)) (defBody s24) b24 := got (o := compSs (compS S Hs [] false 40 (lcOf N24 (defScope s24))) (defBody s24)) (by kernel_rfl)
/-! check_machine -/
abbrev s25 : Stmt := topS 47
def N25 : List Str := ["value"]
def P25 : List Str := ["value"]
theorem sc25 : FnScope N25 P25 (defScope s25) := ⟨rfl, rfl, rfl, by decide +kernel, rfl, by decide +kernel, by decide +kernel⟩
def b25 : EvS := (esIf (etNot (etOf (evIsiC 1 0 (evVar 0)))) (esRaise 1 (evC (.str "a Machine is asked for"))) esNx)
theorem h25 : SSs S (lcOf N25 (defScope s25)) (defBody s25) b25 := got (o := compSs (compS S Hs [] false 40 (lcOf N25 (defScope s25))) (defBody s25)) (by kernel_rfl)
/-! check_place -/
abbrev s26 : Stmt := topS 48
def N26 : List Str := ["machine", "place"]
def P26 : List Str := ["machine", "place"]
theorem sc26 : FnScope N26 P26 (defScope s26) := ⟨rfl, rfl, rfl, by decide +kernel, rfl, by decide +kernel, by decide +kernel⟩
def b26 : EvS := (esIf (etNot (etOf (evCall 3 1 (evCons (evVar 1) (evCons (evC (.int 0)) (evCons (evOp subOp (evOf opLen (evCons (evAt [.prop 44] (evVar 0)) evNil)) (evC (.int 1))) evNil)))))) (esRaiseK 4 (evVar 1)) esNx)
theorem h26 : SSs S (lcOf N26 (defScope s26)) (defBody s26) b26 := got (o := compSs (compS S Hs [] false 40 (lcOf N26 (defScope s26))) (defBody s26)) (by kernel_rfl)
/-! check_deed -/
abbrev s27 : Stmt := topS 49
def N27 : List Str := ["machine", "deed"]
def P27 : List Str := ["machine", "deed"]
theorem sc27 : FnScope N27 P27 (defScope s27) := ⟨rfl, rfl, rfl, by decide +kernel, rfl, by decide +kernel, by decide +kernel⟩
def b27 : EvS := (esIf (etNot (etOf (evCall 3 1 (evCons (evVar 1) (evCons (evC (.int 0)) (evCons (evOp subOp (evOf opLen (evCons (evAt [.prop 45] (evVar 0)) evNil)) (evC (.int 1))) evNil)))))) (esRaiseK 4 (evVar 1)) esNx)
theorem h27 : SSs S (lcOf N27 (defScope s27)) (defBody s27) b27 := got (o := compSs (compS S Hs [] false 40 (lcOf N27 (defScope s27))) (defBody s27)) (by kernel_rfl)
/-! limits_grid -/
abbrev s28 : Stmt := topS 50
def N28 : List Str := ["machine", "place"]
def P28 : List Str := ["machine", "place"]
theorem sc28 : FnScope N28 P28 (defScope s28) := ⟨rfl, rfl, rfl, by decide +kernel, rfl, by decide +kernel, by decide +kernel⟩
def b28 : EvS := (esRet (evCall 2 14 (evCons (evAt [.prop 43] (evVar 0)) (evCons (evOp ixOp (evAt [.prop 44] (evVar 0)) (evVar 1)) evNil))))
theorem h28 : SSs S (lcOf N28 (defScope s28)) (defBody s28) b28 := got (o := compSs (compS S Hs [] false 40 (lcOf N28 (defScope s28))) (defBody s28)) (by kernel_rfl)
/-! open_grid -/
abbrev s29 : Stmt := topS 51
def N29 : List Str := ["machine", "deed", "_", "start", "goal", "rules", "back", "asked_ahead", "rule"]
def P29 : List Str := ["machine", "deed"]
theorem sc29 : FnScope N29 P29 (defScope s29) := ⟨rfl, rfl, rfl, by decide +kernel, rfl, by decide +kernel, by decide +kernel⟩
def b29 : EvS := (esSeq (esSet (.tp [2, 3, 4, 5, 6]) (evOp ixOp (evAt [.prop 45] (evVar 0)) (evVar 1))) (esSeq (esSet (.nm 7) (evOf opTuple (evCons (evLc false (eiSeq (evOp ixOp (evAt [.prop 44] (evVar 0)) (evVar 4))) (.nm 8) (etB (evOp (inOp true) (evOp ixOp (evVar 8) (evC (.int 0))) (evVar 6))) (evVar 8) [8]) evNil))) (esRet (evCall 2 14 (evCons (evAt [.prop 43] (evVar 0)) (evCons (evOp addOp (evOp addOp (evOp ixOp (evAt [.prop 44] (evVar 0)) (evVar 3)) (evVar 5)) (evVar 7)) evNil))))))
theorem h29 : SSs S (lcOf N29 (defScope s29)) (defBody s29) b29 := got (o := compSs (compS S Hs [] false 40 (lcOf N29 (defScope s29))) (defBody s29)) (by kernel_rfl)
/-! limits -/
abbrev s30 : Stmt := topS 52
def N30 : List Str := ["machine", "place"]
def P30 : List Str := ["machine", "place"]
theorem sc30 : FnScope N30 P30 (defScope s30) := ⟨rfl, rfl, rfl, by decide +kernel, rfl, by decide +kernel, by decide +kernel⟩
def b30 : EvS := (esSeq (esDrop (evCall 1 25 (evCons (evVar 0) evNil))) (esSeq (esDrop (evCall 2 26 (evCons (evVar 0) (evCons (evVar 1) evNil)))) (esRet (evCall 1 8 (evCons (evCall 2 28 (evCons (evVar 0) (evCons (evVar 1) evNil))) evNil)))))
theorem h30 : SSs S (lcOf N30 (defScope s30)) (defBody s30) b30 := got (o := compSs (compS S Hs [] false 40 (lcOf N30 (defScope s30))) (defBody s30)) (by kernel_rfl)
/-! open_lot -/
abbrev s31 : Stmt := topS 53
def N31 : List Str := ["machine", "deed", "grid"]
def P31 : List Str := ["machine", "deed"]
theorem sc31 : FnScope N31 P31 (defScope s31) := ⟨rfl, rfl, rfl, by decide +kernel, rfl, by decide +kernel, by decide +kernel⟩
def b31 : EvS := (esSeq (esDrop (evCall 1 25 (evCons (evVar 0) evNil))) (esSeq (esDrop (evCall 2 27 (evCons (evVar 0) (evCons (evVar 1) evNil)))) (esSeq (esSet (.nm 2) (evCall 2 29 (evCons (evVar 0) (evCons (evVar 1) evNil)))) (esRet (evIf (etB (evOp isOp (evVar 2) (evC .non))) (evC .non) (evCall 1 8 (evCons (evVar 2) evNil)))))))
theorem h31 : SSs S (lcOf N31 (defScope s31)) (defBody s31) b31 := got (o := compSs (compS S Hs [] false 40 (lcOf N31 (defScope s31))) (defBody s31)) (by kernel_rfl)
/-! deeds_at -/
abbrev s32 : Stmt := topS 54
def N32 : List Str := ["machine", "place", "owner", "index", "deed"]
def P32 : List Str := ["machine", "place", "owner"]
theorem sc32 : FnScope N32 P32 (defScope s32) := ⟨rfl, rfl, rfl, by decide +kernel, rfl, by decide +kernel, by decide +kernel⟩
def b32 : EvS := (esSeq (esDrop (evCall 1 25 (evCons (evVar 0) evNil))) (esSeq (esDrop (evCall 2 26 (evCons (evVar 0) (evCons (evVar 1) evNil)))) (esSeq (esIf (etB (evOp (inOp true) (evVar 2) (evC (.tup [(.str "own"), (.str "foe")])))) (esRaise 3 (evC (.str "an owner is own or foe"))) esNx) (esRet (evOf opTuple (evCons (evLc false (eiOf opEnum (evCons (evAt [.prop 45] (evVar 0)) evNil)) (.tp [3, 4]) (etAnd (etB (evOp eqOp (evOp ixOp (evVar 4) (evC (.int 0))) (evVar 2))) (etB (evOp eqOp (evOp ixOp (evVar 4) (evC (.int 1))) (evVar 1)))) (evVar 3) [3, 4]) evNil))))))
theorem h32 : SSs S (lcOf N32 (defScope s32)) (defBody s32) b32 := got (o := compSs (compS S Hs [] false 40 (lcOf N32 (defScope s32))) (defBody s32)) (by kernel_rfl)
/-! is_order -/
abbrev s33 : Stmt := topS 55
def N33 : List Str := ["value", "many", "index"]
def P33 : List Str := ["value", "many"]
theorem sc33 : FnScope N33 P33 (defScope s33) := ⟨rfl, rfl, rfl, by decide +kernel, rfl, by decide +kernel, by decide +kernel⟩
def b33 : EvS := (esSeq (esIf (etNot (etAnd (etOf (evIsi2 1 .tup (evVar 0))) (etOf (evOf (opBls fun bs => bs.all id) (evCons (evLc false (eiSeq (evVar 0)) (.nm 2) etYes (evCall 1 0 (evCons (evVar 2) evNil)) [2]) evNil))))) (esRet (evC (.bl false))) esNx) (esRet (evOp eqOp (evOf sortOp (evCons (evVar 0) evNil)) (evLRg1 (evVar 1)))))
theorem h33 : SSs S (lcOf N33 (defScope s33)) (defBody s33) b33 := got (o := compSs (compS S Hs [] false 40 (lcOf N33 (defScope s33))) (defBody s33)) (by kernel_rfl)
/-! placed -/
abbrev s34 : Stmt := topS 56
def N34 : List Str := ["machine", "order", "told_anew", "places", "deeds", "at", "index", "owner", "start", "goal", "rules", "back"]
def P34 : List Str := ["machine", "order"]
theorem sc34 : FnScope N34 P34 (defScope s34) := ⟨rfl, rfl, rfl, by decide +kernel, rfl, by decide +kernel, by decide +kernel⟩
def b34 : EvS := (esSeq (esDrop (evCall 1 25 (evCons (evVar 0) evNil))) (esSeq (esIf (etNot (etOf (evCall 2 33 (evCons (evVar 1) (evCons (evOf opLen (evCons (evAt [.prop 44] (evVar 0)) evNil)) evNil))))) (esRaise 2 (evC (.str "a tuple that tells each index of a place once is asked for"))) esNx) (esSeq (esSet (.nm 2) (evDc false (eiOf opEnum (evCons (evVar 1) evNil)) (.tp [5, 6]) etYes (evVar 6) (evVar 5) [5, 6])) (esSeq (esSet (.nm 3) (evOf opTuple (evCons (evLc false (eiSeq (evVar 1)) (.nm 6) etYes (evOp ixOp (evAt [.prop 44] (evVar 0)) (evVar 6)) [6]) evNil))) (esSeq (esSet (.nm 4) (evOf opTuple (evCons (evLc false (eiSeq (evAt [.prop 45] (evVar 0))) (.tp [7, 8, 9, 10, 11]) etYes (evOf opTup (evCons (evVar 7) (evCons (evOp ixOp2 (evVar 2) (evVar 8)) (evCons (evOp ixOp2 (evVar 2) (evVar 9)) (evCons (evVar 10) (evCons (evVar 11) evNil)))))) [7, 8, 9, 10, 11]) evNil))) (esRet (evMk true 0 4 42 4 (evCons (evAt [.prop 43] (evVar 0)) (evCons (evVar 3) (evCons (evVar 4) evNil))))))))))
theorem h34 : SSs S (lcOf N34 (defScope s34)) (defBody s34) b34 := got (o := compSs (compS S Hs [] false 40 (lcOf N34 (defScope s34))) (defBody s34)) (by kernel_rfl)
/-! without_deed -/
abbrev s35 : Stmt := topS 57
def N35 : List Str := ["machine", "deed"]
def P35 : List Str := ["machine", "deed"]
theorem sc35 : FnScope N35 P35 (defScope s35) := ⟨rfl, rfl, rfl, by decide +kernel, rfl, by decide +kernel, by decide +kernel⟩
def b35 : EvS := (esSeq (esDrop (evCall 1 25 (evCons (evVar 0) evNil))) (esSeq (esDrop (evCall 2 27 (evCons (evVar 0) (evCons (evVar 1) evNil)))) (esRet (evMk true 0 4 42 4 (evCons (evAt [.prop 43] (evVar 0)) (evCons (evAt [.prop 44] (evVar 0)) (evCons (evOp addOp (evSl (evAt [.prop 45] (evVar 0)) eoNone (eoSome (evVar 1))) (evSl (evAt [.prop 45] (evVar 0)) (eoSome (evOp addOp (evVar 1) (evC (.int 1)))) eoNone)) evNil)))))))
theorem h35 : SSs S (lcOf N35 (defScope s35)) (defBody s35) b35 := got (o := compSs (compS S Hs [] false 40 (lcOf N35 (defScope s35))) (defBody s35)) (by kernel_rfl)
/-! _law_spins -/
abbrev s36 : Stmt := topS 59
def N36 : List Str := ["script", "spot", "cell", "great"]
def P36 : List Str := ["script", "spot"]
theorem sc36 : FnScope N36 P36 (defScope s36) := ⟨rfl, rfl, rfl, by decide +kernel, rfl, by decide +kernel, by decide +kernel⟩
def b36 : EvS := (esSeq (esSet (.nm 2) (evIf (etB (evOp ltOp (evVar 1) (evOf opLen (evCons (evVar 0) evNil)))) (evOf opInt (evCons (evOp ixOp (evVar 0) (evVar 1)) evNil)) (evOp addOp (evOp mulOp (evC (.int 311)) (evVar 1)) (evC (.int 97))))) (esSeq (esSet (.nm 3) (evOp modOp (evOf opInt (evCons (evOf opAbs (evCons (evVar 2) evNil)) evNil)) (evOp powOp (evOp powOp (evC (.int 10)) (evC (.int 54))) (evC (.int 6))))) (esRet (evOf opCel (evCons (evOf opMax (evCons (evC (.int 0)) (evCons (evOp subOp (evVar 3) (evOp powOp (evC (.int 10)) (evC (.int 16)))) evNil))) (evCons (evOp addOp (evOp addOp (evOp addOp (evOp mulOp (evOp modOp (evOf opInt (evCons (evVar 3) evNil)) (evC (.int 2305843009213693921))) (evC (.int 73))) (evOp mulOp (evC (.int 967)) (evVar 1))) (evOp mulOp (evC (.int 43)) (evOf opInt (evCons (evOp ltOp (evVar 2) (evC (.int 0))) evNil)))) (evC (.int 23))) (evCons (evC (.int 0)) evNil)))))))
theorem h36 : SSs S (lcOf N36 (defScope s36)) (defBody s36) b36 := got (o := compSs (compS S Hs [] true 40 (lcOf N36 (defScope s36))) (defBody s36)) (by kernel_rfl)
/-! _law_spin -/
abbrev s37 : Stmt := topS 60
def N37 : List Str := ["spins", "total", "one", "two", "found"]
def P37 : List Str := ["spins", "total"]
theorem sc37 : FnScope N37 P37 (defScope s37) := ⟨rfl, rfl, rfl, by decide +kernel, rfl, by decide +kernel, by decide +kernel⟩
def b37 : EvS := (esSeq (esIf (etB (evOp gtOp (evOp ixOp (evVar 0) (evC (.int 0))) (evC (.int 0)))) (esSeq (esSet (.nm 4) (evOp modOp (evOf opInt (evCons (evOp ixOp (evVar 0) (evC (.int 0))) evNil)) (evVar 1))) (esSeq (esSetIx (evVar 0) (evC (.int 0)) (evOp fdivOp (evOp ixOp (evVar 0) (evC (.int 0))) (evVar 1))) (esRet (evVar 4)))) esNx) (esSeq (esSetIx (evVar 0) (evC (.int 2)) (evOp addOp (evOp ixOp (evVar 0) (evC (.int 2))) (evC (.int 1)))) (esSeq (esSet (.nm 2) (evOp modOp (evOf opInt (evCons (evOp addOp (evOp ixOp (evVar 0) (evC (.int 1))) (evOp mulOp (evC (.int 32452867)) (evOp ixOp (evVar 0) (evC (.int 2))))) evNil)) (evC (.int 2305843009213693951)))) (esSeq (esSet (.nm 3) (evOp addOp (evOp mulOp (evOp modOp (evOf opInt (evCons (evOp addOp (evOp mulOp (evVar 2) (evVar 2)) (evOp mulOp (evC (.int 131)) (evOp ixOp (evVar 0) (evC (.int 2))))) evNil)) (evC (.int 2305843009213693907))) (evC (.int 49979687))) (evVar 2))) (esRet (evOp modOp (evOf opInt (evCons (evOp fdivOp (evVar 3) (evC (.int 65579))) evNil)) (evVar 1)))))))
theorem h37 : SSs S (lcOf N37 (defScope s37)) (defBody s37) b37 := got (o := compSs (compS S Hs [] false 40 (lcOf N37 (defScope s37))) (defBody s37)) (by kernel_rfl)
/-! _law_among -/
abbrev s38 : Stmt := topS 61
def N38 : List Str := ["spins", "items"]
def P38 : List Str := ["spins", "items"]
theorem sc38 : FnScope N38 P38 (defScope s38) := ⟨rfl, rfl, rfl, by decide +kernel, rfl, by decide +kernel, by decide +kernel⟩
def b38 : EvS := (esRet (evOp ixOp (evVar 1) (evCall 2 37 (evCons (evVar 0) (evCons (evOf opLen (evCons (evVar 1) evNil)) evNil)))))
theorem h38 : SSs S (lcOf N38 (defScope s38)) (defBody s38) b38 := got (o := compSs (compS S Hs [] false 40 (lcOf N38 (defScope s38))) (defBody s38)) (by kernel_rfl)
/-! _law_right -/
abbrev s40 : Stmt := topS 63
def N40 : List Str := ["spins", "parts", "machine", "none", "place", "deed", "owner", "order", "met", "due", "call"]
def P40 : List Str := ["spins"]
theorem sc40 : FnScope N40 P40 (defScope s40) := ⟨rfl, rfl, rfl, by decide +kernel, rfl, by decide +kernel, by decide +kernel⟩
def b40_0 : EvS := (esSet (.nm 1) (evOf opTup (evCons (evC (.int 1)) (evCons (evOf opTup (evCons (evOf opTup evNil) (evCons (evOf opTup (evCons (evOf opTup (evCons (evC (.int 1)) (evCons (evC (.int 0)) (evCons (evOf opTup (evCons (evC (.int 2)) (evCons (evC (.int 1)) evNil))) evNil)))) evNil)) evNil))) (evCons (evOf opTup (evCons (evOf opTup (evCons (evC (.str "own")) (evCons (evC (.int 0)) (evCons (evC (.int 1)) (evCons (evOf opTup evNil) (evCons (evOf opTup evNil) evNil)))))) (evCons (evOf opTup (evCons (evC (.str "foe")) (evCons (evC (.int 1)) (evCons (evC (.int 0)) (evCons (evOf opTup evNil) (evCons (evOf opTup (evCons (evC (.int 1)) evNil)) evNil)))))) (evCons (evOf opTup (evCons (evC (.str "foe")) (evCons (evC (.int 1)) (evCons (evC (.int 1)) (evCons (evOf opTup evNil) (evCons (evOf opTup evNil) evNil)))))) evNil)))) evNil)))))
def b40_1 : EvS := (esSet (.nm 2) (evMk true 0 4 42 4 (evCons (evOp ixOp (evVar 1) (evC (.int 0))) (evCons (evOp ixOp (evVar 1) (evC (.int 1))) (evCons (evOp ixOp (evVar 1) (evC (.int 2))) evNil)))))
def b40_2 : EvS := (esSet (.nm 3) (evCall 2 38 (evCons (evVar 0) (evCons (evOf opLst (evCons (evC .non) (evCons (evC (.int 0)) (evCons (evVar 1) (evCons (evOf opList (evCons (evVar 1) evNil)) (evCons (evC (.str "machine")) (evCons (evOf opTup evNil) (evCons (evOf opLst (evCons (evVar 2) evNil)) (evCons (evC (.bl true)) evNil))))))))) evNil))))
def b40_3 : EvS := (esSet (.nm 4) (evCall 2 38 (evCons (evVar 0) (evCons (evOf opLst (evCons (evC .non) (evCons (evOf1 negOp (evC (.int 1))) (evCons (evC (.int 2)) (evCons (evC (.bl true)) (evCons (evC (.str "0")) (evCons (evOf opTup (evCons (evC (.int 0)) evNil)) (evCons (evOp subOp (evC (.int 1)) (evOp powOp (evC (.int 10)) (evC (.int 59)))) evNil)))))))) evNil))))
def b40_4 : EvS := (esSet (.nm 5) (evCall 2 38 (evCons (evVar 0) (evCons (evOf opLst (evCons (evC .non) (evCons (evOf1 negOp (evC (.int 1))) (evCons (evC (.int 3)) (evCons (evC (.bl false)) (evCons (evC (.str "1")) (evCons (evOf opLst (evCons (evC (.int 1)) evNil)) (evCons (evOp powOp (evC (.int 10)) (evC (.int 59))) evNil)))))))) evNil))))
def b40_5 : EvS := (esSet (.nm 6) (evCall 2 38 (evCons (evVar 0) (evCons (evOf opLst (evCons (evC .non) (evCons (evC (.str "")) (evCons (evC (.str "Own")) (evCons (evC (.str "foes")) (evCons (evC (.int 0)) (evCons (evOf opTup (evCons (evC (.str "own")) evNil)) (evCons (evOf opLst (evCons (evC (.str "own")) evNil)) (evCons (evC (.bl true)) evNil))))))))) evNil))))
def b40_6 : EvS := (esSet (.nm 7) (evCall 2 38 (evCons (evVar 0) (evCons (evOf opLst (evCons (evC .non) (evCons (evOf opTup evNil) (evCons (evOf opTup (evCons (evC (.int 0)) evNil)) (evCons (evOf opTup (evCons (evC (.int 0)) (evCons (evC (.int 0)) evNil))) (evCons (evOf opTup (evCons (evC (.int 0)) (evCons (evC (.int 1)) (evCons (evC (.int 2)) evNil)))) (evCons (evOf opLst (evCons (evC (.int 0)) (evCons (evC (.int 1)) evNil))) (evCons (evOf opTup (evCons (evC (.int 1)) (evCons (evC (.int 2)) evNil))) (evCons (evOf opTup (evCons (evC (.int 0)) (evCons (evC (.bl true)) evNil))) (evCons (evC (.str "01")) (evCons (evOf opTup (evCons (evC (.int 1)) (evCons (evC (.int 0)) (evCons (evC (.int 1)) evNil)))) (evCons (evDictC 0 1) evNil)))))))))))) evNil))))
def b40_7 : EvS := (esSet (.nm 8) (evOf opCel (evCons (evLam (hoM S.exs 2 bm39 cl39 br39) (evCall 2 30 (evCons (evVar 3) (evCons (evVar 4) evNil)))) evNil)))
def b40_8 : EvS := (esDrop (evApp (evVar 8) (evLam (hoM S.exs 2 bm39 cl39 br39) (evCall 2 30 (evCons (evVar 2) (evCons (evVar 4) evNil))))))
def b40_9 : EvS := (esDrop (evApp (evVar 8) (evLam (hoM S.exs 2 bm39 cl39 br39) (evCall 2 30 (evCons (evVar 2) (evCons (evC (.int 1)) evNil))))))
def b40_10 : EvS := (esSet (.nm 9) (evOf opLst (evCons (evC (.str "machine")) (evCons (evOp addOp (evC (.str "number ")) (evOf reprOp (evCons (evVar 4) evNil))) (evCons (evC (.str "fine")) evNil)))))
def b40_11 : EvS := (esFor (eiSeq (evOf opTup (evCons (evFn 31) (evCons (evFn 35) evNil)))) (.nm 10) (esSeq (esDrop (evApp (evVar 8) (evLam (hoM S.exs 2 bm39 cl39 br39) (evCallV S.fns 10 (evCons (evVar 3) (evCons (evVar 5) evNil)))))) (esSeq (esDrop (evApp (evVar 8) (evLam (hoM S.exs 2 bm39 cl39 br39) (evCallV S.fns 10 (evCons (evVar 2) (evCons (evVar 5) evNil)))))) (esSeq (esDrop (evApp (evVar 8) (evLam (hoM S.exs 2 bm39 cl39 br39) (evCallV S.fns 10 (evCons (evVar 2) (evCons (evC (.int 2)) evNil)))))) (esSet (.nm 9) (evOp addOp (evVar 9) (evOf opLst (evCons (evC (.str "machine")) (evCons (evOp addOp (evC (.str "number ")) (evOf reprOp (evCons (evVar 5) evNil))) (evCons (evC (.str "fine")) evNil))))))))))
def b40_12 : EvS := (esDrop (evApp (evVar 8) (evLam (hoM S.exs 2 bm39 cl39 br39) (evCall 3 32 (evCons (evVar 3) (evCons (evVar 4) (evCons (evVar 6) evNil)))))))
def b40_13 : EvS := (esDrop (evApp (evVar 8) (evLam (hoM S.exs 2 bm39 cl39 br39) (evCall 3 32 (evCons (evVar 2) (evCons (evVar 4) (evCons (evVar 6) evNil)))))))
def b40_14 : EvS := (esDrop (evApp (evVar 8) (evLam (hoM S.exs 2 bm39 cl39 br39) (evCall 3 32 (evCons (evVar 2) (evCons (evC (.int 0)) (evCons (evVar 6) evNil)))))))
def b40_15 : EvS := (esDrop (evApp (evVar 8) (evLam (hoM S.exs 2 bm39 cl39 br39) (evCall 3 32 (evCons (evVar 2) (evCons (evC (.int 0)) (evCons (evC (.str "foe")) evNil)))))))
def b40_16 : EvS := (esDrop (evApp (evVar 8) (evLam (hoM S.exs 2 bm39 cl39 br39) (evCall 2 34 (evCons (evVar 3) (evCons (evVar 7) evNil))))))
def b40_17 : EvS := (esDrop (evApp (evVar 8) (evLam (hoM S.exs 2 bm39 cl39 br39) (evCall 2 34 (evCons (evVar 2) (evCons (evVar 7) evNil))))))
def b40_18 : EvS := (esDrop (evApp (evVar 8) (evLam (hoM S.exs 2 bm39 cl39 br39) (evCall 2 34 (evCons (evVar 2) (evCons (evOf opTup (evCons (evC (.int 1)) (evCons (evC (.int 0)) evNil))) evNil))))))
def b40_19 : EvS := (esSet (.nm 9) (evOp addOp (evVar 9) (evOf opLst (evCons (evC (.str "machine")) (evCons (evOp addOp (evC (.str "number ")) (evOf reprOp (evCons (evVar 4) evNil))) (evCons (evC (.str "operation")) (evCons (evC (.str "fine")) (evCons (evC (.str "machine")) (evCons (evC (.str "places")) (evCons (evC (.str "fine")) evNil))))))))))
def b40_20 : EvS := (esDrop (evApp (evVar 8) (evLam (hoM S.exs 2 bm39 cl39 br39) (evMk true 0 4 42 4 (evCons (evVar 3) (evCons (evOp ixOp (evVar 1) (evC (.int 1))) (evCons (evOp ixOp (evVar 1) (evC (.int 2))) evNil)))))))
def b40_21 : EvS := (esDrop (evApp (evVar 8) (evLam (hoM S.exs 2 bm39 cl39 br39) (evMk true 0 4 42 4 (evCons (evC (.int 1)) (evCons (evOp ixOp (evVar 1) (evC (.int 1))) (evCons (evOf opTup (evCons (evOf opTup (evCons (evVar 6) (evCons (evC (.int 0)) (evCons (evC (.int 1)) (evCons (evOf opTup evNil) (evCons (evOf opTup evNil) evNil)))))) evNil)) evNil)))))))
def b40_22 : EvS := (esRet (evOp eqOp (evVar 8) (evOp addOp (evVar 9) (evOf opLst (evCons (evC (.str "machine")) (evCons (evC (.str "machine")) evNil))))))
def b40 : EvS := (esSeq b40_0 (esSeq b40_1 (esSeq b40_2 (esSeq b40_3 (esSeq b40_4 (esSeq b40_5 (esSeq b40_6 (esSeq b40_7 (esSeq b40_8 (esSeq b40_9 (esSeq b40_10 (esSeq b40_11 (esSeq b40_12 (esSeq b40_13 (esSeq b40_14 (esSeq b40_15 (esSeq b40_16 (esSeq b40_17 (esSeq b40_18 (esSeq b40_19 (esSeq b40_20 (esSeq b40_21 b40_22))))))))))))))))))))))
theorem h40 : SSs S (lcG true N40 (defScope s40)) (defBody s40) b40 := got (o := compSs (compS S Hs ["met"] false 40 (lcG true N40 (defScope s40))) (defBody s40)) (by kernel_rfl)
/-! law -/
abbrev s41 : Stmt := topS 64
def N41 : List Str := ["script", "spot", "spins"]
def P41 : List Str := ["script"]
theorem sc41 : FnScope N41 P41 (defScope s41) := ⟨rfl, rfl, rfl, by decide +kernel, rfl, by decide +kernel, by decide +kernel⟩
def b41 : EvS := (esSeq (esFor (eiOf opRng1 (evCons (evOf opMax (evCons (evC (.int 1)) (evCons (evOf opMin (evCons (evC (.int 4)) (evCons (evOf opLen (evCons (evVar 0) evNil)) evNil))) evNil))) evNil)) (.nm 1) (esSeq (esSet (.nm 2) (evCall 2 36 (evCons (evVar 0) (evCons (evVar 1) evNil)))) (esIf (etOr (etNot (etOf (evCall 1 40 (evCons (evVar 2) evNil)))) (etNot (etOf (evCall 1 40 (evCons (evVar 2) evNil))))) (esRet (evC (.bl false))) esNx))) (esRet (evC (.bl true))))
theorem h41 : SSs S (lcOf N41 (defScope s41)) (defBody s41) b41 := got (o := compSs (compS S Hs ["spins"] false 40 (lcOf N41 (defScope s41))) (defBody s41)) (by kernel_rfl)
/-! __init__ -/
abbrev s42 : Stmt := methAt (topS 46) 0
def N42 : List Str := ["self", "clocks", "places", "deeds", "fault"]
def P42 : List Str := ["self", "clocks", "places", "deeds"]
theorem sc42 : FnScope N42 P42 (defScope s42) := ⟨rfl, rfl, rfl, by decide +kernel, rfl, by decide +kernel, by decide +kernel⟩
def b42 : EvS := (esSeq (esSet (.nm 4) (evCall 3 23 (evCons (evVar 1) (evCons (evVar 2) (evCons (evVar 3) evNil))))) (esSeq (esIf (etB (evOp isNotOp (evVar 4) (evC .non))) (esRaise 1 (evJs [(evC (.str "this is no machine, the first fault is ")), (evOf1 fmtOp (evVar 4))] Str.empty)) esNx) (esSeq (esSetAt [some 0] (evVar 0) (evVar 1)) (esSeq (esSetAt [some 1] (evVar 0) (evVar 2)) (esSeq (esSetAt [some 2] (evVar 0) (evVar 3)) (esSetAt [some 3] (evVar 0) (evCall 2 24 (evCons (evVar 2) (evCons (evVar 3) evNil)))))))))
theorem h42 : SSs S (lcOf N42 (defScope s42)) (defBody s42) b42 := got (o := compSs (compS S Hs [] false 40 (lcOf N42 (defScope s42))) (defBody s42)) (by kernel_rfl)
/-! clocks -/
abbrev s43 : Stmt := methAt (topS 46) 1
def N43 : List Str := ["self"]
def P43 : List Str := ["self"]
theorem sc43 : FnScope N43 P43 (defScope s43) := ⟨rfl, rfl, rfl, by decide +kernel, rfl, by decide +kernel, by decide +kernel⟩
def b43 : EvS := (esRet (evAt [.fld 0] (evVar 0)))
theorem h43 : SSs S (lcOf N43 (defScope s43)) (defBody s43) b43 := got (o := compSs (compS S Hs [] false 40 (lcOf N43 (defScope s43))) (defBody s43)) (by kernel_rfl)
/-! places -/
abbrev s44 : Stmt := methAt (topS 46) 2
def N44 : List Str := ["self"]
def P44 : List Str := ["self"]
theorem sc44 : FnScope N44 P44 (defScope s44) := ⟨rfl, rfl, rfl, by decide +kernel, rfl, by decide +kernel, by decide +kernel⟩
def b44 : EvS := (esRet (evAt [.fld 1] (evVar 0)))
theorem h44 : SSs S (lcOf N44 (defScope s44)) (defBody s44) b44 := got (o := compSs (compS S Hs [] false 40 (lcOf N44 (defScope s44))) (defBody s44)) (by kernel_rfl)
/-! deeds -/
abbrev s45 : Stmt := methAt (topS 46) 3
def N45 : List Str := ["self"]
def P45 : List Str := ["self"]
theorem sc45 : FnScope N45 P45 (defScope s45) := ⟨rfl, rfl, rfl, by decide +kernel, rfl, by decide +kernel, by decide +kernel⟩
def b45 : EvS := (esRet (evAt [.fld 2] (evVar 0)))
theorem h45 : SSs S (lcOf N45 (defScope s45)) (defBody s45) b45 := got (o := compSs (compS S Hs [] false 40 (lcOf N45 (defScope s45))) (defBody s45)) (by kernel_rfl)
/-! most -/
abbrev s46 : Stmt := methAt (topS 46) 4
def N46 : List Str := ["self"]
def P46 : List Str := ["self"]
theorem sc46 : FnScope N46 P46 (defScope s46) := ⟨rfl, rfl, rfl, by decide +kernel, rfl, by decide +kernel, by decide +kernel⟩
def b46 : EvS := (esRet (evAt [.fld 3] (evVar 0)))
theorem h46 : SSs S (lcOf N46 (defScope s46)) (defBody s46) b46 := got (o := compSs (compS S Hs [] false 40 (lcOf N46 (defScope s46))) (defBody s46)) (by kernel_rfl)
def step (G : GT) : GT := fun i => if 200000 ≤ i then G (i - 200000) else match i with
  | 0 => runDef false 1 b0 G
  | 1 => runDef false 3 b1 G
  | 2 => runDef false 1 b2 G
  | 3 => runDef false 1 b3 G
  | 4 => runDef false 5 b4 G
  | 5 => runDef false 1 b5 G
  | 6 => runDef false 1 b6 G
  | 7 => runDef false 1 b7 G
  | 8 => runDef false 3 b8 G
  | 9 => runDef false 2 b9 G
  | 10 => runDef false 3 b10 G
  | 11 => runDef false 3 b11 G
  | 12 => runDef false 5 b12 G
  | 13 => runDef false 6 b13 G
  | 14 => runDef false 6 b14 G
  | 15 => runDef false 6 b15 G
  | 16 => runDef false 2 b16 G
  | 17 => runDef false 2 b17 G
  | 18 => runDef false 2 b18 G
  | 19 => runDef false 5 b19 G
  | 20 => runDef false 3 b20 G
  | 21 => runDef false 3 b21 G
  | 22 => runDef false 8 b22 G
  | 23 => runDef false 7 b23 G
  | 24 => runDef false 6 b24 G
  | 25 => runDef false 1 b25 G
  | 26 => runDef false 2 b26 G
  | 27 => runDef false 2 b27 G
  | 28 => runDef false 2 b28 G
  | 29 => runDef false 9 b29 G
  | 30 => runDef false 2 b30 G
  | 31 => runDef false 3 b31 G
  | 32 => runDef false 5 b32 G
  | 33 => runDef false 3 b33 G
  | 34 => runDef false 12 b34 G
  | 35 => runDef false 2 b35 G
  | 36 => runDef true 4 b36 G
  | 37 => runDef false 5 b37 G
  | 38 => runDef false 2 b38 G
  | 40 => runDef false 11 b40 G
  | 41 => runDef false 3 b41 G
  | 42 => runDef false 5 b42 G
  | 43 => runDef false 1 b43 G
  | 44 => runDef false 1 b44 G
  | 45 => runDef false 1 b45 G
  | 46 => runDef false 1 b46 G
  | i => stepX G i
def GK : Nat → GT
  | 0 => fun _ _ _ => .bad
  | k + 1 => step (GK k)
theorem step_big (G : GT) (i : Nat) (h : 200000 ≤ i) : step G i = G (i - 200000) := by
  unfold step
  rw [if_pos h]
theorem dnK (k : Nat) : dnG 1 (GK (k + 1)) = GK k := by
  funext i
  have e : GK (k + 1) = step (GK k) := rfl
  unfold dnG
  rw [e]
  generalize hn : i + 200000 * 1 = n
  rw [step_big (GK k) n (by omega), show n - 200000 = i by omega]
theorem tickK : ∀ (k : Nat) (h : AH) (v : AV) (h' : AH), GK k ixTick [] h = .ok v h' → 2 ≤ k
  | 0, _, _, _, e => by cases e
  | 1, _, _, _, e => by cases e
  | k + 2, _, _, _, _ => by omega
theorem tick_ok (k : Nat) (h : AH) : GK (k + 2) ixTick [] h = .ok .non h := rfl
theorem e0 (k : Nat) (args : List AV) (h : AH) : GK (k + 1) 0 args h = runDef false 1 b0 (GK k) args h := rfl
theorem e1 (k : Nat) (args : List AV) (h : AH) : GK (k + 1) 1 args h = runDef false 3 b1 (GK k) args h := rfl
theorem e2 (k : Nat) (args : List AV) (h : AH) : GK (k + 1) 2 args h = runDef false 1 b2 (GK k) args h := rfl
theorem e3 (k : Nat) (args : List AV) (h : AH) : GK (k + 1) 3 args h = runDef false 1 b3 (GK k) args h := rfl
theorem e4 (k : Nat) (args : List AV) (h : AH) : GK (k + 1) 4 args h = runDef false 5 b4 (GK k) args h := rfl
theorem e5 (k : Nat) (args : List AV) (h : AH) : GK (k + 1) 5 args h = runDef false 1 b5 (GK k) args h := rfl
theorem e6 (k : Nat) (args : List AV) (h : AH) : GK (k + 1) 6 args h = runDef false 1 b6 (GK k) args h := rfl
theorem e7 (k : Nat) (args : List AV) (h : AH) : GK (k + 1) 7 args h = runDef false 1 b7 (GK k) args h := rfl
theorem e8 (k : Nat) (args : List AV) (h : AH) : GK (k + 1) 8 args h = runDef false 3 b8 (GK k) args h := rfl
theorem e9 (k : Nat) (args : List AV) (h : AH) : GK (k + 1) 9 args h = runDef false 2 b9 (GK k) args h := rfl
theorem e10 (k : Nat) (args : List AV) (h : AH) : GK (k + 1) 10 args h = runDef false 3 b10 (GK k) args h := rfl
theorem e11 (k : Nat) (args : List AV) (h : AH) : GK (k + 1) 11 args h = runDef false 3 b11 (GK k) args h := rfl
theorem e12 (k : Nat) (args : List AV) (h : AH) : GK (k + 1) 12 args h = runDef false 5 b12 (GK k) args h := rfl
theorem e13 (k : Nat) (args : List AV) (h : AH) : GK (k + 1) 13 args h = runDef false 6 b13 (GK k) args h := rfl
theorem e14 (k : Nat) (args : List AV) (h : AH) : GK (k + 1) 14 args h = runDef false 6 b14 (GK k) args h := rfl
theorem e15 (k : Nat) (args : List AV) (h : AH) : GK (k + 1) 15 args h = runDef false 6 b15 (GK k) args h := rfl
theorem e16 (k : Nat) (args : List AV) (h : AH) : GK (k + 1) 16 args h = runDef false 2 b16 (GK k) args h := rfl
theorem e17 (k : Nat) (args : List AV) (h : AH) : GK (k + 1) 17 args h = runDef false 2 b17 (GK k) args h := rfl
theorem e18 (k : Nat) (args : List AV) (h : AH) : GK (k + 1) 18 args h = runDef false 2 b18 (GK k) args h := rfl
theorem e19 (k : Nat) (args : List AV) (h : AH) : GK (k + 1) 19 args h = runDef false 5 b19 (GK k) args h := rfl
theorem e20 (k : Nat) (args : List AV) (h : AH) : GK (k + 1) 20 args h = runDef false 3 b20 (GK k) args h := rfl
theorem e21 (k : Nat) (args : List AV) (h : AH) : GK (k + 1) 21 args h = runDef false 3 b21 (GK k) args h := rfl
theorem e22 (k : Nat) (args : List AV) (h : AH) : GK (k + 1) 22 args h = runDef false 8 b22 (GK k) args h := rfl
theorem e23 (k : Nat) (args : List AV) (h : AH) : GK (k + 1) 23 args h = runDef false 7 b23 (GK k) args h := rfl
theorem e24 (k : Nat) (args : List AV) (h : AH) : GK (k + 1) 24 args h = runDef false 6 b24 (GK k) args h := rfl
theorem e25 (k : Nat) (args : List AV) (h : AH) : GK (k + 1) 25 args h = runDef false 1 b25 (GK k) args h := rfl
theorem e26 (k : Nat) (args : List AV) (h : AH) : GK (k + 1) 26 args h = runDef false 2 b26 (GK k) args h := rfl
theorem e27 (k : Nat) (args : List AV) (h : AH) : GK (k + 1) 27 args h = runDef false 2 b27 (GK k) args h := rfl
theorem e28 (k : Nat) (args : List AV) (h : AH) : GK (k + 1) 28 args h = runDef false 2 b28 (GK k) args h := rfl
theorem e29 (k : Nat) (args : List AV) (h : AH) : GK (k + 1) 29 args h = runDef false 9 b29 (GK k) args h := rfl
theorem e30 (k : Nat) (args : List AV) (h : AH) : GK (k + 1) 30 args h = runDef false 2 b30 (GK k) args h := rfl
theorem e31 (k : Nat) (args : List AV) (h : AH) : GK (k + 1) 31 args h = runDef false 3 b31 (GK k) args h := rfl
theorem e32 (k : Nat) (args : List AV) (h : AH) : GK (k + 1) 32 args h = runDef false 5 b32 (GK k) args h := rfl
theorem e33 (k : Nat) (args : List AV) (h : AH) : GK (k + 1) 33 args h = runDef false 3 b33 (GK k) args h := rfl
theorem e34 (k : Nat) (args : List AV) (h : AH) : GK (k + 1) 34 args h = runDef false 12 b34 (GK k) args h := rfl
theorem e35 (k : Nat) (args : List AV) (h : AH) : GK (k + 1) 35 args h = runDef false 2 b35 (GK k) args h := rfl
theorem e36 (k : Nat) (args : List AV) (h : AH) : GK (k + 1) 36 args h = runDef true 4 b36 (GK k) args h := rfl
theorem e37 (k : Nat) (args : List AV) (h : AH) : GK (k + 1) 37 args h = runDef false 5 b37 (GK k) args h := rfl
theorem e38 (k : Nat) (args : List AV) (h : AH) : GK (k + 1) 38 args h = runDef false 2 b38 (GK k) args h := rfl
theorem e40 (k : Nat) (args : List AV) (h : AH) : GK (k + 1) 40 args h = runDef false 11 b40 (GK k) args h := rfl
theorem e41 (k : Nat) (args : List AV) (h : AH) : GK (k + 1) 41 args h = runDef false 3 b41 (GK k) args h := rfl
theorem e42 (k : Nat) (args : List AV) (h : AH) : GK (k + 1) 42 args h = runDef false 5 b42 (GK k) args h := rfl
theorem e43 (k : Nat) (args : List AV) (h : AH) : GK (k + 1) 43 args h = runDef false 1 b43 (GK k) args h := rfl
theorem e44 (k : Nat) (args : List AV) (h : AH) : GK (k + 1) 44 args h = runDef false 1 b44 (GK k) args h := rfl
theorem e45 (k : Nat) (args : List AV) (h : AH) : GK (k + 1) 45 args h = runDef false 1 b45 (GK k) args h := rfl
theorem e46 (k : Nat) (args : List AV) (h : AH) : GK (k + 1) 46 args h = runDef false 1 b46 (GK k) args h := rfl
/-- what the head tells of this text -/
structure Head (K : PySem.W.Frag) (c40 p40 : Addr) (C0 : Addr) (C1 : Addr) (C2 : Addr) (C3 : Addr) (C4 : Addr) (O0 : Addr) : Prop where
  f0 : FnF K "is_whole" s0
  f1 : FnF K "is_whole_between" s1
  f2 : FnF K "is_mark" s2
  f3 : FnF K "is_pair" s3
  f4 : FnF K "is_ascending" s4
  f5 : FnF K "check_clocks" s5
  f6 : FnF K "code_of" s6
  f7 : FnF K "bound_of" s7
  f8 : FnF K "lot_of" s8
  f9 : FnF K "code_sum" s9
  f10 : FnF K "free_row" s10
  f11 : FnF K "whole_grid" s11
  f12 : FnF K "tighter_row" s12
  f13 : FnF K "cut_grid" s13
  f14 : FnF K "kept_grid" s14
  f15 : FnF K "is_rule_up_to" s15
  f16 : FnF K "is_rule" s16
  f17 : FnF K "is_from_above" s17
  f18 : FnF K "is_from_below" s18
  f19 : FnF K "are_sides_ascending" s19
  f20 : FnF K "is_place" s20
  f21 : FnF K "are_rules_of_deed" s21
  f22 : FnF K "wrong_part" s22
  f23 : FnF K "machine_fault" s23
  f24 : FnF K "greatest_number" s24
  f25 : FnF K "check_machine" s25
  f26 : FnF K "check_place" s26
  f27 : FnF K "check_deed" s27
  f28 : FnF K "limits_grid" s28
  f29 : FnF K "open_grid" s29
  f30 : FnF K "limits" s30
  f31 : FnF K "open_lot" s31
  f32 : FnF K "deeds_at" s32
  f33 : FnF K "is_order" s33
  f34 : FnF K "placed" s34
  f35 : FnF K "without_deed" s35
  f36 : FnF K "_law_spins" s36
  f37 : FnF K "_law_spin" s37
  f38 : FnF K "_law_among" s38
  f39 : FnF K "_law_met" s39
  f40 : FnFc K "_law_right" s40 (.ref c40)
  f41 : FnF K "law" s41
  t40 : CodeK K c40 p40
  u40 : LamIn ([(c40, p40, (("_law_right" : Str) ++ ".<locals>.") ++ "<lambda>")] : List (Addr × Addr × Str)) "_law_right" c40 p40
  z_abs : PySem.W.nsIn K mainGlobals "abs" = some none
  z_all : PySem.W.nsIn K mainGlobals "all" = some none
  z_bool : PySem.W.nsIn K mainGlobals "bool" = some none
  z_enumerate : PySem.W.nsIn K mainGlobals "enumerate" = some none
  z_int : PySem.W.nsIn K mainGlobals "int" = some none
  z_isinstance : PySem.W.nsIn K mainGlobals "isinstance" = some none
  z_len : PySem.W.nsIn K mainGlobals "len" = some none
  z_list : PySem.W.nsIn K mainGlobals "list" = some none
  z_max : PySem.W.nsIn K mainGlobals "max" = some none
  z_min : PySem.W.nsIn K mainGlobals "min" = some none
  z_range : PySem.W.nsIn K mainGlobals "range" = some none
  z_repr : PySem.W.nsIn K mainGlobals "repr" = some none
  z_sorted : PySem.W.nsIn K mainGlobals "sorted" = some none
  z_tuple : PySem.W.nsIn K mainGlobals "tuple" = some none
  z_zip : PySem.W.nsIn K mainGlobals "zip" = some none
  c_TOO_GREAT : ∃ t, PySem.W.nsIn K mainGlobals "TOO_GREAT" = some (some (.int (1000000000000000000000000000000000000000000000000000000000000) t))
  c_MOST_CLOCKS : ∃ t, PySem.W.nsIn K mainGlobals "MOST_CLOCKS" = some (some (.int (4) t))
  c_NO_BOUND : ∃ t, PySem.W.nsIn K mainGlobals "NO_BOUND" = some (some (.int (115792089237316195423570985008687907853269984665640564039457584007913129639936) t))
  c_AT_MOST_NOUGHT : ∃ t, PySem.W.nsIn K mainGlobals "AT_MOST_NOUGHT" = some (some (.int (1) t))
  c_LEAST_OF_RING : ∃ t, PySem.W.nsIn K mainGlobals "LEAST_OF_RING" = some (some (.int (2) t))
  c_GREATEST_NUMBER : ∃ t, PySem.W.nsIn K mainGlobals "GREATEST_NUMBER" = some (some (.int (1000000000) t))
  c_MOST_PLACES : ∃ t, PySem.W.nsIn K mainGlobals "MOST_PLACES" = some (some (.int (12) t))
  c_MOST_DEEDS : ∃ t, PySem.W.nsIn K mainGlobals "MOST_DEEDS" = some (some (.int (40) t))
  c_MOST_NUMBER : ∃ t, PySem.W.nsIn K mainGlobals "MOST_NUMBER" = some (some (.int (20) t))
  c_OWNERS : TupC K "OWNERS" [.str "own", .str "foe"]
  k0 : ClF K cls0 O0
  m42 : MtF K O0 "__init__" "Machine.__init__" s42
  m43 : PrF K O0 "clocks" "Machine.clocks" s43
  m44 : PrF K O0 "places" "Machine.places" s44
  m45 : PrF K O0 "deeds" "Machine.deeds" s45
  m46 : PrF K O0 "most" "Machine.most" s46
  kt : ktC K [O0] = true
  x0 : PlF K "PlayError" C0 bm_ValueError "ValueError.__new__"
  x1 : PlF K "InvalidMachine" C1 bm_ValueError "ValueError.__new__"
  x2 : PlF K "InvalidPlaces" C2 bm_ValueError "ValueError.__new__"
  x3 : PlF K "InvalidOperation" C3 bm_ValueError "ValueError.__new__"
  x4 : KpF K ⟨("InvalidNumber" : Str), some ("given" : Str), [4]⟩ C4 "given" "given"
  cat : catB K [C0, C1, C2, C3, C4] S.exs = true
theorem bi0 : BindOk "is_whole" s0 P0 := fun _ _ _ _ _ _ us hl => match us, hl with | [_], _ => rfl
theorem bi1 : BindOk "is_whole_between" s1 P1 := fun _ _ _ _ _ _ us hl => match us, hl with | [_, _, _], _ => rfl
theorem bi2 : BindOk "is_mark" s2 P2 := fun _ _ _ _ _ _ us hl => match us, hl with | [_], _ => rfl
theorem bi3 : BindOk "is_pair" s3 P3 := fun _ _ _ _ _ _ us hl => match us, hl with | [_], _ => rfl
theorem bi4 : BindOk "is_ascending" s4 P4 := fun _ _ _ _ _ _ us hl => match us, hl with | [_, _, _], _ => rfl
theorem bi5 : BindOk "check_clocks" s5 P5 := fun _ _ _ _ _ _ us hl => match us, hl with | [_], _ => rfl
theorem bi6 : BindOk "code_of" s6 P6 := fun _ _ _ _ _ _ us hl => match us, hl with | [_], _ => rfl
theorem bi7 : BindOk "bound_of" s7 P7 := fun _ _ _ _ _ _ us hl => match us, hl with | [_], _ => rfl
theorem bi8 : BindOk "lot_of" s8 P8 := fun _ _ _ _ _ _ us hl => match us, hl with | [_], _ => rfl
theorem bi9 : BindOk "code_sum" s9 P9 := fun _ _ _ _ _ _ us hl => match us, hl with | [_, _], _ => rfl
theorem bi10 : BindOk "free_row" s10 P10 := fun _ _ _ _ _ _ us hl => match us, hl with | [_, _], _ => rfl
theorem bi11 : BindOk "whole_grid" s11 P11 := fun _ _ _ _ _ _ us hl => match us, hl with | [_], _ => rfl
theorem bi12 : BindOk "tighter_row" s12 P12 := fun _ _ _ _ _ _ us hl => match us, hl with | [_, _, _], _ => rfl
theorem bi13 : BindOk "cut_grid" s13 P13 := fun _ _ _ _ _ _ us hl => match us, hl with | [_, _, _, _], _ => rfl
theorem bi14 : BindOk "kept_grid" s14 P14 := fun _ _ _ _ _ _ us hl => match us, hl with | [_, _], _ => rfl
theorem bi15 : BindOk "is_rule_up_to" s15 P15 := fun _ _ _ _ _ _ us hl => match us, hl with | [_, _, _], _ => rfl
theorem bi16 : BindOk "is_rule" s16 P16 := fun _ _ _ _ _ _ us hl => match us, hl with | [_, _], _ => rfl
theorem bi17 : BindOk "is_from_above" s17 P17 := fun _ _ _ _ _ _ us hl => match us, hl with | [_, _], _ => rfl
theorem bi18 : BindOk "is_from_below" s18 P18 := fun _ _ _ _ _ _ us hl => match us, hl with | [_, _], _ => rfl
theorem bi19 : BindOk "are_sides_ascending" s19 P19 := fun _ _ _ _ _ _ us hl => match us, hl with | [_], _ => rfl
theorem bi20 : BindOk "is_place" s20 P20 := fun _ _ _ _ _ _ us hl => match us, hl with | [_, _], _ => rfl
theorem bi21 : BindOk "are_rules_of_deed" s21 P21 := fun _ _ _ _ _ _ us hl => match us, hl with | [_, _], _ => rfl
theorem bi22 : BindOk "wrong_part" s22 P22 := fun _ _ _ _ _ _ us hl => match us, hl with | [_, _, _], _ => rfl
theorem bi23 : BindOk "machine_fault" s23 P23 := fun _ _ _ _ _ _ us hl => match us, hl with | [_, _, _], _ => rfl
theorem bi24 : BindOk "greatest_number" s24 P24 := fun _ _ _ _ _ _ us hl => match us, hl with | [_, _], _ => rfl
theorem bi25 : BindOk "check_machine" s25 P25 := fun _ _ _ _ _ _ us hl => match us, hl with | [_], _ => rfl
theorem bi26 : BindOk "check_place" s26 P26 := fun _ _ _ _ _ _ us hl => match us, hl with | [_, _], _ => rfl
theorem bi27 : BindOk "check_deed" s27 P27 := fun _ _ _ _ _ _ us hl => match us, hl with | [_, _], _ => rfl
theorem bi28 : BindOk "limits_grid" s28 P28 := fun _ _ _ _ _ _ us hl => match us, hl with | [_, _], _ => rfl
theorem bi29 : BindOk "open_grid" s29 P29 := fun _ _ _ _ _ _ us hl => match us, hl with | [_, _], _ => rfl
theorem bi30 : BindOk "limits" s30 P30 := fun _ _ _ _ _ _ us hl => match us, hl with | [_, _], _ => rfl
theorem bi31 : BindOk "open_lot" s31 P31 := fun _ _ _ _ _ _ us hl => match us, hl with | [_, _], _ => rfl
theorem bi32 : BindOk "deeds_at" s32 P32 := fun _ _ _ _ _ _ us hl => match us, hl with | [_, _, _], _ => rfl
theorem bi33 : BindOk "is_order" s33 P33 := fun _ _ _ _ _ _ us hl => match us, hl with | [_, _], _ => rfl
theorem bi34 : BindOk "placed" s34 P34 := fun _ _ _ _ _ _ us hl => match us, hl with | [_, _], _ => rfl
theorem bi35 : BindOk "without_deed" s35 P35 := fun _ _ _ _ _ _ us hl => match us, hl with | [_, _], _ => rfl
theorem bi36 : BindOk "_law_spins" s36 P36 := fun _ _ _ _ _ _ us hl => match us, hl with | [_, _], _ => rfl
theorem bi37 : BindOk "_law_spin" s37 P37 := fun _ _ _ _ _ _ us hl => match us, hl with | [_, _], _ => rfl
theorem bi38 : BindOk "_law_among" s38 P38 := fun _ _ _ _ _ _ us hl => match us, hl with | [_, _], _ => rfl
theorem bi39 : BindOk "_law_met" s39 P39 := fun _ _ _ _ _ _ us hl => match us, hl with | [_], _ => rfl
theorem bi40 : BindOk "_law_right" s40 P40 := fun _ _ _ _ _ _ us hl => match us, hl with | [_], _ => rfl
theorem bi41 : BindOk "law" s41 P41 := fun _ _ _ _ _ _ us hl => match us, hl with | [_], _ => rfl
theorem bi42 : BindQ "__init__" "Machine.__init__" s42 P42 := fun _ _ _ _ _ _ us hl => match us, hl with | [_, _, _, _], _ => rfl
theorem bi43 : BindQ "clocks" "Machine.clocks" s43 P43 := fun _ _ _ _ _ _ us hl => match us, hl with | [_], _ => rfl
theorem bi44 : BindQ "places" "Machine.places" s44 P44 := fun _ _ _ _ _ _ us hl => match us, hl with | [_], _ => rfl
theorem bi45 : BindQ "deeds" "Machine.deeds" s45 P45 := fun _ _ _ _ _ _ us hl => match us, hl with | [_], _ => rfl
theorem bi46 : BindQ "most" "Machine.most" s46 P46 := fun _ _ _ _ _ _ us hl => match us, hl with | [_], _ => rfl
theorem rest {Γ : Cfg} (c40 p40 : Addr) (C0 : Addr) (C1 : Addr) (C2 : Addr) (C3 : Addr) (C4 : Addr) (O0 : Addr) (B : Base Γ [(c40, p40, (("_law_right" : Str) ++ ".<locals>.") ++ "<lambda>")] [C0, C1, C2, C3, C4] S.exs S.fns S.cl) (Hd : Head Γ.K c40 p40 C0 C1 C2 C3 C4 O0) {G : GT} {k : Nat} (fn : ∀ p ∈ S.fns, Ent Γ k p.1 p.2.2 (G p.2.1)) (m42 : MtEnt Γ k O0 "__init__" 4 (G 42)) (m43 : PrEnt Γ k O0 "clocks" (G 43)) (m44 : PrEnt Γ k O0 "places" (G 44)) (m45 : PrEnt Γ k O0 "deeds" (G 45)) (m46 : PrEnt Γ k O0 "most" (G 46)) (tick : ∀ h v h', G ixTick [] h = .ok v h' → 2 ≤ k) : StatB Γ S G k :=
  statB_mk B fn (all_cons (let ⟨_, e⟩ := Hd.c_TOO_GREAT; const_int B e) (all_cons (let ⟨_, e⟩ := Hd.c_MOST_CLOCKS; const_int B e) (all_cons (let ⟨_, e⟩ := Hd.c_NO_BOUND; const_int B e) (all_cons (let ⟨_, e⟩ := Hd.c_AT_MOST_NOUGHT; const_int B e) (all_cons (let ⟨_, e⟩ := Hd.c_LEAST_OF_RING; const_int B e) (all_cons (let ⟨_, e⟩ := Hd.c_GREATEST_NUMBER; const_int B e) (all_cons (let ⟨_, e⟩ := Hd.c_MOST_PLACES; const_int B e) (all_cons (let ⟨_, e⟩ := Hd.c_MOST_DEEDS; const_int B e) (all_cons (let ⟨_, e⟩ := Hd.c_MOST_NUMBER; const_int B e) (all_cons (const_tup B Hd.c_OWNERS fun _ => (RepL.cons rfl (RepL.cons rfl rfl))) all_nil)))))))))) (all_cons (free_of B Hd.z_abs) (all_cons (free_of B Hd.z_all) (all_cons (free_of B Hd.z_bool) (all_cons (free_of B Hd.z_enumerate) (all_cons (free_of B Hd.z_int) (all_cons (free_of B Hd.z_isinstance) (all_cons (free_of B Hd.z_len) (all_cons (free_of B Hd.z_list) (all_cons (free_of B Hd.z_max) (all_cons (free_of B Hd.z_min) (all_cons (free_of B Hd.z_range) (all_cons (free_of B Hd.z_repr) (all_cons (free_of B Hd.z_sorted) (all_cons (free_of B Hd.z_tuple) (all_cons (free_of B Hd.z_zip) all_nil))))))))))))))) all_nil (⟨(ex_plain' rt_ValueError B rfl rfl Hd.x0), ⟨(ex_plain' rt_ValueError B rfl rfl Hd.x1), ⟨(ex_plain' rt_ValueError B rfl rfl Hd.x2), ⟨(ex_plain' rt_ValueError B rfl rfl Hd.x3), ⟨(ex_kept B rfl rfl rfl Hd.x4), True.intro⟩⟩⟩⟩⟩) Hd.cat tick (all_cons (ho_of B Hd.f39 bi39) all_nil) ⟨(cl_of (Cc := [O0]) B rfl Hd.k0 m42 (all_cons m43 (all_cons m44 (all_cons m45 (all_cons m46 all_nil)))) all_nil Hd.kt rfl rfl (names_cons Hd.k0.a names_nil)), True.intro⟩
theorem stat {Γ : Cfg} (c40 p40 : Addr) (C0 : Addr) (C1 : Addr) (C2 : Addr) (C3 : Addr) (C4 : Addr) (O0 : Addr) (B : Base Γ [(c40, p40, (("_law_right" : Str) ++ ".<locals>.") ++ "<lambda>")] [C0, C1, C2, C3, C4] S.exs S.fns S.cl) (Hd : Head Γ.K c40 p40 C0 C1 C2 C3 C4 O0) : ∀ k, StatOk Γ S (GK k) k
  | 0 => statOk_zero (rest c40 p40 C0 C1 C2 C3 C4 O0 B Hd (all_cons (ent_0 (ps := P0) B Hd.f0 bi0 rfl) (all_cons (ent_0 (ps := P1) B Hd.f1 bi1 rfl) (all_cons (ent_0 (ps := P2) B Hd.f2 bi2 rfl) (all_cons (ent_0 (ps := P3) B Hd.f3 bi3 rfl) (all_cons (ent_0 (ps := P4) B Hd.f4 bi4 rfl) (all_cons (ent_0 (ps := P5) B Hd.f5 bi5 rfl) (all_cons (ent_0 (ps := P6) B Hd.f6 bi6 rfl) (all_cons (ent_0 (ps := P7) B Hd.f7 bi7 rfl) (all_cons (ent_0 (ps := P8) B Hd.f8 bi8 rfl) (all_cons (ent_0 (ps := P9) B Hd.f9 bi9 rfl) (all_cons (ent_0 (ps := P10) B Hd.f10 bi10 rfl) (all_cons (ent_0 (ps := P11) B Hd.f11 bi11 rfl) (all_cons (ent_0 (ps := P12) B Hd.f12 bi12 rfl) (all_cons (ent_0 (ps := P13) B Hd.f13 bi13 rfl) (all_cons (ent_0 (ps := P14) B Hd.f14 bi14 rfl) (all_cons (ent_0 (ps := P15) B Hd.f15 bi15 rfl) (all_cons (ent_0 (ps := P16) B Hd.f16 bi16 rfl) (all_cons (ent_0 (ps := P17) B Hd.f17 bi17 rfl) (all_cons (ent_0 (ps := P18) B Hd.f18 bi18 rfl) (all_cons (ent_0 (ps := P19) B Hd.f19 bi19 rfl) (all_cons (ent_0 (ps := P20) B Hd.f20 bi20 rfl) (all_cons (ent_0 (ps := P21) B Hd.f21 bi21 rfl) (all_cons (ent_0 (ps := P22) B Hd.f22 bi22 rfl) (all_cons (ent_0 (ps := P23) B Hd.f23 bi23 rfl) (all_cons (ent_0 (ps := P24) B Hd.f24 bi24 rfl) (all_cons (ent_0 (ps := P25) B Hd.f25 bi25 rfl) (all_cons (ent_0 (ps := P26) B Hd.f26 bi26 rfl) (all_cons (ent_0 (ps := P27) B Hd.f27 bi27 rfl) (all_cons (ent_0 (ps := P28) B Hd.f28 bi28 rfl) (all_cons (ent_0 (ps := P29) B Hd.f29 bi29 rfl) (all_cons (ent_0 (ps := P30) B Hd.f30 bi30 rfl) (all_cons (ent_0 (ps := P31) B Hd.f31 bi31 rfl) (all_cons (ent_0 (ps := P32) B Hd.f32 bi32 rfl) (all_cons (ent_0 (ps := P33) B Hd.f33 bi33 rfl) (all_cons (ent_0 (ps := P34) B Hd.f34 bi34 rfl) (all_cons (ent_0 (ps := P35) B Hd.f35 bi35 rfl) (all_cons (ent_0 (ps := P36) B Hd.f36 bi36 rfl) (all_cons (ent_0 (ps := P37) B Hd.f37 bi37 rfl) (all_cons (ent_0 (ps := P38) B Hd.f38 bi38 rfl) (all_cons (ent_0 (ps := P40) B ⟨_, Hd.f40⟩ bi40 rfl) (all_cons (ent_0 (ps := P41) B Hd.f41 bi41 rfl) all_nil))))))))))))))))))))))))))))))))))))))))) (mt_0 (ps := P42) Hd.m42 bi42 rfl) (pr_0 (ps := P43) Hd.m43 bi43 rfl) (pr_0 (ps := P44) Hd.m44 bi44 rfl) (pr_0 (ps := P45) Hd.m45 bi45 rfl) (pr_0 (ps := P46) Hd.m46 bi46 rfl) (tickK 0))
  | k + 1 => statOk_succ (dnK k) (rest c40 p40 C0 C1 C2 C3 C4 O0 B Hd (all_cons (ent_s (rc := false) B Hd.f0 sc0 h0 bi0 (stat c40 p40 C0 C1 C2 C3 C4 O0 B Hd k) (by decide)) (all_cons (ent_s (rc := false) B Hd.f1 sc1 h1 bi1 (stat c40 p40 C0 C1 C2 C3 C4 O0 B Hd k) (by decide)) (all_cons (ent_s (rc := false) B Hd.f2 sc2 h2 bi2 (stat c40 p40 C0 C1 C2 C3 C4 O0 B Hd k) (by decide)) (all_cons (ent_s (rc := false) B Hd.f3 sc3 h3 bi3 (stat c40 p40 C0 C1 C2 C3 C4 O0 B Hd k) (by decide)) (all_cons (ent_s (rc := false) B Hd.f4 sc4 h4 bi4 (stat c40 p40 C0 C1 C2 C3 C4 O0 B Hd k) (by decide)) (all_cons (ent_s (rc := false) B Hd.f5 sc5 h5 bi5 (stat c40 p40 C0 C1 C2 C3 C4 O0 B Hd k) (by decide)) (all_cons (ent_s (rc := false) B Hd.f6 sc6 h6 bi6 (stat c40 p40 C0 C1 C2 C3 C4 O0 B Hd k) (by decide)) (all_cons (ent_s (rc := false) B Hd.f7 sc7 h7 bi7 (stat c40 p40 C0 C1 C2 C3 C4 O0 B Hd k) (by decide)) (all_cons (ent_s (rc := false) B Hd.f8 sc8 h8 bi8 (stat c40 p40 C0 C1 C2 C3 C4 O0 B Hd k) (by decide)) (all_cons (ent_s (rc := false) B Hd.f9 sc9 h9 bi9 (stat c40 p40 C0 C1 C2 C3 C4 O0 B Hd k) (by decide)) (all_cons (ent_s (rc := false) B Hd.f10 sc10 h10 bi10 (stat c40 p40 C0 C1 C2 C3 C4 O0 B Hd k) (by decide)) (all_cons (ent_s (rc := false) B Hd.f11 sc11 h11 bi11 (stat c40 p40 C0 C1 C2 C3 C4 O0 B Hd k) (by decide)) (all_cons (ent_s (rc := false) B Hd.f12 sc12 h12 bi12 (stat c40 p40 C0 C1 C2 C3 C4 O0 B Hd k) (by decide)) (all_cons (ent_s (rc := false) B Hd.f13 sc13 h13 bi13 (stat c40 p40 C0 C1 C2 C3 C4 O0 B Hd k) (by decide)) (all_cons (ent_s (rc := false) B Hd.f14 sc14 h14 bi14 (stat c40 p40 C0 C1 C2 C3 C4 O0 B Hd k) (by decide)) (all_cons (ent_s (rc := false) B Hd.f15 sc15 h15 bi15 (stat c40 p40 C0 C1 C2 C3 C4 O0 B Hd k) (by decide)) (all_cons (ent_s (rc := false) B Hd.f16 sc16 h16 bi16 (stat c40 p40 C0 C1 C2 C3 C4 O0 B Hd k) (by decide)) (all_cons (ent_s (rc := false) B Hd.f17 sc17 h17 bi17 (stat c40 p40 C0 C1 C2 C3 C4 O0 B Hd k) (by decide)) (all_cons (ent_s (rc := false) B Hd.f18 sc18 h18 bi18 (stat c40 p40 C0 C1 C2 C3 C4 O0 B Hd k) (by decide)) (all_cons (ent_s (rc := false) B Hd.f19 sc19 h19 bi19 (stat c40 p40 C0 C1 C2 C3 C4 O0 B Hd k) (by decide)) (all_cons (ent_s (rc := false) B Hd.f20 sc20 h20 bi20 (stat c40 p40 C0 C1 C2 C3 C4 O0 B Hd k) (by decide)) (all_cons (ent_s (rc := false) B Hd.f21 sc21 h21 bi21 (stat c40 p40 C0 C1 C2 C3 C4 O0 B Hd k) (by decide)) (all_cons (ent_s (rc := false) B Hd.f22 sc22 h22 bi22 (stat c40 p40 C0 C1 C2 C3 C4 O0 B Hd k) (by decide)) (all_cons (ent_s (rc := false) B Hd.f23 sc23 h23 bi23 (stat c40 p40 C0 C1 C2 C3 C4 O0 B Hd k) (by decide)) (all_cons (ent_s (rc := false) B Hd.f24 sc24 h24 bi24 (stat c40 p40 C0 C1 C2 C3 C4 O0 B Hd k) (by decide)) (all_cons (ent_s (rc := false) B Hd.f25 sc25 h25 bi25 (stat c40 p40 C0 C1 C2 C3 C4 O0 B Hd k) (by decide)) (all_cons (ent_s (rc := false) B Hd.f26 sc26 h26 bi26 (stat c40 p40 C0 C1 C2 C3 C4 O0 B Hd k) (by decide)) (all_cons (ent_s (rc := false) B Hd.f27 sc27 h27 bi27 (stat c40 p40 C0 C1 C2 C3 C4 O0 B Hd k) (by decide)) (all_cons (ent_s (rc := false) B Hd.f28 sc28 h28 bi28 (stat c40 p40 C0 C1 C2 C3 C4 O0 B Hd k) (by decide)) (all_cons (ent_s (rc := false) B Hd.f29 sc29 h29 bi29 (stat c40 p40 C0 C1 C2 C3 C4 O0 B Hd k) (by decide)) (all_cons (ent_s (rc := false) B Hd.f30 sc30 h30 bi30 (stat c40 p40 C0 C1 C2 C3 C4 O0 B Hd k) (by decide)) (all_cons (ent_s (rc := false) B Hd.f31 sc31 h31 bi31 (stat c40 p40 C0 C1 C2 C3 C4 O0 B Hd k) (by decide)) (all_cons (ent_s (rc := false) B Hd.f32 sc32 h32 bi32 (stat c40 p40 C0 C1 C2 C3 C4 O0 B Hd k) (by decide)) (all_cons (ent_s (rc := false) B Hd.f33 sc33 h33 bi33 (stat c40 p40 C0 C1 C2 C3 C4 O0 B Hd k) (by decide)) (all_cons (ent_s (rc := false) B Hd.f34 sc34 h34 bi34 (stat c40 p40 C0 C1 C2 C3 C4 O0 B Hd k) (by decide)) (all_cons (ent_s (rc := false) B Hd.f35 sc35 h35 bi35 (stat c40 p40 C0 C1 C2 C3 C4 O0 B Hd k) (by decide)) (all_cons (ent_s (rc := true) B Hd.f36 sc36 h36 bi36 (stat c40 p40 C0 C1 C2 C3 C4 O0 B Hd k) (by decide)) (all_cons (ent_s (rc := false) B Hd.f37 sc37 h37 bi37 (stat c40 p40 C0 C1 C2 C3 C4 O0 B Hd k) (by decide)) (all_cons (ent_s (rc := false) B Hd.f38 sc38 h38 bi38 (stat c40 p40 C0 C1 C2 C3 C4 O0 B Hd k) (by decide)) (all_cons (ent_l (rc := false) B Hd.f40 Hd.u40 sc40 h40 bi40 (stat c40 p40 C0 C1 C2 C3 C4 O0 B Hd k) (by decide)) (all_cons (ent_s (rc := false) B Hd.f41 sc41 h41 bi41 (stat c40 p40 C0 C1 C2 C3 C4 O0 B Hd k) (by decide)) all_nil))))))))))))))))))))))))))))))))))))))))) (mt_s (rc := false) B Hd.m42 sc42 h42 bi42 (stat c40 p40 C0 C1 C2 C3 C4 O0 B Hd k) (by decide)) (pr_s (rc := false) B Hd.m43 sc43 h43 bi43 (stat c40 p40 C0 C1 C2 C3 C4 O0 B Hd k) (by decide) rfl) (pr_s (rc := false) B Hd.m44 sc44 h44 bi44 (stat c40 p40 C0 C1 C2 C3 C4 O0 B Hd k) (by decide) rfl) (pr_s (rc := false) B Hd.m45 sc45 h45 bi45 (stat c40 p40 C0 C1 C2 C3 C4 O0 B Hd k) (by decide) rfl) (pr_s (rc := false) B Hd.m46 sc46 h46 bi46 (stat c40 p40 C0 C1 C2 C3 C4 O0 B Hd k) (by decide) rfl) (tickK (k + 1))) (stat c40 p40 C0 C1 C2 C3 C4 O0 B Hd k)
end Pv.K24
end
section
set_option Elab.async false
set_option linter.all false
set_option maxRecDepth 100000
set_option maxHeartbeats 4000000
set_option autoImplicit false
namespace Pv.K24
open PySem PySem.Spec PyProof.Rows L2
theorem spin_ok (k : Nat) (h : AH) (n : Nat) (t : Int) (s : SpAt h n) (ht : TOk t) : ∃ (r : Int) (h' : AH), 0 ≤ r ∧ r < t ∧ GK (k + 1) 37 [.ref n, .int t] h = .ok (.int r) h' ∧ Sp n h h' := by
  have hs : ∀ c : Cell, (h.set n c)[n]? = some c := fun c => List.getElem?_set_self s.lt
  obtain ⟨a, b, c, e⟩ := s
  obtain ⟨t0, t1⟩ := ht
  have hdiv : divOk t = true := decide_eq_true ⟨t0, t1⟩
  rw [e37]
  by_cases ha : 0 < a
  · refine ⟨a % t, h.set n (.lst [.int (a / t), .int b, .int c]), Int.emod_nonneg _ (by omega), Int.emod_lt_of_pos _ t0, ?_, ⟨_, _, _, rfl⟩⟩
    refine run_cell (by rfl) (by simp) ?_
    simp [b37, e, ha, t0, hdiv, hs, ixB0, ixN]
  · have m1 : mulOk 32452867 (c + 1) = true := mulL (by decide) (by decide)
    have p1 : (0 : Int) ≤ (b + 32452867 * (c + 1)) % 2305843009213693951 := Int.emod_nonneg _ (by decide)
    have p2 : (b + 32452867 * (c + 1)) % 2305843009213693951 < 2305843009213693951 := Int.emod_lt_of_pos _ (by decide)
    have m2 : mulOk ((b + 32452867 * (c + 1)) % 2305843009213693951) ((b + 32452867 * (c + 1)) % 2305843009213693951) = true := mulL (by omega) (by omega)
    have m3 : mulOk 131 (c + 1) = true := mulL (by decide) (by decide)
    have m4 : ∀ x : Int, mulOk x 49979687 = true := fun x => mulR (by decide) (by decide)
    have d1 : divOk 65579 = true := by decide +kernel
    refine ⟨((((b + 32452867 * (c + 1)) % 2305843009213693951) * ((b + 32452867 * (c + 1)) % 2305843009213693951) + 131 * (c + 1)) % 2305843009213693907 * 49979687 + (b + 32452867 * (c + 1)) % 2305843009213693951) / 65579 % t, h.set n (.lst [.int a, .int b, .int (c + 1)]), Int.emod_nonneg _ (by omega), Int.emod_lt_of_pos _ t0, ?_, ⟨_, _, _, rfl⟩⟩
    refine run_cell (by rfl) (by simp) ?_
    simp [b37, e, ha, t0, hs, ixB0, ixB1, ixB2, ixN, m1, m2, m3, m4, d1]
theorem among_ok (k : Nat) (h : AH) (n : Nat) (xs : List AV) (s : SpAt h n) (h0 : 0 < xs.length) (h1 : xs.length ≤ 1000) (p : pureL xs = true) : ∃ (v : AV) (h' : AH), v ∈ xs ∧ GK (k + 2) 38 [.ref n, .lst xs] h = .ok v h' ∧ Sp n h h' := by
  obtain ⟨r, h', r0, r1, e, sp⟩ := spin_ok k h n xs.length s (TOk.small (by omega) (by omega))
  obtain ⟨v, ev, mv⟩ := atI_some r0 r1
  refine ⟨v, h', mv, ?_, sp⟩
  rw [e38]
  refine run_cell (pure_mem p mv) sp.len ?_
  simp [b38, e, ev]
theorem spins_ok (k : Nat) (h : AH) (ns : List Int) (spot : Int) (hs : 0 ≤ spot) (hs2 : spot < 1000) : ∃ a b c : Int, GK (k + 1) 36 [.kl (ns.map AV.int), .int spot] h = .ok (.ref h.length) (h ++ [.lst [.int a, .int b, .int c]]) := by
  rw [e36]
  have q : ∃ cell : Int, (if spot < (ns.length : Int) then (atI (ns.map AV.int) spot) else some (.int (311 * spot + 97))) = some (.int cell) := by
    by_cases hl : spot < (ns.length : Int)
    · rw [if_pos hl]
      obtain ⟨v, ev, mv⟩ := atI_some (xs := ns.map AV.int) hs (by simpa using hl)
      obtain ⟨i, _, ei⟩ := List.mem_map.mp mv
      exact ⟨i, by rw [ev, ← ei]⟩
    · rw [if_neg hl]
      exact ⟨_, rfl⟩
  obtain ⟨cell, q⟩ := q
  have m0 : mulOk 311 spot = true := mulL (by decide) (by decide)
  have m1 : ∀ x : Int, mulOk x 73 = true := fun x => mulR (by decide) (by decide)
  have m2 : mulOk 967 spot = true := mulL (by decide) (by decide)
  have m3 : ∀ x : Int, mulOk 43 x = true := fun x => mulL (by decide) (by decide)
  have w1 : powOk 10 54 = true := by decide +kernel
  have w2 : powOk (10 ^ 54) 6 = true := by decide +kernel
  have w3 : powOk 10 16 = true := by decide +kernel
  have g : (0 : Int) < (10 ^ 54) ^ 6 := by decide +kernel
  have cases : ∃ a b c : Int, b36 (GK k) [some (.kl (ns.map AV.int)), some (.int spot), none, none] h = .ret (.ref h.length) (h ++ [.lst [.int a, .int b, .int c]]) := by
    by_cases hl : spot < (ns.length : Int)
    · rw [if_pos hl] at q
      simp [b36, q, hl, m1, m2, m3, w1, w2, w3, g, -Int.reducePow]
    · rw [if_neg hl] at q
      simp [b36, hl, m0, m1, m2, m3, w1, w2, w3, g, -Int.reducePow]
  obtain ⟨a, b, c, e⟩ := cases
  refine ⟨a, b, c, (run_eq e).trans ?_⟩
  unfold finD
  simp

theorem among_p (p q : AH) (a b c : Int) (xs : List AV) (h0 : 0 < xs.length) (h1 : xs.length ≤ 1000) (pu : pureL xs = true) : ∃ (v : AV) (a' b' c' : Int), v ∈ xs ∧ GK 20 38 [.ref p.length, .lst xs] (p ++ SC a b c :: q) = .ok v (p ++ SC a' b' c' :: q) := by
  obtain ⟨v, h', m, e, w⟩ := among_ok 18 (p ++ SC a b c :: q) p.length xs ⟨a, b, c, by simp⟩ h0 h1 pu
  obtain ⟨a', b', c', eq⟩ := sp_mid w
  subst eq
  exact ⟨v, a', b', c', m, e⟩
def cv0 : AV := (.tup [(.int (1)), (.int (0)), (.tup [(.int (2)), (.int (1))])])
def cv1 : AV := (.tup [(.str "own"), (.int (0)), (.int (1)), (.tup []), (.tup [])])
def cv2 : AV := (.tup [(.str "foe"), (.int (1)), (.int (0)), (.tup []), (.tup [(.int (1))])])
def cv3 : AV := (.tup [(.str "foe"), (.int (1)), (.int (1)), (.tup []), (.tup [])])
def cv4 : AV := (.tup [(.int (1)), (.tup [(.tup []), (.tup [cv0])]), (.tup [cv1, cv2, cv3])])
def cv5 : AV := (.lst [(.int (1)), (.tup [(.tup []), (.tup [cv0])]), (.tup [cv1, cv2, cv3])])
def cv6 : AV := (.ob 0 [(.int (1)), (.tup [(.tup []), (.tup [cv0])]), (.tup [cv1, cv2, cv3]), (.int (2))])
def cv7 : AV := (.int (-99999999999999999999999999999999999999999999999999999999999))
def cv8 : AV := (.int (100000000000000000000000000000000000000000000000000000000000))
def cv9 : AV := (.tup [(.int (0)), (.int (1)), (.int (2))])
def cv10 : AV := (.tup [(.int (1)), (.int (0)), (.int (1))])
def menu_v_none : List AV := [.non, (.int (0)), cv4, cv5, (.str "machine"), (.tup []), (.lst [cv6]), (.bl true)]
theorem pm_v_none : pureL (menu_v_none) = true := by
  all_goals kernel_rfl
def menu_v_place : List AV := [.non, (.int (-1)), (.int (2)), (.bl true), (.str "0"), (.tup [(.int (0))]), cv7]
theorem pm_v_place : pureL (menu_v_place) = true := by
  all_goals kernel_rfl
def menu_v_deed : List AV := [.non, (.int (-1)), (.int (3)), (.bl false), (.str "1"), (.lst [(.int (1))]), cv8]
theorem pm_v_deed : pureL (menu_v_deed) = true := by
  all_goals kernel_rfl
def menu_v_owner : List AV := [.non, (.str ""), (.str "Own"), (.str "foes"), (.int (0)), (.tup [(.str "own")]), (.lst [(.str "own")]), (.bl true)]
theorem pm_v_owner : pureL (menu_v_owner) = true := by
  all_goals kernel_rfl
def menu_v_order : List AV := [.non, (.tup []), (.tup [(.int (0))]), (.tup [(.int (0)), (.int (0))]), cv9, (.lst [(.int (0)), (.int (1))]), (.tup [(.int (1)), (.int (2))]), (.tup [(.int (0)), (.bl true)]), (.str "01"), cv10, (.dct [.inl (0)] [(.int (1))])]
theorem pm_v_order : pureL (menu_v_order) = true := by
  all_goals kernel_rfl
theorem ok_0 (hh : AH) : okD hh (.str "machine") = true ∧ pureA (.str "machine") = true := by
  all_goals exact ⟨by kernel_rfl, by kernel_rfl⟩
theorem ok_1 (hh : AH) (v_place : AV) (h_v_place : v_place ∈ menu_v_place) : okD hh (numS "number " v_place) = true ∧ pureA (numS "number " v_place) = true := by
  all_goals (try simp only [menu_v_place, List.mem_cons, List.not_mem_nil, or_false] at h_v_place)
  all_goals (rcases h_v_place with rfl | rfl | rfl | rfl | rfl | rfl | rfl)
  all_goals exact ⟨by kernel_rfl, by kernel_rfl⟩
theorem ok_2 (hh : AH) : okD hh (.str "fine") = true ∧ pureA (.str "fine") = true := by
  all_goals exact ⟨by kernel_rfl, by kernel_rfl⟩
theorem ok_3 (hh : AH) (v_deed : AV) (h_v_deed : v_deed ∈ menu_v_deed) : okD hh (numS "number " v_deed) = true ∧ pureA (numS "number " v_deed) = true := by
  all_goals (try simp only [menu_v_deed, List.mem_cons, List.not_mem_nil, or_false] at h_v_deed)
  all_goals (rcases h_v_deed with rfl | rfl | rfl | rfl | rfl | rfl | rfl)
  all_goals exact ⟨by kernel_rfl, by kernel_rfl⟩
theorem ok_4 (hh : AH) : okD hh (.str "operation") = true ∧ pureA (.str "operation") = true := by
  all_goals exact ⟨by kernel_rfl, by kernel_rfl⟩
theorem ok_5 (hh : AH) : okD hh (.str "places") = true ∧ pureA (.str "places") = true := by
  all_goals exact ⟨by kernel_rfl, by kernel_rfl⟩
def lb40_11_0 : EvS := (esDrop (evApp (evVar 8) (evLam (hoM S.exs 2 bm39 cl39 br39) (evCallV S.fns 10 (evCons (evVar 3) (evCons (evVar 5) evNil))))))
def lb40_11_1 : EvS := (esDrop (evApp (evVar 8) (evLam (hoM S.exs 2 bm39 cl39 br39) (evCallV S.fns 10 (evCons (evVar 2) (evCons (evVar 5) evNil))))))
def lb40_11_2 : EvS := (esDrop (evApp (evVar 8) (evLam (hoM S.exs 2 bm39 cl39 br39) (evCallV S.fns 10 (evCons (evVar 2) (evCons (evC (.int 2)) evNil))))))
def lb40_11_3 : EvS := (esSet (.nm 9) (evOp addOp (evVar 9) (evOf opLst (evCons (evC (.str "machine")) (evCons (evOp addOp (evC (.str "number ")) (evOf reprOp (evCons (evVar 5) evNil))) (evCons (evC (.str "fine")) evNil))))))
theorem le40_11 : b40_11 = esFor (eiSeq (evOf opTup (evCons (evFn 31) (evCons (evFn 35) evNil)))) (.nm 10) (esSeq lb40_11_0 (esSeq lb40_11_1 (esSeq lb40_11_2 lb40_11_3))) := rfl
theorem st1_s0 (a b c : Int) : b40_0 (GK 20) [some (.ref 0), none, none, none, none, none, none, none, none, none, none] [SC a b c] = .nx [some (.ref 0), some cv4, none, none, none, none, none, none, none, none, none] [SC a b c] := by
  all_goals kernel_rfl
theorem st2_s0 (a b c : Int) : b40_1 (GK 20) [some (.ref 0), some cv4, none, none, none, none, none, none, none, none, none] [SC a b c] = .nx [some (.ref 0), some cv4, some cv6, none, none, none, none, none, none, none, none] [SC a b c] := by
  all_goals kernel_rfl
theorem me3_s0 (a b c : Int) : (evOf opLst (evCons (evC .non) (evCons (evC (.int 0)) (evCons (evVar 1) (evCons (evOf opList (evCons (evVar 1) evNil)) (evCons (evC (.str "machine")) (evCons (evOf opTup evNil) (evCons (evOf opLst (evCons (evVar 2) evNil)) (evCons (evC (.bl true)) evNil))))))))) (GK 20) [some (.ref 0), some cv4, some cv6, none, none, none, none, none, none, none, none] [SC a b c] = .ok (.lst (menu_v_none)) [SC a b c] := by
  all_goals kernel_rfl
theorem me4_s0 (a b c : Int) (v_none : AV) : (evOf opLst (evCons (evC .non) (evCons (evOf1 negOp (evC (.int 1))) (evCons (evC (.int 2)) (evCons (evC (.bl true)) (evCons (evC (.str "0")) (evCons (evOf opTup (evCons (evC (.int 0)) evNil)) (evCons (evOp subOp (evC (.int 1)) (evOp powOp (evC (.int 10)) (evC (.int 59)))) evNil)))))))) (GK 20) [some (.ref 0), some cv4, some cv6, some v_none, none, none, none, none, none, none, none] [SC a b c] = .ok (.lst (menu_v_place)) [SC a b c] := by
  all_goals kernel_rfl
theorem me5_s0 (a b c : Int) (v_none : AV) (v_place : AV) : (evOf opLst (evCons (evC .non) (evCons (evOf1 negOp (evC (.int 1))) (evCons (evC (.int 3)) (evCons (evC (.bl false)) (evCons (evC (.str "1")) (evCons (evOf opLst (evCons (evC (.int 1)) evNil)) (evCons (evOp powOp (evC (.int 10)) (evC (.int 59))) evNil)))))))) (GK 20) [some (.ref 0), some cv4, some cv6, some v_none, some v_place, none, none, none, none, none, none] [SC a b c] = .ok (.lst (menu_v_deed)) [SC a b c] := by
  all_goals kernel_rfl
theorem me6_s0 (a b c : Int) (v_none : AV) (v_place : AV) (v_deed : AV) : (evOf opLst (evCons (evC .non) (evCons (evC (.str "")) (evCons (evC (.str "Own")) (evCons (evC (.str "foes")) (evCons (evC (.int 0)) (evCons (evOf opTup (evCons (evC (.str "own")) evNil)) (evCons (evOf opLst (evCons (evC (.str "own")) evNil)) (evCons (evC (.bl true)) evNil))))))))) (GK 20) [some (.ref 0), some cv4, some cv6, some v_none, some v_place, some v_deed, none, none, none, none, none] [SC a b c] = .ok (.lst (menu_v_owner)) [SC a b c] := by
  all_goals kernel_rfl
theorem me7_s0 (a b c : Int) (v_none : AV) (v_place : AV) (v_deed : AV) (v_owner : AV) : (evOf opLst (evCons (evC .non) (evCons (evOf opTup evNil) (evCons (evOf opTup (evCons (evC (.int 0)) evNil)) (evCons (evOf opTup (evCons (evC (.int 0)) (evCons (evC (.int 0)) evNil))) (evCons (evOf opTup (evCons (evC (.int 0)) (evCons (evC (.int 1)) (evCons (evC (.int 2)) evNil)))) (evCons (evOf opLst (evCons (evC (.int 0)) (evCons (evC (.int 1)) evNil))) (evCons (evOf opTup (evCons (evC (.int 1)) (evCons (evC (.int 2)) evNil))) (evCons (evOf opTup (evCons (evC (.int 0)) (evCons (evC (.bl true)) evNil))) (evCons (evC (.str "01")) (evCons (evOf opTup (evCons (evC (.int 1)) (evCons (evC (.int 0)) (evCons (evC (.int 1)) evNil)))) (evCons (evDictC 0 1) evNil)))))))))))) (GK 20) [some (.ref 0), some cv4, some cv6, some v_none, some v_place, some v_deed, some v_owner, none, none, none, none] [SC a b c] = .ok (.lst (menu_v_order)) [SC a b c] := by
  all_goals kernel_rfl
theorem m8_s0 (a b c : Int) (v_none : AV) (v_place : AV) (v_deed : AV) (v_owner : AV) (v_order : AV) (h_v_none : v_none ∈ menu_v_none) (h_v_place : v_place ∈ menu_v_place) : (evLam (hoM S.exs 2 bm39 cl39 br39) (evCall 2 30 (evCons (evVar 3) (evCons (evVar 4) evNil)))) (GK 20) [some (.ref 0), some cv4, some cv6, some v_none, some v_place, some v_deed, some v_owner, some v_order, none, none, none] [SC a b c] = .ok (.str "machine") [SC a b c] := by
  all_goals (try simp only [menu_v_place, List.mem_cons, List.not_mem_nil, or_false] at h_v_place)
  all_goals (rcases h_v_place with rfl | rfl | rfl | rfl | rfl | rfl | rfl)
  all_goals (try simp only [menu_v_none, List.mem_cons, List.not_mem_nil, or_false] at h_v_none)
  all_goals (rcases h_v_none with rfl | rfl | rfl | rfl | rfl | rfl | rfl | rfl)
  all_goals kernel_rfl
theorem m9_s0 (a b c : Int) (v_none : AV) (v_place : AV) (v_deed : AV) (v_owner : AV) (v_order : AV) (ml : List AV) (h_v_place : v_place ∈ menu_v_place) : (evLam (hoM S.exs 2 bm39 cl39 br39) (evCall 2 30 (evCons (evVar 2) (evCons (evVar 4) evNil)))) (GK 20) [some (.ref 0), some cv4, some cv6, some v_none, some v_place, some v_deed, some v_owner, some v_order, some (.ref 1), none, none] [SC a b c, .lst ml] = .ok (numS "number " v_place) [SC a b c, .lst ml] := by
  all_goals (try simp only [menu_v_place, List.mem_cons, List.not_mem_nil, or_false] at h_v_place)
  all_goals (rcases h_v_place with rfl | rfl | rfl | rfl | rfl | rfl | rfl)
  all_goals kernel_rfl
theorem m10_s0 (a b c : Int) (v_none : AV) (v_place : AV) (v_deed : AV) (v_owner : AV) (v_order : AV) (ml : List AV) : (evLam (hoM S.exs 2 bm39 cl39 br39) (evCall 2 30 (evCons (evVar 2) (evCons (evC (.int 1)) evNil)))) (GK 20) [some (.ref 0), some cv4, some cv6, some v_none, some v_place, some v_deed, some v_owner, some v_order, some (.ref 1), none, none] [SC a b c, .lst ml] = .ok (.str "fine") [SC a b c, .lst ml] := by
  all_goals kernel_rfl
theorem st11_s0 (a b c : Int) (v_none : AV) (v_place : AV) (v_deed : AV) (v_owner : AV) (v_order : AV) (ml : List AV) (h_v_place : v_place ∈ menu_v_place) : b40_10 (GK 20) [some (.ref 0), some cv4, some cv6, some v_none, some v_place, some v_deed, some v_owner, some v_order, some (.ref 1), none, none] [SC a b c, .lst ml] = .nx [some (.ref 0), some cv4, some cv6, some v_none, some v_place, some v_deed, some v_owner, some v_order, some (.ref 1), some (.lst [(.str "machine"), (numS "number " v_place), (.str "fine")]), none] [SC a b c, .lst ml] := by
  all_goals (try simp only [menu_v_place, List.mem_cons, List.not_mem_nil, or_false] at h_v_place)
  all_goals (rcases h_v_place with rfl | rfl | rfl | rfl | rfl | rfl | rfl)
  all_goals kernel_rfl
theorem it12_s0 (a b c : Int) (v_none : AV) (v_place : AV) (v_deed : AV) (v_owner : AV) (v_order : AV) (ml : List AV) : ((eiSeq (evOf opTup (evCons (evFn 31) (evCons (evFn 35) evNil)))) : EvI) (GK 20) [some (.ref 0), some cv4, some cv6, some v_none, some v_place, some v_deed, some v_owner, some v_order, some (.ref 1), some (.lst [(.str "machine"), (numS "number " v_place), (.str "fine")]), none] [SC a b c, .lst ml] = .ok (.snap [(.fn 31), (.fn 35)]) [SC a b c, .lst ml] := by kernel_rfl
theorem m13_s0 (a b c : Int) (v_none : AV) (v_place : AV) (v_deed : AV) (v_owner : AV) (v_order : AV) (ml : List AV) (h_v_none : v_none ∈ menu_v_none) (h_v_deed : v_deed ∈ menu_v_deed) : (evLam (hoM S.exs 2 bm39 cl39 br39) (evCallV S.fns 10 (evCons (evVar 3) (evCons (evVar 5) evNil)))) (GK 20) [some (.ref 0), some cv4, some cv6, some v_none, some v_place, some v_deed, some v_owner, some v_order, some (.ref 1), some (.lst [(.str "machine"), (numS "number " v_place), (.str "fine")]), some (.fn 31)] [SC a b c, .lst ml] = .ok (.str "machine") [SC a b c, .lst ml] := by
  all_goals (try simp only [menu_v_deed, List.mem_cons, List.not_mem_nil, or_false] at h_v_deed)
  all_goals (rcases h_v_deed with rfl | rfl | rfl | rfl | rfl | rfl | rfl)
  all_goals (try simp only [menu_v_none, List.mem_cons, List.not_mem_nil, or_false] at h_v_none)
  all_goals (rcases h_v_none with rfl | rfl | rfl | rfl | rfl | rfl | rfl | rfl)
  all_goals kernel_rfl
theorem m14_s0 (a b c : Int) (v_none : AV) (v_place : AV) (v_deed : AV) (v_owner : AV) (v_order : AV) (ml : List AV) (h_v_deed : v_deed ∈ menu_v_deed) : (evLam (hoM S.exs 2 bm39 cl39 br39) (evCallV S.fns 10 (evCons (evVar 2) (evCons (evVar 5) evNil)))) (GK 20) [some (.ref 0), some cv4, some cv6, some v_none, some v_place, some v_deed, some v_owner, some v_order, some (.ref 1), some (.lst [(.str "machine"), (numS "number " v_place), (.str "fine")]), some (.fn 31)] [SC a b c, .lst ml] = .ok (numS "number " v_deed) [SC a b c, .lst ml] := by
  all_goals (try simp only [menu_v_deed, List.mem_cons, List.not_mem_nil, or_false] at h_v_deed)
  all_goals (rcases h_v_deed with rfl | rfl | rfl | rfl | rfl | rfl | rfl)
  all_goals kernel_rfl
theorem m15_s0 (a b c : Int) (v_none : AV) (v_place : AV) (v_deed : AV) (v_owner : AV) (v_order : AV) (ml : List AV) : (evLam (hoM S.exs 2 bm39 cl39 br39) (evCallV S.fns 10 (evCons (evVar 2) (evCons (evC (.int 2)) evNil)))) (GK 20) [some (.ref 0), some cv4, some cv6, some v_none, some v_place, some v_deed, some v_owner, some v_order, some (.ref 1), some (.lst [(.str "machine"), (numS "number " v_place), (.str "fine")]), some (.fn 31)] [SC a b c, .lst ml] = .ok (.str "fine") [SC a b c, .lst ml] := by
  all_goals kernel_rfl
theorem st16_s0 (a b c : Int) (v_none : AV) (v_place : AV) (v_deed : AV) (v_owner : AV) (v_order : AV) (ml : List AV) (h_v_deed : v_deed ∈ menu_v_deed) : lb40_11_3 (GK 20) [some (.ref 0), some cv4, some cv6, some v_none, some v_place, some v_deed, some v_owner, some v_order, some (.ref 1), some (.lst [(.str "machine"), (numS "number " v_place), (.str "fine")]), some (.fn 31)] [SC a b c, .lst ml] = .nx [some (.ref 0), some cv4, some cv6, some v_none, some v_place, some v_deed, some v_owner, some v_order, some (.ref 1), some (.lst [(.str "machine"), (numS "number " v_place), (.str "fine"), (.str "machine"), (numS "number " v_deed), (.str "fine")]), some (.fn 31)] [SC a b c, .lst ml] := by
  all_goals (try simp only [menu_v_deed, List.mem_cons, List.not_mem_nil, or_false] at h_v_deed)
  all_goals (rcases h_v_deed with rfl | rfl | rfl | rfl | rfl | rfl | rfl)
  all_goals kernel_rfl
theorem m17_s0 (a b c : Int) (v_none : AV) (v_place : AV) (v_deed : AV) (v_owner : AV) (v_order : AV) (ml : List AV) (h_v_none : v_none ∈ menu_v_none) (h_v_deed : v_deed ∈ menu_v_deed) : (evLam (hoM S.exs 2 bm39 cl39 br39) (evCallV S.fns 10 (evCons (evVar 3) (evCons (evVar 5) evNil)))) (GK 20) [some (.ref 0), some cv4, some cv6, some v_none, some v_place, some v_deed, some v_owner, some v_order, some (.ref 1), some (.lst [(.str "machine"), (numS "number " v_place), (.str "fine"), (.str "machine"), (numS "number " v_deed), (.str "fine")]), some (.fn 35)] [SC a b c, .lst ml] = .ok (.str "machine") [SC a b c, .lst ml] := by
  all_goals (try simp only [menu_v_deed, List.mem_cons, List.not_mem_nil, or_false] at h_v_deed)
  all_goals (rcases h_v_deed with rfl | rfl | rfl | rfl | rfl | rfl | rfl)
  all_goals (try simp only [menu_v_none, List.mem_cons, List.not_mem_nil, or_false] at h_v_none)
  all_goals (rcases h_v_none with rfl | rfl | rfl | rfl | rfl | rfl | rfl | rfl)
  all_goals kernel_rfl
theorem m18_s0 (a b c : Int) (v_none : AV) (v_place : AV) (v_deed : AV) (v_owner : AV) (v_order : AV) (ml : List AV) (h_v_deed : v_deed ∈ menu_v_deed) : (evLam (hoM S.exs 2 bm39 cl39 br39) (evCallV S.fns 10 (evCons (evVar 2) (evCons (evVar 5) evNil)))) (GK 20) [some (.ref 0), some cv4, some cv6, some v_none, some v_place, some v_deed, some v_owner, some v_order, some (.ref 1), some (.lst [(.str "machine"), (numS "number " v_place), (.str "fine"), (.str "machine"), (numS "number " v_deed), (.str "fine")]), some (.fn 35)] [SC a b c, .lst ml] = .ok (numS "number " v_deed) [SC a b c, .lst ml] := by
  all_goals (try simp only [menu_v_deed, List.mem_cons, List.not_mem_nil, or_false] at h_v_deed)
  all_goals (rcases h_v_deed with rfl | rfl | rfl | rfl | rfl | rfl | rfl)
  all_goals kernel_rfl
theorem m19_s0 (a b c : Int) (v_none : AV) (v_place : AV) (v_deed : AV) (v_owner : AV) (v_order : AV) (ml : List AV) : (evLam (hoM S.exs 2 bm39 cl39 br39) (evCallV S.fns 10 (evCons (evVar 2) (evCons (evC (.int 2)) evNil)))) (GK 20) [some (.ref 0), some cv4, some cv6, some v_none, some v_place, some v_deed, some v_owner, some v_order, some (.ref 1), some (.lst [(.str "machine"), (numS "number " v_place), (.str "fine"), (.str "machine"), (numS "number " v_deed), (.str "fine")]), some (.fn 35)] [SC a b c, .lst ml] = .ok (.str "fine") [SC a b c, .lst ml] := by
  all_goals kernel_rfl
theorem st20_s0 (a b c : Int) (v_none : AV) (v_place : AV) (v_deed : AV) (v_owner : AV) (v_order : AV) (ml : List AV) (h_v_deed : v_deed ∈ menu_v_deed) : lb40_11_3 (GK 20) [some (.ref 0), some cv4, some cv6, some v_none, some v_place, some v_deed, some v_owner, some v_order, some (.ref 1), some (.lst [(.str "machine"), (numS "number " v_place), (.str "fine"), (.str "machine"), (numS "number " v_deed), (.str "fine")]), some (.fn 35)] [SC a b c, .lst ml] = .nx [some (.ref 0), some cv4, some cv6, some v_none, some v_place, some v_deed, some v_owner, some v_order, some (.ref 1), some (.lst [(.str "machine"), (numS "number " v_place), (.str "fine"), (.str "machine"), (numS "number " v_deed), (.str "fine"), (.str "machine"), (numS "number " v_deed), (.str "fine")]), some (.fn 35)] [SC a b c, .lst ml] := by
  all_goals (try simp only [menu_v_deed, List.mem_cons, List.not_mem_nil, or_false] at h_v_deed)
  all_goals (rcases h_v_deed with rfl | rfl | rfl | rfl | rfl | rfl | rfl)
  all_goals kernel_rfl
theorem m21_s0 (a b c : Int) (v_none : AV) (v_place : AV) (v_deed : AV) (v_owner : AV) (v_order : AV) (ml : List AV) (h_v_none : v_none ∈ menu_v_none) (h_v_place : v_place ∈ menu_v_place) (h_v_owner : v_owner ∈ menu_v_owner) : (evLam (hoM S.exs 2 bm39 cl39 br39) (evCall 3 32 (evCons (evVar 3) (evCons (evVar 4) (evCons (evVar 6) evNil))))) (GK 20) [some (.ref 0), some cv4, some cv6, some v_none, some v_place, some v_deed, some v_owner, some v_order, some (.ref 1), some (.lst [(.str "machine"), (numS "number " v_place), (.str "fine"), (.str "machine"), (numS "number " v_deed), (.str "fine"), (.str "machine"), (numS "number " v_deed), (.str "fine")]), some (.fn 35)] [SC a b c, .lst ml] = .ok (.str "machine") [SC a b c, .lst ml] := by
  all_goals (try simp only [menu_v_owner, List.mem_cons, List.not_mem_nil, or_false] at h_v_owner)
  all_goals (rcases h_v_owner with rfl | rfl | rfl | rfl | rfl | rfl | rfl | rfl)
  all_goals (try simp only [menu_v_place, List.mem_cons, List.not_mem_nil, or_false] at h_v_place)
  all_goals (rcases h_v_place with rfl | rfl | rfl | rfl | rfl | rfl | rfl)
  all_goals (try simp only [menu_v_none, List.mem_cons, List.not_mem_nil, or_false] at h_v_none)
  all_goals (rcases h_v_none with rfl | rfl | rfl | rfl | rfl | rfl | rfl | rfl)
  all_goals kernel_rfl
theorem m22_s0 (a b c : Int) (v_none : AV) (v_place : AV) (v_deed : AV) (v_owner : AV) (v_order : AV) (ml : List AV) (h_v_place : v_place ∈ menu_v_place) (h_v_owner : v_owner ∈ menu_v_owner) : (evLam (hoM S.exs 2 bm39 cl39 br39) (evCall 3 32 (evCons (evVar 2) (evCons (evVar 4) (evCons (evVar 6) evNil))))) (GK 20) [some (.ref 0), some cv4, some cv6, some v_none, some v_place, some v_deed, some v_owner, some v_order, some (.ref 1), some (.lst [(.str "machine"), (numS "number " v_place), (.str "fine"), (.str "machine"), (numS "number " v_deed), (.str "fine"), (.str "machine"), (numS "number " v_deed), (.str "fine")]), some (.fn 35)] [SC a b c, .lst ml] = .ok (numS "number " v_place) [SC a b c, .lst ml] := by
  all_goals (try simp only [menu_v_owner, List.mem_cons, List.not_mem_nil, or_false] at h_v_owner)
  all_goals (rcases h_v_owner with rfl | rfl | rfl | rfl | rfl | rfl | rfl | rfl)
  all_goals (try simp only [menu_v_place, List.mem_cons, List.not_mem_nil, or_false] at h_v_place)
  all_goals (rcases h_v_place with rfl | rfl | rfl | rfl | rfl | rfl | rfl)
  all_goals kernel_rfl
theorem m23_s0 (a b c : Int) (v_none : AV) (v_place : AV) (v_deed : AV) (v_owner : AV) (v_order : AV) (ml : List AV) (h_v_owner : v_owner ∈ menu_v_owner) : (evLam (hoM S.exs 2 bm39 cl39 br39) (evCall 3 32 (evCons (evVar 2) (evCons (evC (.int 0)) (evCons (evVar 6) evNil))))) (GK 20) [some (.ref 0), some cv4, some cv6, some v_none, some v_place, some v_deed, some v_owner, some v_order, some (.ref 1), some (.lst [(.str "machine"), (numS "number " v_place), (.str "fine"), (.str "machine"), (numS "number " v_deed), (.str "fine"), (.str "machine"), (numS "number " v_deed), (.str "fine")]), some (.fn 35)] [SC a b c, .lst ml] = .ok (.str "operation") [SC a b c, .lst ml] := by
  all_goals (try simp only [menu_v_owner, List.mem_cons, List.not_mem_nil, or_false] at h_v_owner)
  all_goals (rcases h_v_owner with rfl | rfl | rfl | rfl | rfl | rfl | rfl | rfl)
  all_goals kernel_rfl
theorem m24_s0 (a b c : Int) (v_none : AV) (v_place : AV) (v_deed : AV) (v_owner : AV) (v_order : AV) (ml : List AV) : (evLam (hoM S.exs 2 bm39 cl39 br39) (evCall 3 32 (evCons (evVar 2) (evCons (evC (.int 0)) (evCons (evC (.str "foe")) evNil))))) (GK 20) [some (.ref 0), some cv4, some cv6, some v_none, some v_place, some v_deed, some v_owner, some v_order, some (.ref 1), some (.lst [(.str "machine"), (numS "number " v_place), (.str "fine"), (.str "machine"), (numS "number " v_deed), (.str "fine"), (.str "machine"), (numS "number " v_deed), (.str "fine")]), some (.fn 35)] [SC a b c, .lst ml] = .ok (.str "fine") [SC a b c, .lst ml] := by
  all_goals kernel_rfl
theorem m25_s0 (a b c : Int) (v_none : AV) (v_place : AV) (v_deed : AV) (v_owner : AV) (v_order : AV) (ml : List AV) (h_v_none : v_none ∈ menu_v_none) (h_v_order : v_order ∈ menu_v_order) : (evLam (hoM S.exs 2 bm39 cl39 br39) (evCall 2 34 (evCons (evVar 3) (evCons (evVar 7) evNil)))) (GK 20) [some (.ref 0), some cv4, some cv6, some v_none, some v_place, some v_deed, some v_owner, some v_order, some (.ref 1), some (.lst [(.str "machine"), (numS "number " v_place), (.str "fine"), (.str "machine"), (numS "number " v_deed), (.str "fine"), (.str "machine"), (numS "number " v_deed), (.str "fine")]), some (.fn 35)] [SC a b c, .lst ml] = .ok (.str "machine") [SC a b c, .lst ml] := by
  all_goals (try simp only [menu_v_order, List.mem_cons, List.not_mem_nil, or_false] at h_v_order)
  all_goals (rcases h_v_order with rfl | rfl | rfl | rfl | rfl | rfl | rfl | rfl | rfl | rfl | rfl)
  all_goals (try simp only [menu_v_none, List.mem_cons, List.not_mem_nil, or_false] at h_v_none)
  all_goals (rcases h_v_none with rfl | rfl | rfl | rfl | rfl | rfl | rfl | rfl)
  all_goals kernel_rfl
theorem m26_s0 (a b c : Int) (v_none : AV) (v_place : AV) (v_deed : AV) (v_owner : AV) (v_order : AV) (ml : List AV) (h_v_order : v_order ∈ menu_v_order) : (evLam (hoM S.exs 2 bm39 cl39 br39) (evCall 2 34 (evCons (evVar 2) (evCons (evVar 7) evNil)))) (GK 20) [some (.ref 0), some cv4, some cv6, some v_none, some v_place, some v_deed, some v_owner, some v_order, some (.ref 1), some (.lst [(.str "machine"), (numS "number " v_place), (.str "fine"), (.str "machine"), (numS "number " v_deed), (.str "fine"), (.str "machine"), (numS "number " v_deed), (.str "fine")]), some (.fn 35)] [SC a b c, .lst ml] = .ok (.str "places") [SC a b c, .lst ml] := by
  all_goals (try simp only [menu_v_order, List.mem_cons, List.not_mem_nil, or_false] at h_v_order)
  all_goals (rcases h_v_order with rfl | rfl | rfl | rfl | rfl | rfl | rfl | rfl | rfl | rfl | rfl)
  all_goals kernel_rfl
theorem m27_s0 (a b c : Int) (v_none : AV) (v_place : AV) (v_deed : AV) (v_owner : AV) (v_order : AV) (ml : List AV) : (evLam (hoM S.exs 2 bm39 cl39 br39) (evCall 2 34 (evCons (evVar 2) (evCons (evOf opTup (evCons (evC (.int 1)) (evCons (evC (.int 0)) evNil))) evNil)))) (GK 20) [some (.ref 0), some cv4, some cv6, some v_none, some v_place, some v_deed, some v_owner, some v_order, some (.ref 1), some (.lst [(.str "machine"), (numS "number " v_place), (.str "fine"), (.str "machine"), (numS "number " v_deed), (.str "fine"), (.str "machine"), (numS "number " v_deed), (.str "fine")]), some (.fn 35)] [SC a b c, .lst ml] = .ok (.str "fine") [SC a b c, .lst ml] := by
  all_goals kernel_rfl
theorem st28_s0 (a b c : Int) (v_none : AV) (v_place : AV) (v_deed : AV) (v_owner : AV) (v_order : AV) (ml : List AV) (h_v_place : v_place ∈ menu_v_place) : b40_19 (GK 20) [some (.ref 0), some cv4, some cv6, some v_none, some v_place, some v_deed, some v_owner, some v_order, some (.ref 1), some (.lst [(.str "machine"), (numS "number " v_place), (.str "fine"), (.str "machine"), (numS "number " v_deed), (.str "fine"), (.str "machine"), (numS "number " v_deed), (.str "fine")]), some (.fn 35)] [SC a b c, .lst ml] = .nx [some (.ref 0), some cv4, some cv6, some v_none, some v_place, some v_deed, some v_owner, some v_order, some (.ref 1), some (.lst [(.str "machine"), (numS "number " v_place), (.str "fine"), (.str "machine"), (numS "number " v_deed), (.str "fine"), (.str "machine"), (numS "number " v_deed), (.str "fine"), (.str "machine"), (numS "number " v_place), (.str "operation"), (.str "fine"), (.str "machine"), (.str "places"), (.str "fine")]), some (.fn 35)] [SC a b c, .lst ml] := by
  all_goals (try simp only [menu_v_place, List.mem_cons, List.not_mem_nil, or_false] at h_v_place)
  all_goals (rcases h_v_place with rfl | rfl | rfl | rfl | rfl | rfl | rfl)
  all_goals kernel_rfl
theorem m29_s0 (a b c : Int) (v_none : AV) (v_place : AV) (v_deed : AV) (v_owner : AV) (v_order : AV) (ml : List AV) (h_v_none : v_none ∈ menu_v_none) : (evLam (hoM S.exs 2 bm39 cl39 br39) (evMk true 0 4 42 4 (evCons (evVar 3) (evCons (evOp ixOp (evVar 1) (evC (.int 1))) (evCons (evOp ixOp (evVar 1) (evC (.int 2))) evNil))))) (GK 20) [some (.ref 0), some cv4, some cv6, some v_none, some v_place, some v_deed, some v_owner, some v_order, some (.ref 1), some (.lst [(.str "machine"), (numS "number " v_place), (.str "fine"), (.str "machine"), (numS "number " v_deed), (.str "fine"), (.str "machine"), (numS "number " v_deed), (.str "fine"), (.str "machine"), (numS "number " v_place), (.str "operation"), (.str "fine"), (.str "machine"), (.str "places"), (.str "fine")]), some (.fn 35)] [SC a b c, .lst ml] = .ok (.str "machine") [SC a b c, .lst ml] := by
  all_goals (try simp only [menu_v_none, List.mem_cons, List.not_mem_nil, or_false] at h_v_none)
  all_goals (rcases h_v_none with rfl | rfl | rfl | rfl | rfl | rfl | rfl | rfl)
  all_goals kernel_rfl
theorem m30_s0 (a b c : Int) (v_none : AV) (v_place : AV) (v_deed : AV) (v_owner : AV) (v_order : AV) (ml : List AV) (h_v_owner : v_owner ∈ menu_v_owner) : (evLam (hoM S.exs 2 bm39 cl39 br39) (evMk true 0 4 42 4 (evCons (evC (.int 1)) (evCons (evOp ixOp (evVar 1) (evC (.int 1))) (evCons (evOf opTup (evCons (evOf opTup (evCons (evVar 6) (evCons (evC (.int 0)) (evCons (evC (.int 1)) (evCons (evOf opTup evNil) (evCons (evOf opTup evNil) evNil)))))) evNil)) evNil))))) (GK 20) [some (.ref 0), some cv4, some cv6, some v_none, some v_place, some v_deed, some v_owner, some v_order, some (.ref 1), some (.lst [(.str "machine"), (numS "number " v_place), (.str "fine"), (.str "machine"), (numS "number " v_deed), (.str "fine"), (.str "machine"), (numS "number " v_deed), (.str "fine"), (.str "machine"), (numS "number " v_place), (.str "operation"), (.str "fine"), (.str "machine"), (.str "places"), (.str "fine")]), some (.fn 35)] [SC a b c, .lst ml] = .ok (.str "machine") [SC a b c, .lst ml] := by
  all_goals (try simp only [menu_v_owner, List.mem_cons, List.not_mem_nil, or_false] at h_v_owner)
  all_goals (rcases h_v_owner with rfl | rfl | rfl | rfl | rfl | rfl | rfl | rfl)
  all_goals kernel_rfl
theorem du31_s0 (a b c : Int) (v_none : AV) (v_place : AV) (v_deed : AV) (v_owner : AV) (v_order : AV) (ml : List AV) : (evOp addOp (evVar 9) (evOf opLst (evCons (evC (.str "machine")) (evCons (evC (.str "machine")) evNil)))) (GK 20) [some (.ref 0), some cv4, some cv6, some v_none, some v_place, some v_deed, some v_owner, some v_order, some (.ref 1), some (.lst [(.str "machine"), (numS "number " v_place), (.str "fine"), (.str "machine"), (numS "number " v_deed), (.str "fine"), (.str "machine"), (numS "number " v_deed), (.str "fine"), (.str "machine"), (numS "number " v_place), (.str "operation"), (.str "fine"), (.str "machine"), (.str "places"), (.str "fine")]), some (.fn 35)] [SC a b c, .lst ml] = .ok (.lst [(.str "machine"), (numS "number " v_place), (.str "fine"), (.str "machine"), (numS "number " v_deed), (.str "fine"), (.str "machine"), (numS "number " v_deed), (.str "fine"), (.str "machine"), (numS "number " v_place), (.str "operation"), (.str "fine"), (.str "machine"), (.str "places"), (.str "fine"), (.str "machine"), (.str "machine")]) [SC a b c, .lst ml] := by
  all_goals kernel_rfl
theorem gk40 (args : List AV) (h : AH) : GK 21 40 args h = runDef false 11 b40 (GK 20) args h := by kernel_rfl
theorem right_s0 (a0 b0 c0 : Int) : ∃ a b c : Int, GK 21 40 [.ref 0] [SC a0 b0 c0] = .ok (.bl true) [SC a b c] := by
  have t1 : b40_0 (GK 20) [some (.ref 0), none, none, none, none, none, none, none, none, none, none] [SC a0 b0 c0] = .nx [some (.ref 0), some cv4, none, none, none, none, none, none, none, none, none] [SC a0 b0 c0] := st1_s0  a0 b0 c0
  have t2 : b40_1 (GK 20) [some (.ref 0), some cv4, none, none, none, none, none, none, none, none, none] [SC a0 b0 c0] = .nx [some (.ref 0), some cv4, some cv6, none, none, none, none, none, none, none, none] [SC a0 b0 c0] := st2_s0  a0 b0 c0
  obtain ⟨v_none, a1, b1, c1, h_v_none, e3⟩ := among_p [] [] a0 b0 c0 (menu_v_none) (of_decide_eq_true (by kernel_rfl)) (of_decide_eq_true (by kernel_rfl)) (pm_v_none)
  have t3 : b40_2 (GK 20) [some (.ref 0), some cv4, some cv6, none, none, none, none, none, none, none, none] [SC a0 b0 c0] = .nx [some (.ref 0), some cv4, some cv6, some v_none, none, none, none, none, none, none, none] [SC a1 b1 c1] := draw_nx rfl (me3_s0  a0 b0 c0) e3
  obtain ⟨v_place, a2, b2, c2, h_v_place, e4⟩ := among_p [] [] a1 b1 c1 (menu_v_place) (of_decide_eq_true (by kernel_rfl)) (of_decide_eq_true (by kernel_rfl)) (pm_v_place)
  have t4 : b40_3 (GK 20) [some (.ref 0), some cv4, some cv6, some v_none, none, none, none, none, none, none, none] [SC a1 b1 c1] = .nx [some (.ref 0), some cv4, some cv6, some v_none, some v_place, none, none, none, none, none, none] [SC a2 b2 c2] := draw_nx rfl (me4_s0  a1 b1 c1 v_none) e4
  obtain ⟨v_deed, a3, b3, c3, h_v_deed, e5⟩ := among_p [] [] a2 b2 c2 (menu_v_deed) (of_decide_eq_true (by kernel_rfl)) (of_decide_eq_true (by kernel_rfl)) (pm_v_deed)
  have t5 : b40_4 (GK 20) [some (.ref 0), some cv4, some cv6, some v_none, some v_place, none, none, none, none, none, none] [SC a2 b2 c2] = .nx [some (.ref 0), some cv4, some cv6, some v_none, some v_place, some v_deed, none, none, none, none, none] [SC a3 b3 c3] := draw_nx rfl (me5_s0  a2 b2 c2 v_none v_place) e5
  obtain ⟨v_owner, a4, b4, c4, h_v_owner, e6⟩ := among_p [] [] a3 b3 c3 (menu_v_owner) (of_decide_eq_true (by kernel_rfl)) (of_decide_eq_true (by kernel_rfl)) (pm_v_owner)
  have t6 : b40_5 (GK 20) [some (.ref 0), some cv4, some cv6, some v_none, some v_place, some v_deed, none, none, none, none, none] [SC a3 b3 c3] = .nx [some (.ref 0), some cv4, some cv6, some v_none, some v_place, some v_deed, some v_owner, none, none, none, none] [SC a4 b4 c4] := draw_nx rfl (me6_s0  a3 b3 c3 v_none v_place v_deed) e6
  obtain ⟨v_order, a5, b5, c5, h_v_order, e7⟩ := among_p [] [] a4 b4 c4 (menu_v_order) (of_decide_eq_true (by kernel_rfl)) (of_decide_eq_true (by kernel_rfl)) (pm_v_order)
  have t7 : b40_6 (GK 20) [some (.ref 0), some cv4, some cv6, some v_none, some v_place, some v_deed, some v_owner, none, none, none, none] [SC a4 b4 c4] = .nx [some (.ref 0), some cv4, some cv6, some v_none, some v_place, some v_deed, some v_owner, some v_order, none, none, none] [SC a5 b5 c5] := draw_nx rfl (me7_s0  a4 b4 c4 v_none v_place v_deed v_owner) e7
  have t8 : b40_7 (GK 20) [some (.ref 0), some cv4, some cv6, some v_none, some v_place, some v_deed, some v_owner, some v_order, none, none, none] [SC a5 b5 c5] = .nx [some (.ref 0), some cv4, some cv6, some v_none, some v_place, some v_deed, some v_owner, some v_order, some (.ref 1), none, none] [SC a5 b5 c5, .lst [(.str "machine")]] := met_nx (m8_s0  a5 b5 c5 v_none v_place v_deed v_owner v_order h_v_none h_v_place) (ok_0 []).2
  have t9 : b40_8 (GK 20) [some (.ref 0), some cv4, some cv6, some v_none, some v_place, some v_deed, some v_owner, some v_order, some (.ref 1), none, none] [SC a5 b5 c5, .lst [(.str "machine")]] = .nx [some (.ref 0), some cv4, some cv6, some v_none, some v_place, some v_deed, some v_owner, some v_order, some (.ref 1), none, none] [SC a5 b5 c5, .lst [(.str "machine"), (numS "number " v_place)]] := by
    refine app_nx (n := 1) (xs := [(.str "machine")]) (v := (numS "number " v_place)) rfl rfl ?_ (ok_1 [] v_place h_v_place).2 (of_decide_eq_true (by kernel_rfl))
    exact (m9_s0  a5 b5 c5 v_none v_place v_deed v_owner v_order _ h_v_place)
  have t10 : b40_9 (GK 20) [some (.ref 0), some cv4, some cv6, some v_none, some v_place, some v_deed, some v_owner, some v_order, some (.ref 1), none, none] [SC a5 b5 c5, .lst [(.str "machine"), (numS "number " v_place)]] = .nx [some (.ref 0), some cv4, some cv6, some v_none, some v_place, some v_deed, some v_owner, some v_order, some (.ref 1), none, none] [SC a5 b5 c5, .lst [(.str "machine"), (numS "number " v_place), (.str "fine")]] := by
    refine app_nx (n := 1) (xs := [(.str "machine"), (numS "number " v_place)]) (v := (.str "fine")) rfl rfl ?_ (ok_2 []).2 (of_decide_eq_true (by kernel_rfl))
    exact (m10_s0  a5 b5 c5 v_none v_place v_deed v_owner v_order _)
  have t11 : b40_10 (GK 20) [some (.ref 0), some cv4, some cv6, some v_none, some v_place, some v_deed, some v_owner, some v_order, some (.ref 1), none, none] [SC a5 b5 c5, .lst [(.str "machine"), (numS "number " v_place), (.str "fine")]] = .nx [some (.ref 0), some cv4, some cv6, some v_none, some v_place, some v_deed, some v_owner, some v_order, some (.ref 1), some (.lst [(.str "machine"), (numS "number " v_place), (.str "fine")]), none] [SC a5 b5 c5, .lst [(.str "machine"), (numS "number " v_place), (.str "fine")]] := st11_s0  a5 b5 c5 v_none v_place v_deed v_owner v_order _ h_v_place
  have t12 : lb40_11_0 (GK 20) [some (.ref 0), some cv4, some cv6, some v_none, some v_place, some v_deed, some v_owner, some v_order, some (.ref 1), some (.lst [(.str "machine"), (numS "number " v_place), (.str "fine")]), some (.fn 31)] [SC a5 b5 c5, .lst [(.str "machine"), (numS "number " v_place), (.str "fine")]] = .nx [some (.ref 0), some cv4, some cv6, some v_none, some v_place, some v_deed, some v_owner, some v_order, some (.ref 1), some (.lst [(.str "machine"), (numS "number " v_place), (.str "fine")]), some (.fn 31)] [SC a5 b5 c5, .lst [(.str "machine"), (numS "number " v_place), (.str "fine"), (.str "machine")]] := by
    refine app_nx (n := 1) (xs := [(.str "machine"), (numS "number " v_place), (.str "fine")]) (v := (.str "machine")) rfl rfl ?_ (ok_0 []).2 (of_decide_eq_true (by kernel_rfl))
    exact (m13_s0  a5 b5 c5 v_none v_place v_deed v_owner v_order _ h_v_none h_v_deed)
  have t13 : lb40_11_1 (GK 20) [some (.ref 0), some cv4, some cv6, some v_none, some v_place, some v_deed, some v_owner, some v_order, some (.ref 1), some (.lst [(.str "machine"), (numS "number " v_place), (.str "fine")]), some (.fn 31)] [SC a5 b5 c5, .lst [(.str "machine"), (numS "number " v_place), (.str "fine"), (.str "machine")]] = .nx [some (.ref 0), some cv4, some cv6, some v_none, some v_place, some v_deed, some v_owner, some v_order, some (.ref 1), some (.lst [(.str "machine"), (numS "number " v_place), (.str "fine")]), some (.fn 31)] [SC a5 b5 c5, .lst [(.str "machine"), (numS "number " v_place), (.str "fine"), (.str "machine"), (numS "number " v_deed)]] := by
    refine app_nx (n := 1) (xs := [(.str "machine"), (numS "number " v_place), (.str "fine"), (.str "machine")]) (v := (numS "number " v_deed)) rfl rfl ?_ (ok_3 [] v_deed h_v_deed).2 (of_decide_eq_true (by kernel_rfl))
    exact (m14_s0  a5 b5 c5 v_none v_place v_deed v_owner v_order _ h_v_deed)
  have t14 : lb40_11_2 (GK 20) [some (.ref 0), some cv4, some cv6, some v_none, some v_place, some v_deed, some v_owner, some v_order, some (.ref 1), some (.lst [(.str "machine"), (numS "number " v_place), (.str "fine")]), some (.fn 31)] [SC a5 b5 c5, .lst [(.str "machine"), (numS "number " v_place), (.str "fine"), (.str "machine"), (numS "number " v_deed)]] = .nx [some (.ref 0), some cv4, some cv6, some v_none, some v_place, some v_deed, some v_owner, some v_order, some (.ref 1), some (.lst [(.str "machine"), (numS "number " v_place), (.str "fine")]), some (.fn 31)] [SC a5 b5 c5, .lst [(.str "machine"), (numS "number " v_place), (.str "fine"), (.str "machine"), (numS "number " v_deed), (.str "fine")]] := by
    refine app_nx (n := 1) (xs := [(.str "machine"), (numS "number " v_place), (.str "fine"), (.str "machine"), (numS "number " v_deed)]) (v := (.str "fine")) rfl rfl ?_ (ok_2 []).2 (of_decide_eq_true (by kernel_rfl))
    exact (m15_s0  a5 b5 c5 v_none v_place v_deed v_owner v_order _)
  have t15 : lb40_11_3 (GK 20) [some (.ref 0), some cv4, some cv6, some v_none, some v_place, some v_deed, some v_owner, some v_order, some (.ref 1), some (.lst [(.str "machine"), (numS "number " v_place), (.str "fine")]), some (.fn 31)] [SC a5 b5 c5, .lst [(.str "machine"), (numS "number " v_place), (.str "fine"), (.str "machine"), (numS "number " v_deed), (.str "fine")]] = .nx [some (.ref 0), some cv4, some cv6, some v_none, some v_place, some v_deed, some v_owner, some v_order, some (.ref 1), some (.lst [(.str "machine"), (numS "number " v_place), (.str "fine"), (.str "machine"), (numS "number " v_deed), (.str "fine")]), some (.fn 31)] [SC a5 b5 c5, .lst [(.str "machine"), (numS "number " v_place), (.str "fine"), (.str "machine"), (numS "number " v_deed), (.str "fine")]] := st16_s0  a5 b5 c5 v_none v_place v_deed v_owner v_order _ h_v_deed
  have t16 : lb40_11_0 (GK 20) [some (.ref 0), some cv4, some cv6, some v_none, some v_place, some v_deed, some v_owner, some v_order, some (.ref 1), some (.lst [(.str "machine"), (numS "number " v_place), (.str "fine"), (.str "machine"), (numS "number " v_deed), (.str "fine")]), some (.fn 35)] [SC a5 b5 c5, .lst [(.str "machine"), (numS "number " v_place), (.str "fine"), (.str "machine"), (numS "number " v_deed), (.str "fine")]] = .nx [some (.ref 0), some cv4, some cv6, some v_none, some v_place, some v_deed, some v_owner, some v_order, some (.ref 1), some (.lst [(.str "machine"), (numS "number " v_place), (.str "fine"), (.str "machine"), (numS "number " v_deed), (.str "fine")]), some (.fn 35)] [SC a5 b5 c5, .lst [(.str "machine"), (numS "number " v_place), (.str "fine"), (.str "machine"), (numS "number " v_deed), (.str "fine"), (.str "machine")]] := by
    refine app_nx (n := 1) (xs := [(.str "machine"), (numS "number " v_place), (.str "fine"), (.str "machine"), (numS "number " v_deed), (.str "fine")]) (v := (.str "machine")) rfl rfl ?_ (ok_0 []).2 (of_decide_eq_true (by kernel_rfl))
    exact (m17_s0  a5 b5 c5 v_none v_place v_deed v_owner v_order _ h_v_none h_v_deed)
  have t17 : lb40_11_1 (GK 20) [some (.ref 0), some cv4, some cv6, some v_none, some v_place, some v_deed, some v_owner, some v_order, some (.ref 1), some (.lst [(.str "machine"), (numS "number " v_place), (.str "fine"), (.str "machine"), (numS "number " v_deed), (.str "fine")]), some (.fn 35)] [SC a5 b5 c5, .lst [(.str "machine"), (numS "number " v_place), (.str "fine"), (.str "machine"), (numS "number " v_deed), (.str "fine"), (.str "machine")]] = .nx [some (.ref 0), some cv4, some cv6, some v_none, some v_place, some v_deed, some v_owner, some v_order, some (.ref 1), some (.lst [(.str "machine"), (numS "number " v_place), (.str "fine"), (.str "machine"), (numS "number " v_deed), (.str "fine")]), some (.fn 35)] [SC a5 b5 c5, .lst [(.str "machine"), (numS "number " v_place), (.str "fine"), (.str "machine"), (numS "number " v_deed), (.str "fine"), (.str "machine"), (numS "number " v_deed)]] := by
    refine app_nx (n := 1) (xs := [(.str "machine"), (numS "number " v_place), (.str "fine"), (.str "machine"), (numS "number " v_deed), (.str "fine"), (.str "machine")]) (v := (numS "number " v_deed)) rfl rfl ?_ (ok_3 [] v_deed h_v_deed).2 (of_decide_eq_true (by kernel_rfl))
    exact (m18_s0  a5 b5 c5 v_none v_place v_deed v_owner v_order _ h_v_deed)
  have t18 : lb40_11_2 (GK 20) [some (.ref 0), some cv4, some cv6, some v_none, some v_place, some v_deed, some v_owner, some v_order, some (.ref 1), some (.lst [(.str "machine"), (numS "number " v_place), (.str "fine"), (.str "machine"), (numS "number " v_deed), (.str "fine")]), some (.fn 35)] [SC a5 b5 c5, .lst [(.str "machine"), (numS "number " v_place), (.str "fine"), (.str "machine"), (numS "number " v_deed), (.str "fine"), (.str "machine"), (numS "number " v_deed)]] = .nx [some (.ref 0), some cv4, some cv6, some v_none, some v_place, some v_deed, some v_owner, some v_order, some (.ref 1), some (.lst [(.str "machine"), (numS "number " v_place), (.str "fine"), (.str "machine"), (numS "number " v_deed), (.str "fine")]), some (.fn 35)] [SC a5 b5 c5, .lst [(.str "machine"), (numS "number " v_place), (.str "fine"), (.str "machine"), (numS "number " v_deed), (.str "fine"), (.str "machine"), (numS "number " v_deed), (.str "fine")]] := by
    refine app_nx (n := 1) (xs := [(.str "machine"), (numS "number " v_place), (.str "fine"), (.str "machine"), (numS "number " v_deed), (.str "fine"), (.str "machine"), (numS "number " v_deed)]) (v := (.str "fine")) rfl rfl ?_ (ok_2 []).2 (of_decide_eq_true (by kernel_rfl))
    exact (m19_s0  a5 b5 c5 v_none v_place v_deed v_owner v_order _)
  have t19 : lb40_11_3 (GK 20) [some (.ref 0), some cv4, some cv6, some v_none, some v_place, some v_deed, some v_owner, some v_order, some (.ref 1), some (.lst [(.str "machine"), (numS "number " v_place), (.str "fine"), (.str "machine"), (numS "number " v_deed), (.str "fine")]), some (.fn 35)] [SC a5 b5 c5, .lst [(.str "machine"), (numS "number " v_place), (.str "fine"), (.str "machine"), (numS "number " v_deed), (.str "fine"), (.str "machine"), (numS "number " v_deed), (.str "fine")]] = .nx [some (.ref 0), some cv4, some cv6, some v_none, some v_place, some v_deed, some v_owner, some v_order, some (.ref 1), some (.lst [(.str "machine"), (numS "number " v_place), (.str "fine"), (.str "machine"), (numS "number " v_deed), (.str "fine"), (.str "machine"), (numS "number " v_deed), (.str "fine")]), some (.fn 35)] [SC a5 b5 c5, .lst [(.str "machine"), (numS "number " v_place), (.str "fine"), (.str "machine"), (numS "number " v_deed), (.str "fine"), (.str "machine"), (numS "number " v_deed), (.str "fine")]] := st20_s0  a5 b5 c5 v_none v_place v_deed v_owner v_order _ h_v_deed
  have t20 : b40_11 (GK 20) [some (.ref 0), some cv4, some cv6, some v_none, some v_place, some v_deed, some v_owner, some v_order, some (.ref 1), some (.lst [(.str "machine"), (numS "number " v_place), (.str "fine")]), none] [SC a5 b5 c5, .lst [(.str "machine"), (numS "number " v_place), (.str "fine")]] = .nx [some (.ref 0), some cv4, some cv6, some v_none, some v_place, some v_deed, some v_owner, some v_order, some (.ref 1), some (.lst [(.str "machine"), (numS "number " v_place), (.str "fine"), (.str "machine"), (numS "number " v_deed), (.str "fine"), (.str "machine"), (numS "number " v_deed), (.str "fine")]), some (.fn 35)] [SC a5 b5 c5, .lst [(.str "machine"), (numS "number " v_place), (.str "fine"), (.str "machine"), (numS "number " v_deed), (.str "fine"), (.str "machine"), (numS "number " v_deed), (.str "fine")]] := by
    rw [le40_11]
    refine for_go (it12_s0  a5 b5 c5 v_none v_place v_deed v_owner v_order _) rfl ?_
    refine (for_step (env1 := [some (.ref 0), some cv4, some cv6, some v_none, some v_place, some v_deed, some v_owner, some v_order, some (.ref 1), some (.lst [(.str "machine"), (numS "number " v_place), (.str "fine")]), some (.fn 31)]) (env2 := [some (.ref 0), some cv4, some cv6, some v_none, some v_place, some v_deed, some v_owner, some v_order, some (.ref 1), some (.lst [(.str "machine"), (numS "number " v_place), (.str "fine"), (.str "machine"), (numS "number " v_deed), (.str "fine")]), some (.fn 31)]) (h2 := [SC a5 b5 c5, .lst [(.str "machine"), (numS "number " v_place), (.str "fine"), (.str "machine"), (numS "number " v_deed), (.str "fine")]]) rfl rfl (by rw [seq_nx t12]; rw [seq_nx t13]; rw [seq_nx t14]; exact t15)).trans ?_
    refine (for_step (env1 := [some (.ref 0), some cv4, some cv6, some v_none, some v_place, some v_deed, some v_owner, some v_order, some (.ref 1), some (.lst [(.str "machine"), (numS "number " v_place), (.str "fine"), (.str "machine"), (numS "number " v_deed), (.str "fine")]), some (.fn 35)]) (env2 := [some (.ref 0), some cv4, some cv6, some v_none, some v_place, some v_deed, some v_owner, some v_order, some (.ref 1), some (.lst [(.str "machine"), (numS "number " v_place), (.str "fine"), (.str "machine"), (numS "number " v_deed), (.str "fine"), (.str "machine"), (numS "number " v_deed), (.str "fine")]), some (.fn 35)]) (h2 := [SC a5 b5 c5, .lst [(.str "machine"), (numS "number " v_place), (.str "fine"), (.str "machine"), (numS "number " v_deed), (.str "fine"), (.str "machine"), (numS "number " v_deed), (.str "fine")]]) rfl rfl (by rw [seq_nx t16]; rw [seq_nx t17]; rw [seq_nx t18]; exact t19)).trans ?_
    exact for_end rfl
  have t21 : b40_12 (GK 20) [some (.ref 0), some cv4, some cv6, some v_none, some v_place, some v_deed, some v_owner, some v_order, some (.ref 1), some (.lst [(.str "machine"), (numS "number " v_place), (.str "fine"), (.str "machine"), (numS "number " v_deed), (.str "fine"), (.str "machine"), (numS "number " v_deed), (.str "fine")]), some (.fn 35)] [SC a5 b5 c5, .lst [(.str "machine"), (numS "number " v_place), (.str "fine"), (.str "machine"), (numS "number " v_deed), (.str "fine"), (.str "machine"), (numS "number " v_deed), (.str "fine")]] = .nx [some (.ref 0), some cv4, some cv6, some v_none, some v_place, some v_deed, some v_owner, some v_order, some (.ref 1), some (.lst [(.str "machine"), (numS "number " v_place), (.str "fine"), (.str "machine"), (numS "number " v_deed), (.str "fine"), (.str "machine"), (numS "number " v_deed), (.str "fine")]), some (.fn 35)] [SC a5 b5 c5, .lst [(.str "machine"), (numS "number " v_place), (.str "fine"), (.str "machine"), (numS "number " v_deed), (.str "fine"), (.str "machine"), (numS "number " v_deed), (.str "fine"), (.str "machine")]] := by
    refine app_nx (n := 1) (xs := [(.str "machine"), (numS "number " v_place), (.str "fine"), (.str "machine"), (numS "number " v_deed), (.str "fine"), (.str "machine"), (numS "number " v_deed), (.str "fine")]) (v := (.str "machine")) rfl rfl ?_ (ok_0 []).2 (of_decide_eq_true (by kernel_rfl))
    exact (m21_s0  a5 b5 c5 v_none v_place v_deed v_owner v_order _ h_v_none h_v_place h_v_owner)
  have t22 : b40_13 (GK 20) [some (.ref 0), some cv4, some cv6, some v_none, some v_place, some v_deed, some v_owner, some v_order, some (.ref 1), some (.lst [(.str "machine"), (numS "number " v_place), (.str "fine"), (.str "machine"), (numS "number " v_deed), (.str "fine"), (.str "machine"), (numS "number " v_deed), (.str "fine")]), some (.fn 35)] [SC a5 b5 c5, .lst [(.str "machine"), (numS "number " v_place), (.str "fine"), (.str "machine"), (numS "number " v_deed), (.str "fine"), (.str "machine"), (numS "number " v_deed), (.str "fine"), (.str "machine")]] = .nx [some (.ref 0), some cv4, some cv6, some v_none, some v_place, some v_deed, some v_owner, some v_order, some (.ref 1), some (.lst [(.str "machine"), (numS "number " v_place), (.str "fine"), (.str "machine"), (numS "number " v_deed), (.str "fine"), (.str "machine"), (numS "number " v_deed), (.str "fine")]), some (.fn 35)] [SC a5 b5 c5, .lst [(.str "machine"), (numS "number " v_place), (.str "fine"), (.str "machine"), (numS "number " v_deed), (.str "fine"), (.str "machine"), (numS "number " v_deed), (.str "fine"), (.str "machine"), (numS "number " v_place)]] := by
    refine app_nx (n := 1) (xs := [(.str "machine"), (numS "number " v_place), (.str "fine"), (.str "machine"), (numS "number " v_deed), (.str "fine"), (.str "machine"), (numS "number " v_deed), (.str "fine"), (.str "machine")]) (v := (numS "number " v_place)) rfl rfl ?_ (ok_1 [] v_place h_v_place).2 (of_decide_eq_true (by kernel_rfl))
    exact (m22_s0  a5 b5 c5 v_none v_place v_deed v_owner v_order _ h_v_place h_v_owner)
  have t23 : b40_14 (GK 20) [some (.ref 0), some cv4, some cv6, some v_none, some v_place, some v_deed, some v_owner, some v_order, some (.ref 1), some (.lst [(.str "machine"), (numS "number " v_place), (.str "fine"), (.str "machine"), (numS "number " v_deed), (.str "fine"), (.str "machine"), (numS "number " v_deed), (.str "fine")]), some (.fn 35)] [SC a5 b5 c5, .lst [(.str "machine"), (numS "number " v_place), (.str "fine"), (.str "machine"), (numS "number " v_deed), (.str "fine"), (.str "machine"), (numS "number " v_deed), (.str "fine"), (.str "machine"), (numS "number " v_place)]] = .nx [some (.ref 0), some cv4, some cv6, some v_none, some v_place, some v_deed, some v_owner, some v_order, some (.ref 1), some (.lst [(.str "machine"), (numS "number " v_place), (.str "fine"), (.str "machine"), (numS "number " v_deed), (.str "fine"), (.str "machine"), (numS "number " v_deed), (.str "fine")]), some (.fn 35)] [SC a5 b5 c5, .lst [(.str "machine"), (numS "number " v_place), (.str "fine"), (.str "machine"), (numS "number " v_deed), (.str "fine"), (.str "machine"), (numS "number " v_deed), (.str "fine"), (.str "machine"), (numS "number " v_place), (.str "operation")]] := by
    refine app_nx (n := 1) (xs := [(.str "machine"), (numS "number " v_place), (.str "fine"), (.str "machine"), (numS "number " v_deed), (.str "fine"), (.str "machine"), (numS "number " v_deed), (.str "fine"), (.str "machine"), (numS "number " v_place)]) (v := (.str "operation")) rfl rfl ?_ (ok_4 []).2 (of_decide_eq_true (by kernel_rfl))
    exact (m23_s0  a5 b5 c5 v_none v_place v_deed v_owner v_order _ h_v_owner)
  have t24 : b40_15 (GK 20) [some (.ref 0), some cv4, some cv6, some v_none, some v_place, some v_deed, some v_owner, some v_order, some (.ref 1), some (.lst [(.str "machine"), (numS "number " v_place), (.str "fine"), (.str "machine"), (numS "number " v_deed), (.str "fine"), (.str "machine"), (numS "number " v_deed), (.str "fine")]), some (.fn 35)] [SC a5 b5 c5, .lst [(.str "machine"), (numS "number " v_place), (.str "fine"), (.str "machine"), (numS "number " v_deed), (.str "fine"), (.str "machine"), (numS "number " v_deed), (.str "fine"), (.str "machine"), (numS "number " v_place), (.str "operation")]] = .nx [some (.ref 0), some cv4, some cv6, some v_none, some v_place, some v_deed, some v_owner, some v_order, some (.ref 1), some (.lst [(.str "machine"), (numS "number " v_place), (.str "fine"), (.str "machine"), (numS "number " v_deed), (.str "fine"), (.str "machine"), (numS "number " v_deed), (.str "fine")]), some (.fn 35)] [SC a5 b5 c5, .lst [(.str "machine"), (numS "number " v_place), (.str "fine"), (.str "machine"), (numS "number " v_deed), (.str "fine"), (.str "machine"), (numS "number " v_deed), (.str "fine"), (.str "machine"), (numS "number " v_place), (.str "operation"), (.str "fine")]] := by
    refine app_nx (n := 1) (xs := [(.str "machine"), (numS "number " v_place), (.str "fine"), (.str "machine"), (numS "number " v_deed), (.str "fine"), (.str "machine"), (numS "number " v_deed), (.str "fine"), (.str "machine"), (numS "number " v_place), (.str "operation")]) (v := (.str "fine")) rfl rfl ?_ (ok_2 []).2 (of_decide_eq_true (by kernel_rfl))
    exact (m24_s0  a5 b5 c5 v_none v_place v_deed v_owner v_order _)
  have t25 : b40_16 (GK 20) [some (.ref 0), some cv4, some cv6, some v_none, some v_place, some v_deed, some v_owner, some v_order, some (.ref 1), some (.lst [(.str "machine"), (numS "number " v_place), (.str "fine"), (.str "machine"), (numS "number " v_deed), (.str "fine"), (.str "machine"), (numS "number " v_deed), (.str "fine")]), some (.fn 35)] [SC a5 b5 c5, .lst [(.str "machine"), (numS "number " v_place), (.str "fine"), (.str "machine"), (numS "number " v_deed), (.str "fine"), (.str "machine"), (numS "number " v_deed), (.str "fine"), (.str "machine"), (numS "number " v_place), (.str "operation"), (.str "fine")]] = .nx [some (.ref 0), some cv4, some cv6, some v_none, some v_place, some v_deed, some v_owner, some v_order, some (.ref 1), some (.lst [(.str "machine"), (numS "number " v_place), (.str "fine"), (.str "machine"), (numS "number " v_deed), (.str "fine"), (.str "machine"), (numS "number " v_deed), (.str "fine")]), some (.fn 35)] [SC a5 b5 c5, .lst [(.str "machine"), (numS "number " v_place), (.str "fine"), (.str "machine"), (numS "number " v_deed), (.str "fine"), (.str "machine"), (numS "number " v_deed), (.str "fine"), (.str "machine"), (numS "number " v_place), (.str "operation"), (.str "fine"), (.str "machine")]] := by
    refine app_nx (n := 1) (xs := [(.str "machine"), (numS "number " v_place), (.str "fine"), (.str "machine"), (numS "number " v_deed), (.str "fine"), (.str "machine"), (numS "number " v_deed), (.str "fine"), (.str "machine"), (numS "number " v_place), (.str "operation"), (.str "fine")]) (v := (.str "machine")) rfl rfl ?_ (ok_0 []).2 (of_decide_eq_true (by kernel_rfl))
    exact (m25_s0  a5 b5 c5 v_none v_place v_deed v_owner v_order _ h_v_none h_v_order)
  have t26 : b40_17 (GK 20) [some (.ref 0), some cv4, some cv6, some v_none, some v_place, some v_deed, some v_owner, some v_order, some (.ref 1), some (.lst [(.str "machine"), (numS "number " v_place), (.str "fine"), (.str "machine"), (numS "number " v_deed), (.str "fine"), (.str "machine"), (numS "number " v_deed), (.str "fine")]), some (.fn 35)] [SC a5 b5 c5, .lst [(.str "machine"), (numS "number " v_place), (.str "fine"), (.str "machine"), (numS "number " v_deed), (.str "fine"), (.str "machine"), (numS "number " v_deed), (.str "fine"), (.str "machine"), (numS "number " v_place), (.str "operation"), (.str "fine"), (.str "machine")]] = .nx [some (.ref 0), some cv4, some cv6, some v_none, some v_place, some v_deed, some v_owner, some v_order, some (.ref 1), some (.lst [(.str "machine"), (numS "number " v_place), (.str "fine"), (.str "machine"), (numS "number " v_deed), (.str "fine"), (.str "machine"), (numS "number " v_deed), (.str "fine")]), some (.fn 35)] [SC a5 b5 c5, .lst [(.str "machine"), (numS "number " v_place), (.str "fine"), (.str "machine"), (numS "number " v_deed), (.str "fine"), (.str "machine"), (numS "number " v_deed), (.str "fine"), (.str "machine"), (numS "number " v_place), (.str "operation"), (.str "fine"), (.str "machine"), (.str "places")]] := by
    refine app_nx (n := 1) (xs := [(.str "machine"), (numS "number " v_place), (.str "fine"), (.str "machine"), (numS "number " v_deed), (.str "fine"), (.str "machine"), (numS "number " v_deed), (.str "fine"), (.str "machine"), (numS "number " v_place), (.str "operation"), (.str "fine"), (.str "machine")]) (v := (.str "places")) rfl rfl ?_ (ok_5 []).2 (of_decide_eq_true (by kernel_rfl))
    exact (m26_s0  a5 b5 c5 v_none v_place v_deed v_owner v_order _ h_v_order)
  have t27 : b40_18 (GK 20) [some (.ref 0), some cv4, some cv6, some v_none, some v_place, some v_deed, some v_owner, some v_order, some (.ref 1), some (.lst [(.str "machine"), (numS "number " v_place), (.str "fine"), (.str "machine"), (numS "number " v_deed), (.str "fine"), (.str "machine"), (numS "number " v_deed), (.str "fine")]), some (.fn 35)] [SC a5 b5 c5, .lst [(.str "machine"), (numS "number " v_place), (.str "fine"), (.str "machine"), (numS "number " v_deed), (.str "fine"), (.str "machine"), (numS "number " v_deed), (.str "fine"), (.str "machine"), (numS "number " v_place), (.str "operation"), (.str "fine"), (.str "machine"), (.str "places")]] = .nx [some (.ref 0), some cv4, some cv6, some v_none, some v_place, some v_deed, some v_owner, some v_order, some (.ref 1), some (.lst [(.str "machine"), (numS "number " v_place), (.str "fine"), (.str "machine"), (numS "number " v_deed), (.str "fine"), (.str "machine"), (numS "number " v_deed), (.str "fine")]), some (.fn 35)] [SC a5 b5 c5, .lst [(.str "machine"), (numS "number " v_place), (.str "fine"), (.str "machine"), (numS "number " v_deed), (.str "fine"), (.str "machine"), (numS "number " v_deed), (.str "fine"), (.str "machine"), (numS "number " v_place), (.str "operation"), (.str "fine"), (.str "machine"), (.str "places"), (.str "fine")]] := by
    refine app_nx (n := 1) (xs := [(.str "machine"), (numS "number " v_place), (.str "fine"), (.str "machine"), (numS "number " v_deed), (.str "fine"), (.str "machine"), (numS "number " v_deed), (.str "fine"), (.str "machine"), (numS "number " v_place), (.str "operation"), (.str "fine"), (.str "machine"), (.str "places")]) (v := (.str "fine")) rfl rfl ?_ (ok_2 []).2 (of_decide_eq_true (by kernel_rfl))
    exact (m27_s0  a5 b5 c5 v_none v_place v_deed v_owner v_order _)
  have t28 : b40_19 (GK 20) [some (.ref 0), some cv4, some cv6, some v_none, some v_place, some v_deed, some v_owner, some v_order, some (.ref 1), some (.lst [(.str "machine"), (numS "number " v_place), (.str "fine"), (.str "machine"), (numS "number " v_deed), (.str "fine"), (.str "machine"), (numS "number " v_deed), (.str "fine")]), some (.fn 35)] [SC a5 b5 c5, .lst [(.str "machine"), (numS "number " v_place), (.str "fine"), (.str "machine"), (numS "number " v_deed), (.str "fine"), (.str "machine"), (numS "number " v_deed), (.str "fine"), (.str "machine"), (numS "number " v_place), (.str "operation"), (.str "fine"), (.str "machine"), (.str "places"), (.str "fine")]] = .nx [some (.ref 0), some cv4, some cv6, some v_none, some v_place, some v_deed, some v_owner, some v_order, some (.ref 1), some (.lst [(.str "machine"), (numS "number " v_place), (.str "fine"), (.str "machine"), (numS "number " v_deed), (.str "fine"), (.str "machine"), (numS "number " v_deed), (.str "fine"), (.str "machine"), (numS "number " v_place), (.str "operation"), (.str "fine"), (.str "machine"), (.str "places"), (.str "fine")]), some (.fn 35)] [SC a5 b5 c5, .lst [(.str "machine"), (numS "number " v_place), (.str "fine"), (.str "machine"), (numS "number " v_deed), (.str "fine"), (.str "machine"), (numS "number " v_deed), (.str "fine"), (.str "machine"), (numS "number " v_place), (.str "operation"), (.str "fine"), (.str "machine"), (.str "places"), (.str "fine")]] := st28_s0  a5 b5 c5 v_none v_place v_deed v_owner v_order _ h_v_place
  have t29 : b40_20 (GK 20) [some (.ref 0), some cv4, some cv6, some v_none, some v_place, some v_deed, some v_owner, some v_order, some (.ref 1), some (.lst [(.str "machine"), (numS "number " v_place), (.str "fine"), (.str "machine"), (numS "number " v_deed), (.str "fine"), (.str "machine"), (numS "number " v_deed), (.str "fine"), (.str "machine"), (numS "number " v_place), (.str "operation"), (.str "fine"), (.str "machine"), (.str "places"), (.str "fine")]), some (.fn 35)] [SC a5 b5 c5, .lst [(.str "machine"), (numS "number " v_place), (.str "fine"), (.str "machine"), (numS "number " v_deed), (.str "fine"), (.str "machine"), (numS "number " v_deed), (.str "fine"), (.str "machine"), (numS "number " v_place), (.str "operation"), (.str "fine"), (.str "machine"), (.str "places"), (.str "fine")]] = .nx [some (.ref 0), some cv4, some cv6, some v_none, some v_place, some v_deed, some v_owner, some v_order, some (.ref 1), some (.lst [(.str "machine"), (numS "number " v_place), (.str "fine"), (.str "machine"), (numS "number " v_deed), (.str "fine"), (.str "machine"), (numS "number " v_deed), (.str "fine"), (.str "machine"), (numS "number " v_place), (.str "operation"), (.str "fine"), (.str "machine"), (.str "places"), (.str "fine")]), some (.fn 35)] [SC a5 b5 c5, .lst [(.str "machine"), (numS "number " v_place), (.str "fine"), (.str "machine"), (numS "number " v_deed), (.str "fine"), (.str "machine"), (numS "number " v_deed), (.str "fine"), (.str "machine"), (numS "number " v_place), (.str "operation"), (.str "fine"), (.str "machine"), (.str "places"), (.str "fine"), (.str "machine")]] := by
    refine app_nx (n := 1) (xs := [(.str "machine"), (numS "number " v_place), (.str "fine"), (.str "machine"), (numS "number " v_deed), (.str "fine"), (.str "machine"), (numS "number " v_deed), (.str "fine"), (.str "machine"), (numS "number " v_place), (.str "operation"), (.str "fine"), (.str "machine"), (.str "places"), (.str "fine")]) (v := (.str "machine")) rfl rfl ?_ (ok_0 []).2 (of_decide_eq_true (by kernel_rfl))
    exact (m29_s0  a5 b5 c5 v_none v_place v_deed v_owner v_order _ h_v_none)
  have t30 : b40_21 (GK 20) [some (.ref 0), some cv4, some cv6, some v_none, some v_place, some v_deed, some v_owner, some v_order, some (.ref 1), some (.lst [(.str "machine"), (numS "number " v_place), (.str "fine"), (.str "machine"), (numS "number " v_deed), (.str "fine"), (.str "machine"), (numS "number " v_deed), (.str "fine"), (.str "machine"), (numS "number " v_place), (.str "operation"), (.str "fine"), (.str "machine"), (.str "places"), (.str "fine")]), some (.fn 35)] [SC a5 b5 c5, .lst [(.str "machine"), (numS "number " v_place), (.str "fine"), (.str "machine"), (numS "number " v_deed), (.str "fine"), (.str "machine"), (numS "number " v_deed), (.str "fine"), (.str "machine"), (numS "number " v_place), (.str "operation"), (.str "fine"), (.str "machine"), (.str "places"), (.str "fine"), (.str "machine")]] = .nx [some (.ref 0), some cv4, some cv6, some v_none, some v_place, some v_deed, some v_owner, some v_order, some (.ref 1), some (.lst [(.str "machine"), (numS "number " v_place), (.str "fine"), (.str "machine"), (numS "number " v_deed), (.str "fine"), (.str "machine"), (numS "number " v_deed), (.str "fine"), (.str "machine"), (numS "number " v_place), (.str "operation"), (.str "fine"), (.str "machine"), (.str "places"), (.str "fine")]), some (.fn 35)] [SC a5 b5 c5, .lst [(.str "machine"), (numS "number " v_place), (.str "fine"), (.str "machine"), (numS "number " v_deed), (.str "fine"), (.str "machine"), (numS "number " v_deed), (.str "fine"), (.str "machine"), (numS "number " v_place), (.str "operation"), (.str "fine"), (.str "machine"), (.str "places"), (.str "fine"), (.str "machine"), (.str "machine")]] := by
    refine app_nx (n := 1) (xs := [(.str "machine"), (numS "number " v_place), (.str "fine"), (.str "machine"), (numS "number " v_deed), (.str "fine"), (.str "machine"), (numS "number " v_deed), (.str "fine"), (.str "machine"), (numS "number " v_place), (.str "operation"), (.str "fine"), (.str "machine"), (.str "places"), (.str "fine"), (.str "machine")]) (v := (.str "machine")) rfl rfl ?_ (ok_0 []).2 (of_decide_eq_true (by kernel_rfl))
    exact (m30_s0  a5 b5 c5 v_none v_place v_deed v_owner v_order _ h_v_owner)
  have t31 : b40_22 (GK 20) [some (.ref 0), some cv4, some cv6, some v_none, some v_place, some v_deed, some v_owner, some v_order, some (.ref 1), some (.lst [(.str "machine"), (numS "number " v_place), (.str "fine"), (.str "machine"), (numS "number " v_deed), (.str "fine"), (.str "machine"), (numS "number " v_deed), (.str "fine"), (.str "machine"), (numS "number " v_place), (.str "operation"), (.str "fine"), (.str "machine"), (.str "places"), (.str "fine")]), some (.fn 35)] [SC a5 b5 c5, .lst [(.str "machine"), (numS "number " v_place), (.str "fine"), (.str "machine"), (numS "number " v_deed), (.str "fine"), (.str "machine"), (numS "number " v_deed), (.str "fine"), (.str "machine"), (numS "number " v_place), (.str "operation"), (.str "fine"), (.str "machine"), (.str "places"), (.str "fine"), (.str "machine"), (.str "machine")]] = .ret (.bl true) [SC a5 b5 c5, .lst [(.str "machine"), (numS "number " v_place), (.str "fine"), (.str "machine"), (numS "number " v_deed), (.str "fine"), (.str "machine"), (numS "number " v_deed), (.str "fine"), (.str "machine"), (numS "number " v_place), (.str "operation"), (.str "fine"), (.str "machine"), (.str "places"), (.str "fine"), (.str "machine"), (.str "machine")]] := ret_eq rfl rfl (du31_s0  a5 b5 c5 v_none v_place v_deed v_owner v_order _) (okL_cons (ok_0 _).1 (okL_cons (ok_1 _ v_place h_v_place).1 (okL_cons (ok_2 _).1 (okL_cons (ok_0 _).1 (okL_cons (ok_3 _ v_deed h_v_deed).1 (okL_cons (ok_2 _).1 (okL_cons (ok_0 _).1 (okL_cons (ok_3 _ v_deed h_v_deed).1 (okL_cons (ok_2 _).1 (okL_cons (ok_0 _).1 (okL_cons (ok_1 _ v_place h_v_place).1 (okL_cons (ok_4 _).1 (okL_cons (ok_2 _).1 (okL_cons (ok_0 _).1 (okL_cons (ok_5 _).1 (okL_cons (ok_2 _).1 (okL_cons (ok_0 _).1 (okL_cons (ok_0 _).1 rfl))))))))))))))))))
  refine ⟨a5, b5, c5, ?_⟩
  have e : b40 (GK 20) [some (.ref 0), none, none, none, none, none, none, none, none, none, none] [SC a0 b0 c0] = .ret (.bl true) [SC a5 b5 c5, .lst [(.str "machine"), (numS "number " v_place), (.str "fine"), (.str "machine"), (numS "number " v_deed), (.str "fine"), (.str "machine"), (numS "number " v_deed), (.str "fine"), (.str "machine"), (numS "number " v_place), (.str "operation"), (.str "fine"), (.str "machine"), (.str "places"), (.str "fine"), (.str "machine"), (.str "machine")]] := by
    unfold b40
    rw [seq_nx t1]
    rw [seq_nx t2]
    rw [seq_nx t3]
    rw [seq_nx t4]
    rw [seq_nx t5]
    rw [seq_nx t6]
    rw [seq_nx t7]
    rw [seq_nx t8]
    rw [seq_nx t9]
    rw [seq_nx t10]
    rw [seq_nx t11]
    rw [seq_nx t20]
    rw [seq_nx t21]
    rw [seq_nx t22]
    rw [seq_nx t23]
    rw [seq_nx t24]
    rw [seq_nx t25]
    rw [seq_nx t26]
    rw [seq_nx t27]
    rw [seq_nx t28]
    rw [seq_nx t29]
    rw [seq_nx t30]
    exact t31
  rw [gk40]
  rw [run_eq (rc := false) (n := 11) (args := [.ref 0]) e]
  kernel_rfl
theorem st1_s1 (x0 : Cell) (a b c : Int) : b40_0 (GK 20) [some (.ref 1), none, none, none, none, none, none, none, none, none, none] [x0, SC a b c] = .nx [some (.ref 1), some cv4, none, none, none, none, none, none, none, none, none] [x0, SC a b c] := by
  all_goals kernel_rfl
theorem st2_s1 (x0 : Cell) (a b c : Int) : b40_1 (GK 20) [some (.ref 1), some cv4, none, none, none, none, none, none, none, none, none] [x0, SC a b c] = .nx [some (.ref 1), some cv4, some cv6, none, none, none, none, none, none, none, none] [x0, SC a b c] := by
  all_goals kernel_rfl
theorem me3_s1 (x0 : Cell) (a b c : Int) : (evOf opLst (evCons (evC .non) (evCons (evC (.int 0)) (evCons (evVar 1) (evCons (evOf opList (evCons (evVar 1) evNil)) (evCons (evC (.str "machine")) (evCons (evOf opTup evNil) (evCons (evOf opLst (evCons (evVar 2) evNil)) (evCons (evC (.bl true)) evNil))))))))) (GK 20) [some (.ref 1), some cv4, some cv6, none, none, none, none, none, none, none, none] [x0, SC a b c] = .ok (.lst (menu_v_none)) [x0, SC a b c] := by
  all_goals kernel_rfl
theorem me4_s1 (x0 : Cell) (a b c : Int) (v_none : AV) : (evOf opLst (evCons (evC .non) (evCons (evOf1 negOp (evC (.int 1))) (evCons (evC (.int 2)) (evCons (evC (.bl true)) (evCons (evC (.str "0")) (evCons (evOf opTup (evCons (evC (.int 0)) evNil)) (evCons (evOp subOp (evC (.int 1)) (evOp powOp (evC (.int 10)) (evC (.int 59)))) evNil)))))))) (GK 20) [some (.ref 1), some cv4, some cv6, some v_none, none, none, none, none, none, none, none] [x0, SC a b c] = .ok (.lst (menu_v_place)) [x0, SC a b c] := by
  all_goals kernel_rfl
theorem me5_s1 (x0 : Cell) (a b c : Int) (v_none : AV) (v_place : AV) : (evOf opLst (evCons (evC .non) (evCons (evOf1 negOp (evC (.int 1))) (evCons (evC (.int 3)) (evCons (evC (.bl false)) (evCons (evC (.str "1")) (evCons (evOf opLst (evCons (evC (.int 1)) evNil)) (evCons (evOp powOp (evC (.int 10)) (evC (.int 59))) evNil)))))))) (GK 20) [some (.ref 1), some cv4, some cv6, some v_none, some v_place, none, none, none, none, none, none] [x0, SC a b c] = .ok (.lst (menu_v_deed)) [x0, SC a b c] := by
  all_goals kernel_rfl
theorem me6_s1 (x0 : Cell) (a b c : Int) (v_none : AV) (v_place : AV) (v_deed : AV) : (evOf opLst (evCons (evC .non) (evCons (evC (.str "")) (evCons (evC (.str "Own")) (evCons (evC (.str "foes")) (evCons (evC (.int 0)) (evCons (evOf opTup (evCons (evC (.str "own")) evNil)) (evCons (evOf opLst (evCons (evC (.str "own")) evNil)) (evCons (evC (.bl true)) evNil))))))))) (GK 20) [some (.ref 1), some cv4, some cv6, some v_none, some v_place, some v_deed, none, none, none, none, none] [x0, SC a b c] = .ok (.lst (menu_v_owner)) [x0, SC a b c] := by
  all_goals kernel_rfl
theorem me7_s1 (x0 : Cell) (a b c : Int) (v_none : AV) (v_place : AV) (v_deed : AV) (v_owner : AV) : (evOf opLst (evCons (evC .non) (evCons (evOf opTup evNil) (evCons (evOf opTup (evCons (evC (.int 0)) evNil)) (evCons (evOf opTup (evCons (evC (.int 0)) (evCons (evC (.int 0)) evNil))) (evCons (evOf opTup (evCons (evC (.int 0)) (evCons (evC (.int 1)) (evCons (evC (.int 2)) evNil)))) (evCons (evOf opLst (evCons (evC (.int 0)) (evCons (evC (.int 1)) evNil))) (evCons (evOf opTup (evCons (evC (.int 1)) (evCons (evC (.int 2)) evNil))) (evCons (evOf opTup (evCons (evC (.int 0)) (evCons (evC (.bl true)) evNil))) (evCons (evC (.str "01")) (evCons (evOf opTup (evCons (evC (.int 1)) (evCons (evC (.int 0)) (evCons (evC (.int 1)) evNil)))) (evCons (evDictC 0 1) evNil)))))))))))) (GK 20) [some (.ref 1), some cv4, some cv6, some v_none, some v_place, some v_deed, some v_owner, none, none, none, none] [x0, SC a b c] = .ok (.lst (menu_v_order)) [x0, SC a b c] := by
  all_goals kernel_rfl
theorem m8_s1 (x0 : Cell) (a b c : Int) (v_none : AV) (v_place : AV) (v_deed : AV) (v_owner : AV) (v_order : AV) (h_v_none : v_none ∈ menu_v_none) (h_v_place : v_place ∈ menu_v_place) : (evLam (hoM S.exs 2 bm39 cl39 br39) (evCall 2 30 (evCons (evVar 3) (evCons (evVar 4) evNil)))) (GK 20) [some (.ref 1), some cv4, some cv6, some v_none, some v_place, some v_deed, some v_owner, some v_order, none, none, none] [x0, SC a b c] = .ok (.str "machine") [x0, SC a b c] := by
  all_goals (try simp only [menu_v_place, List.mem_cons, List.not_mem_nil, or_false] at h_v_place)
  all_goals (rcases h_v_place with rfl | rfl | rfl | rfl | rfl | rfl | rfl)
  all_goals (try simp only [menu_v_none, List.mem_cons, List.not_mem_nil, or_false] at h_v_none)
  all_goals (rcases h_v_none with rfl | rfl | rfl | rfl | rfl | rfl | rfl | rfl)
  all_goals kernel_rfl
theorem m9_s1 (x0 : Cell) (a b c : Int) (v_none : AV) (v_place : AV) (v_deed : AV) (v_owner : AV) (v_order : AV) (ml : List AV) (h_v_place : v_place ∈ menu_v_place) : (evLam (hoM S.exs 2 bm39 cl39 br39) (evCall 2 30 (evCons (evVar 2) (evCons (evVar 4) evNil)))) (GK 20) [some (.ref 1), some cv4, some cv6, some v_none, some v_place, some v_deed, some v_owner, some v_order, some (.ref 2), none, none] [x0, SC a b c, .lst ml] = .ok (numS "number " v_place) [x0, SC a b c, .lst ml] := by
  all_goals (try simp only [menu_v_place, List.mem_cons, List.not_mem_nil, or_false] at h_v_place)
  all_goals (rcases h_v_place with rfl | rfl | rfl | rfl | rfl | rfl | rfl)
  all_goals kernel_rfl
theorem m10_s1 (x0 : Cell) (a b c : Int) (v_none : AV) (v_place : AV) (v_deed : AV) (v_owner : AV) (v_order : AV) (ml : List AV) : (evLam (hoM S.exs 2 bm39 cl39 br39) (evCall 2 30 (evCons (evVar 2) (evCons (evC (.int 1)) evNil)))) (GK 20) [some (.ref 1), some cv4, some cv6, some v_none, some v_place, some v_deed, some v_owner, some v_order, some (.ref 2), none, none] [x0, SC a b c, .lst ml] = .ok (.str "fine") [x0, SC a b c, .lst ml] := by
  all_goals kernel_rfl
theorem st11_s1 (x0 : Cell) (a b c : Int) (v_none : AV) (v_place : AV) (v_deed : AV) (v_owner : AV) (v_order : AV) (ml : List AV) (h_v_place : v_place ∈ menu_v_place) : b40_10 (GK 20) [some (.ref 1), some cv4, some cv6, some v_none, some v_place, some v_deed, some v_owner, some v_order, some (.ref 2), none, none] [x0, SC a b c, .lst ml] = .nx [some (.ref 1), some cv4, some cv6, some v_none, some v_place, some v_deed, some v_owner, some v_order, some (.ref 2), some (.lst [(.str "machine"), (numS "number " v_place), (.str "fine")]), none] [x0, SC a b c, .lst ml] := by
  all_goals (try simp only [menu_v_place, List.mem_cons, List.not_mem_nil, or_false] at h_v_place)
  all_goals (rcases h_v_place with rfl | rfl | rfl | rfl | rfl | rfl | rfl)
  all_goals kernel_rfl
theorem it12_s1 (x0 : Cell) (a b c : Int) (v_none : AV) (v_place : AV) (v_deed : AV) (v_owner : AV) (v_order : AV) (ml : List AV) : ((eiSeq (evOf opTup (evCons (evFn 31) (evCons (evFn 35) evNil)))) : EvI) (GK 20) [some (.ref 1), some cv4, some cv6, some v_none, some v_place, some v_deed, some v_owner, some v_order, some (.ref 2), some (.lst [(.str "machine"), (numS "number " v_place), (.str "fine")]), none] [x0, SC a b c, .lst ml] = .ok (.snap [(.fn 31), (.fn 35)]) [x0, SC a b c, .lst ml] := by kernel_rfl
theorem m13_s1 (x0 : Cell) (a b c : Int) (v_none : AV) (v_place : AV) (v_deed : AV) (v_owner : AV) (v_order : AV) (ml : List AV) (h_v_none : v_none ∈ menu_v_none) (h_v_deed : v_deed ∈ menu_v_deed) : (evLam (hoM S.exs 2 bm39 cl39 br39) (evCallV S.fns 10 (evCons (evVar 3) (evCons (evVar 5) evNil)))) (GK 20) [some (.ref 1), some cv4, some cv6, some v_none, some v_place, some v_deed, some v_owner, some v_order, some (.ref 2), some (.lst [(.str "machine"), (numS "number " v_place), (.str "fine")]), some (.fn 31)] [x0, SC a b c, .lst ml] = .ok (.str "machine") [x0, SC a b c, .lst ml] := by
  all_goals (try simp only [menu_v_deed, List.mem_cons, List.not_mem_nil, or_false] at h_v_deed)
  all_goals (rcases h_v_deed with rfl | rfl | rfl | rfl | rfl | rfl | rfl)
  all_goals (try simp only [menu_v_none, List.mem_cons, List.not_mem_nil, or_false] at h_v_none)
  all_goals (rcases h_v_none with rfl | rfl | rfl | rfl | rfl | rfl | rfl | rfl)
  all_goals kernel_rfl
theorem m14_s1 (x0 : Cell) (a b c : Int) (v_none : AV) (v_place : AV) (v_deed : AV) (v_owner : AV) (v_order : AV) (ml : List AV) (h_v_deed : v_deed ∈ menu_v_deed) : (evLam (hoM S.exs 2 bm39 cl39 br39) (evCallV S.fns 10 (evCons (evVar 2) (evCons (evVar 5) evNil)))) (GK 20) [some (.ref 1), some cv4, some cv6, some v_none, some v_place, some v_deed, some v_owner, some v_order, some (.ref 2), some (.lst [(.str "machine"), (numS "number " v_place), (.str "fine")]), some (.fn 31)] [x0, SC a b c, .lst ml] = .ok (numS "number " v_deed) [x0, SC a b c, .lst ml] := by
  all_goals (try simp only [menu_v_deed, List.mem_cons, List.not_mem_nil, or_false] at h_v_deed)
  all_goals (rcases h_v_deed with rfl | rfl | rfl | rfl | rfl | rfl | rfl)
  all_goals kernel_rfl
theorem m15_s1 (x0 : Cell) (a b c : Int) (v_none : AV) (v_place : AV) (v_deed : AV) (v_owner : AV) (v_order : AV) (ml : List AV) : (evLam (hoM S.exs 2 bm39 cl39 br39) (evCallV S.fns 10 (evCons (evVar 2) (evCons (evC (.int 2)) evNil)))) (GK 20) [some (.ref 1), some cv4, some cv6, some v_none, some v_place, some v_deed, some v_owner, some v_order, some (.ref 2), some (.lst [(.str "machine"), (numS "number " v_place), (.str "fine")]), some (.fn 31)] [x0, SC a b c, .lst ml] = .ok (.str "fine") [x0, SC a b c, .lst ml] := by
  all_goals kernel_rfl
theorem st16_s1 (x0 : Cell) (a b c : Int) (v_none : AV) (v_place : AV) (v_deed : AV) (v_owner : AV) (v_order : AV) (ml : List AV) (h_v_deed : v_deed ∈ menu_v_deed) : lb40_11_3 (GK 20) [some (.ref 1), some cv4, some cv6, some v_none, some v_place, some v_deed, some v_owner, some v_order, some (.ref 2), some (.lst [(.str "machine"), (numS "number " v_place), (.str "fine")]), some (.fn 31)] [x0, SC a b c, .lst ml] = .nx [some (.ref 1), some cv4, some cv6, some v_none, some v_place, some v_deed, some v_owner, some v_order, some (.ref 2), some (.lst [(.str "machine"), (numS "number " v_place), (.str "fine"), (.str "machine"), (numS "number " v_deed), (.str "fine")]), some (.fn 31)] [x0, SC a b c, .lst ml] := by
  all_goals (try simp only [menu_v_deed, List.mem_cons, List.not_mem_nil, or_false] at h_v_deed)
  all_goals (rcases h_v_deed with rfl | rfl | rfl | rfl | rfl | rfl | rfl)
  all_goals kernel_rfl
theorem m17_s1 (x0 : Cell) (a b c : Int) (v_none : AV) (v_place : AV) (v_deed : AV) (v_owner : AV) (v_order : AV) (ml : List AV) (h_v_none : v_none ∈ menu_v_none) (h_v_deed : v_deed ∈ menu_v_deed) : (evLam (hoM S.exs 2 bm39 cl39 br39) (evCallV S.fns 10 (evCons (evVar 3) (evCons (evVar 5) evNil)))) (GK 20) [some (.ref 1), some cv4, some cv6, some v_none, some v_place, some v_deed, some v_owner, some v_order, some (.ref 2), some (.lst [(.str "machine"), (numS "number " v_place), (.str "fine"), (.str "machine"), (numS "number " v_deed), (.str "fine")]), some (.fn 35)] [x0, SC a b c, .lst ml] = .ok (.str "machine") [x0, SC a b c, .lst ml] := by
  all_goals (try simp only [menu_v_deed, List.mem_cons, List.not_mem_nil, or_false] at h_v_deed)
  all_goals (rcases h_v_deed with rfl | rfl | rfl | rfl | rfl | rfl | rfl)
  all_goals (try simp only [menu_v_none, List.mem_cons, List.not_mem_nil, or_false] at h_v_none)
  all_goals (rcases h_v_none with rfl | rfl | rfl | rfl | rfl | rfl | rfl | rfl)
  all_goals kernel_rfl
theorem m18_s1 (x0 : Cell) (a b c : Int) (v_none : AV) (v_place : AV) (v_deed : AV) (v_owner : AV) (v_order : AV) (ml : List AV) (h_v_deed : v_deed ∈ menu_v_deed) : (evLam (hoM S.exs 2 bm39 cl39 br39) (evCallV S.fns 10 (evCons (evVar 2) (evCons (evVar 5) evNil)))) (GK 20) [some (.ref 1), some cv4, some cv6, some v_none, some v_place, some v_deed, some v_owner, some v_order, some (.ref 2), some (.lst [(.str "machine"), (numS "number " v_place), (.str "fine"), (.str "machine"), (numS "number " v_deed), (.str "fine")]), some (.fn 35)] [x0, SC a b c, .lst ml] = .ok (numS "number " v_deed) [x0, SC a b c, .lst ml] := by
  all_goals (try simp only [menu_v_deed, List.mem_cons, List.not_mem_nil, or_false] at h_v_deed)
  all_goals (rcases h_v_deed with rfl | rfl | rfl | rfl | rfl | rfl | rfl)
  all_goals kernel_rfl
theorem m19_s1 (x0 : Cell) (a b c : Int) (v_none : AV) (v_place : AV) (v_deed : AV) (v_owner : AV) (v_order : AV) (ml : List AV) : (evLam (hoM S.exs 2 bm39 cl39 br39) (evCallV S.fns 10 (evCons (evVar 2) (evCons (evC (.int 2)) evNil)))) (GK 20) [some (.ref 1), some cv4, some cv6, some v_none, some v_place, some v_deed, some v_owner, some v_order, some (.ref 2), some (.lst [(.str "machine"), (numS "number " v_place), (.str "fine"), (.str "machine"), (numS "number " v_deed), (.str "fine")]), some (.fn 35)] [x0, SC a b c, .lst ml] = .ok (.str "fine") [x0, SC a b c, .lst ml] := by
  all_goals kernel_rfl
theorem st20_s1 (x0 : Cell) (a b c : Int) (v_none : AV) (v_place : AV) (v_deed : AV) (v_owner : AV) (v_order : AV) (ml : List AV) (h_v_deed : v_deed ∈ menu_v_deed) : lb40_11_3 (GK 20) [some (.ref 1), some cv4, some cv6, some v_none, some v_place, some v_deed, some v_owner, some v_order, some (.ref 2), some (.lst [(.str "machine"), (numS "number " v_place), (.str "fine"), (.str "machine"), (numS "number " v_deed), (.str "fine")]), some (.fn 35)] [x0, SC a b c, .lst ml] = .nx [some (.ref 1), some cv4, some cv6, some v_none, some v_place, some v_deed, some v_owner, some v_order, some (.ref 2), some (.lst [(.str "machine"), (numS "number " v_place), (.str "fine"), (.str "machine"), (numS "number " v_deed), (.str "fine"), (.str "machine"), (numS "number " v_deed), (.str "fine")]), some (.fn 35)] [x0, SC a b c, .lst ml] := by
  all_goals (try simp only [menu_v_deed, List.mem_cons, List.not_mem_nil, or_false] at h_v_deed)
  all_goals (rcases h_v_deed with rfl | rfl | rfl | rfl | rfl | rfl | rfl)
  all_goals kernel_rfl
theorem m21_s1 (x0 : Cell) (a b c : Int) (v_none : AV) (v_place : AV) (v_deed : AV) (v_owner : AV) (v_order : AV) (ml : List AV) (h_v_none : v_none ∈ menu_v_none) (h_v_place : v_place ∈ menu_v_place) (h_v_owner : v_owner ∈ menu_v_owner) : (evLam (hoM S.exs 2 bm39 cl39 br39) (evCall 3 32 (evCons (evVar 3) (evCons (evVar 4) (evCons (evVar 6) evNil))))) (GK 20) [some (.ref 1), some cv4, some cv6, some v_none, some v_place, some v_deed, some v_owner, some v_order, some (.ref 2), some (.lst [(.str "machine"), (numS "number " v_place), (.str "fine"), (.str "machine"), (numS "number " v_deed), (.str "fine"), (.str "machine"), (numS "number " v_deed), (.str "fine")]), some (.fn 35)] [x0, SC a b c, .lst ml] = .ok (.str "machine") [x0, SC a b c, .lst ml] := by
  all_goals (try simp only [menu_v_owner, List.mem_cons, List.not_mem_nil, or_false] at h_v_owner)
  all_goals (rcases h_v_owner with rfl | rfl | rfl | rfl | rfl | rfl | rfl | rfl)
  all_goals (try simp only [menu_v_place, List.mem_cons, List.not_mem_nil, or_false] at h_v_place)
  all_goals (rcases h_v_place with rfl | rfl | rfl | rfl | rfl | rfl | rfl)
  all_goals (try simp only [menu_v_none, List.mem_cons, List.not_mem_nil, or_false] at h_v_none)
  all_goals (rcases h_v_none with rfl | rfl | rfl | rfl | rfl | rfl | rfl | rfl)
  all_goals kernel_rfl
theorem m22_s1 (x0 : Cell) (a b c : Int) (v_none : AV) (v_place : AV) (v_deed : AV) (v_owner : AV) (v_order : AV) (ml : List AV) (h_v_place : v_place ∈ menu_v_place) (h_v_owner : v_owner ∈ menu_v_owner) : (evLam (hoM S.exs 2 bm39 cl39 br39) (evCall 3 32 (evCons (evVar 2) (evCons (evVar 4) (evCons (evVar 6) evNil))))) (GK 20) [some (.ref 1), some cv4, some cv6, some v_none, some v_place, some v_deed, some v_owner, some v_order, some (.ref 2), some (.lst [(.str "machine"), (numS "number " v_place), (.str "fine"), (.str "machine"), (numS "number " v_deed), (.str "fine"), (.str "machine"), (numS "number " v_deed), (.str "fine")]), some (.fn 35)] [x0, SC a b c, .lst ml] = .ok (numS "number " v_place) [x0, SC a b c, .lst ml] := by
  all_goals (try simp only [menu_v_owner, List.mem_cons, List.not_mem_nil, or_false] at h_v_owner)
  all_goals (rcases h_v_owner with rfl | rfl | rfl | rfl | rfl | rfl | rfl | rfl)
  all_goals (try simp only [menu_v_place, List.mem_cons, List.not_mem_nil, or_false] at h_v_place)
  all_goals (rcases h_v_place with rfl | rfl | rfl | rfl | rfl | rfl | rfl)
  all_goals kernel_rfl
theorem m23_s1 (x0 : Cell) (a b c : Int) (v_none : AV) (v_place : AV) (v_deed : AV) (v_owner : AV) (v_order : AV) (ml : List AV) (h_v_owner : v_owner ∈ menu_v_owner) : (evLam (hoM S.exs 2 bm39 cl39 br39) (evCall 3 32 (evCons (evVar 2) (evCons (evC (.int 0)) (evCons (evVar 6) evNil))))) (GK 20) [some (.ref 1), some cv4, some cv6, some v_none, some v_place, some v_deed, some v_owner, some v_order, some (.ref 2), some (.lst [(.str "machine"), (numS "number " v_place), (.str "fine"), (.str "machine"), (numS "number " v_deed), (.str "fine"), (.str "machine"), (numS "number " v_deed), (.str "fine")]), some (.fn 35)] [x0, SC a b c, .lst ml] = .ok (.str "operation") [x0, SC a b c, .lst ml] := by
  all_goals (try simp only [menu_v_owner, List.mem_cons, List.not_mem_nil, or_false] at h_v_owner)
  all_goals (rcases h_v_owner with rfl | rfl | rfl | rfl | rfl | rfl | rfl | rfl)
  all_goals kernel_rfl
theorem m24_s1 (x0 : Cell) (a b c : Int) (v_none : AV) (v_place : AV) (v_deed : AV) (v_owner : AV) (v_order : AV) (ml : List AV) : (evLam (hoM S.exs 2 bm39 cl39 br39) (evCall 3 32 (evCons (evVar 2) (evCons (evC (.int 0)) (evCons (evC (.str "foe")) evNil))))) (GK 20) [some (.ref 1), some cv4, some cv6, some v_none, some v_place, some v_deed, some v_owner, some v_order, some (.ref 2), some (.lst [(.str "machine"), (numS "number " v_place), (.str "fine"), (.str "machine"), (numS "number " v_deed), (.str "fine"), (.str "machine"), (numS "number " v_deed), (.str "fine")]), some (.fn 35)] [x0, SC a b c, .lst ml] = .ok (.str "fine") [x0, SC a b c, .lst ml] := by
  all_goals kernel_rfl
theorem m25_s1 (x0 : Cell) (a b c : Int) (v_none : AV) (v_place : AV) (v_deed : AV) (v_owner : AV) (v_order : AV) (ml : List AV) (h_v_none : v_none ∈ menu_v_none) (h_v_order : v_order ∈ menu_v_order) : (evLam (hoM S.exs 2 bm39 cl39 br39) (evCall 2 34 (evCons (evVar 3) (evCons (evVar 7) evNil)))) (GK 20) [some (.ref 1), some cv4, some cv6, some v_none, some v_place, some v_deed, some v_owner, some v_order, some (.ref 2), some (.lst [(.str "machine"), (numS "number " v_place), (.str "fine"), (.str "machine"), (numS "number " v_deed), (.str "fine"), (.str "machine"), (numS "number " v_deed), (.str "fine")]), some (.fn 35)] [x0, SC a b c, .lst ml] = .ok (.str "machine") [x0, SC a b c, .lst ml] := by
  all_goals (try simp only [menu_v_order, List.mem_cons, List.not_mem_nil, or_false] at h_v_order)
  all_goals (rcases h_v_order with rfl | rfl | rfl | rfl | rfl | rfl | rfl | rfl | rfl | rfl | rfl)
  all_goals (try simp only [menu_v_none, List.mem_cons, List.not_mem_nil, or_false] at h_v_none)
  all_goals (rcases h_v_none with rfl | rfl | rfl | rfl | rfl | rfl | rfl | rfl)
  all_goals kernel_rfl
theorem m26_s1 (x0 : Cell) (a b c : Int) (v_none : AV) (v_place : AV) (v_deed : AV) (v_owner : AV) (v_order : AV) (ml : List AV) (h_v_order : v_order ∈ menu_v_order) : (evLam (hoM S.exs 2 bm39 cl39 br39) (evCall 2 34 (evCons (evVar 2) (evCons (evVar 7) evNil)))) (GK 20) [some (.ref 1), some cv4, some cv6, some v_none, some v_place, some v_deed, some v_owner, some v_order, some (.ref 2), some (.lst [(.str "machine"), (numS "number " v_place), (.str "fine"), (.str "machine"), (numS "number " v_deed), (.str "fine"), (.str "machine"), (numS "number " v_deed), (.str "fine")]), some (.fn 35)] [x0, SC a b c, .lst ml] = .ok (.str "places") [x0, SC a b c, .lst ml] := by
  all_goals (try simp only [menu_v_order, List.mem_cons, List.not_mem_nil, or_false] at h_v_order)
  all_goals (rcases h_v_order with rfl | rfl | rfl | rfl | rfl | rfl | rfl | rfl | rfl | rfl | rfl)
  all_goals kernel_rfl
theorem m27_s1 (x0 : Cell) (a b c : Int) (v_none : AV) (v_place : AV) (v_deed : AV) (v_owner : AV) (v_order : AV) (ml : List AV) : (evLam (hoM S.exs 2 bm39 cl39 br39) (evCall 2 34 (evCons (evVar 2) (evCons (evOf opTup (evCons (evC (.int 1)) (evCons (evC (.int 0)) evNil))) evNil)))) (GK 20) [some (.ref 1), some cv4, some cv6, some v_none, some v_place, some v_deed, some v_owner, some v_order, some (.ref 2), some (.lst [(.str "machine"), (numS "number " v_place), (.str "fine"), (.str "machine"), (numS "number " v_deed), (.str "fine"), (.str "machine"), (numS "number " v_deed), (.str "fine")]), some (.fn 35)] [x0, SC a b c, .lst ml] = .ok (.str "fine") [x0, SC a b c, .lst ml] := by
  all_goals kernel_rfl
theorem st28_s1 (x0 : Cell) (a b c : Int) (v_none : AV) (v_place : AV) (v_deed : AV) (v_owner : AV) (v_order : AV) (ml : List AV) (h_v_place : v_place ∈ menu_v_place) : b40_19 (GK 20) [some (.ref 1), some cv4, some cv6, some v_none, some v_place, some v_deed, some v_owner, some v_order, some (.ref 2), some (.lst [(.str "machine"), (numS "number " v_place), (.str "fine"), (.str "machine"), (numS "number " v_deed), (.str "fine"), (.str "machine"), (numS "number " v_deed), (.str "fine")]), some (.fn 35)] [x0, SC a b c, .lst ml] = .nx [some (.ref 1), some cv4, some cv6, some v_none, some v_place, some v_deed, some v_owner, some v_order, some (.ref 2), some (.lst [(.str "machine"), (numS "number " v_place), (.str "fine"), (.str "machine"), (numS "number " v_deed), (.str "fine"), (.str "machine"), (numS "number " v_deed), (.str "fine"), (.str "machine"), (numS "number " v_place), (.str "operation"), (.str "fine"), (.str "machine"), (.str "places"), (.str "fine")]), some (.fn 35)] [x0, SC a b c, .lst ml] := by
  all_goals (try simp only [menu_v_place, List.mem_cons, List.not_mem_nil, or_false] at h_v_place)
  all_goals (rcases h_v_place with rfl | rfl | rfl | rfl | rfl | rfl | rfl)
  all_goals kernel_rfl
theorem m29_s1 (x0 : Cell) (a b c : Int) (v_none : AV) (v_place : AV) (v_deed : AV) (v_owner : AV) (v_order : AV) (ml : List AV) (h_v_none : v_none ∈ menu_v_none) : (evLam (hoM S.exs 2 bm39 cl39 br39) (evMk true 0 4 42 4 (evCons (evVar 3) (evCons (evOp ixOp (evVar 1) (evC (.int 1))) (evCons (evOp ixOp (evVar 1) (evC (.int 2))) evNil))))) (GK 20) [some (.ref 1), some cv4, some cv6, some v_none, some v_place, some v_deed, some v_owner, some v_order, some (.ref 2), some (.lst [(.str "machine"), (numS "number " v_place), (.str "fine"), (.str "machine"), (numS "number " v_deed), (.str "fine"), (.str "machine"), (numS "number " v_deed), (.str "fine"), (.str "machine"), (numS "number " v_place), (.str "operation"), (.str "fine"), (.str "machine"), (.str "places"), (.str "fine")]), some (.fn 35)] [x0, SC a b c, .lst ml] = .ok (.str "machine") [x0, SC a b c, .lst ml] := by
  all_goals (try simp only [menu_v_none, List.mem_cons, List.not_mem_nil, or_false] at h_v_none)
  all_goals (rcases h_v_none with rfl | rfl | rfl | rfl | rfl | rfl | rfl | rfl)
  all_goals kernel_rfl
theorem m30_s1 (x0 : Cell) (a b c : Int) (v_none : AV) (v_place : AV) (v_deed : AV) (v_owner : AV) (v_order : AV) (ml : List AV) (h_v_owner : v_owner ∈ menu_v_owner) : (evLam (hoM S.exs 2 bm39 cl39 br39) (evMk true 0 4 42 4 (evCons (evC (.int 1)) (evCons (evOp ixOp (evVar 1) (evC (.int 1))) (evCons (evOf opTup (evCons (evOf opTup (evCons (evVar 6) (evCons (evC (.int 0)) (evCons (evC (.int 1)) (evCons (evOf opTup evNil) (evCons (evOf opTup evNil) evNil)))))) evNil)) evNil))))) (GK 20) [some (.ref 1), some cv4, some cv6, some v_none, some v_place, some v_deed, some v_owner, some v_order, some (.ref 2), some (.lst [(.str "machine"), (numS "number " v_place), (.str "fine"), (.str "machine"), (numS "number " v_deed), (.str "fine"), (.str "machine"), (numS "number " v_deed), (.str "fine"), (.str "machine"), (numS "number " v_place), (.str "operation"), (.str "fine"), (.str "machine"), (.str "places"), (.str "fine")]), some (.fn 35)] [x0, SC a b c, .lst ml] = .ok (.str "machine") [x0, SC a b c, .lst ml] := by
  all_goals (try simp only [menu_v_owner, List.mem_cons, List.not_mem_nil, or_false] at h_v_owner)
  all_goals (rcases h_v_owner with rfl | rfl | rfl | rfl | rfl | rfl | rfl | rfl)
  all_goals kernel_rfl
theorem du31_s1 (x0 : Cell) (a b c : Int) (v_none : AV) (v_place : AV) (v_deed : AV) (v_owner : AV) (v_order : AV) (ml : List AV) : (evOp addOp (evVar 9) (evOf opLst (evCons (evC (.str "machine")) (evCons (evC (.str "machine")) evNil)))) (GK 20) [some (.ref 1), some cv4, some cv6, some v_none, some v_place, some v_deed, some v_owner, some v_order, some (.ref 2), some (.lst [(.str "machine"), (numS "number " v_place), (.str "fine"), (.str "machine"), (numS "number " v_deed), (.str "fine"), (.str "machine"), (numS "number " v_deed), (.str "fine"), (.str "machine"), (numS "number " v_place), (.str "operation"), (.str "fine"), (.str "machine"), (.str "places"), (.str "fine")]), some (.fn 35)] [x0, SC a b c, .lst ml] = .ok (.lst [(.str "machine"), (numS "number " v_place), (.str "fine"), (.str "machine"), (numS "number " v_deed), (.str "fine"), (.str "machine"), (numS "number " v_deed), (.str "fine"), (.str "machine"), (numS "number " v_place), (.str "operation"), (.str "fine"), (.str "machine"), (.str "places"), (.str "fine"), (.str "machine"), (.str "machine")]) [x0, SC a b c, .lst ml] := by
  all_goals kernel_rfl
theorem right_s1 (x0 : Cell) (a0 b0 c0 : Int) : ∃ a b c : Int, GK 21 40 [.ref 1] [x0, SC a0 b0 c0] = .ok (.bl true) [x0, SC a b c] := by
  have t1 : b40_0 (GK 20) [some (.ref 1), none, none, none, none, none, none, none, none, none, none] [x0, SC a0 b0 c0] = .nx [some (.ref 1), some cv4, none, none, none, none, none, none, none, none, none] [x0, SC a0 b0 c0] := st1_s1 x0 a0 b0 c0
  have t2 : b40_1 (GK 20) [some (.ref 1), some cv4, none, none, none, none, none, none, none, none, none] [x0, SC a0 b0 c0] = .nx [some (.ref 1), some cv4, some cv6, none, none, none, none, none, none, none, none] [x0, SC a0 b0 c0] := st2_s1 x0 a0 b0 c0
  obtain ⟨v_none, a1, b1, c1, h_v_none, e3⟩ := among_p [x0] [] a0 b0 c0 (menu_v_none) (of_decide_eq_true (by kernel_rfl)) (of_decide_eq_true (by kernel_rfl)) (pm_v_none)
  have t3 : b40_2 (GK 20) [some (.ref 1), some cv4, some cv6, none, none, none, none, none, none, none, none] [x0, SC a0 b0 c0] = .nx [some (.ref 1), some cv4, some cv6, some v_none, none, none, none, none, none, none, none] [x0, SC a1 b1 c1] := draw_nx rfl (me3_s1 x0 a0 b0 c0) e3
  obtain ⟨v_place, a2, b2, c2, h_v_place, e4⟩ := among_p [x0] [] a1 b1 c1 (menu_v_place) (of_decide_eq_true (by kernel_rfl)) (of_decide_eq_true (by kernel_rfl)) (pm_v_place)
  have t4 : b40_3 (GK 20) [some (.ref 1), some cv4, some cv6, some v_none, none, none, none, none, none, none, none] [x0, SC a1 b1 c1] = .nx [some (.ref 1), some cv4, some cv6, some v_none, some v_place, none, none, none, none, none, none] [x0, SC a2 b2 c2] := draw_nx rfl (me4_s1 x0 a1 b1 c1 v_none) e4
  obtain ⟨v_deed, a3, b3, c3, h_v_deed, e5⟩ := among_p [x0] [] a2 b2 c2 (menu_v_deed) (of_decide_eq_true (by kernel_rfl)) (of_decide_eq_true (by kernel_rfl)) (pm_v_deed)
  have t5 : b40_4 (GK 20) [some (.ref 1), some cv4, some cv6, some v_none, some v_place, none, none, none, none, none, none] [x0, SC a2 b2 c2] = .nx [some (.ref 1), some cv4, some cv6, some v_none, some v_place, some v_deed, none, none, none, none, none] [x0, SC a3 b3 c3] := draw_nx rfl (me5_s1 x0 a2 b2 c2 v_none v_place) e5
  obtain ⟨v_owner, a4, b4, c4, h_v_owner, e6⟩ := among_p [x0] [] a3 b3 c3 (menu_v_owner) (of_decide_eq_true (by kernel_rfl)) (of_decide_eq_true (by kernel_rfl)) (pm_v_owner)
  have t6 : b40_5 (GK 20) [some (.ref 1), some cv4, some cv6, some v_none, some v_place, some v_deed, none, none, none, none, none] [x0, SC a3 b3 c3] = .nx [some (.ref 1), some cv4, some cv6, some v_none, some v_place, some v_deed, some v_owner, none, none, none, none] [x0, SC a4 b4 c4] := draw_nx rfl (me6_s1 x0 a3 b3 c3 v_none v_place v_deed) e6
  obtain ⟨v_order, a5, b5, c5, h_v_order, e7⟩ := among_p [x0] [] a4 b4 c4 (menu_v_order) (of_decide_eq_true (by kernel_rfl)) (of_decide_eq_true (by kernel_rfl)) (pm_v_order)
  have t7 : b40_6 (GK 20) [some (.ref 1), some cv4, some cv6, some v_none, some v_place, some v_deed, some v_owner, none, none, none, none] [x0, SC a4 b4 c4] = .nx [some (.ref 1), some cv4, some cv6, some v_none, some v_place, some v_deed, some v_owner, some v_order, none, none, none] [x0, SC a5 b5 c5] := draw_nx rfl (me7_s1 x0 a4 b4 c4 v_none v_place v_deed v_owner) e7
  have t8 : b40_7 (GK 20) [some (.ref 1), some cv4, some cv6, some v_none, some v_place, some v_deed, some v_owner, some v_order, none, none, none] [x0, SC a5 b5 c5] = .nx [some (.ref 1), some cv4, some cv6, some v_none, some v_place, some v_deed, some v_owner, some v_order, some (.ref 2), none, none] [x0, SC a5 b5 c5, .lst [(.str "machine")]] := met_nx (m8_s1 x0 a5 b5 c5 v_none v_place v_deed v_owner v_order h_v_none h_v_place) (ok_0 []).2
  have t9 : b40_8 (GK 20) [some (.ref 1), some cv4, some cv6, some v_none, some v_place, some v_deed, some v_owner, some v_order, some (.ref 2), none, none] [x0, SC a5 b5 c5, .lst [(.str "machine")]] = .nx [some (.ref 1), some cv4, some cv6, some v_none, some v_place, some v_deed, some v_owner, some v_order, some (.ref 2), none, none] [x0, SC a5 b5 c5, .lst [(.str "machine"), (numS "number " v_place)]] := by
    refine app_nx (n := 2) (xs := [(.str "machine")]) (v := (numS "number " v_place)) rfl rfl ?_ (ok_1 [] v_place h_v_place).2 (of_decide_eq_true (by kernel_rfl))
    exact (m9_s1 x0 a5 b5 c5 v_none v_place v_deed v_owner v_order _ h_v_place)
  have t10 : b40_9 (GK 20) [some (.ref 1), some cv4, some cv6, some v_none, some v_place, some v_deed, some v_owner, some v_order, some (.ref 2), none, none] [x0, SC a5 b5 c5, .lst [(.str "machine"), (numS "number " v_place)]] = .nx [some (.ref 1), some cv4, some cv6, some v_none, some v_place, some v_deed, some v_owner, some v_order, some (.ref 2), none, none] [x0, SC a5 b5 c5, .lst [(.str "machine"), (numS "number " v_place), (.str "fine")]] := by
    refine app_nx (n := 2) (xs := [(.str "machine"), (numS "number " v_place)]) (v := (.str "fine")) rfl rfl ?_ (ok_2 []).2 (of_decide_eq_true (by kernel_rfl))
    exact (m10_s1 x0 a5 b5 c5 v_none v_place v_deed v_owner v_order _)
  have t11 : b40_10 (GK 20) [some (.ref 1), some cv4, some cv6, some v_none, some v_place, some v_deed, some v_owner, some v_order, some (.ref 2), none, none] [x0, SC a5 b5 c5, .lst [(.str "machine"), (numS "number " v_place), (.str "fine")]] = .nx [some (.ref 1), some cv4, some cv6, some v_none, some v_place, some v_deed, some v_owner, some v_order, some (.ref 2), some (.lst [(.str "machine"), (numS "number " v_place), (.str "fine")]), none] [x0, SC a5 b5 c5, .lst [(.str "machine"), (numS "number " v_place), (.str "fine")]] := st11_s1 x0 a5 b5 c5 v_none v_place v_deed v_owner v_order _ h_v_place
  have t12 : lb40_11_0 (GK 20) [some (.ref 1), some cv4, some cv6, some v_none, some v_place, some v_deed, some v_owner, some v_order, some (.ref 2), some (.lst [(.str "machine"), (numS "number " v_place), (.str "fine")]), some (.fn 31)] [x0, SC a5 b5 c5, .lst [(.str "machine"), (numS "number " v_place), (.str "fine")]] = .nx [some (.ref 1), some cv4, some cv6, some v_none, some v_place, some v_deed, some v_owner, some v_order, some (.ref 2), some (.lst [(.str "machine"), (numS "number " v_place), (.str "fine")]), some (.fn 31)] [x0, SC a5 b5 c5, .lst [(.str "machine"), (numS "number " v_place), (.str "fine"), (.str "machine")]] := by
    refine app_nx (n := 2) (xs := [(.str "machine"), (numS "number " v_place), (.str "fine")]) (v := (.str "machine")) rfl rfl ?_ (ok_0 []).2 (of_decide_eq_true (by kernel_rfl))
    exact (m13_s1 x0 a5 b5 c5 v_none v_place v_deed v_owner v_order _ h_v_none h_v_deed)
  have t13 : lb40_11_1 (GK 20) [some (.ref 1), some cv4, some cv6, some v_none, some v_place, some v_deed, some v_owner, some v_order, some (.ref 2), some (.lst [(.str "machine"), (numS "number " v_place), (.str "fine")]), some (.fn 31)] [x0, SC a5 b5 c5, .lst [(.str "machine"), (numS "number " v_place), (.str "fine"), (.str "machine")]] = .nx [some (.ref 1), some cv4, some cv6, some v_none, some v_place, some v_deed, some v_owner, some v_order, some (.ref 2), some (.lst [(.str "machine"), (numS "number " v_place), (.str "fine")]), some (.fn 31)] [x0, SC a5 b5 c5, .lst [(.str "machine"), (numS "number " v_place), (.str "fine"), (.str "machine"), (numS "number " v_deed)]] := by
    refine app_nx (n := 2) (xs := [(.str "machine"), (numS "number " v_place), (.str "fine"), (.str "machine")]) (v := (numS "number " v_deed)) rfl rfl ?_ (ok_3 [] v_deed h_v_deed).2 (of_decide_eq_true (by kernel_rfl))
    exact (m14_s1 x0 a5 b5 c5 v_none v_place v_deed v_owner v_order _ h_v_deed)
  have t14 : lb40_11_2 (GK 20) [some (.ref 1), some cv4, some cv6, some v_none, some v_place, some v_deed, some v_owner, some v_order, some (.ref 2), some (.lst [(.str "machine"), (numS "number " v_place), (.str "fine")]), some (.fn 31)] [x0, SC a5 b5 c5, .lst [(.str "machine"), (numS "number " v_place), (.str "fine"), (.str "machine"), (numS "number " v_deed)]] = .nx [some (.ref 1), some cv4, some cv6, some v_none, some v_place, some v_deed, some v_owner, some v_order, some (.ref 2), some (.lst [(.str "machine"), (numS "number " v_place), (.str "fine")]), some (.fn 31)] [x0, SC a5 b5 c5, .lst [(.str "machine"), (numS "number " v_place), (.str "fine"), (.str "machine"), (numS "number " v_deed), (.str "fine")]] := by
    refine app_nx (n := 2) (xs := [(.str "machine"), (numS "number " v_place), (.str "fine"), (.str "machine"), (numS "number " v_deed)]) (v := (.str "fine")) rfl rfl ?_ (ok_2 []).2 (of_decide_eq_true (by kernel_rfl))
    exact (m15_s1 x0 a5 b5 c5 v_none v_place v_deed v_owner v_order _)
  have t15 : lb40_11_3 (GK 20) [some (.ref 1), some cv4, some cv6, some v_none, some v_place, some v_deed, some v_owner, some v_order, some (.ref 2), some (.lst [(.str "machine"), (numS "number " v_place), (.str "fine")]), some (.fn 31)] [x0, SC a5 b5 c5, .lst [(.str "machine"), (numS "number " v_place), (.str "fine"), (.str "machine"), (numS "number " v_deed), (.str "fine")]] = .nx [some (.ref 1), some cv4, some cv6, some v_none, some v_place, some v_deed, some v_owner, some v_order, some (.ref 2), some (.lst [(.str "machine"), (numS "number " v_place), (.str "fine"), (.str "machine"), (numS "number " v_deed), (.str "fine")]), some (.fn 31)] [x0, SC a5 b5 c5, .lst [(.str "machine"), (numS "number " v_place), (.str "fine"), (.str "machine"), (numS "number " v_deed), (.str "fine")]] := st16_s1 x0 a5 b5 c5 v_none v_place v_deed v_owner v_order _ h_v_deed
  have t16 : lb40_11_0 (GK 20) [some (.ref 1), some cv4, some cv6, some v_none, some v_place, some v_deed, some v_owner, some v_order, some (.ref 2), some (.lst [(.str "machine"), (numS "number " v_place), (.str "fine"), (.str "machine"), (numS "number " v_deed), (.str "fine")]), some (.fn 35)] [x0, SC a5 b5 c5, .lst [(.str "machine"), (numS "number " v_place), (.str "fine"), (.str "machine"), (numS "number " v_deed), (.str "fine")]] = .nx [some (.ref 1), some cv4, some cv6, some v_none, some v_place, some v_deed, some v_owner, some v_order, some (.ref 2), some (.lst [(.str "machine"), (numS "number " v_place), (.str "fine"), (.str "machine"), (numS "number " v_deed), (.str "fine")]), some (.fn 35)] [x0, SC a5 b5 c5, .lst [(.str "machine"), (numS "number " v_place), (.str "fine"), (.str "machine"), (numS "number " v_deed), (.str "fine"), (.str "machine")]] := by
    refine app_nx (n := 2) (xs := [(.str "machine"), (numS "number " v_place), (.str "fine"), (.str "machine"), (numS "number " v_deed), (.str "fine")]) (v := (.str "machine")) rfl rfl ?_ (ok_0 []).2 (of_decide_eq_true (by kernel_rfl))
    exact (m17_s1 x0 a5 b5 c5 v_none v_place v_deed v_owner v_order _ h_v_none h_v_deed)
  have t17 : lb40_11_1 (GK 20) [some (.ref 1), some cv4, some cv6, some v_none, some v_place, some v_deed, some v_owner, some v_order, some (.ref 2), some (.lst [(.str "machine"), (numS "number " v_place), (.str "fine"), (.str "machine"), (numS "number " v_deed), (.str "fine")]), some (.fn 35)] [x0, SC a5 b5 c5, .lst [(.str "machine"), (numS "number " v_place), (.str "fine"), (.str "machine"), (numS "number " v_deed), (.str "fine"), (.str "machine")]] = .nx [some (.ref 1), some cv4, some cv6, some v_none, some v_place, some v_deed, some v_owner, some v_order, some (.ref 2), some (.lst [(.str "machine"), (numS "number " v_place), (.str "fine"), (.str "machine"), (numS "number " v_deed), (.str "fine")]), some (.fn 35)] [x0, SC a5 b5 c5, .lst [(.str "machine"), (numS "number " v_place), (.str "fine"), (.str "machine"), (numS "number " v_deed), (.str "fine"), (.str "machine"), (numS "number " v_deed)]] := by
    refine app_nx (n := 2) (xs := [(.str "machine"), (numS "number " v_place), (.str "fine"), (.str "machine"), (numS "number " v_deed), (.str "fine"), (.str "machine")]) (v := (numS "number " v_deed)) rfl rfl ?_ (ok_3 [] v_deed h_v_deed).2 (of_decide_eq_true (by kernel_rfl))
    exact (m18_s1 x0 a5 b5 c5 v_none v_place v_deed v_owner v_order _ h_v_deed)
  have t18 : lb40_11_2 (GK 20) [some (.ref 1), some cv4, some cv6, some v_none, some v_place, some v_deed, some v_owner, some v_order, some (.ref 2), some (.lst [(.str "machine"), (numS "number " v_place), (.str "fine"), (.str "machine"), (numS "number " v_deed), (.str "fine")]), some (.fn 35)] [x0, SC a5 b5 c5, .lst [(.str "machine"), (numS "number " v_place), (.str "fine"), (.str "machine"), (numS "number " v_deed), (.str "fine"), (.str "machine"), (numS "number " v_deed)]] = .nx [some (.ref 1), some cv4, some cv6, some v_none, some v_place, some v_deed, some v_owner, some v_order, some (.ref 2), some (.lst [(.str "machine"), (numS "number " v_place), (.str "fine"), (.str "machine"), (numS "number " v_deed), (.str "fine")]), some (.fn 35)] [x0, SC a5 b5 c5, .lst [(.str "machine"), (numS "number " v_place), (.str "fine"), (.str "machine"), (numS "number " v_deed), (.str "fine"), (.str "machine"), (numS "number " v_deed), (.str "fine")]] := by
    refine app_nx (n := 2) (xs := [(.str "machine"), (numS "number " v_place), (.str "fine"), (.str "machine"), (numS "number " v_deed), (.str "fine"), (.str "machine"), (numS "number " v_deed)]) (v := (.str "fine")) rfl rfl ?_ (ok_2 []).2 (of_decide_eq_true (by kernel_rfl))
    exact (m19_s1 x0 a5 b5 c5 v_none v_place v_deed v_owner v_order _)
  have t19 : lb40_11_3 (GK 20) [some (.ref 1), some cv4, some cv6, some v_none, some v_place, some v_deed, some v_owner, some v_order, some (.ref 2), some (.lst [(.str "machine"), (numS "number " v_place), (.str "fine"), (.str "machine"), (numS "number " v_deed), (.str "fine")]), some (.fn 35)] [x0, SC a5 b5 c5, .lst [(.str "machine"), (numS "number " v_place), (.str "fine"), (.str "machine"), (numS "number " v_deed), (.str "fine"), (.str "machine"), (numS "number " v_deed), (.str "fine")]] = .nx [some (.ref 1), some cv4, some cv6, some v_none, some v_place, some v_deed, some v_owner, some v_order, some (.ref 2), some (.lst [(.str "machine"), (numS "number " v_place), (.str "fine"), (.str "machine"), (numS "number " v_deed), (.str "fine"), (.str "machine"), (numS "number " v_deed), (.str "fine")]), some (.fn 35)] [x0, SC a5 b5 c5, .lst [(.str "machine"), (numS "number " v_place), (.str "fine"), (.str "machine"), (numS "number " v_deed), (.str "fine"), (.str "machine"), (numS "number " v_deed), (.str "fine")]] := st20_s1 x0 a5 b5 c5 v_none v_place v_deed v_owner v_order _ h_v_deed
  have t20 : b40_11 (GK 20) [some (.ref 1), some cv4, some cv6, some v_none, some v_place, some v_deed, some v_owner, some v_order, some (.ref 2), some (.lst [(.str "machine"), (numS "number " v_place), (.str "fine")]), none] [x0, SC a5 b5 c5, .lst [(.str "machine"), (numS "number " v_place), (.str "fine")]] = .nx [some (.ref 1), some cv4, some cv6, some v_none, some v_place, some v_deed, some v_owner, some v_order, some (.ref 2), some (.lst [(.str "machine"), (numS "number " v_place), (.str "fine"), (.str "machine"), (numS "number " v_deed), (.str "fine"), (.str "machine"), (numS "number " v_deed), (.str "fine")]), some (.fn 35)] [x0, SC a5 b5 c5, .lst [(.str "machine"), (numS "number " v_place), (.str "fine"), (.str "machine"), (numS "number " v_deed), (.str "fine"), (.str "machine"), (numS "number " v_deed), (.str "fine")]] := by
    rw [le40_11]
    refine for_go (it12_s1 x0 a5 b5 c5 v_none v_place v_deed v_owner v_order _) rfl ?_
    refine (for_step (env1 := [some (.ref 1), some cv4, some cv6, some v_none, some v_place, some v_deed, some v_owner, some v_order, some (.ref 2), some (.lst [(.str "machine"), (numS "number " v_place), (.str "fine")]), some (.fn 31)]) (env2 := [some (.ref 1), some cv4, some cv6, some v_none, some v_place, some v_deed, some v_owner, some v_order, some (.ref 2), some (.lst [(.str "machine"), (numS "number " v_place), (.str "fine"), (.str "machine"), (numS "number " v_deed), (.str "fine")]), some (.fn 31)]) (h2 := [x0, SC a5 b5 c5, .lst [(.str "machine"), (numS "number " v_place), (.str "fine"), (.str "machine"), (numS "number " v_deed), (.str "fine")]]) rfl rfl (by rw [seq_nx t12]; rw [seq_nx t13]; rw [seq_nx t14]; exact t15)).trans ?_
    refine (for_step (env1 := [some (.ref 1), some cv4, some cv6, some v_none, some v_place, some v_deed, some v_owner, some v_order, some (.ref 2), some (.lst [(.str "machine"), (numS "number " v_place), (.str "fine"), (.str "machine"), (numS "number " v_deed), (.str "fine")]), some (.fn 35)]) (env2 := [some (.ref 1), some cv4, some cv6, some v_none, some v_place, some v_deed, some v_owner, some v_order, some (.ref 2), some (.lst [(.str "machine"), (numS "number " v_place), (.str "fine"), (.str "machine"), (numS "number " v_deed), (.str "fine"), (.str "machine"), (numS "number " v_deed), (.str "fine")]), some (.fn 35)]) (h2 := [x0, SC a5 b5 c5, .lst [(.str "machine"), (numS "number " v_place), (.str "fine"), (.str "machine"), (numS "number " v_deed), (.str "fine"), (.str "machine"), (numS "number " v_deed), (.str "fine")]]) rfl rfl (by rw [seq_nx t16]; rw [seq_nx t17]; rw [seq_nx t18]; exact t19)).trans ?_
    exact for_end rfl
  have t21 : b40_12 (GK 20) [some (.ref 1), some cv4, some cv6, some v_none, some v_place, some v_deed, some v_owner, some v_order, some (.ref 2), some (.lst [(.str "machine"), (numS "number " v_place), (.str "fine"), (.str "machine"), (numS "number " v_deed), (.str "fine"), (.str "machine"), (numS "number " v_deed), (.str "fine")]), some (.fn 35)] [x0, SC a5 b5 c5, .lst [(.str "machine"), (numS "number " v_place), (.str "fine"), (.str "machine"), (numS "number " v_deed), (.str "fine"), (.str "machine"), (numS "number " v_deed), (.str "fine")]] = .nx [some (.ref 1), some cv4, some cv6, some v_none, some v_place, some v_deed, some v_owner, some v_order, some (.ref 2), some (.lst [(.str "machine"), (numS "number " v_place), (.str "fine"), (.str "machine"), (numS "number " v_deed), (.str "fine"), (.str "machine"), (numS "number " v_deed), (.str "fine")]), some (.fn 35)] [x0, SC a5 b5 c5, .lst [(.str "machine"), (numS "number " v_place), (.str "fine"), (.str "machine"), (numS "number " v_deed), (.str "fine"), (.str "machine"), (numS "number " v_deed), (.str "fine"), (.str "machine")]] := by
    refine app_nx (n := 2) (xs := [(.str "machine"), (numS "number " v_place), (.str "fine"), (.str "machine"), (numS "number " v_deed), (.str "fine"), (.str "machine"), (numS "number " v_deed), (.str "fine")]) (v := (.str "machine")) rfl rfl ?_ (ok_0 []).2 (of_decide_eq_true (by kernel_rfl))
    exact (m21_s1 x0 a5 b5 c5 v_none v_place v_deed v_owner v_order _ h_v_none h_v_place h_v_owner)
  have t22 : b40_13 (GK 20) [some (.ref 1), some cv4, some cv6, some v_none, some v_place, some v_deed, some v_owner, some v_order, some (.ref 2), some (.lst [(.str "machine"), (numS "number " v_place), (.str "fine"), (.str "machine"), (numS "number " v_deed), (.str "fine"), (.str "machine"), (numS "number " v_deed), (.str "fine")]), some (.fn 35)] [x0, SC a5 b5 c5, .lst [(.str "machine"), (numS "number " v_place), (.str "fine"), (.str "machine"), (numS "number " v_deed), (.str "fine"), (.str "machine"), (numS "number " v_deed), (.str "fine"), (.str "machine")]] = .nx [some (.ref 1), some cv4, some cv6, some v_none, some v_place, some v_deed, some v_owner, some v_order, some (.ref 2), some (.lst [(.str "machine"), (numS "number " v_place), (.str "fine"), (.str "machine"), (numS "number " v_deed), (.str "fine"), (.str "machine"), (numS "number " v_deed), (.str "fine")]), some (.fn 35)] [x0, SC a5 b5 c5, .lst [(.str "machine"), (numS "number " v_place), (.str "fine"), (.str "machine"), (numS "number " v_deed), (.str "fine"), (.str "machine"), (numS "number " v_deed), (.str "fine"), (.str "machine"), (numS "number " v_place)]] := by
    refine app_nx (n := 2) (xs := [(.str "machine"), (numS "number " v_place), (.str "fine"), (.str "machine"), (numS "number " v_deed), (.str "fine"), (.str "machine"), (numS "number " v_deed), (.str "fine"), (.str "machine")]) (v := (numS "number " v_place)) rfl rfl ?_ (ok_1 [] v_place h_v_place).2 (of_decide_eq_true (by kernel_rfl))
    exact (m22_s1 x0 a5 b5 c5 v_none v_place v_deed v_owner v_order _ h_v_place h_v_owner)
  have t23 : b40_14 (GK 20) [some (.ref 1), some cv4, some cv6, some v_none, some v_place, some v_deed, some v_owner, some v_order, some (.ref 2), some (.lst [(.str "machine"), (numS "number " v_place), (.str "fine"), (.str "machine"), (numS "number " v_deed), (.str "fine"), (.str "machine"), (numS "number " v_deed), (.str "fine")]), some (.fn 35)] [x0, SC a5 b5 c5, .lst [(.str "machine"), (numS "number " v_place), (.str "fine"), (.str "machine"), (numS "number " v_deed), (.str "fine"), (.str "machine"), (numS "number " v_deed), (.str "fine"), (.str "machine"), (numS "number " v_place)]] = .nx [some (.ref 1), some cv4, some cv6, some v_none, some v_place, some v_deed, some v_owner, some v_order, some (.ref 2), some (.lst [(.str "machine"), (numS "number " v_place), (.str "fine"), (.str "machine"), (numS "number " v_deed), (.str "fine"), (.str "machine"), (numS "number " v_deed), (.str "fine")]), some (.fn 35)] [x0, SC a5 b5 c5, .lst [(.str "machine"), (numS "number " v_place), (.str "fine"), (.str "machine"), (numS "number " v_deed), (.str "fine"), (.str "machine"), (numS "number " v_deed), (.str "fine"), (.str "machine"), (numS "number " v_place), (.str "operation")]] := by
    refine app_nx (n := 2) (xs := [(.str "machine"), (numS "number " v_place), (.str "fine"), (.str "machine"), (numS "number " v_deed), (.str "fine"), (.str "machine"), (numS "number " v_deed), (.str "fine"), (.str "machine"), (numS "number " v_place)]) (v := (.str "operation")) rfl rfl ?_ (ok_4 []).2 (of_decide_eq_true (by kernel_rfl))
    exact (m23_s1 x0 a5 b5 c5 v_none v_place v_deed v_owner v_order _ h_v_owner)
  have t24 : b40_15 (GK 20) [some (.ref 1), some cv4, some cv6, some v_none, some v_place, some v_deed, some v_owner, some v_order, some (.ref 2), some (.lst [(.str "machine"), (numS "number " v_place), (.str "fine"), (.str "machine"), (numS "number " v_deed), (.str "fine"), (.str "machine"), (numS "number " v_deed), (.str "fine")]), some (.fn 35)] [x0, SC a5 b5 c5, .lst [(.str "machine"), (numS "number " v_place), (.str "fine"), (.str "machine"), (numS "number " v_deed), (.str "fine"), (.str "machine"), (numS "number " v_deed), (.str "fine"), (.str "machine"), (numS "number " v_place), (.str "operation")]] = .nx [some (.ref 1), some cv4, some cv6, some v_none, some v_place, some v_deed, some v_owner, some v_order, some (.ref 2), some (.lst [(.str "machine"), (numS "number " v_place), (.str "fine"), (.str "machine"), (numS "number " v_deed), (.str "fine"), (.str "machine"), (numS "number " v_deed), (.str "fine")]), some (.fn 35)] [x0, SC a5 b5 c5, .lst [(.str "machine"), (numS "number " v_place), (.str "fine"), (.str "machine"), (numS "number " v_deed), (.str "fine"), (.str "machine"), (numS "number " v_deed), (.str "fine"), (.str "machine"), (numS "number " v_place), (.str "operation"), (.str "fine")]] := by
    refine app_nx (n := 2) (xs := [(.str "machine"), (numS "number " v_place), (.str "fine"), (.str "machine"), (numS "number " v_deed), (.str "fine"), (.str "machine"), (numS "number " v_deed), (.str "fine"), (.str "machine"), (numS "number " v_place), (.str "operation")]) (v := (.str "fine")) rfl rfl ?_ (ok_2 []).2 (of_decide_eq_true (by kernel_rfl))
    exact (m24_s1 x0 a5 b5 c5 v_none v_place v_deed v_owner v_order _)
  have t25 : b40_16 (GK 20) [some (.ref 1), some cv4, some cv6, some v_none, some v_place, some v_deed, some v_owner, some v_order, some (.ref 2), some (.lst [(.str "machine"), (numS "number " v_place), (.str "fine"), (.str "machine"), (numS "number " v_deed), (.str "fine"), (.str "machine"), (numS "number " v_deed), (.str "fine")]), some (.fn 35)] [x0, SC a5 b5 c5, .lst [(.str "machine"), (numS "number " v_place), (.str "fine"), (.str "machine"), (numS "number " v_deed), (.str "fine"), (.str "machine"), (numS "number " v_deed), (.str "fine"), (.str "machine"), (numS "number " v_place), (.str "operation"), (.str "fine")]] = .nx [some (.ref 1), some cv4, some cv6, some v_none, some v_place, some v_deed, some v_owner, some v_order, some (.ref 2), some (.lst [(.str "machine"), (numS "number " v_place), (.str "fine"), (.str "machine"), (numS "number " v_deed), (.str "fine"), (.str "machine"), (numS "number " v_deed), (.str "fine")]), some (.fn 35)] [x0, SC a5 b5 c5, .lst [(.str "machine"), (numS "number " v_place), (.str "fine"), (.str "machine"), (numS "number " v_deed), (.str "fine"), (.str "machine"), (numS "number " v_deed), (.str "fine"), (.str "machine"), (numS "number " v_place), (.str "operation"), (.str "fine"), (.str "machine")]] := by
    refine app_nx (n := 2) (xs := [(.str "machine"), (numS "number " v_place), (.str "fine"), (.str "machine"), (numS "number " v_deed), (.str "fine"), (.str "machine"), (numS "number " v_deed), (.str "fine"), (.str "machine"), (numS "number " v_place), (.str "operation"), (.str "fine")]) (v := (.str "machine")) rfl rfl ?_ (ok_0 []).2 (of_decide_eq_true (by kernel_rfl))
    exact (m25_s1 x0 a5 b5 c5 v_none v_place v_deed v_owner v_order _ h_v_none h_v_order)
  have t26 : b40_17 (GK 20) [some (.ref 1), some cv4, some cv6, some v_none, some v_place, some v_deed, some v_owner, some v_order, some (.ref 2), some (.lst [(.str "machine"), (numS "number " v_place), (.str "fine"), (.str "machine"), (numS "number " v_deed), (.str "fine"), (.str "machine"), (numS "number " v_deed), (.str "fine")]), some (.fn 35)] [x0, SC a5 b5 c5, .lst [(.str "machine"), (numS "number " v_place), (.str "fine"), (.str "machine"), (numS "number " v_deed), (.str "fine"), (.str "machine"), (numS "number " v_deed), (.str "fine"), (.str "machine"), (numS "number " v_place), (.str "operation"), (.str "fine"), (.str "machine")]] = .nx [some (.ref 1), some cv4, some cv6, some v_none, some v_place, some v_deed, some v_owner, some v_order, some (.ref 2), some (.lst [(.str "machine"), (numS "number " v_place), (.str "fine"), (.str "machine"), (numS "number " v_deed), (.str "fine"), (.str "machine"), (numS "number " v_deed), (.str "fine")]), some (.fn 35)] [x0, SC a5 b5 c5, .lst [(.str "machine"), (numS "number " v_place), (.str "fine"), (.str "machine"), (numS "number " v_deed), (.str "fine"), (.str "machine"), (numS "number " v_deed), (.str "fine"), (.str "machine"), (numS "number " v_place), (.str "operation"), (.str "fine"), (.str "machine"), (.str "places")]] := by
    refine app_nx (n := 2) (xs := [(.str "machine"), (numS "number " v_place), (.str "fine"), (.str "machine"), (numS "number " v_deed), (.str "fine"), (.str "machine"), (numS "number " v_deed), (.str "fine"), (.str "machine"), (numS "number " v_place), (.str "operation"), (.str "fine"), (.str "machine")]) (v := (.str "places")) rfl rfl ?_ (ok_5 []).2 (of_decide_eq_true (by kernel_rfl))
    exact (m26_s1 x0 a5 b5 c5 v_none v_place v_deed v_owner v_order _ h_v_order)
  have t27 : b40_18 (GK 20) [some (.ref 1), some cv4, some cv6, some v_none, some v_place, some v_deed, some v_owner, some v_order, some (.ref 2), some (.lst [(.str "machine"), (numS "number " v_place), (.str "fine"), (.str "machine"), (numS "number " v_deed), (.str "fine"), (.str "machine"), (numS "number " v_deed), (.str "fine")]), some (.fn 35)] [x0, SC a5 b5 c5, .lst [(.str "machine"), (numS "number " v_place), (.str "fine"), (.str "machine"), (numS "number " v_deed), (.str "fine"), (.str "machine"), (numS "number " v_deed), (.str "fine"), (.str "machine"), (numS "number " v_place), (.str "operation"), (.str "fine"), (.str "machine"), (.str "places")]] = .nx [some (.ref 1), some cv4, some cv6, some v_none, some v_place, some v_deed, some v_owner, some v_order, some (.ref 2), some (.lst [(.str "machine"), (numS "number " v_place), (.str "fine"), (.str "machine"), (numS "number " v_deed), (.str "fine"), (.str "machine"), (numS "number " v_deed), (.str "fine")]), some (.fn 35)] [x0, SC a5 b5 c5, .lst [(.str "machine"), (numS "number " v_place), (.str "fine"), (.str "machine"), (numS "number " v_deed), (.str "fine"), (.str "machine"), (numS "number " v_deed), (.str "fine"), (.str "machine"), (numS "number " v_place), (.str "operation"), (.str "fine"), (.str "machine"), (.str "places"), (.str "fine")]] := by
    refine app_nx (n := 2) (xs := [(.str "machine"), (numS "number " v_place), (.str "fine"), (.str "machine"), (numS "number " v_deed), (.str "fine"), (.str "machine"), (numS "number " v_deed), (.str "fine"), (.str "machine"), (numS "number " v_place), (.str "operation"), (.str "fine"), (.str "machine"), (.str "places")]) (v := (.str "fine")) rfl rfl ?_ (ok_2 []).2 (of_decide_eq_true (by kernel_rfl))
    exact (m27_s1 x0 a5 b5 c5 v_none v_place v_deed v_owner v_order _)
  have t28 : b40_19 (GK 20) [some (.ref 1), some cv4, some cv6, some v_none, some v_place, some v_deed, some v_owner, some v_order, some (.ref 2), some (.lst [(.str "machine"), (numS "number " v_place), (.str "fine"), (.str "machine"), (numS "number " v_deed), (.str "fine"), (.str "machine"), (numS "number " v_deed), (.str "fine")]), some (.fn 35)] [x0, SC a5 b5 c5, .lst [(.str "machine"), (numS "number " v_place), (.str "fine"), (.str "machine"), (numS "number " v_deed), (.str "fine"), (.str "machine"), (numS "number " v_deed), (.str "fine"), (.str "machine"), (numS "number " v_place), (.str "operation"), (.str "fine"), (.str "machine"), (.str "places"), (.str "fine")]] = .nx [some (.ref 1), some cv4, some cv6, some v_none, some v_place, some v_deed, some v_owner, some v_order, some (.ref 2), some (.lst [(.str "machine"), (numS "number " v_place), (.str "fine"), (.str "machine"), (numS "number " v_deed), (.str "fine"), (.str "machine"), (numS "number " v_deed), (.str "fine"), (.str "machine"), (numS "number " v_place), (.str "operation"), (.str "fine"), (.str "machine"), (.str "places"), (.str "fine")]), some (.fn 35)] [x0, SC a5 b5 c5, .lst [(.str "machine"), (numS "number " v_place), (.str "fine"), (.str "machine"), (numS "number " v_deed), (.str "fine"), (.str "machine"), (numS "number " v_deed), (.str "fine"), (.str "machine"), (numS "number " v_place), (.str "operation"), (.str "fine"), (.str "machine"), (.str "places"), (.str "fine")]] := st28_s1 x0 a5 b5 c5 v_none v_place v_deed v_owner v_order _ h_v_place
  have t29 : b40_20 (GK 20) [some (.ref 1), some cv4, some cv6, some v_none, some v_place, some v_deed, some v_owner, some v_order, some (.ref 2), some (.lst [(.str "machine"), (numS "number " v_place), (.str "fine"), (.str "machine"), (numS "number " v_deed), (.str "fine"), (.str "machine"), (numS "number " v_deed), (.str "fine"), (.str "machine"), (numS "number " v_place), (.str "operation"), (.str "fine"), (.str "machine"), (.str "places"), (.str "fine")]), some (.fn 35)] [x0, SC a5 b5 c5, .lst [(.str "machine"), (numS "number " v_place), (.str "fine"), (.str "machine"), (numS "number " v_deed), (.str "fine"), (.str "machine"), (numS "number " v_deed), (.str "fine"), (.str "machine"), (numS "number " v_place), (.str "operation"), (.str "fine"), (.str "machine"), (.str "places"), (.str "fine")]] = .nx [some (.ref 1), some cv4, some cv6, some v_none, some v_place, some v_deed, some v_owner, some v_order, some (.ref 2), some (.lst [(.str "machine"), (numS "number " v_place), (.str "fine"), (.str "machine"), (numS "number " v_deed), (.str "fine"), (.str "machine"), (numS "number " v_deed), (.str "fine"), (.str "machine"), (numS "number " v_place), (.str "operation"), (.str "fine"), (.str "machine"), (.str "places"), (.str "fine")]), some (.fn 35)] [x0, SC a5 b5 c5, .lst [(.str "machine"), (numS "number " v_place), (.str "fine"), (.str "machine"), (numS "number " v_deed), (.str "fine"), (.str "machine"), (numS "number " v_deed), (.str "fine"), (.str "machine"), (numS "number " v_place), (.str "operation"), (.str "fine"), (.str "machine"), (.str "places"), (.str "fine"), (.str "machine")]] := by
    refine app_nx (n := 2) (xs := [(.str "machine"), (numS "number " v_place), (.str "fine"), (.str "machine"), (numS "number " v_deed), (.str "fine"), (.str "machine"), (numS "number " v_deed), (.str "fine"), (.str "machine"), (numS "number " v_place), (.str "operation"), (.str "fine"), (.str "machine"), (.str "places"), (.str "fine")]) (v := (.str "machine")) rfl rfl ?_ (ok_0 []).2 (of_decide_eq_true (by kernel_rfl))
    exact (m29_s1 x0 a5 b5 c5 v_none v_place v_deed v_owner v_order _ h_v_none)
  have t30 : b40_21 (GK 20) [some (.ref 1), some cv4, some cv6, some v_none, some v_place, some v_deed, some v_owner, some v_order, some (.ref 2), some (.lst [(.str "machine"), (numS "number " v_place), (.str "fine"), (.str "machine"), (numS "number " v_deed), (.str "fine"), (.str "machine"), (numS "number " v_deed), (.str "fine"), (.str "machine"), (numS "number " v_place), (.str "operation"), (.str "fine"), (.str "machine"), (.str "places"), (.str "fine")]), some (.fn 35)] [x0, SC a5 b5 c5, .lst [(.str "machine"), (numS "number " v_place), (.str "fine"), (.str "machine"), (numS "number " v_deed), (.str "fine"), (.str "machine"), (numS "number " v_deed), (.str "fine"), (.str "machine"), (numS "number " v_place), (.str "operation"), (.str "fine"), (.str "machine"), (.str "places"), (.str "fine"), (.str "machine")]] = .nx [some (.ref 1), some cv4, some cv6, some v_none, some v_place, some v_deed, some v_owner, some v_order, some (.ref 2), some (.lst [(.str "machine"), (numS "number " v_place), (.str "fine"), (.str "machine"), (numS "number " v_deed), (.str "fine"), (.str "machine"), (numS "number " v_deed), (.str "fine"), (.str "machine"), (numS "number " v_place), (.str "operation"), (.str "fine"), (.str "machine"), (.str "places"), (.str "fine")]), some (.fn 35)] [x0, SC a5 b5 c5, .lst [(.str "machine"), (numS "number " v_place), (.str "fine"), (.str "machine"), (numS "number " v_deed), (.str "fine"), (.str "machine"), (numS "number " v_deed), (.str "fine"), (.str "machine"), (numS "number " v_place), (.str "operation"), (.str "fine"), (.str "machine"), (.str "places"), (.str "fine"), (.str "machine"), (.str "machine")]] := by
    refine app_nx (n := 2) (xs := [(.str "machine"), (numS "number " v_place), (.str "fine"), (.str "machine"), (numS "number " v_deed), (.str "fine"), (.str "machine"), (numS "number " v_deed), (.str "fine"), (.str "machine"), (numS "number " v_place), (.str "operation"), (.str "fine"), (.str "machine"), (.str "places"), (.str "fine"), (.str "machine")]) (v := (.str "machine")) rfl rfl ?_ (ok_0 []).2 (of_decide_eq_true (by kernel_rfl))
    exact (m30_s1 x0 a5 b5 c5 v_none v_place v_deed v_owner v_order _ h_v_owner)
  have t31 : b40_22 (GK 20) [some (.ref 1), some cv4, some cv6, some v_none, some v_place, some v_deed, some v_owner, some v_order, some (.ref 2), some (.lst [(.str "machine"), (numS "number " v_place), (.str "fine"), (.str "machine"), (numS "number " v_deed), (.str "fine"), (.str "machine"), (numS "number " v_deed), (.str "fine"), (.str "machine"), (numS "number " v_place), (.str "operation"), (.str "fine"), (.str "machine"), (.str "places"), (.str "fine")]), some (.fn 35)] [x0, SC a5 b5 c5, .lst [(.str "machine"), (numS "number " v_place), (.str "fine"), (.str "machine"), (numS "number " v_deed), (.str "fine"), (.str "machine"), (numS "number " v_deed), (.str "fine"), (.str "machine"), (numS "number " v_place), (.str "operation"), (.str "fine"), (.str "machine"), (.str "places"), (.str "fine"), (.str "machine"), (.str "machine")]] = .ret (.bl true) [x0, SC a5 b5 c5, .lst [(.str "machine"), (numS "number " v_place), (.str "fine"), (.str "machine"), (numS "number " v_deed), (.str "fine"), (.str "machine"), (numS "number " v_deed), (.str "fine"), (.str "machine"), (numS "number " v_place), (.str "operation"), (.str "fine"), (.str "machine"), (.str "places"), (.str "fine"), (.str "machine"), (.str "machine")]] := ret_eq rfl rfl (du31_s1 x0 a5 b5 c5 v_none v_place v_deed v_owner v_order _) (okL_cons (ok_0 _).1 (okL_cons (ok_1 _ v_place h_v_place).1 (okL_cons (ok_2 _).1 (okL_cons (ok_0 _).1 (okL_cons (ok_3 _ v_deed h_v_deed).1 (okL_cons (ok_2 _).1 (okL_cons (ok_0 _).1 (okL_cons (ok_3 _ v_deed h_v_deed).1 (okL_cons (ok_2 _).1 (okL_cons (ok_0 _).1 (okL_cons (ok_1 _ v_place h_v_place).1 (okL_cons (ok_4 _).1 (okL_cons (ok_2 _).1 (okL_cons (ok_0 _).1 (okL_cons (ok_5 _).1 (okL_cons (ok_2 _).1 (okL_cons (ok_0 _).1 (okL_cons (ok_0 _).1 rfl))))))))))))))))))
  refine ⟨a5, b5, c5, ?_⟩
  have e : b40 (GK 20) [some (.ref 1), none, none, none, none, none, none, none, none, none, none] [x0, SC a0 b0 c0] = .ret (.bl true) [x0, SC a5 b5 c5, .lst [(.str "machine"), (numS "number " v_place), (.str "fine"), (.str "machine"), (numS "number " v_deed), (.str "fine"), (.str "machine"), (numS "number " v_deed), (.str "fine"), (.str "machine"), (numS "number " v_place), (.str "operation"), (.str "fine"), (.str "machine"), (.str "places"), (.str "fine"), (.str "machine"), (.str "machine")]] := by
    unfold b40
    rw [seq_nx t1]
    rw [seq_nx t2]
    rw [seq_nx t3]
    rw [seq_nx t4]
    rw [seq_nx t5]
    rw [seq_nx t6]
    rw [seq_nx t7]
    rw [seq_nx t8]
    rw [seq_nx t9]
    rw [seq_nx t10]
    rw [seq_nx t11]
    rw [seq_nx t20]
    rw [seq_nx t21]
    rw [seq_nx t22]
    rw [seq_nx t23]
    rw [seq_nx t24]
    rw [seq_nx t25]
    rw [seq_nx t26]
    rw [seq_nx t27]
    rw [seq_nx t28]
    rw [seq_nx t29]
    rw [seq_nx t30]
    exact t31
  rw [gk40]
  rw [run_eq (rc := false) (n := 11) (args := [.ref 1]) e]
  kernel_rfl
theorem st1_s2 (x0 x1 : Cell) (a b c : Int) : b40_0 (GK 20) [some (.ref 2), none, none, none, none, none, none, none, none, none, none] [x0, x1, SC a b c] = .nx [some (.ref 2), some cv4, none, none, none, none, none, none, none, none, none] [x0, x1, SC a b c] := by
  all_goals kernel_rfl
theorem st2_s2 (x0 x1 : Cell) (a b c : Int) : b40_1 (GK 20) [some (.ref 2), some cv4, none, none, none, none, none, none, none, none, none] [x0, x1, SC a b c] = .nx [some (.ref 2), some cv4, some cv6, none, none, none, none, none, none, none, none] [x0, x1, SC a b c] := by
  all_goals kernel_rfl
theorem me3_s2 (x0 x1 : Cell) (a b c : Int) : (evOf opLst (evCons (evC .non) (evCons (evC (.int 0)) (evCons (evVar 1) (evCons (evOf opList (evCons (evVar 1) evNil)) (evCons (evC (.str "machine")) (evCons (evOf opTup evNil) (evCons (evOf opLst (evCons (evVar 2) evNil)) (evCons (evC (.bl true)) evNil))))))))) (GK 20) [some (.ref 2), some cv4, some cv6, none, none, none, none, none, none, none, none] [x0, x1, SC a b c] = .ok (.lst (menu_v_none)) [x0, x1, SC a b c] := by
  all_goals kernel_rfl
theorem me4_s2 (x0 x1 : Cell) (a b c : Int) (v_none : AV) : (evOf opLst (evCons (evC .non) (evCons (evOf1 negOp (evC (.int 1))) (evCons (evC (.int 2)) (evCons (evC (.bl true)) (evCons (evC (.str "0")) (evCons (evOf opTup (evCons (evC (.int 0)) evNil)) (evCons (evOp subOp (evC (.int 1)) (evOp powOp (evC (.int 10)) (evC (.int 59)))) evNil)))))))) (GK 20) [some (.ref 2), some cv4, some cv6, some v_none, none, none, none, none, none, none, none] [x0, x1, SC a b c] = .ok (.lst (menu_v_place)) [x0, x1, SC a b c] := by
  all_goals kernel_rfl
theorem me5_s2 (x0 x1 : Cell) (a b c : Int) (v_none : AV) (v_place : AV) : (evOf opLst (evCons (evC .non) (evCons (evOf1 negOp (evC (.int 1))) (evCons (evC (.int 3)) (evCons (evC (.bl false)) (evCons (evC (.str "1")) (evCons (evOf opLst (evCons (evC (.int 1)) evNil)) (evCons (evOp powOp (evC (.int 10)) (evC (.int 59))) evNil)))))))) (GK 20) [some (.ref 2), some cv4, some cv6, some v_none, some v_place, none, none, none, none, none, none] [x0, x1, SC a b c] = .ok (.lst (menu_v_deed)) [x0, x1, SC a b c] := by
  all_goals kernel_rfl
theorem me6_s2 (x0 x1 : Cell) (a b c : Int) (v_none : AV) (v_place : AV) (v_deed : AV) : (evOf opLst (evCons (evC .non) (evCons (evC (.str "")) (evCons (evC (.str "Own")) (evCons (evC (.str "foes")) (evCons (evC (.int 0)) (evCons (evOf opTup (evCons (evC (.str "own")) evNil)) (evCons (evOf opLst (evCons (evC (.str "own")) evNil)) (evCons (evC (.bl true)) evNil))))))))) (GK 20) [some (.ref 2), some cv4, some cv6, some v_none, some v_place, some v_deed, none, none, none, none, none] [x0, x1, SC a b c] = .ok (.lst (menu_v_owner)) [x0, x1, SC a b c] := by
  all_goals kernel_rfl
theorem me7_s2 (x0 x1 : Cell) (a b c : Int) (v_none : AV) (v_place : AV) (v_deed : AV) (v_owner : AV) : (evOf opLst (evCons (evC .non) (evCons (evOf opTup evNil) (evCons (evOf opTup (evCons (evC (.int 0)) evNil)) (evCons (evOf opTup (evCons (evC (.int 0)) (evCons (evC (.int 0)) evNil))) (evCons (evOf opTup (evCons (evC (.int 0)) (evCons (evC (.int 1)) (evCons (evC (.int 2)) evNil)))) (evCons (evOf opLst (evCons (evC (.int 0)) (evCons (evC (.int 1)) evNil))) (evCons (evOf opTup (evCons (evC (.int 1)) (evCons (evC (.int 2)) evNil))) (evCons (evOf opTup (evCons (evC (.int 0)) (evCons (evC (.bl true)) evNil))) (evCons (evC (.str "01")) (evCons (evOf opTup (evCons (evC (.int 1)) (evCons (evC (.int 0)) (evCons (evC (.int 1)) evNil)))) (evCons (evDictC 0 1) evNil)))))))))))) (GK 20) [some (.ref 2), some cv4, some cv6, some v_none, some v_place, some v_deed, some v_owner, none, none, none, none] [x0, x1, SC a b c] = .ok (.lst (menu_v_order)) [x0, x1, SC a b c] := by
  all_goals kernel_rfl
theorem m8_s2 (x0 x1 : Cell) (a b c : Int) (v_none : AV) (v_place : AV) (v_deed : AV) (v_owner : AV) (v_order : AV) (h_v_none : v_none ∈ menu_v_none) (h_v_place : v_place ∈ menu_v_place) : (evLam (hoM S.exs 2 bm39 cl39 br39) (evCall 2 30 (evCons (evVar 3) (evCons (evVar 4) evNil)))) (GK 20) [some (.ref 2), some cv4, some cv6, some v_none, some v_place, some v_deed, some v_owner, some v_order, none, none, none] [x0, x1, SC a b c] = .ok (.str "machine") [x0, x1, SC a b c] := by
  all_goals (try simp only [menu_v_place, List.mem_cons, List.not_mem_nil, or_false] at h_v_place)
  all_goals (rcases h_v_place with rfl | rfl | rfl | rfl | rfl | rfl | rfl)
  all_goals (try simp only [menu_v_none, List.mem_cons, List.not_mem_nil, or_false] at h_v_none)
  all_goals (rcases h_v_none with rfl | rfl | rfl | rfl | rfl | rfl | rfl | rfl)
  all_goals kernel_rfl
theorem m9_s2 (x0 x1 : Cell) (a b c : Int) (v_none : AV) (v_place : AV) (v_deed : AV) (v_owner : AV) (v_order : AV) (ml : List AV) (h_v_place : v_place ∈ menu_v_place) : (evLam (hoM S.exs 2 bm39 cl39 br39) (evCall 2 30 (evCons (evVar 2) (evCons (evVar 4) evNil)))) (GK 20) [some (.ref 2), some cv4, some cv6, some v_none, some v_place, some v_deed, some v_owner, some v_order, some (.ref 3), none, none] [x0, x1, SC a b c, .lst ml] = .ok (numS "number " v_place) [x0, x1, SC a b c, .lst ml] := by
  all_goals (try simp only [menu_v_place, List.mem_cons, List.not_mem_nil, or_false] at h_v_place)
  all_goals (rcases h_v_place with rfl | rfl | rfl | rfl | rfl | rfl | rfl)
  all_goals kernel_rfl
theorem m10_s2 (x0 x1 : Cell) (a b c : Int) (v_none : AV) (v_place : AV) (v_deed : AV) (v_owner : AV) (v_order : AV) (ml : List AV) : (evLam (hoM S.exs 2 bm39 cl39 br39) (evCall 2 30 (evCons (evVar 2) (evCons (evC (.int 1)) evNil)))) (GK 20) [some (.ref 2), some cv4, some cv6, some v_none, some v_place, some v_deed, some v_owner, some v_order, some (.ref 3), none, none] [x0, x1, SC a b c, .lst ml] = .ok (.str "fine") [x0, x1, SC a b c, .lst ml] := by
  all_goals kernel_rfl
theorem st11_s2 (x0 x1 : Cell) (a b c : Int) (v_none : AV) (v_place : AV) (v_deed : AV) (v_owner : AV) (v_order : AV) (ml : List AV) (h_v_place : v_place ∈ menu_v_place) : b40_10 (GK 20) [some (.ref 2), some cv4, some cv6, some v_none, some v_place, some v_deed, some v_owner, some v_order, some (.ref 3), none, none] [x0, x1, SC a b c, .lst ml] = .nx [some (.ref 2), some cv4, some cv6, some v_none, some v_place, some v_deed, some v_owner, some v_order, some (.ref 3), some (.lst [(.str "machine"), (numS "number " v_place), (.str "fine")]), none] [x0, x1, SC a b c, .lst ml] := by
  all_goals (try simp only [menu_v_place, List.mem_cons, List.not_mem_nil, or_false] at h_v_place)
  all_goals (rcases h_v_place with rfl | rfl | rfl | rfl | rfl | rfl | rfl)
  all_goals kernel_rfl
theorem it12_s2 (x0 x1 : Cell) (a b c : Int) (v_none : AV) (v_place : AV) (v_deed : AV) (v_owner : AV) (v_order : AV) (ml : List AV) : ((eiSeq (evOf opTup (evCons (evFn 31) (evCons (evFn 35) evNil)))) : EvI) (GK 20) [some (.ref 2), some cv4, some cv6, some v_none, some v_place, some v_deed, some v_owner, some v_order, some (.ref 3), some (.lst [(.str "machine"), (numS "number " v_place), (.str "fine")]), none] [x0, x1, SC a b c, .lst ml] = .ok (.snap [(.fn 31), (.fn 35)]) [x0, x1, SC a b c, .lst ml] := by kernel_rfl
theorem m13_s2 (x0 x1 : Cell) (a b c : Int) (v_none : AV) (v_place : AV) (v_deed : AV) (v_owner : AV) (v_order : AV) (ml : List AV) (h_v_none : v_none ∈ menu_v_none) (h_v_deed : v_deed ∈ menu_v_deed) : (evLam (hoM S.exs 2 bm39 cl39 br39) (evCallV S.fns 10 (evCons (evVar 3) (evCons (evVar 5) evNil)))) (GK 20) [some (.ref 2), some cv4, some cv6, some v_none, some v_place, some v_deed, some v_owner, some v_order, some (.ref 3), some (.lst [(.str "machine"), (numS "number " v_place), (.str "fine")]), some (.fn 31)] [x0, x1, SC a b c, .lst ml] = .ok (.str "machine") [x0, x1, SC a b c, .lst ml] := by
  all_goals (try simp only [menu_v_deed, List.mem_cons, List.not_mem_nil, or_false] at h_v_deed)
  all_goals (rcases h_v_deed with rfl | rfl | rfl | rfl | rfl | rfl | rfl)
  all_goals (try simp only [menu_v_none, List.mem_cons, List.not_mem_nil, or_false] at h_v_none)
  all_goals (rcases h_v_none with rfl | rfl | rfl | rfl | rfl | rfl | rfl | rfl)
  all_goals kernel_rfl
theorem m14_s2 (x0 x1 : Cell) (a b c : Int) (v_none : AV) (v_place : AV) (v_deed : AV) (v_owner : AV) (v_order : AV) (ml : List AV) (h_v_deed : v_deed ∈ menu_v_deed) : (evLam (hoM S.exs 2 bm39 cl39 br39) (evCallV S.fns 10 (evCons (evVar 2) (evCons (evVar 5) evNil)))) (GK 20) [some (.ref 2), some cv4, some cv6, some v_none, some v_place, some v_deed, some v_owner, some v_order, some (.ref 3), some (.lst [(.str "machine"), (numS "number " v_place), (.str "fine")]), some (.fn 31)] [x0, x1, SC a b c, .lst ml] = .ok (numS "number " v_deed) [x0, x1, SC a b c, .lst ml] := by
  all_goals (try simp only [menu_v_deed, List.mem_cons, List.not_mem_nil, or_false] at h_v_deed)
  all_goals (rcases h_v_deed with rfl | rfl | rfl | rfl | rfl | rfl | rfl)
  all_goals kernel_rfl
theorem m15_s2 (x0 x1 : Cell) (a b c : Int) (v_none : AV) (v_place : AV) (v_deed : AV) (v_owner : AV) (v_order : AV) (ml : List AV) : (evLam (hoM S.exs 2 bm39 cl39 br39) (evCallV S.fns 10 (evCons (evVar 2) (evCons (evC (.int 2)) evNil)))) (GK 20) [some (.ref 2), some cv4, some cv6, some v_none, some v_place, some v_deed, some v_owner, some v_order, some (.ref 3), some (.lst [(.str "machine"), (numS "number " v_place), (.str "fine")]), some (.fn 31)] [x0, x1, SC a b c, .lst ml] = .ok (.str "fine") [x0, x1, SC a b c, .lst ml] := by
  all_goals kernel_rfl
theorem st16_s2 (x0 x1 : Cell) (a b c : Int) (v_none : AV) (v_place : AV) (v_deed : AV) (v_owner : AV) (v_order : AV) (ml : List AV) (h_v_deed : v_deed ∈ menu_v_deed) : lb40_11_3 (GK 20) [some (.ref 2), some cv4, some cv6, some v_none, some v_place, some v_deed, some v_owner, some v_order, some (.ref 3), some (.lst [(.str "machine"), (numS "number " v_place), (.str "fine")]), some (.fn 31)] [x0, x1, SC a b c, .lst ml] = .nx [some (.ref 2), some cv4, some cv6, some v_none, some v_place, some v_deed, some v_owner, some v_order, some (.ref 3), some (.lst [(.str "machine"), (numS "number " v_place), (.str "fine"), (.str "machine"), (numS "number " v_deed), (.str "fine")]), some (.fn 31)] [x0, x1, SC a b c, .lst ml] := by
  all_goals (try simp only [menu_v_deed, List.mem_cons, List.not_mem_nil, or_false] at h_v_deed)
  all_goals (rcases h_v_deed with rfl | rfl | rfl | rfl | rfl | rfl | rfl)
  all_goals kernel_rfl
theorem m17_s2 (x0 x1 : Cell) (a b c : Int) (v_none : AV) (v_place : AV) (v_deed : AV) (v_owner : AV) (v_order : AV) (ml : List AV) (h_v_none : v_none ∈ menu_v_none) (h_v_deed : v_deed ∈ menu_v_deed) : (evLam (hoM S.exs 2 bm39 cl39 br39) (evCallV S.fns 10 (evCons (evVar 3) (evCons (evVar 5) evNil)))) (GK 20) [some (.ref 2), some cv4, some cv6, some v_none, some v_place, some v_deed, some v_owner, some v_order, some (.ref 3), some (.lst [(.str "machine"), (numS "number " v_place), (.str "fine"), (.str "machine"), (numS "number " v_deed), (.str "fine")]), some (.fn 35)] [x0, x1, SC a b c, .lst ml] = .ok (.str "machine") [x0, x1, SC a b c, .lst ml] := by
  all_goals (try simp only [menu_v_deed, List.mem_cons, List.not_mem_nil, or_false] at h_v_deed)
  all_goals (rcases h_v_deed with rfl | rfl | rfl | rfl | rfl | rfl | rfl)
  all_goals (try simp only [menu_v_none, List.mem_cons, List.not_mem_nil, or_false] at h_v_none)
  all_goals (rcases h_v_none with rfl | rfl | rfl | rfl | rfl | rfl | rfl | rfl)
  all_goals kernel_rfl
theorem m18_s2 (x0 x1 : Cell) (a b c : Int) (v_none : AV) (v_place : AV) (v_deed : AV) (v_owner : AV) (v_order : AV) (ml : List AV) (h_v_deed : v_deed ∈ menu_v_deed) : (evLam (hoM S.exs 2 bm39 cl39 br39) (evCallV S.fns 10 (evCons (evVar 2) (evCons (evVar 5) evNil)))) (GK 20) [some (.ref 2), some cv4, some cv6, some v_none, some v_place, some v_deed, some v_owner, some v_order, some (.ref 3), some (.lst [(.str "machine"), (numS "number " v_place), (.str "fine"), (.str "machine"), (numS "number " v_deed), (.str "fine")]), some (.fn 35)] [x0, x1, SC a b c, .lst ml] = .ok (numS "number " v_deed) [x0, x1, SC a b c, .lst ml] := by
  all_goals (try simp only [menu_v_deed, List.mem_cons, List.not_mem_nil, or_false] at h_v_deed)
  all_goals (rcases h_v_deed with rfl | rfl | rfl | rfl | rfl | rfl | rfl)
  all_goals kernel_rfl
theorem m19_s2 (x0 x1 : Cell) (a b c : Int) (v_none : AV) (v_place : AV) (v_deed : AV) (v_owner : AV) (v_order : AV) (ml : List AV) : (evLam (hoM S.exs 2 bm39 cl39 br39) (evCallV S.fns 10 (evCons (evVar 2) (evCons (evC (.int 2)) evNil)))) (GK 20) [some (.ref 2), some cv4, some cv6, some v_none, some v_place, some v_deed, some v_owner, some v_order, some (.ref 3), some (.lst [(.str "machine"), (numS "number " v_place), (.str "fine"), (.str "machine"), (numS "number " v_deed), (.str "fine")]), some (.fn 35)] [x0, x1, SC a b c, .lst ml] = .ok (.str "fine") [x0, x1, SC a b c, .lst ml] := by
  all_goals kernel_rfl
theorem st20_s2 (x0 x1 : Cell) (a b c : Int) (v_none : AV) (v_place : AV) (v_deed : AV) (v_owner : AV) (v_order : AV) (ml : List AV) (h_v_deed : v_deed ∈ menu_v_deed) : lb40_11_3 (GK 20) [some (.ref 2), some cv4, some cv6, some v_none, some v_place, some v_deed, some v_owner, some v_order, some (.ref 3), some (.lst [(.str "machine"), (numS "number " v_place), (.str "fine"), (.str "machine"), (numS "number " v_deed), (.str "fine")]), some (.fn 35)] [x0, x1, SC a b c, .lst ml] = .nx [some (.ref 2), some cv4, some cv6, some v_none, some v_place, some v_deed, some v_owner, some v_order, some (.ref 3), some (.lst [(.str "machine"), (numS "number " v_place), (.str "fine"), (.str "machine"), (numS "number " v_deed), (.str "fine"), (.str "machine"), (numS "number " v_deed), (.str "fine")]), some (.fn 35)] [x0, x1, SC a b c, .lst ml] := by
  all_goals (try simp only [menu_v_deed, List.mem_cons, List.not_mem_nil, or_false] at h_v_deed)
  all_goals (rcases h_v_deed with rfl | rfl | rfl | rfl | rfl | rfl | rfl)
  all_goals kernel_rfl
theorem m21_s2 (x0 x1 : Cell) (a b c : Int) (v_none : AV) (v_place : AV) (v_deed : AV) (v_owner : AV) (v_order : AV) (ml : List AV) (h_v_none : v_none ∈ menu_v_none) (h_v_place : v_place ∈ menu_v_place) (h_v_owner : v_owner ∈ menu_v_owner) : (evLam (hoM S.exs 2 bm39 cl39 br39) (evCall 3 32 (evCons (evVar 3) (evCons (evVar 4) (evCons (evVar 6) evNil))))) (GK 20) [some (.ref 2), some cv4, some cv6, some v_none, some v_place, some v_deed, some v_owner, some v_order, some (.ref 3), some (.lst [(.str "machine"), (numS "number " v_place), (.str "fine"), (.str "machine"), (numS "number " v_deed), (.str "fine"), (.str "machine"), (numS "number " v_deed), (.str "fine")]), some (.fn 35)] [x0, x1, SC a b c, .lst ml] = .ok (.str "machine") [x0, x1, SC a b c, .lst ml] := by
  all_goals (try simp only [menu_v_owner, List.mem_cons, List.not_mem_nil, or_false] at h_v_owner)
  all_goals (rcases h_v_owner with rfl | rfl | rfl | rfl | rfl | rfl | rfl | rfl)
  all_goals (try simp only [menu_v_place, List.mem_cons, List.not_mem_nil, or_false] at h_v_place)
  all_goals (rcases h_v_place with rfl | rfl | rfl | rfl | rfl | rfl | rfl)
  all_goals (try simp only [menu_v_none, List.mem_cons, List.not_mem_nil, or_false] at h_v_none)
  all_goals (rcases h_v_none with rfl | rfl | rfl | rfl | rfl | rfl | rfl | rfl)
  all_goals kernel_rfl
theorem m22_s2 (x0 x1 : Cell) (a b c : Int) (v_none : AV) (v_place : AV) (v_deed : AV) (v_owner : AV) (v_order : AV) (ml : List AV) (h_v_place : v_place ∈ menu_v_place) (h_v_owner : v_owner ∈ menu_v_owner) : (evLam (hoM S.exs 2 bm39 cl39 br39) (evCall 3 32 (evCons (evVar 2) (evCons (evVar 4) (evCons (evVar 6) evNil))))) (GK 20) [some (.ref 2), some cv4, some cv6, some v_none, some v_place, some v_deed, some v_owner, some v_order, some (.ref 3), some (.lst [(.str "machine"), (numS "number " v_place), (.str "fine"), (.str "machine"), (numS "number " v_deed), (.str "fine"), (.str "machine"), (numS "number " v_deed), (.str "fine")]), some (.fn 35)] [x0, x1, SC a b c, .lst ml] = .ok (numS "number " v_place) [x0, x1, SC a b c, .lst ml] := by
  all_goals (try simp only [menu_v_owner, List.mem_cons, List.not_mem_nil, or_false] at h_v_owner)
  all_goals (rcases h_v_owner with rfl | rfl | rfl | rfl | rfl | rfl | rfl | rfl)
  all_goals (try simp only [menu_v_place, List.mem_cons, List.not_mem_nil, or_false] at h_v_place)
  all_goals (rcases h_v_place with rfl | rfl | rfl | rfl | rfl | rfl | rfl)
  all_goals kernel_rfl
theorem m23_s2 (x0 x1 : Cell) (a b c : Int) (v_none : AV) (v_place : AV) (v_deed : AV) (v_owner : AV) (v_order : AV) (ml : List AV) (h_v_owner : v_owner ∈ menu_v_owner) : (evLam (hoM S.exs 2 bm39 cl39 br39) (evCall 3 32 (evCons (evVar 2) (evCons (evC (.int 0)) (evCons (evVar 6) evNil))))) (GK 20) [some (.ref 2), some cv4, some cv6, some v_none, some v_place, some v_deed, some v_owner, some v_order, some (.ref 3), some (.lst [(.str "machine"), (numS "number " v_place), (.str "fine"), (.str "machine"), (numS "number " v_deed), (.str "fine"), (.str "machine"), (numS "number " v_deed), (.str "fine")]), some (.fn 35)] [x0, x1, SC a b c, .lst ml] = .ok (.str "operation") [x0, x1, SC a b c, .lst ml] := by
  all_goals (try simp only [menu_v_owner, List.mem_cons, List.not_mem_nil, or_false] at h_v_owner)
  all_goals (rcases h_v_owner with rfl | rfl | rfl | rfl | rfl | rfl | rfl | rfl)
  all_goals kernel_rfl
theorem m24_s2 (x0 x1 : Cell) (a b c : Int) (v_none : AV) (v_place : AV) (v_deed : AV) (v_owner : AV) (v_order : AV) (ml : List AV) : (evLam (hoM S.exs 2 bm39 cl39 br39) (evCall 3 32 (evCons (evVar 2) (evCons (evC (.int 0)) (evCons (evC (.str "foe")) evNil))))) (GK 20) [some (.ref 2), some cv4, some cv6, some v_none, some v_place, some v_deed, some v_owner, some v_order, some (.ref 3), some (.lst [(.str "machine"), (numS "number " v_place), (.str "fine"), (.str "machine"), (numS "number " v_deed), (.str "fine"), (.str "machine"), (numS "number " v_deed), (.str "fine")]), some (.fn 35)] [x0, x1, SC a b c, .lst ml] = .ok (.str "fine") [x0, x1, SC a b c, .lst ml] := by
  all_goals kernel_rfl
theorem m25_s2 (x0 x1 : Cell) (a b c : Int) (v_none : AV) (v_place : AV) (v_deed : AV) (v_owner : AV) (v_order : AV) (ml : List AV) (h_v_none : v_none ∈ menu_v_none) (h_v_order : v_order ∈ menu_v_order) : (evLam (hoM S.exs 2 bm39 cl39 br39) (evCall 2 34 (evCons (evVar 3) (evCons (evVar 7) evNil)))) (GK 20) [some (.ref 2), some cv4, some cv6, some v_none, some v_place, some v_deed, some v_owner, some v_order, some (.ref 3), some (.lst [(.str "machine"), (numS "number " v_place), (.str "fine"), (.str "machine"), (numS "number " v_deed), (.str "fine"), (.str "machine"), (numS "number " v_deed), (.str "fine")]), some (.fn 35)] [x0, x1, SC a b c, .lst ml] = .ok (.str "machine") [x0, x1, SC a b c, .lst ml] := by
  all_goals (try simp only [menu_v_order, List.mem_cons, List.not_mem_nil, or_false] at h_v_order)
  all_goals (rcases h_v_order with rfl | rfl | rfl | rfl | rfl | rfl | rfl | rfl | rfl | rfl | rfl)
  all_goals (try simp only [menu_v_none, List.mem_cons, List.not_mem_nil, or_false] at h_v_none)
  all_goals (rcases h_v_none with rfl | rfl | rfl | rfl | rfl | rfl | rfl | rfl)
  all_goals kernel_rfl
theorem m26_s2 (x0 x1 : Cell) (a b c : Int) (v_none : AV) (v_place : AV) (v_deed : AV) (v_owner : AV) (v_order : AV) (ml : List AV) (h_v_order : v_order ∈ menu_v_order) : (evLam (hoM S.exs 2 bm39 cl39 br39) (evCall 2 34 (evCons (evVar 2) (evCons (evVar 7) evNil)))) (GK 20) [some (.ref 2), some cv4, some cv6, some v_none, some v_place, some v_deed, some v_owner, some v_order, some (.ref 3), some (.lst [(.str "machine"), (numS "number " v_place), (.str "fine"), (.str "machine"), (numS "number " v_deed), (.str "fine"), (.str "machine"), (numS "number " v_deed), (.str "fine")]), some (.fn 35)] [x0, x1, SC a b c, .lst ml] = .ok (.str "places") [x0, x1, SC a b c, .lst ml] := by
  all_goals (try simp only [menu_v_order, List.mem_cons, List.not_mem_nil, or_false] at h_v_order)
  all_goals (rcases h_v_order with rfl | rfl | rfl | rfl | rfl | rfl | rfl | rfl | rfl | rfl | rfl)
  all_goals kernel_rfl
theorem m27_s2 (x0 x1 : Cell) (a b c : Int) (v_none : AV) (v_place : AV) (v_deed : AV) (v_owner : AV) (v_order : AV) (ml : List AV) : (evLam (hoM S.exs 2 bm39 cl39 br39) (evCall 2 34 (evCons (evVar 2) (evCons (evOf opTup (evCons (evC (.int 1)) (evCons (evC (.int 0)) evNil))) evNil)))) (GK 20) [some (.ref 2), some cv4, some cv6, some v_none, some v_place, some v_deed, some v_owner, some v_order, some (.ref 3), some (.lst [(.str "machine"), (numS "number " v_place), (.str "fine"), (.str "machine"), (numS "number " v_deed), (.str "fine"), (.str "machine"), (numS "number " v_deed), (.str "fine")]), some (.fn 35)] [x0, x1, SC a b c, .lst ml] = .ok (.str "fine") [x0, x1, SC a b c, .lst ml] := by
  all_goals kernel_rfl
theorem st28_s2 (x0 x1 : Cell) (a b c : Int) (v_none : AV) (v_place : AV) (v_deed : AV) (v_owner : AV) (v_order : AV) (ml : List AV) (h_v_place : v_place ∈ menu_v_place) : b40_19 (GK 20) [some (.ref 2), some cv4, some cv6, some v_none, some v_place, some v_deed, some v_owner, some v_order, some (.ref 3), some (.lst [(.str "machine"), (numS "number " v_place), (.str "fine"), (.str "machine"), (numS "number " v_deed), (.str "fine"), (.str "machine"), (numS "number " v_deed), (.str "fine")]), some (.fn 35)] [x0, x1, SC a b c, .lst ml] = .nx [some (.ref 2), some cv4, some cv6, some v_none, some v_place, some v_deed, some v_owner, some v_order, some (.ref 3), some (.lst [(.str "machine"), (numS "number " v_place), (.str "fine"), (.str "machine"), (numS "number " v_deed), (.str "fine"), (.str "machine"), (numS "number " v_deed), (.str "fine"), (.str "machine"), (numS "number " v_place), (.str "operation"), (.str "fine"), (.str "machine"), (.str "places"), (.str "fine")]), some (.fn 35)] [x0, x1, SC a b c, .lst ml] := by
  all_goals (try simp only [menu_v_place, List.mem_cons, List.not_mem_nil, or_false] at h_v_place)
  all_goals (rcases h_v_place with rfl | rfl | rfl | rfl | rfl | rfl | rfl)
  all_goals kernel_rfl
theorem m29_s2 (x0 x1 : Cell) (a b c : Int) (v_none : AV) (v_place : AV) (v_deed : AV) (v_owner : AV) (v_order : AV) (ml : List AV) (h_v_none : v_none ∈ menu_v_none) : (evLam (hoM S.exs 2 bm39 cl39 br39) (evMk true 0 4 42 4 (evCons (evVar 3) (evCons (evOp ixOp (evVar 1) (evC (.int 1))) (evCons (evOp ixOp (evVar 1) (evC (.int 2))) evNil))))) (GK 20) [some (.ref 2), some cv4, some cv6, some v_none, some v_place, some v_deed, some v_owner, some v_order, some (.ref 3), some (.lst [(.str "machine"), (numS "number " v_place), (.str "fine"), (.str "machine"), (numS "number " v_deed), (.str "fine"), (.str "machine"), (numS "number " v_deed), (.str "fine"), (.str "machine"), (numS "number " v_place), (.str "operation"), (.str "fine"), (.str "machine"), (.str "places"), (.str "fine")]), some (.fn 35)] [x0, x1, SC a b c, .lst ml] = .ok (.str "machine") [x0, x1, SC a b c, .lst ml] := by
  all_goals (try simp only [menu_v_none, List.mem_cons, List.not_mem_nil, or_false] at h_v_none)
  all_goals (rcases h_v_none with rfl | rfl | rfl | rfl | rfl | rfl | rfl | rfl)
  all_goals kernel_rfl
theorem m30_s2 (x0 x1 : Cell) (a b c : Int) (v_none : AV) (v_place : AV) (v_deed : AV) (v_owner : AV) (v_order : AV) (ml : List AV) (h_v_owner : v_owner ∈ menu_v_owner) : (evLam (hoM S.exs 2 bm39 cl39 br39) (evMk true 0 4 42 4 (evCons (evC (.int 1)) (evCons (evOp ixOp (evVar 1) (evC (.int 1))) (evCons (evOf opTup (evCons (evOf opTup (evCons (evVar 6) (evCons (evC (.int 0)) (evCons (evC (.int 1)) (evCons (evOf opTup evNil) (evCons (evOf opTup evNil) evNil)))))) evNil)) evNil))))) (GK 20) [some (.ref 2), some cv4, some cv6, some v_none, some v_place, some v_deed, some v_owner, some v_order, some (.ref 3), some (.lst [(.str "machine"), (numS "number " v_place), (.str "fine"), (.str "machine"), (numS "number " v_deed), (.str "fine"), (.str "machine"), (numS "number " v_deed), (.str "fine"), (.str "machine"), (numS "number " v_place), (.str "operation"), (.str "fine"), (.str "machine"), (.str "places"), (.str "fine")]), some (.fn 35)] [x0, x1, SC a b c, .lst ml] = .ok (.str "machine") [x0, x1, SC a b c, .lst ml] := by
  all_goals (try simp only [menu_v_owner, List.mem_cons, List.not_mem_nil, or_false] at h_v_owner)
  all_goals (rcases h_v_owner with rfl | rfl | rfl | rfl | rfl | rfl | rfl | rfl)
  all_goals kernel_rfl
theorem du31_s2 (x0 x1 : Cell) (a b c : Int) (v_none : AV) (v_place : AV) (v_deed : AV) (v_owner : AV) (v_order : AV) (ml : List AV) : (evOp addOp (evVar 9) (evOf opLst (evCons (evC (.str "machine")) (evCons (evC (.str "machine")) evNil)))) (GK 20) [some (.ref 2), some cv4, some cv6, some v_none, some v_place, some v_deed, some v_owner, some v_order, some (.ref 3), some (.lst [(.str "machine"), (numS "number " v_place), (.str "fine"), (.str "machine"), (numS "number " v_deed), (.str "fine"), (.str "machine"), (numS "number " v_deed), (.str "fine"), (.str "machine"), (numS "number " v_place), (.str "operation"), (.str "fine"), (.str "machine"), (.str "places"), (.str "fine")]), some (.fn 35)] [x0, x1, SC a b c, .lst ml] = .ok (.lst [(.str "machine"), (numS "number " v_place), (.str "fine"), (.str "machine"), (numS "number " v_deed), (.str "fine"), (.str "machine"), (numS "number " v_deed), (.str "fine"), (.str "machine"), (numS "number " v_place), (.str "operation"), (.str "fine"), (.str "machine"), (.str "places"), (.str "fine"), (.str "machine"), (.str "machine")]) [x0, x1, SC a b c, .lst ml] := by
  all_goals kernel_rfl
theorem right_s2 (x0 x1 : Cell) (a0 b0 c0 : Int) : ∃ a b c : Int, GK 21 40 [.ref 2] [x0, x1, SC a0 b0 c0] = .ok (.bl true) [x0, x1, SC a b c] := by
  have t1 : b40_0 (GK 20) [some (.ref 2), none, none, none, none, none, none, none, none, none, none] [x0, x1, SC a0 b0 c0] = .nx [some (.ref 2), some cv4, none, none, none, none, none, none, none, none, none] [x0, x1, SC a0 b0 c0] := st1_s2 x0 x1 a0 b0 c0
  have t2 : b40_1 (GK 20) [some (.ref 2), some cv4, none, none, none, none, none, none, none, none, none] [x0, x1, SC a0 b0 c0] = .nx [some (.ref 2), some cv4, some cv6, none, none, none, none, none, none, none, none] [x0, x1, SC a0 b0 c0] := st2_s2 x0 x1 a0 b0 c0
  obtain ⟨v_none, a1, b1, c1, h_v_none, e3⟩ := among_p [x0, x1] [] a0 b0 c0 (menu_v_none) (of_decide_eq_true (by kernel_rfl)) (of_decide_eq_true (by kernel_rfl)) (pm_v_none)
  have t3 : b40_2 (GK 20) [some (.ref 2), some cv4, some cv6, none, none, none, none, none, none, none, none] [x0, x1, SC a0 b0 c0] = .nx [some (.ref 2), some cv4, some cv6, some v_none, none, none, none, none, none, none, none] [x0, x1, SC a1 b1 c1] := draw_nx rfl (me3_s2 x0 x1 a0 b0 c0) e3
  obtain ⟨v_place, a2, b2, c2, h_v_place, e4⟩ := among_p [x0, x1] [] a1 b1 c1 (menu_v_place) (of_decide_eq_true (by kernel_rfl)) (of_decide_eq_true (by kernel_rfl)) (pm_v_place)
  have t4 : b40_3 (GK 20) [some (.ref 2), some cv4, some cv6, some v_none, none, none, none, none, none, none, none] [x0, x1, SC a1 b1 c1] = .nx [some (.ref 2), some cv4, some cv6, some v_none, some v_place, none, none, none, none, none, none] [x0, x1, SC a2 b2 c2] := draw_nx rfl (me4_s2 x0 x1 a1 b1 c1 v_none) e4
  obtain ⟨v_deed, a3, b3, c3, h_v_deed, e5⟩ := among_p [x0, x1] [] a2 b2 c2 (menu_v_deed) (of_decide_eq_true (by kernel_rfl)) (of_decide_eq_true (by kernel_rfl)) (pm_v_deed)
  have t5 : b40_4 (GK 20) [some (.ref 2), some cv4, some cv6, some v_none, some v_place, none, none, none, none, none, none] [x0, x1, SC a2 b2 c2] = .nx [some (.ref 2), some cv4, some cv6, some v_none, some v_place, some v_deed, none, none, none, none, none] [x0, x1, SC a3 b3 c3] := draw_nx rfl (me5_s2 x0 x1 a2 b2 c2 v_none v_place) e5
  obtain ⟨v_owner, a4, b4, c4, h_v_owner, e6⟩ := among_p [x0, x1] [] a3 b3 c3 (menu_v_owner) (of_decide_eq_true (by kernel_rfl)) (of_decide_eq_true (by kernel_rfl)) (pm_v_owner)
  have t6 : b40_5 (GK 20) [some (.ref 2), some cv4, some cv6, some v_none, some v_place, some v_deed, none, none, none, none, none] [x0, x1, SC a3 b3 c3] = .nx [some (.ref 2), some cv4, some cv6, some v_none, some v_place, some v_deed, some v_owner, none, none, none, none] [x0, x1, SC a4 b4 c4] := draw_nx rfl (me6_s2 x0 x1 a3 b3 c3 v_none v_place v_deed) e6
  obtain ⟨v_order, a5, b5, c5, h_v_order, e7⟩ := among_p [x0, x1] [] a4 b4 c4 (menu_v_order) (of_decide_eq_true (by kernel_rfl)) (of_decide_eq_true (by kernel_rfl)) (pm_v_order)
  have t7 : b40_6 (GK 20) [some (.ref 2), some cv4, some cv6, some v_none, some v_place, some v_deed, some v_owner, none, none, none, none] [x0, x1, SC a4 b4 c4] = .nx [some (.ref 2), some cv4, some cv6, some v_none, some v_place, some v_deed, some v_owner, some v_order, none, none, none] [x0, x1, SC a5 b5 c5] := draw_nx rfl (me7_s2 x0 x1 a4 b4 c4 v_none v_place v_deed v_owner) e7
  have t8 : b40_7 (GK 20) [some (.ref 2), some cv4, some cv6, some v_none, some v_place, some v_deed, some v_owner, some v_order, none, none, none] [x0, x1, SC a5 b5 c5] = .nx [some (.ref 2), some cv4, some cv6, some v_none, some v_place, some v_deed, some v_owner, some v_order, some (.ref 3), none, none] [x0, x1, SC a5 b5 c5, .lst [(.str "machine")]] := met_nx (m8_s2 x0 x1 a5 b5 c5 v_none v_place v_deed v_owner v_order h_v_none h_v_place) (ok_0 []).2
  have t9 : b40_8 (GK 20) [some (.ref 2), some cv4, some cv6, some v_none, some v_place, some v_deed, some v_owner, some v_order, some (.ref 3), none, none] [x0, x1, SC a5 b5 c5, .lst [(.str "machine")]] = .nx [some (.ref 2), some cv4, some cv6, some v_none, some v_place, some v_deed, some v_owner, some v_order, some (.ref 3), none, none] [x0, x1, SC a5 b5 c5, .lst [(.str "machine"), (numS "number " v_place)]] := by
    refine app_nx (n := 3) (xs := [(.str "machine")]) (v := (numS "number " v_place)) rfl rfl ?_ (ok_1 [] v_place h_v_place).2 (of_decide_eq_true (by kernel_rfl))
    exact (m9_s2 x0 x1 a5 b5 c5 v_none v_place v_deed v_owner v_order _ h_v_place)
  have t10 : b40_9 (GK 20) [some (.ref 2), some cv4, some cv6, some v_none, some v_place, some v_deed, some v_owner, some v_order, some (.ref 3), none, none] [x0, x1, SC a5 b5 c5, .lst [(.str "machine"), (numS "number " v_place)]] = .nx [some (.ref 2), some cv4, some cv6, some v_none, some v_place, some v_deed, some v_owner, some v_order, some (.ref 3), none, none] [x0, x1, SC a5 b5 c5, .lst [(.str "machine"), (numS "number " v_place), (.str "fine")]] := by
    refine app_nx (n := 3) (xs := [(.str "machine"), (numS "number " v_place)]) (v := (.str "fine")) rfl rfl ?_ (ok_2 []).2 (of_decide_eq_true (by kernel_rfl))
    exact (m10_s2 x0 x1 a5 b5 c5 v_none v_place v_deed v_owner v_order _)
  have t11 : b40_10 (GK 20) [some (.ref 2), some cv4, some cv6, some v_none, some v_place, some v_deed, some v_owner, some v_order, some (.ref 3), none, none] [x0, x1, SC a5 b5 c5, .lst [(.str "machine"), (numS "number " v_place), (.str "fine")]] = .nx [some (.ref 2), some cv4, some cv6, some v_none, some v_place, some v_deed, some v_owner, some v_order, some (.ref 3), some (.lst [(.str "machine"), (numS "number " v_place), (.str "fine")]), none] [x0, x1, SC a5 b5 c5, .lst [(.str "machine"), (numS "number " v_place), (.str "fine")]] := st11_s2 x0 x1 a5 b5 c5 v_none v_place v_deed v_owner v_order _ h_v_place
  have t12 : lb40_11_0 (GK 20) [some (.ref 2), some cv4, some cv6, some v_none, some v_place, some v_deed, some v_owner, some v_order, some (.ref 3), some (.lst [(.str "machine"), (numS "number " v_place), (.str "fine")]), some (.fn 31)] [x0, x1, SC a5 b5 c5, .lst [(.str "machine"), (numS "number " v_place), (.str "fine")]] = .nx [some (.ref 2), some cv4, some cv6, some v_none, some v_place, some v_deed, some v_owner, some v_order, some (.ref 3), some (.lst [(.str "machine"), (numS "number " v_place), (.str "fine")]), some (.fn 31)] [x0, x1, SC a5 b5 c5, .lst [(.str "machine"), (numS "number " v_place), (.str "fine"), (.str "machine")]] := by
    refine app_nx (n := 3) (xs := [(.str "machine"), (numS "number " v_place), (.str "fine")]) (v := (.str "machine")) rfl rfl ?_ (ok_0 []).2 (of_decide_eq_true (by kernel_rfl))
    exact (m13_s2 x0 x1 a5 b5 c5 v_none v_place v_deed v_owner v_order _ h_v_none h_v_deed)
  have t13 : lb40_11_1 (GK 20) [some (.ref 2), some cv4, some cv6, some v_none, some v_place, some v_deed, some v_owner, some v_order, some (.ref 3), some (.lst [(.str "machine"), (numS "number " v_place), (.str "fine")]), some (.fn 31)] [x0, x1, SC a5 b5 c5, .lst [(.str "machine"), (numS "number " v_place), (.str "fine"), (.str "machine")]] = .nx [some (.ref 2), some cv4, some cv6, some v_none, some v_place, some v_deed, some v_owner, some v_order, some (.ref 3), some (.lst [(.str "machine"), (numS "number " v_place), (.str "fine")]), some (.fn 31)] [x0, x1, SC a5 b5 c5, .lst [(.str "machine"), (numS "number " v_place), (.str "fine"), (.str "machine"), (numS "number " v_deed)]] := by
    refine app_nx (n := 3) (xs := [(.str "machine"), (numS "number " v_place), (.str "fine"), (.str "machine")]) (v := (numS "number " v_deed)) rfl rfl ?_ (ok_3 [] v_deed h_v_deed).2 (of_decide_eq_true (by kernel_rfl))
    exact (m14_s2 x0 x1 a5 b5 c5 v_none v_place v_deed v_owner v_order _ h_v_deed)
  have t14 : lb40_11_2 (GK 20) [some (.ref 2), some cv4, some cv6, some v_none, some v_place, some v_deed, some v_owner, some v_order, some (.ref 3), some (.lst [(.str "machine"), (numS "number " v_place), (.str "fine")]), some (.fn 31)] [x0, x1, SC a5 b5 c5, .lst [(.str "machine"), (numS "number " v_place), (.str "fine"), (.str "machine"), (numS "number " v_deed)]] = .nx [some (.ref 2), some cv4, some cv6, some v_none, some v_place, some v_deed, some v_owner, some v_order, some (.ref 3), some (.lst [(.str "machine"), (numS "number " v_place), (.str "fine")]), some (.fn 31)] [x0, x1, SC a5 b5 c5, .lst [(.str "machine"), (numS "number " v_place), (.str "fine"), (.str "machine"), (numS "number " v_deed), (.str "fine")]] := by
    refine app_nx (n := 3) (xs := [(.str "machine"), (numS "number " v_place), (.str "fine"), (.str "machine"), (numS "number " v_deed)]) (v := (.str "fine")) rfl rfl ?_ (ok_2 []).2 (of_decide_eq_true (by kernel_rfl))
    exact (m15_s2 x0 x1 a5 b5 c5 v_none v_place v_deed v_owner v_order _)
  have t15 : lb40_11_3 (GK 20) [some (.ref 2), some cv4, some cv6, some v_none, some v_place, some v_deed, some v_owner, some v_order, some (.ref 3), some (.lst [(.str "machine"), (numS "number " v_place), (.str "fine")]), some (.fn 31)] [x0, x1, SC a5 b5 c5, .lst [(.str "machine"), (numS "number " v_place), (.str "fine"), (.str "machine"), (numS "number " v_deed), (.str "fine")]] = .nx [some (.ref 2), some cv4, some cv6, some v_none, some v_place, some v_deed, some v_owner, some v_order, some (.ref 3), some (.lst [(.str "machine"), (numS "number " v_place), (.str "fine"), (.str "machine"), (numS "number " v_deed), (.str "fine")]), some (.fn 31)] [x0, x1, SC a5 b5 c5, .lst [(.str "machine"), (numS "number " v_place), (.str "fine"), (.str "machine"), (numS "number " v_deed), (.str "fine")]] := st16_s2 x0 x1 a5 b5 c5 v_none v_place v_deed v_owner v_order _ h_v_deed
  have t16 : lb40_11_0 (GK 20) [some (.ref 2), some cv4, some cv6, some v_none, some v_place, some v_deed, some v_owner, some v_order, some (.ref 3), some (.lst [(.str "machine"), (numS "number " v_place), (.str "fine"), (.str "machine"), (numS "number " v_deed), (.str "fine")]), some (.fn 35)] [x0, x1, SC a5 b5 c5, .lst [(.str "machine"), (numS "number " v_place), (.str "fine"), (.str "machine"), (numS "number " v_deed), (.str "fine")]] = .nx [some (.ref 2), some cv4, some cv6, some v_none, some v_place, some v_deed, some v_owner, some v_order, some (.ref 3), some (.lst [(.str "machine"), (numS "number " v_place), (.str "fine"), (.str "machine"), (numS "number " v_deed), (.str "fine")]), some (.fn 35)] [x0, x1, SC a5 b5 c5, .lst [(.str "machine"), (numS "number " v_place), (.str "fine"), (.str "machine"), (numS "number " v_deed), (.str "fine"), (.str "machine")]] := by
    refine app_nx (n := 3) (xs := [(.str "machine"), (numS "number " v_place), (.str "fine"), (.str "machine"), (numS "number " v_deed), (.str "fine")]) (v := (.str "machine")) rfl rfl ?_ (ok_0 []).2 (of_decide_eq_true (by kernel_rfl))
    exact (m17_s2 x0 x1 a5 b5 c5 v_none v_place v_deed v_owner v_order _ h_v_none h_v_deed)
  have t17 : lb40_11_1 (GK 20) [some (.ref 2), some cv4, some cv6, some v_none, some v_place, some v_deed, some v_owner, some v_order, some (.ref 3), some (.lst [(.str "machine"), (numS "number " v_place), (.str "fine"), (.str "machine"), (numS "number " v_deed), (.str "fine")]), some (.fn 35)] [x0, x1, SC a5 b5 c5, .lst [(.str "machine"), (numS "number " v_place), (.str "fine"), (.str "machine"), (numS "number " v_deed), (.str "fine"), (.str "machine")]] = .nx [some (.ref 2), some cv4, some cv6, some v_none, some v_place, some v_deed, some v_owner, some v_order, some (.ref 3), some (.lst [(.str "machine"), (numS "number " v_place), (.str "fine"), (.str "machine"), (numS "number " v_deed), (.str "fine")]), some (.fn 35)] [x0, x1, SC a5 b5 c5, .lst [(.str "machine"), (numS "number " v_place), (.str "fine"), (.str "machine"), (numS "number " v_deed), (.str "fine"), (.str "machine"), (numS "number " v_deed)]] := by
    refine app_nx (n := 3) (xs := [(.str "machine"), (numS "number " v_place), (.str "fine"), (.str "machine"), (numS "number " v_deed), (.str "fine"), (.str "machine")]) (v := (numS "number " v_deed)) rfl rfl ?_ (ok_3 [] v_deed h_v_deed).2 (of_decide_eq_true (by kernel_rfl))
    exact (m18_s2 x0 x1 a5 b5 c5 v_none v_place v_deed v_owner v_order _ h_v_deed)
  have t18 : lb40_11_2 (GK 20) [some (.ref 2), some cv4, some cv6, some v_none, some v_place, some v_deed, some v_owner, some v_order, some (.ref 3), some (.lst [(.str "machine"), (numS "number " v_place), (.str "fine"), (.str "machine"), (numS "number " v_deed), (.str "fine")]), some (.fn 35)] [x0, x1, SC a5 b5 c5, .lst [(.str "machine"), (numS "number " v_place), (.str "fine"), (.str "machine"), (numS "number " v_deed), (.str "fine"), (.str "machine"), (numS "number " v_deed)]] = .nx [some (.ref 2), some cv4, some cv6, some v_none, some v_place, some v_deed, some v_owner, some v_order, some (.ref 3), some (.lst [(.str "machine"), (numS "number " v_place), (.str "fine"), (.str "machine"), (numS "number " v_deed), (.str "fine")]), some (.fn 35)] [x0, x1, SC a5 b5 c5, .lst [(.str "machine"), (numS "number " v_place), (.str "fine"), (.str "machine"), (numS "number " v_deed), (.str "fine"), (.str "machine"), (numS "number " v_deed), (.str "fine")]] := by
    refine app_nx (n := 3) (xs := [(.str "machine"), (numS "number " v_place), (.str "fine"), (.str "machine"), (numS "number " v_deed), (.str "fine"), (.str "machine"), (numS "number " v_deed)]) (v := (.str "fine")) rfl rfl ?_ (ok_2 []).2 (of_decide_eq_true (by kernel_rfl))
    exact (m19_s2 x0 x1 a5 b5 c5 v_none v_place v_deed v_owner v_order _)
  have t19 : lb40_11_3 (GK 20) [some (.ref 2), some cv4, some cv6, some v_none, some v_place, some v_deed, some v_owner, some v_order, some (.ref 3), some (.lst [(.str "machine"), (numS "number " v_place), (.str "fine"), (.str "machine"), (numS "number " v_deed), (.str "fine")]), some (.fn 35)] [x0, x1, SC a5 b5 c5, .lst [(.str "machine"), (numS "number " v_place), (.str "fine"), (.str "machine"), (numS "number " v_deed), (.str "fine"), (.str "machine"), (numS "number " v_deed), (.str "fine")]] = .nx [some (.ref 2), some cv4, some cv6, some v_none, some v_place, some v_deed, some v_owner, some v_order, some (.ref 3), some (.lst [(.str "machine"), (numS "number " v_place), (.str "fine"), (.str "machine"), (numS "number " v_deed), (.str "fine"), (.str "machine"), (numS "number " v_deed), (.str "fine")]), some (.fn 35)] [x0, x1, SC a5 b5 c5, .lst [(.str "machine"), (numS "number " v_place), (.str "fine"), (.str "machine"), (numS "number " v_deed), (.str "fine"), (.str "machine"), (numS "number " v_deed), (.str "fine")]] := st20_s2 x0 x1 a5 b5 c5 v_none v_place v_deed v_owner v_order _ h_v_deed
  have t20 : b40_11 (GK 20) [some (.ref 2), some cv4, some cv6, some v_none, some v_place, some v_deed, some v_owner, some v_order, some (.ref 3), some (.lst [(.str "machine"), (numS "number " v_place), (.str "fine")]), none] [x0, x1, SC a5 b5 c5, .lst [(.str "machine"), (numS "number " v_place), (.str "fine")]] = .nx [some (.ref 2), some cv4, some cv6, some v_none, some v_place, some v_deed, some v_owner, some v_order, some (.ref 3), some (.lst [(.str "machine"), (numS "number " v_place), (.str "fine"), (.str "machine"), (numS "number " v_deed), (.str "fine"), (.str "machine"), (numS "number " v_deed), (.str "fine")]), some (.fn 35)] [x0, x1, SC a5 b5 c5, .lst [(.str "machine"), (numS "number " v_place), (.str "fine"), (.str "machine"), (numS "number " v_deed), (.str "fine"), (.str "machine"), (numS "number " v_deed), (.str "fine")]] := by
    rw [le40_11]
    refine for_go (it12_s2 x0 x1 a5 b5 c5 v_none v_place v_deed v_owner v_order _) rfl ?_
    refine (for_step (env1 := [some (.ref 2), some cv4, some cv6, some v_none, some v_place, some v_deed, some v_owner, some v_order, some (.ref 3), some (.lst [(.str "machine"), (numS "number " v_place), (.str "fine")]), some (.fn 31)]) (env2 := [some (.ref 2), some cv4, some cv6, some v_none, some v_place, some v_deed, some v_owner, some v_order, some (.ref 3), some (.lst [(.str "machine"), (numS "number " v_place), (.str "fine"), (.str "machine"), (numS "number " v_deed), (.str "fine")]), some (.fn 31)]) (h2 := [x0, x1, SC a5 b5 c5, .lst [(.str "machine"), (numS "number " v_place), (.str "fine"), (.str "machine"), (numS "number " v_deed), (.str "fine")]]) rfl rfl (by rw [seq_nx t12]; rw [seq_nx t13]; rw [seq_nx t14]; exact t15)).trans ?_
    refine (for_step (env1 := [some (.ref 2), some cv4, some cv6, some v_none, some v_place, some v_deed, some v_owner, some v_order, some (.ref 3), some (.lst [(.str "machine"), (numS "number " v_place), (.str "fine"), (.str "machine"), (numS "number " v_deed), (.str "fine")]), some (.fn 35)]) (env2 := [some (.ref 2), some cv4, some cv6, some v_none, some v_place, some v_deed, some v_owner, some v_order, some (.ref 3), some (.lst [(.str "machine"), (numS "number " v_place), (.str "fine"), (.str "machine"), (numS "number " v_deed), (.str "fine"), (.str "machine"), (numS "number " v_deed), (.str "fine")]), some (.fn 35)]) (h2 := [x0, x1, SC a5 b5 c5, .lst [(.str "machine"), (numS "number " v_place), (.str "fine"), (.str "machine"), (numS "number " v_deed), (.str "fine"), (.str "machine"), (numS "number " v_deed), (.str "fine")]]) rfl rfl (by rw [seq_nx t16]; rw [seq_nx t17]; rw [seq_nx t18]; exact t19)).trans ?_
    exact for_end rfl
  have t21 : b40_12 (GK 20) [some (.ref 2), some cv4, some cv6, some v_none, some v_place, some v_deed, some v_owner, some v_order, some (.ref 3), some (.lst [(.str "machine"), (numS "number " v_place), (.str "fine"), (.str "machine"), (numS "number " v_deed), (.str "fine"), (.str "machine"), (numS "number " v_deed), (.str "fine")]), some (.fn 35)] [x0, x1, SC a5 b5 c5, .lst [(.str "machine"), (numS "number " v_place), (.str "fine"), (.str "machine"), (numS "number " v_deed), (.str "fine"), (.str "machine"), (numS "number " v_deed), (.str "fine")]] = .nx [some (.ref 2), some cv4, some cv6, some v_none, some v_place, some v_deed, some v_owner, some v_order, some (.ref 3), some (.lst [(.str "machine"), (numS "number " v_place), (.str "fine"), (.str "machine"), (numS "number " v_deed), (.str "fine"), (.str "machine"), (numS "number " v_deed), (.str "fine")]), some (.fn 35)] [x0, x1, SC a5 b5 c5, .lst [(.str "machine"), (numS "number " v_place), (.str "fine"), (.str "machine"), (numS "number " v_deed), (.str "fine"), (.str "machine"), (numS "number " v_deed), (.str "fine"), (.str "machine")]] := by
    refine app_nx (n := 3) (xs := [(.str "machine"), (numS "number " v_place), (.str "fine"), (.str "machine"), (numS "number " v_deed), (.str "fine"), (.str "machine"), (numS "number " v_deed), (.str "fine")]) (v := (.str "machine")) rfl rfl ?_ (ok_0 []).2 (of_decide_eq_true (by kernel_rfl))
    exact (m21_s2 x0 x1 a5 b5 c5 v_none v_place v_deed v_owner v_order _ h_v_none h_v_place h_v_owner)
  have t22 : b40_13 (GK 20) [some (.ref 2), some cv4, some cv6, some v_none, some v_place, some v_deed, some v_owner, some v_order, some (.ref 3), some (.lst [(.str "machine"), (numS "number " v_place), (.str "fine"), (.str "machine"), (numS "number " v_deed), (.str "fine"), (.str "machine"), (numS "number " v_deed), (.str "fine")]), some (.fn 35)] [x0, x1, SC a5 b5 c5, .lst [(.str "machine"), (numS "number " v_place), (.str "fine"), (.str "machine"), (numS "number " v_deed), (.str "fine"), (.str "machine"), (numS "number " v_deed), (.str "fine"), (.str "machine")]] = .nx [some (.ref 2), some cv4, some cv6, some v_none, some v_place, some v_deed, some v_owner, some v_order, some (.ref 3), some (.lst [(.str "machine"), (numS "number " v_place), (.str "fine"), (.str "machine"), (numS "number " v_deed), (.str "fine"), (.str "machine"), (numS "number " v_deed), (.str "fine")]), some (.fn 35)] [x0, x1, SC a5 b5 c5, .lst [(.str "machine"), (numS "number " v_place), (.str "fine"), (.str "machine"), (numS "number " v_deed), (.str "fine"), (.str "machine"), (numS "number " v_deed), (.str "fine"), (.str "machine"), (numS "number " v_place)]] := by
    refine app_nx (n := 3) (xs := [(.str "machine"), (numS "number " v_place), (.str "fine"), (.str "machine"), (numS "number " v_deed), (.str "fine"), (.str "machine"), (numS "number " v_deed), (.str "fine"), (.str "machine")]) (v := (numS "number " v_place)) rfl rfl ?_ (ok_1 [] v_place h_v_place).2 (of_decide_eq_true (by kernel_rfl))
    exact (m22_s2 x0 x1 a5 b5 c5 v_none v_place v_deed v_owner v_order _ h_v_place h_v_owner)
  have t23 : b40_14 (GK 20) [some (.ref 2), some cv4, some cv6, some v_none, some v_place, some v_deed, some v_owner, some v_order, some (.ref 3), some (.lst [(.str "machine"), (numS "number " v_place), (.str "fine"), (.str "machine"), (numS "number " v_deed), (.str "fine"), (.str "machine"), (numS "number " v_deed), (.str "fine")]), some (.fn 35)] [x0, x1, SC a5 b5 c5, .lst [(.str "machine"), (numS "number " v_place), (.str "fine"), (.str "machine"), (numS "number " v_deed), (.str "fine"), (.str "machine"), (numS "number " v_deed), (.str "fine"), (.str "machine"), (numS "number " v_place)]] = .nx [some (.ref 2), some cv4, some cv6, some v_none, some v_place, some v_deed, some v_owner, some v_order, some (.ref 3), some (.lst [(.str "machine"), (numS "number " v_place), (.str "fine"), (.str "machine"), (numS "number " v_deed), (.str "fine"), (.str "machine"), (numS "number " v_deed), (.str "fine")]), some (.fn 35)] [x0, x1, SC a5 b5 c5, .lst [(.str "machine"), (numS "number " v_place), (.str "fine"), (.str "machine"), (numS "number " v_deed), (.str "fine"), (.str "machine"), (numS "number " v_deed), (.str "fine"), (.str "machine"), (numS "number " v_place), (.str "operation")]] := by
    refine app_nx (n := 3) (xs := [(.str "machine"), (numS "number " v_place), (.str "fine"), (.str "machine"), (numS "number " v_deed), (.str "fine"), (.str "machine"), (numS "number " v_deed), (.str "fine"), (.str "machine"), (numS "number " v_place)]) (v := (.str "operation")) rfl rfl ?_ (ok_4 []).2 (of_decide_eq_true (by kernel_rfl))
    exact (m23_s2 x0 x1 a5 b5 c5 v_none v_place v_deed v_owner v_order _ h_v_owner)
  have t24 : b40_15 (GK 20) [some (.ref 2), some cv4, some cv6, some v_none, some v_place, some v_deed, some v_owner, some v_order, some (.ref 3), some (.lst [(.str "machine"), (numS "number " v_place), (.str "fine"), (.str "machine"), (numS "number " v_deed), (.str "fine"), (.str "machine"), (numS "number " v_deed), (.str "fine")]), some (.fn 35)] [x0, x1, SC a5 b5 c5, .lst [(.str "machine"), (numS "number " v_place), (.str "fine"), (.str "machine"), (numS "number " v_deed), (.str "fine"), (.str "machine"), (numS "number " v_deed), (.str "fine"), (.str "machine"), (numS "number " v_place), (.str "operation")]] = .nx [some (.ref 2), some cv4, some cv6, some v_none, some v_place, some v_deed, some v_owner, some v_order, some (.ref 3), some (.lst [(.str "machine"), (numS "number " v_place), (.str "fine"), (.str "machine"), (numS "number " v_deed), (.str "fine"), (.str "machine"), (numS "number " v_deed), (.str "fine")]), some (.fn 35)] [x0, x1, SC a5 b5 c5, .lst [(.str "machine"), (numS "number " v_place), (.str "fine"), (.str "machine"), (numS "number " v_deed), (.str "fine"), (.str "machine"), (numS "number " v_deed), (.str "fine"), (.str "machine"), (numS "number " v_place), (.str "operation"), (.str "fine")]] := by
    refine app_nx (n := 3) (xs := [(.str "machine"), (numS "number " v_place), (.str "fine"), (.str "machine"), (numS "number " v_deed), (.str "fine"), (.str "machine"), (numS "number " v_deed), (.str "fine"), (.str "machine"), (numS "number " v_place), (.str "operation")]) (v := (.str "fine")) rfl rfl ?_ (ok_2 []).2 (of_decide_eq_true (by kernel_rfl))
    exact (m24_s2 x0 x1 a5 b5 c5 v_none v_place v_deed v_owner v_order _)
  have t25 : b40_16 (GK 20) [some (.ref 2), some cv4, some cv6, some v_none, some v_place, some v_deed, some v_owner, some v_order, some (.ref 3), some (.lst [(.str "machine"), (numS "number " v_place), (.str "fine"), (.str "machine"), (numS "number " v_deed), (.str "fine"), (.str "machine"), (numS "number " v_deed), (.str "fine")]), some (.fn 35)] [x0, x1, SC a5 b5 c5, .lst [(.str "machine"), (numS "number " v_place), (.str "fine"), (.str "machine"), (numS "number " v_deed), (.str "fine"), (.str "machine"), (numS "number " v_deed), (.str "fine"), (.str "machine"), (numS "number " v_place), (.str "operation"), (.str "fine")]] = .nx [some (.ref 2), some cv4, some cv6, some v_none, some v_place, some v_deed, some v_owner, some v_order, some (.ref 3), some (.lst [(.str "machine"), (numS "number " v_place), (.str "fine"), (.str "machine"), (numS "number " v_deed), (.str "fine"), (.str "machine"), (numS "number " v_deed), (.str "fine")]), some (.fn 35)] [x0, x1, SC a5 b5 c5, .lst [(.str "machine"), (numS "number " v_place), (.str "fine"), (.str "machine"), (numS "number " v_deed), (.str "fine"), (.str "machine"), (numS "number " v_deed), (.str "fine"), (.str "machine"), (numS "number " v_place), (.str "operation"), (.str "fine"), (.str "machine")]] := by
    refine app_nx (n := 3) (xs := [(.str "machine"), (numS "number " v_place), (.str "fine"), (.str "machine"), (numS "number " v_deed), (.str "fine"), (.str "machine"), (numS "number " v_deed), (.str "fine"), (.str "machine"), (numS "number " v_place), (.str "operation"), (.str "fine")]) (v := (.str "machine")) rfl rfl ?_ (ok_0 []).2 (of_decide_eq_true (by kernel_rfl))
    exact (m25_s2 x0 x1 a5 b5 c5 v_none v_place v_deed v_owner v_order _ h_v_none h_v_order)
  have t26 : b40_17 (GK 20) [some (.ref 2), some cv4, some cv6, some v_none, some v_place, some v_deed, some v_owner, some v_order, some (.ref 3), some (.lst [(.str "machine"), (numS "number " v_place), (.str "fine"), (.str "machine"), (numS "number " v_deed), (.str "fine"), (.str "machine"), (numS "number " v_deed), (.str "fine")]), some (.fn 35)] [x0, x1, SC a5 b5 c5, .lst [(.str "machine"), (numS "number " v_place), (.str "fine"), (.str "machine"), (numS "number " v_deed), (.str "fine"), (.str "machine"), (numS "number " v_deed), (.str "fine"), (.str "machine"), (numS "number " v_place), (.str "operation"), (.str "fine"), (.str "machine")]] = .nx [some (.ref 2), some cv4, some cv6, some v_none, some v_place, some v_deed, some v_owner, some v_order, some (.ref 3), some (.lst [(.str "machine"), (numS "number " v_place), (.str "fine"), (.str "machine"), (numS "number " v_deed), (.str "fine"), (.str "machine"), (numS "number " v_deed), (.str "fine")]), some (.fn 35)] [x0, x1, SC a5 b5 c5, .lst [(.str "machine"), (numS "number " v_place), (.str "fine"), (.str "machine"), (numS "number " v_deed), (.str "fine"), (.str "machine"), (numS "number " v_deed), (.str "fine"), (.str "machine"), (numS "number " v_place), (.str "operation"), (.str "fine"), (.str "machine"), (.str "places")]] := by
    refine app_nx (n := 3) (xs := [(.str "machine"), (numS "number " v_place), (.str "fine"), (.str "machine"), (numS "number " v_deed), (.str "fine"), (.str "machine"), (numS "number " v_deed), (.str "fine"), (.str "machine"), (numS "number " v_place), (.str "operation"), (.str "fine"), (.str "machine")]) (v := (.str "places")) rfl rfl ?_ (ok_5 []).2 (of_decide_eq_true (by kernel_rfl))
    exact (m26_s2 x0 x1 a5 b5 c5 v_none v_place v_deed v_owner v_order _ h_v_order)
  have t27 : b40_18 (GK 20) [some (.ref 2), some cv4, some cv6, some v_none, some v_place, some v_deed, some v_owner, some v_order, some (.ref 3), some (.lst [(.str "machine"), (numS "number " v_place), (.str "fine"), (.str "machine"), (numS "number " v_deed), (.str "fine"), (.str "machine"), (numS "number " v_deed), (.str "fine")]), some (.fn 35)] [x0, x1, SC a5 b5 c5, .lst [(.str "machine"), (numS "number " v_place), (.str "fine"), (.str "machine"), (numS "number " v_deed), (.str "fine"), (.str "machine"), (numS "number " v_deed), (.str "fine"), (.str "machine"), (numS "number " v_place), (.str "operation"), (.str "fine"), (.str "machine"), (.str "places")]] = .nx [some (.ref 2), some cv4, some cv6, some v_none, some v_place, some v_deed, some v_owner, some v_order, some (.ref 3), some (.lst [(.str "machine"), (numS "number " v_place), (.str "fine"), (.str "machine"), (numS "number " v_deed), (.str "fine"), (.str "machine"), (numS "number " v_deed), (.str "fine")]), some (.fn 35)] [x0, x1, SC a5 b5 c5, .lst [(.str "machine"), (numS "number " v_place), (.str "fine"), (.str "machine"), (numS "number " v_deed), (.str "fine"), (.str "machine"), (numS "number " v_deed), (.str "fine"), (.str "machine"), (numS "number " v_place), (.str "operation"), (.str "fine"), (.str "machine"), (.str "places"), (.str "fine")]] := by
    refine app_nx (n := 3) (xs := [(.str "machine"), (numS "number " v_place), (.str "fine"), (.str "machine"), (numS "number " v_deed), (.str "fine"), (.str "machine"), (numS "number " v_deed), (.str "fine"), (.str "machine"), (numS "number " v_place), (.str "operation"), (.str "fine"), (.str "machine"), (.str "places")]) (v := (.str "fine")) rfl rfl ?_ (ok_2 []).2 (of_decide_eq_true (by kernel_rfl))
    exact (m27_s2 x0 x1 a5 b5 c5 v_none v_place v_deed v_owner v_order _)
  have t28 : b40_19 (GK 20) [some (.ref 2), some cv4, some cv6, some v_none, some v_place, some v_deed, some v_owner, some v_order, some (.ref 3), some (.lst [(.str "machine"), (numS "number " v_place), (.str "fine"), (.str "machine"), (numS "number " v_deed), (.str "fine"), (.str "machine"), (numS "number " v_deed), (.str "fine")]), some (.fn 35)] [x0, x1, SC a5 b5 c5, .lst [(.str "machine"), (numS "number " v_place), (.str "fine"), (.str "machine"), (numS "number " v_deed), (.str "fine"), (.str "machine"), (numS "number " v_deed), (.str "fine"), (.str "machine"), (numS "number " v_place), (.str "operation"), (.str "fine"), (.str "machine"), (.str "places"), (.str "fine")]] = .nx [some (.ref 2), some cv4, some cv6, some v_none, some v_place, some v_deed, some v_owner, some v_order, some (.ref 3), some (.lst [(.str "machine"), (numS "number " v_place), (.str "fine"), (.str "machine"), (numS "number " v_deed), (.str "fine"), (.str "machine"), (numS "number " v_deed), (.str "fine"), (.str "machine"), (numS "number " v_place), (.str "operation"), (.str "fine"), (.str "machine"), (.str "places"), (.str "fine")]), some (.fn 35)] [x0, x1, SC a5 b5 c5, .lst [(.str "machine"), (numS "number " v_place), (.str "fine"), (.str "machine"), (numS "number " v_deed), (.str "fine"), (.str "machine"), (numS "number " v_deed), (.str "fine"), (.str "machine"), (numS "number " v_place), (.str "operation"), (.str "fine"), (.str "machine"), (.str "places"), (.str "fine")]] := st28_s2 x0 x1 a5 b5 c5 v_none v_place v_deed v_owner v_order _ h_v_place
  have t29 : b40_20 (GK 20) [some (.ref 2), some cv4, some cv6, some v_none, some v_place, some v_deed, some v_owner, some v_order, some (.ref 3), some (.lst [(.str "machine"), (numS "number " v_place), (.str "fine"), (.str "machine"), (numS "number " v_deed), (.str "fine"), (.str "machine"), (numS "number " v_deed), (.str "fine"), (.str "machine"), (numS "number " v_place), (.str "operation"), (.str "fine"), (.str "machine"), (.str "places"), (.str "fine")]), some (.fn 35)] [x0, x1, SC a5 b5 c5, .lst [(.str "machine"), (numS "number " v_place), (.str "fine"), (.str "machine"), (numS "number " v_deed), (.str "fine"), (.str "machine"), (numS "number " v_deed), (.str "fine"), (.str "machine"), (numS "number " v_place), (.str "operation"), (.str "fine"), (.str "machine"), (.str "places"), (.str "fine")]] = .nx [some (.ref 2), some cv4, some cv6, some v_none, some v_place, some v_deed, some v_owner, some v_order, some (.ref 3), some (.lst [(.str "machine"), (numS "number " v_place), (.str "fine"), (.str "machine"), (numS "number " v_deed), (.str "fine"), (.str "machine"), (numS "number " v_deed), (.str "fine"), (.str "machine"), (numS "number " v_place), (.str "operation"), (.str "fine"), (.str "machine"), (.str "places"), (.str "fine")]), some (.fn 35)] [x0, x1, SC a5 b5 c5, .lst [(.str "machine"), (numS "number " v_place), (.str "fine"), (.str "machine"), (numS "number " v_deed), (.str "fine"), (.str "machine"), (numS "number " v_deed), (.str "fine"), (.str "machine"), (numS "number " v_place), (.str "operation"), (.str "fine"), (.str "machine"), (.str "places"), (.str "fine"), (.str "machine")]] := by
    refine app_nx (n := 3) (xs := [(.str "machine"), (numS "number " v_place), (.str "fine"), (.str "machine"), (numS "number " v_deed), (.str "fine"), (.str "machine"), (numS "number " v_deed), (.str "fine"), (.str "machine"), (numS "number " v_place), (.str "operation"), (.str "fine"), (.str "machine"), (.str "places"), (.str "fine")]) (v := (.str "machine")) rfl rfl ?_ (ok_0 []).2 (of_decide_eq_true (by kernel_rfl))
    exact (m29_s2 x0 x1 a5 b5 c5 v_none v_place v_deed v_owner v_order _ h_v_none)
  have t30 : b40_21 (GK 20) [some (.ref 2), some cv4, some cv6, some v_none, some v_place, some v_deed, some v_owner, some v_order, some (.ref 3), some (.lst [(.str "machine"), (numS "number " v_place), (.str "fine"), (.str "machine"), (numS "number " v_deed), (.str "fine"), (.str "machine"), (numS "number " v_deed), (.str "fine"), (.str "machine"), (numS "number " v_place), (.str "operation"), (.str "fine"), (.str "machine"), (.str "places"), (.str "fine")]), some (.fn 35)] [x0, x1, SC a5 b5 c5, .lst [(.str "machine"), (numS "number " v_place), (.str "fine"), (.str "machine"), (numS "number " v_deed), (.str "fine"), (.str "machine"), (numS "number " v_deed), (.str "fine"), (.str "machine"), (numS "number " v_place), (.str "operation"), (.str "fine"), (.str "machine"), (.str "places"), (.str "fine"), (.str "machine")]] = .nx [some (.ref 2), some cv4, some cv6, some v_none, some v_place, some v_deed, some v_owner, some v_order, some (.ref 3), some (.lst [(.str "machine"), (numS "number " v_place), (.str "fine"), (.str "machine"), (numS "number " v_deed), (.str "fine"), (.str "machine"), (numS "number " v_deed), (.str "fine"), (.str "machine"), (numS "number " v_place), (.str "operation"), (.str "fine"), (.str "machine"), (.str "places"), (.str "fine")]), some (.fn 35)] [x0, x1, SC a5 b5 c5, .lst [(.str "machine"), (numS "number " v_place), (.str "fine"), (.str "machine"), (numS "number " v_deed), (.str "fine"), (.str "machine"), (numS "number " v_deed), (.str "fine"), (.str "machine"), (numS "number " v_place), (.str "operation"), (.str "fine"), (.str "machine"), (.str "places"), (.str "fine"), (.str "machine"), (.str "machine")]] := by
    refine app_nx (n := 3) (xs := [(.str "machine"), (numS "number " v_place), (.str "fine"), (.str "machine"), (numS "number " v_deed), (.str "fine"), (.str "machine"), (numS "number " v_deed), (.str "fine"), (.str "machine"), (numS "number " v_place), (.str "operation"), (.str "fine"), (.str "machine"), (.str "places"), (.str "fine"), (.str "machine")]) (v := (.str "machine")) rfl rfl ?_ (ok_0 []).2 (of_decide_eq_true (by kernel_rfl))
    exact (m30_s2 x0 x1 a5 b5 c5 v_none v_place v_deed v_owner v_order _ h_v_owner)
  have t31 : b40_22 (GK 20) [some (.ref 2), some cv4, some cv6, some v_none, some v_place, some v_deed, some v_owner, some v_order, some (.ref 3), some (.lst [(.str "machine"), (numS "number " v_place), (.str "fine"), (.str "machine"), (numS "number " v_deed), (.str "fine"), (.str "machine"), (numS "number " v_deed), (.str "fine"), (.str "machine"), (numS "number " v_place), (.str "operation"), (.str "fine"), (.str "machine"), (.str "places"), (.str "fine")]), some (.fn 35)] [x0, x1, SC a5 b5 c5, .lst [(.str "machine"), (numS "number " v_place), (.str "fine"), (.str "machine"), (numS "number " v_deed), (.str "fine"), (.str "machine"), (numS "number " v_deed), (.str "fine"), (.str "machine"), (numS "number " v_place), (.str "operation"), (.str "fine"), (.str "machine"), (.str "places"), (.str "fine"), (.str "machine"), (.str "machine")]] = .ret (.bl true) [x0, x1, SC a5 b5 c5, .lst [(.str "machine"), (numS "number " v_place), (.str "fine"), (.str "machine"), (numS "number " v_deed), (.str "fine"), (.str "machine"), (numS "number " v_deed), (.str "fine"), (.str "machine"), (numS "number " v_place), (.str "operation"), (.str "fine"), (.str "machine"), (.str "places"), (.str "fine"), (.str "machine"), (.str "machine")]] := ret_eq rfl rfl (du31_s2 x0 x1 a5 b5 c5 v_none v_place v_deed v_owner v_order _) (okL_cons (ok_0 _).1 (okL_cons (ok_1 _ v_place h_v_place).1 (okL_cons (ok_2 _).1 (okL_cons (ok_0 _).1 (okL_cons (ok_3 _ v_deed h_v_deed).1 (okL_cons (ok_2 _).1 (okL_cons (ok_0 _).1 (okL_cons (ok_3 _ v_deed h_v_deed).1 (okL_cons (ok_2 _).1 (okL_cons (ok_0 _).1 (okL_cons (ok_1 _ v_place h_v_place).1 (okL_cons (ok_4 _).1 (okL_cons (ok_2 _).1 (okL_cons (ok_0 _).1 (okL_cons (ok_5 _).1 (okL_cons (ok_2 _).1 (okL_cons (ok_0 _).1 (okL_cons (ok_0 _).1 rfl))))))))))))))))))
  refine ⟨a5, b5, c5, ?_⟩
  have e : b40 (GK 20) [some (.ref 2), none, none, none, none, none, none, none, none, none, none] [x0, x1, SC a0 b0 c0] = .ret (.bl true) [x0, x1, SC a5 b5 c5, .lst [(.str "machine"), (numS "number " v_place), (.str "fine"), (.str "machine"), (numS "number " v_deed), (.str "fine"), (.str "machine"), (numS "number " v_deed), (.str "fine"), (.str "machine"), (numS "number " v_place), (.str "operation"), (.str "fine"), (.str "machine"), (.str "places"), (.str "fine"), (.str "machine"), (.str "machine")]] := by
    unfold b40
    rw [seq_nx t1]
    rw [seq_nx t2]
    rw [seq_nx t3]
    rw [seq_nx t4]
    rw [seq_nx t5]
    rw [seq_nx t6]
    rw [seq_nx t7]
    rw [seq_nx t8]
    rw [seq_nx t9]
    rw [seq_nx t10]
    rw [seq_nx t11]
    rw [seq_nx t20]
    rw [seq_nx t21]
    rw [seq_nx t22]
    rw [seq_nx t23]
    rw [seq_nx t24]
    rw [seq_nx t25]
    rw [seq_nx t26]
    rw [seq_nx t27]
    rw [seq_nx t28]
    rw [seq_nx t29]
    rw [seq_nx t30]
    exact t31
  rw [gk40]
  rw [run_eq (rc := false) (n := 11) (args := [.ref 2]) e]
  kernel_rfl
theorem st1_s3 (x0 x1 x2 : Cell) (a b c : Int) : b40_0 (GK 20) [some (.ref 3), none, none, none, none, none, none, none, none, none, none] [x0, x1, x2, SC a b c] = .nx [some (.ref 3), some cv4, none, none, none, none, none, none, none, none, none] [x0, x1, x2, SC a b c] := by
  all_goals kernel_rfl
theorem st2_s3 (x0 x1 x2 : Cell) (a b c : Int) : b40_1 (GK 20) [some (.ref 3), some cv4, none, none, none, none, none, none, none, none, none] [x0, x1, x2, SC a b c] = .nx [some (.ref 3), some cv4, some cv6, none, none, none, none, none, none, none, none] [x0, x1, x2, SC a b c] := by
  all_goals kernel_rfl
theorem me3_s3 (x0 x1 x2 : Cell) (a b c : Int) : (evOf opLst (evCons (evC .non) (evCons (evC (.int 0)) (evCons (evVar 1) (evCons (evOf opList (evCons (evVar 1) evNil)) (evCons (evC (.str "machine")) (evCons (evOf opTup evNil) (evCons (evOf opLst (evCons (evVar 2) evNil)) (evCons (evC (.bl true)) evNil))))))))) (GK 20) [some (.ref 3), some cv4, some cv6, none, none, none, none, none, none, none, none] [x0, x1, x2, SC a b c] = .ok (.lst (menu_v_none)) [x0, x1, x2, SC a b c] := by
  all_goals kernel_rfl
theorem me4_s3 (x0 x1 x2 : Cell) (a b c : Int) (v_none : AV) : (evOf opLst (evCons (evC .non) (evCons (evOf1 negOp (evC (.int 1))) (evCons (evC (.int 2)) (evCons (evC (.bl true)) (evCons (evC (.str "0")) (evCons (evOf opTup (evCons (evC (.int 0)) evNil)) (evCons (evOp subOp (evC (.int 1)) (evOp powOp (evC (.int 10)) (evC (.int 59)))) evNil)))))))) (GK 20) [some (.ref 3), some cv4, some cv6, some v_none, none, none, none, none, none, none, none] [x0, x1, x2, SC a b c] = .ok (.lst (menu_v_place)) [x0, x1, x2, SC a b c] := by
  all_goals kernel_rfl
theorem me5_s3 (x0 x1 x2 : Cell) (a b c : Int) (v_none : AV) (v_place : AV) : (evOf opLst (evCons (evC .non) (evCons (evOf1 negOp (evC (.int 1))) (evCons (evC (.int 3)) (evCons (evC (.bl false)) (evCons (evC (.str "1")) (evCons (evOf opLst (evCons (evC (.int 1)) evNil)) (evCons (evOp powOp (evC (.int 10)) (evC (.int 59))) evNil)))))))) (GK 20) [some (.ref 3), some cv4, some cv6, some v_none, some v_place, none, none, none, none, none, none] [x0, x1, x2, SC a b c] = .ok (.lst (menu_v_deed)) [x0, x1, x2, SC a b c] := by
  all_goals kernel_rfl
theorem me6_s3 (x0 x1 x2 : Cell) (a b c : Int) (v_none : AV) (v_place : AV) (v_deed : AV) : (evOf opLst (evCons (evC .non) (evCons (evC (.str "")) (evCons (evC (.str "Own")) (evCons (evC (.str "foes")) (evCons (evC (.int 0)) (evCons (evOf opTup (evCons (evC (.str "own")) evNil)) (evCons (evOf opLst (evCons (evC (.str "own")) evNil)) (evCons (evC (.bl true)) evNil))))))))) (GK 20) [some (.ref 3), some cv4, some cv6, some v_none, some v_place, some v_deed, none, none, none, none, none] [x0, x1, x2, SC a b c] = .ok (.lst (menu_v_owner)) [x0, x1, x2, SC a b c] := by
  all_goals kernel_rfl
theorem me7_s3 (x0 x1 x2 : Cell) (a b c : Int) (v_none : AV) (v_place : AV) (v_deed : AV) (v_owner : AV) : (evOf opLst (evCons (evC .non) (evCons (evOf opTup evNil) (evCons (evOf opTup (evCons (evC (.int 0)) evNil)) (evCons (evOf opTup (evCons (evC (.int 0)) (evCons (evC (.int 0)) evNil))) (evCons (evOf opTup (evCons (evC (.int 0)) (evCons (evC (.int 1)) (evCons (evC (.int 2)) evNil)))) (evCons (evOf opLst (evCons (evC (.int 0)) (evCons (evC (.int 1)) evNil))) (evCons (evOf opTup (evCons (evC (.int 1)) (evCons (evC (.int 2)) evNil))) (evCons (evOf opTup (evCons (evC (.int 0)) (evCons (evC (.bl true)) evNil))) (evCons (evC (.str "01")) (evCons (evOf opTup (evCons (evC (.int 1)) (evCons (evC (.int 0)) (evCons (evC (.int 1)) evNil)))) (evCons (evDictC 0 1) evNil)))))))))))) (GK 20) [some (.ref 3), some cv4, some cv6, some v_none, some v_place, some v_deed, some v_owner, none, none, none, none] [x0, x1, x2, SC a b c] = .ok (.lst (menu_v_order)) [x0, x1, x2, SC a b c] := by
  all_goals kernel_rfl
theorem m8_s3 (x0 x1 x2 : Cell) (a b c : Int) (v_none : AV) (v_place : AV) (v_deed : AV) (v_owner : AV) (v_order : AV) (h_v_none : v_none ∈ menu_v_none) (h_v_place : v_place ∈ menu_v_place) : (evLam (hoM S.exs 2 bm39 cl39 br39) (evCall 2 30 (evCons (evVar 3) (evCons (evVar 4) evNil)))) (GK 20) [some (.ref 3), some cv4, some cv6, some v_none, some v_place, some v_deed, some v_owner, some v_order, none, none, none] [x0, x1, x2, SC a b c] = .ok (.str "machine") [x0, x1, x2, SC a b c] := by
  all_goals (try simp only [menu_v_place, List.mem_cons, List.not_mem_nil, or_false] at h_v_place)
  all_goals (rcases h_v_place with rfl | rfl | rfl | rfl | rfl | rfl | rfl)
  all_goals (try simp only [menu_v_none, List.mem_cons, List.not_mem_nil, or_false] at h_v_none)
  all_goals (rcases h_v_none with rfl | rfl | rfl | rfl | rfl | rfl | rfl | rfl)
  all_goals kernel_rfl
theorem m9_s3 (x0 x1 x2 : Cell) (a b c : Int) (v_none : AV) (v_place : AV) (v_deed : AV) (v_owner : AV) (v_order : AV) (ml : List AV) (h_v_place : v_place ∈ menu_v_place) : (evLam (hoM S.exs 2 bm39 cl39 br39) (evCall 2 30 (evCons (evVar 2) (evCons (evVar 4) evNil)))) (GK 20) [some (.ref 3), some cv4, some cv6, some v_none, some v_place, some v_deed, some v_owner, some v_order, some (.ref 4), none, none] [x0, x1, x2, SC a b c, .lst ml] = .ok (numS "number " v_place) [x0, x1, x2, SC a b c, .lst ml] := by
  all_goals (try simp only [menu_v_place, List.mem_cons, List.not_mem_nil, or_false] at h_v_place)
  all_goals (rcases h_v_place with rfl | rfl | rfl | rfl | rfl | rfl | rfl)
  all_goals kernel_rfl
theorem m10_s3 (x0 x1 x2 : Cell) (a b c : Int) (v_none : AV) (v_place : AV) (v_deed : AV) (v_owner : AV) (v_order : AV) (ml : List AV) : (evLam (hoM S.exs 2 bm39 cl39 br39) (evCall 2 30 (evCons (evVar 2) (evCons (evC (.int 1)) evNil)))) (GK 20) [some (.ref 3), some cv4, some cv6, some v_none, some v_place, some v_deed, some v_owner, some v_order, some (.ref 4), none, none] [x0, x1, x2, SC a b c, .lst ml] = .ok (.str "fine") [x0, x1, x2, SC a b c, .lst ml] := by
  all_goals kernel_rfl
theorem st11_s3 (x0 x1 x2 : Cell) (a b c : Int) (v_none : AV) (v_place : AV) (v_deed : AV) (v_owner : AV) (v_order : AV) (ml : List AV) (h_v_place : v_place ∈ menu_v_place) : b40_10 (GK 20) [some (.ref 3), some cv4, some cv6, some v_none, some v_place, some v_deed, some v_owner, some v_order, some (.ref 4), none, none] [x0, x1, x2, SC a b c, .lst ml] = .nx [some (.ref 3), some cv4, some cv6, some v_none, some v_place, some v_deed, some v_owner, some v_order, some (.ref 4), some (.lst [(.str "machine"), (numS "number " v_place), (.str "fine")]), none] [x0, x1, x2, SC a b c, .lst ml] := by
  all_goals (try simp only [menu_v_place, List.mem_cons, List.not_mem_nil, or_false] at h_v_place)
  all_goals (rcases h_v_place with rfl | rfl | rfl | rfl | rfl | rfl | rfl)
  all_goals kernel_rfl
theorem it12_s3 (x0 x1 x2 : Cell) (a b c : Int) (v_none : AV) (v_place : AV) (v_deed : AV) (v_owner : AV) (v_order : AV) (ml : List AV) : ((eiSeq (evOf opTup (evCons (evFn 31) (evCons (evFn 35) evNil)))) : EvI) (GK 20) [some (.ref 3), some cv4, some cv6, some v_none, some v_place, some v_deed, some v_owner, some v_order, some (.ref 4), some (.lst [(.str "machine"), (numS "number " v_place), (.str "fine")]), none] [x0, x1, x2, SC a b c, .lst ml] = .ok (.snap [(.fn 31), (.fn 35)]) [x0, x1, x2, SC a b c, .lst ml] := by kernel_rfl
theorem m13_s3 (x0 x1 x2 : Cell) (a b c : Int) (v_none : AV) (v_place : AV) (v_deed : AV) (v_owner : AV) (v_order : AV) (ml : List AV) (h_v_none : v_none ∈ menu_v_none) (h_v_deed : v_deed ∈ menu_v_deed) : (evLam (hoM S.exs 2 bm39 cl39 br39) (evCallV S.fns 10 (evCons (evVar 3) (evCons (evVar 5) evNil)))) (GK 20) [some (.ref 3), some cv4, some cv6, some v_none, some v_place, some v_deed, some v_owner, some v_order, some (.ref 4), some (.lst [(.str "machine"), (numS "number " v_place), (.str "fine")]), some (.fn 31)] [x0, x1, x2, SC a b c, .lst ml] = .ok (.str "machine") [x0, x1, x2, SC a b c, .lst ml] := by
  all_goals (try simp only [menu_v_deed, List.mem_cons, List.not_mem_nil, or_false] at h_v_deed)
  all_goals (rcases h_v_deed with rfl | rfl | rfl | rfl | rfl | rfl | rfl)
  all_goals (try simp only [menu_v_none, List.mem_cons, List.not_mem_nil, or_false] at h_v_none)
  all_goals (rcases h_v_none with rfl | rfl | rfl | rfl | rfl | rfl | rfl | rfl)
  all_goals kernel_rfl
theorem m14_s3 (x0 x1 x2 : Cell) (a b c : Int) (v_none : AV) (v_place : AV) (v_deed : AV) (v_owner : AV) (v_order : AV) (ml : List AV) (h_v_deed : v_deed ∈ menu_v_deed) : (evLam (hoM S.exs 2 bm39 cl39 br39) (evCallV S.fns 10 (evCons (evVar 2) (evCons (evVar 5) evNil)))) (GK 20) [some (.ref 3), some cv4, some cv6, some v_none, some v_place, some v_deed, some v_owner, some v_order, some (.ref 4), some (.lst [(.str "machine"), (numS "number " v_place), (.str "fine")]), some (.fn 31)] [x0, x1, x2, SC a b c, .lst ml] = .ok (numS "number " v_deed) [x0, x1, x2, SC a b c, .lst ml] := by
  all_goals (try simp only [menu_v_deed, List.mem_cons, List.not_mem_nil, or_false] at h_v_deed)
  all_goals (rcases h_v_deed with rfl | rfl | rfl | rfl | rfl | rfl | rfl)
  all_goals kernel_rfl
theorem m15_s3 (x0 x1 x2 : Cell) (a b c : Int) (v_none : AV) (v_place : AV) (v_deed : AV) (v_owner : AV) (v_order : AV) (ml : List AV) : (evLam (hoM S.exs 2 bm39 cl39 br39) (evCallV S.fns 10 (evCons (evVar 2) (evCons (evC (.int 2)) evNil)))) (GK 20) [some (.ref 3), some cv4, some cv6, some v_none, some v_place, some v_deed, some v_owner, some v_order, some (.ref 4), some (.lst [(.str "machine"), (numS "number " v_place), (.str "fine")]), some (.fn 31)] [x0, x1, x2, SC a b c, .lst ml] = .ok (.str "fine") [x0, x1, x2, SC a b c, .lst ml] := by
  all_goals kernel_rfl
theorem st16_s3 (x0 x1 x2 : Cell) (a b c : Int) (v_none : AV) (v_place : AV) (v_deed : AV) (v_owner : AV) (v_order : AV) (ml : List AV) (h_v_deed : v_deed ∈ menu_v_deed) : lb40_11_3 (GK 20) [some (.ref 3), some cv4, some cv6, some v_none, some v_place, some v_deed, some v_owner, some v_order, some (.ref 4), some (.lst [(.str "machine"), (numS "number " v_place), (.str "fine")]), some (.fn 31)] [x0, x1, x2, SC a b c, .lst ml] = .nx [some (.ref 3), some cv4, some cv6, some v_none, some v_place, some v_deed, some v_owner, some v_order, some (.ref 4), some (.lst [(.str "machine"), (numS "number " v_place), (.str "fine"), (.str "machine"), (numS "number " v_deed), (.str "fine")]), some (.fn 31)] [x0, x1, x2, SC a b c, .lst ml] := by
  all_goals (try simp only [menu_v_deed, List.mem_cons, List.not_mem_nil, or_false] at h_v_deed)
  all_goals (rcases h_v_deed with rfl | rfl | rfl | rfl | rfl | rfl | rfl)
  all_goals kernel_rfl
theorem m17_s3 (x0 x1 x2 : Cell) (a b c : Int) (v_none : AV) (v_place : AV) (v_deed : AV) (v_owner : AV) (v_order : AV) (ml : List AV) (h_v_none : v_none ∈ menu_v_none) (h_v_deed : v_deed ∈ menu_v_deed) : (evLam (hoM S.exs 2 bm39 cl39 br39) (evCallV S.fns 10 (evCons (evVar 3) (evCons (evVar 5) evNil)))) (GK 20) [some (.ref 3), some cv4, some cv6, some v_none, some v_place, some v_deed, some v_owner, some v_order, some (.ref 4), some (.lst [(.str "machine"), (numS "number " v_place), (.str "fine"), (.str "machine"), (numS "number " v_deed), (.str "fine")]), some (.fn 35)] [x0, x1, x2, SC a b c, .lst ml] = .ok (.str "machine") [x0, x1, x2, SC a b c, .lst ml] := by
  all_goals (try simp only [menu_v_deed, List.mem_cons, List.not_mem_nil, or_false] at h_v_deed)
  all_goals (rcases h_v_deed with rfl | rfl | rfl | rfl | rfl | rfl | rfl)
  all_goals (try simp only [menu_v_none, List.mem_cons, List.not_mem_nil, or_false] at h_v_none)
  all_goals (rcases h_v_none with rfl | rfl | rfl | rfl | rfl | rfl | rfl | rfl)
  all_goals kernel_rfl
theorem m18_s3 (x0 x1 x2 : Cell) (a b c : Int) (v_none : AV) (v_place : AV) (v_deed : AV) (v_owner : AV) (v_order : AV) (ml : List AV) (h_v_deed : v_deed ∈ menu_v_deed) : (evLam (hoM S.exs 2 bm39 cl39 br39) (evCallV S.fns 10 (evCons (evVar 2) (evCons (evVar 5) evNil)))) (GK 20) [some (.ref 3), some cv4, some cv6, some v_none, some v_place, some v_deed, some v_owner, some v_order, some (.ref 4), some (.lst [(.str "machine"), (numS "number " v_place), (.str "fine"), (.str "machine"), (numS "number " v_deed), (.str "fine")]), some (.fn 35)] [x0, x1, x2, SC a b c, .lst ml] = .ok (numS "number " v_deed) [x0, x1, x2, SC a b c, .lst ml] := by
  all_goals (try simp only [menu_v_deed, List.mem_cons, List.not_mem_nil, or_false] at h_v_deed)
  all_goals (rcases h_v_deed with rfl | rfl | rfl | rfl | rfl | rfl | rfl)
  all_goals kernel_rfl
theorem m19_s3 (x0 x1 x2 : Cell) (a b c : Int) (v_none : AV) (v_place : AV) (v_deed : AV) (v_owner : AV) (v_order : AV) (ml : List AV) : (evLam (hoM S.exs 2 bm39 cl39 br39) (evCallV S.fns 10 (evCons (evVar 2) (evCons (evC (.int 2)) evNil)))) (GK 20) [some (.ref 3), some cv4, some cv6, some v_none, some v_place, some v_deed, some v_owner, some v_order, some (.ref 4), some (.lst [(.str "machine"), (numS "number " v_place), (.str "fine"), (.str "machine"), (numS "number " v_deed), (.str "fine")]), some (.fn 35)] [x0, x1, x2, SC a b c, .lst ml] = .ok (.str "fine") [x0, x1, x2, SC a b c, .lst ml] := by
  all_goals kernel_rfl
theorem st20_s3 (x0 x1 x2 : Cell) (a b c : Int) (v_none : AV) (v_place : AV) (v_deed : AV) (v_owner : AV) (v_order : AV) (ml : List AV) (h_v_deed : v_deed ∈ menu_v_deed) : lb40_11_3 (GK 20) [some (.ref 3), some cv4, some cv6, some v_none, some v_place, some v_deed, some v_owner, some v_order, some (.ref 4), some (.lst [(.str "machine"), (numS "number " v_place), (.str "fine"), (.str "machine"), (numS "number " v_deed), (.str "fine")]), some (.fn 35)] [x0, x1, x2, SC a b c, .lst ml] = .nx [some (.ref 3), some cv4, some cv6, some v_none, some v_place, some v_deed, some v_owner, some v_order, some (.ref 4), some (.lst [(.str "machine"), (numS "number " v_place), (.str "fine"), (.str "machine"), (numS "number " v_deed), (.str "fine"), (.str "machine"), (numS "number " v_deed), (.str "fine")]), some (.fn 35)] [x0, x1, x2, SC a b c, .lst ml] := by
  all_goals (try simp only [menu_v_deed, List.mem_cons, List.not_mem_nil, or_false] at h_v_deed)
  all_goals (rcases h_v_deed with rfl | rfl | rfl | rfl | rfl | rfl | rfl)
  all_goals kernel_rfl
theorem m21_s3 (x0 x1 x2 : Cell) (a b c : Int) (v_none : AV) (v_place : AV) (v_deed : AV) (v_owner : AV) (v_order : AV) (ml : List AV) (h_v_none : v_none ∈ menu_v_none) (h_v_place : v_place ∈ menu_v_place) (h_v_owner : v_owner ∈ menu_v_owner) : (evLam (hoM S.exs 2 bm39 cl39 br39) (evCall 3 32 (evCons (evVar 3) (evCons (evVar 4) (evCons (evVar 6) evNil))))) (GK 20) [some (.ref 3), some cv4, some cv6, some v_none, some v_place, some v_deed, some v_owner, some v_order, some (.ref 4), some (.lst [(.str "machine"), (numS "number " v_place), (.str "fine"), (.str "machine"), (numS "number " v_deed), (.str "fine"), (.str "machine"), (numS "number " v_deed), (.str "fine")]), some (.fn 35)] [x0, x1, x2, SC a b c, .lst ml] = .ok (.str "machine") [x0, x1, x2, SC a b c, .lst ml] := by
  all_goals (try simp only [menu_v_owner, List.mem_cons, List.not_mem_nil, or_false] at h_v_owner)
  all_goals (rcases h_v_owner with rfl | rfl | rfl | rfl | rfl | rfl | rfl | rfl)
  all_goals (try simp only [menu_v_place, List.mem_cons, List.not_mem_nil, or_false] at h_v_place)
  all_goals (rcases h_v_place with rfl | rfl | rfl | rfl | rfl | rfl | rfl)
  all_goals (try simp only [menu_v_none, List.mem_cons, List.not_mem_nil, or_false] at h_v_none)
  all_goals (rcases h_v_none with rfl | rfl | rfl | rfl | rfl | rfl | rfl | rfl)
  all_goals kernel_rfl
theorem m22_s3 (x0 x1 x2 : Cell) (a b c : Int) (v_none : AV) (v_place : AV) (v_deed : AV) (v_owner : AV) (v_order : AV) (ml : List AV) (h_v_place : v_place ∈ menu_v_place) (h_v_owner : v_owner ∈ menu_v_owner) : (evLam (hoM S.exs 2 bm39 cl39 br39) (evCall 3 32 (evCons (evVar 2) (evCons (evVar 4) (evCons (evVar 6) evNil))))) (GK 20) [some (.ref 3), some cv4, some cv6, some v_none, some v_place, some v_deed, some v_owner, some v_order, some (.ref 4), some (.lst [(.str "machine"), (numS "number " v_place), (.str "fine"), (.str "machine"), (numS "number " v_deed), (.str "fine"), (.str "machine"), (numS "number " v_deed), (.str "fine")]), some (.fn 35)] [x0, x1, x2, SC a b c, .lst ml] = .ok (numS "number " v_place) [x0, x1, x2, SC a b c, .lst ml] := by
  all_goals (try simp only [menu_v_owner, List.mem_cons, List.not_mem_nil, or_false] at h_v_owner)
  all_goals (rcases h_v_owner with rfl | rfl | rfl | rfl | rfl | rfl | rfl | rfl)
  all_goals (try simp only [menu_v_place, List.mem_cons, List.not_mem_nil, or_false] at h_v_place)
  all_goals (rcases h_v_place with rfl | rfl | rfl | rfl | rfl | rfl | rfl)
  all_goals kernel_rfl
theorem m23_s3 (x0 x1 x2 : Cell) (a b c : Int) (v_none : AV) (v_place : AV) (v_deed : AV) (v_owner : AV) (v_order : AV) (ml : List AV) (h_v_owner : v_owner ∈ menu_v_owner) : (evLam (hoM S.exs 2 bm39 cl39 br39) (evCall 3 32 (evCons (evVar 2) (evCons (evC (.int 0)) (evCons (evVar 6) evNil))))) (GK 20) [some (.ref 3), some cv4, some cv6, some v_none, some v_place, some v_deed, some v_owner, some v_order, some (.ref 4), some (.lst [(.str "machine"), (numS "number " v_place), (.str "fine"), (.str "machine"), (numS "number " v_deed), (.str "fine"), (.str "machine"), (numS "number " v_deed), (.str "fine")]), some (.fn 35)] [x0, x1, x2, SC a b c, .lst ml] = .ok (.str "operation") [x0, x1, x2, SC a b c, .lst ml] := by
  all_goals (try simp only [menu_v_owner, List.mem_cons, List.not_mem_nil, or_false] at h_v_owner)
  all_goals (rcases h_v_owner with rfl | rfl | rfl | rfl | rfl | rfl | rfl | rfl)
  all_goals kernel_rfl
theorem m24_s3 (x0 x1 x2 : Cell) (a b c : Int) (v_none : AV) (v_place : AV) (v_deed : AV) (v_owner : AV) (v_order : AV) (ml : List AV) : (evLam (hoM S.exs 2 bm39 cl39 br39) (evCall 3 32 (evCons (evVar 2) (evCons (evC (.int 0)) (evCons (evC (.str "foe")) evNil))))) (GK 20) [some (.ref 3), some cv4, some cv6, some v_none, some v_place, some v_deed, some v_owner, some v_order, some (.ref 4), some (.lst [(.str "machine"), (numS "number " v_place), (.str "fine"), (.str "machine"), (numS "number " v_deed), (.str "fine"), (.str "machine"), (numS "number " v_deed), (.str "fine")]), some (.fn 35)] [x0, x1, x2, SC a b c, .lst ml] = .ok (.str "fine") [x0, x1, x2, SC a b c, .lst ml] := by
  all_goals kernel_rfl
theorem m25_s3 (x0 x1 x2 : Cell) (a b c : Int) (v_none : AV) (v_place : AV) (v_deed : AV) (v_owner : AV) (v_order : AV) (ml : List AV) (h_v_none : v_none ∈ menu_v_none) (h_v_order : v_order ∈ menu_v_order) : (evLam (hoM S.exs 2 bm39 cl39 br39) (evCall 2 34 (evCons (evVar 3) (evCons (evVar 7) evNil)))) (GK 20) [some (.ref 3), some cv4, some cv6, some v_none, some v_place, some v_deed, some v_owner, some v_order, some (.ref 4), some (.lst [(.str "machine"), (numS "number " v_place), (.str "fine"), (.str "machine"), (numS "number " v_deed), (.str "fine"), (.str "machine"), (numS "number " v_deed), (.str "fine")]), some (.fn 35)] [x0, x1, x2, SC a b c, .lst ml] = .ok (.str "machine") [x0, x1, x2, SC a b c, .lst ml] := by
  all_goals (try simp only [menu_v_order, List.mem_cons, List.not_mem_nil, or_false] at h_v_order)
  all_goals (rcases h_v_order with rfl | rfl | rfl | rfl | rfl | rfl | rfl | rfl | rfl | rfl | rfl)
  all_goals (try simp only [menu_v_none, List.mem_cons, List.not_mem_nil, or_false] at h_v_none)
  all_goals (rcases h_v_none with rfl | rfl | rfl | rfl | rfl | rfl | rfl | rfl)
  all_goals kernel_rfl
theorem m26_s3 (x0 x1 x2 : Cell) (a b c : Int) (v_none : AV) (v_place : AV) (v_deed : AV) (v_owner : AV) (v_order : AV) (ml : List AV) (h_v_order : v_order ∈ menu_v_order) : (evLam (hoM S.exs 2 bm39 cl39 br39) (evCall 2 34 (evCons (evVar 2) (evCons (evVar 7) evNil)))) (GK 20) [some (.ref 3), some cv4, some cv6, some v_none, some v_place, some v_deed, some v_owner, some v_order, some (.ref 4), some (.lst [(.str "machine"), (numS "number " v_place), (.str "fine"), (.str "machine"), (numS "number " v_deed), (.str "fine"), (.str "machine"), (numS "number " v_deed), (.str "fine")]), some (.fn 35)] [x0, x1, x2, SC a b c, .lst ml] = .ok (.str "places") [x0, x1, x2, SC a b c, .lst ml] := by
  all_goals (try simp only [menu_v_order, List.mem_cons, List.not_mem_nil, or_false] at h_v_order)
  all_goals (rcases h_v_order with rfl | rfl | rfl | rfl | rfl | rfl | rfl | rfl | rfl | rfl | rfl)
  all_goals kernel_rfl
theorem m27_s3 (x0 x1 x2 : Cell) (a b c : Int) (v_none : AV) (v_place : AV) (v_deed : AV) (v_owner : AV) (v_order : AV) (ml : List AV) : (evLam (hoM S.exs 2 bm39 cl39 br39) (evCall 2 34 (evCons (evVar 2) (evCons (evOf opTup (evCons (evC (.int 1)) (evCons (evC (.int 0)) evNil))) evNil)))) (GK 20) [some (.ref 3), some cv4, some cv6, some v_none, some v_place, some v_deed, some v_owner, some v_order, some (.ref 4), some (.lst [(.str "machine"), (numS "number " v_place), (.str "fine"), (.str "machine"), (numS "number " v_deed), (.str "fine"), (.str "machine"), (numS "number " v_deed), (.str "fine")]), some (.fn 35)] [x0, x1, x2, SC a b c, .lst ml] = .ok (.str "fine") [x0, x1, x2, SC a b c, .lst ml] := by
  all_goals kernel_rfl
theorem st28_s3 (x0 x1 x2 : Cell) (a b c : Int) (v_none : AV) (v_place : AV) (v_deed : AV) (v_owner : AV) (v_order : AV) (ml : List AV) (h_v_place : v_place ∈ menu_v_place) : b40_19 (GK 20) [some (.ref 3), some cv4, some cv6, some v_none, some v_place, some v_deed, some v_owner, some v_order, some (.ref 4), some (.lst [(.str "machine"), (numS "number " v_place), (.str "fine"), (.str "machine"), (numS "number " v_deed), (.str "fine"), (.str "machine"), (numS "number " v_deed), (.str "fine")]), some (.fn 35)] [x0, x1, x2, SC a b c, .lst ml] = .nx [some (.ref 3), some cv4, some cv6, some v_none, some v_place, some v_deed, some v_owner, some v_order, some (.ref 4), some (.lst [(.str "machine"), (numS "number " v_place), (.str "fine"), (.str "machine"), (numS "number " v_deed), (.str "fine"), (.str "machine"), (numS "number " v_deed), (.str "fine"), (.str "machine"), (numS "number " v_place), (.str "operation"), (.str "fine"), (.str "machine"), (.str "places"), (.str "fine")]), some (.fn 35)] [x0, x1, x2, SC a b c, .lst ml] := by
  all_goals (try simp only [menu_v_place, List.mem_cons, List.not_mem_nil, or_false] at h_v_place)
  all_goals (rcases h_v_place with rfl | rfl | rfl | rfl | rfl | rfl | rfl)
  all_goals kernel_rfl
theorem m29_s3 (x0 x1 x2 : Cell) (a b c : Int) (v_none : AV) (v_place : AV) (v_deed : AV) (v_owner : AV) (v_order : AV) (ml : List AV) (h_v_none : v_none ∈ menu_v_none) : (evLam (hoM S.exs 2 bm39 cl39 br39) (evMk true 0 4 42 4 (evCons (evVar 3) (evCons (evOp ixOp (evVar 1) (evC (.int 1))) (evCons (evOp ixOp (evVar 1) (evC (.int 2))) evNil))))) (GK 20) [some (.ref 3), some cv4, some cv6, some v_none, some v_place, some v_deed, some v_owner, some v_order, some (.ref 4), some (.lst [(.str "machine"), (numS "number " v_place), (.str "fine"), (.str "machine"), (numS "number " v_deed), (.str "fine"), (.str "machine"), (numS "number " v_deed), (.str "fine"), (.str "machine"), (numS "number " v_place), (.str "operation"), (.str "fine"), (.str "machine"), (.str "places"), (.str "fine")]), some (.fn 35)] [x0, x1, x2, SC a b c, .lst ml] = .ok (.str "machine") [x0, x1, x2, SC a b c, .lst ml] := by
  all_goals (try simp only [menu_v_none, List.mem_cons, List.not_mem_nil, or_false] at h_v_none)
  all_goals (rcases h_v_none with rfl | rfl | rfl | rfl | rfl | rfl | rfl | rfl)
  all_goals kernel_rfl
theorem m30_s3 (x0 x1 x2 : Cell) (a b c : Int) (v_none : AV) (v_place : AV) (v_deed : AV) (v_owner : AV) (v_order : AV) (ml : List AV) (h_v_owner : v_owner ∈ menu_v_owner) : (evLam (hoM S.exs 2 bm39 cl39 br39) (evMk true 0 4 42 4 (evCons (evC (.int 1)) (evCons (evOp ixOp (evVar 1) (evC (.int 1))) (evCons (evOf opTup (evCons (evOf opTup (evCons (evVar 6) (evCons (evC (.int 0)) (evCons (evC (.int 1)) (evCons (evOf opTup evNil) (evCons (evOf opTup evNil) evNil)))))) evNil)) evNil))))) (GK 20) [some (.ref 3), some cv4, some cv6, some v_none, some v_place, some v_deed, some v_owner, some v_order, some (.ref 4), some (.lst [(.str "machine"), (numS "number " v_place), (.str "fine"), (.str "machine"), (numS "number " v_deed), (.str "fine"), (.str "machine"), (numS "number " v_deed), (.str "fine"), (.str "machine"), (numS "number " v_place), (.str "operation"), (.str "fine"), (.str "machine"), (.str "places"), (.str "fine")]), some (.fn 35)] [x0, x1, x2, SC a b c, .lst ml] = .ok (.str "machine") [x0, x1, x2, SC a b c, .lst ml] := by
  all_goals (try simp only [menu_v_owner, List.mem_cons, List.not_mem_nil, or_false] at h_v_owner)
  all_goals (rcases h_v_owner with rfl | rfl | rfl | rfl | rfl | rfl | rfl | rfl)
  all_goals kernel_rfl
theorem du31_s3 (x0 x1 x2 : Cell) (a b c : Int) (v_none : AV) (v_place : AV) (v_deed : AV) (v_owner : AV) (v_order : AV) (ml : List AV) : (evOp addOp (evVar 9) (evOf opLst (evCons (evC (.str "machine")) (evCons (evC (.str "machine")) evNil)))) (GK 20) [some (.ref 3), some cv4, some cv6, some v_none, some v_place, some v_deed, some v_owner, some v_order, some (.ref 4), some (.lst [(.str "machine"), (numS "number " v_place), (.str "fine"), (.str "machine"), (numS "number " v_deed), (.str "fine"), (.str "machine"), (numS "number " v_deed), (.str "fine"), (.str "machine"), (numS "number " v_place), (.str "operation"), (.str "fine"), (.str "machine"), (.str "places"), (.str "fine")]), some (.fn 35)] [x0, x1, x2, SC a b c, .lst ml] = .ok (.lst [(.str "machine"), (numS "number " v_place), (.str "fine"), (.str "machine"), (numS "number " v_deed), (.str "fine"), (.str "machine"), (numS "number " v_deed), (.str "fine"), (.str "machine"), (numS "number " v_place), (.str "operation"), (.str "fine"), (.str "machine"), (.str "places"), (.str "fine"), (.str "machine"), (.str "machine")]) [x0, x1, x2, SC a b c, .lst ml] := by
  all_goals kernel_rfl
theorem right_s3 (x0 x1 x2 : Cell) (a0 b0 c0 : Int) : ∃ a b c : Int, GK 21 40 [.ref 3] [x0, x1, x2, SC a0 b0 c0] = .ok (.bl true) [x0, x1, x2, SC a b c] := by
  have t1 : b40_0 (GK 20) [some (.ref 3), none, none, none, none, none, none, none, none, none, none] [x0, x1, x2, SC a0 b0 c0] = .nx [some (.ref 3), some cv4, none, none, none, none, none, none, none, none, none] [x0, x1, x2, SC a0 b0 c0] := st1_s3 x0 x1 x2 a0 b0 c0
  have t2 : b40_1 (GK 20) [some (.ref 3), some cv4, none, none, none, none, none, none, none, none, none] [x0, x1, x2, SC a0 b0 c0] = .nx [some (.ref 3), some cv4, some cv6, none, none, none, none, none, none, none, none] [x0, x1, x2, SC a0 b0 c0] := st2_s3 x0 x1 x2 a0 b0 c0
  obtain ⟨v_none, a1, b1, c1, h_v_none, e3⟩ := among_p [x0, x1, x2] [] a0 b0 c0 (menu_v_none) (of_decide_eq_true (by kernel_rfl)) (of_decide_eq_true (by kernel_rfl)) (pm_v_none)
  have t3 : b40_2 (GK 20) [some (.ref 3), some cv4, some cv6, none, none, none, none, none, none, none, none] [x0, x1, x2, SC a0 b0 c0] = .nx [some (.ref 3), some cv4, some cv6, some v_none, none, none, none, none, none, none, none] [x0, x1, x2, SC a1 b1 c1] := draw_nx rfl (me3_s3 x0 x1 x2 a0 b0 c0) e3
  obtain ⟨v_place, a2, b2, c2, h_v_place, e4⟩ := among_p [x0, x1, x2] [] a1 b1 c1 (menu_v_place) (of_decide_eq_true (by kernel_rfl)) (of_decide_eq_true (by kernel_rfl)) (pm_v_place)
  have t4 : b40_3 (GK 20) [some (.ref 3), some cv4, some cv6, some v_none, none, none, none, none, none, none, none] [x0, x1, x2, SC a1 b1 c1] = .nx [some (.ref 3), some cv4, some cv6, some v_none, some v_place, none, none, none, none, none, none] [x0, x1, x2, SC a2 b2 c2] := draw_nx rfl (me4_s3 x0 x1 x2 a1 b1 c1 v_none) e4
  obtain ⟨v_deed, a3, b3, c3, h_v_deed, e5⟩ := among_p [x0, x1, x2] [] a2 b2 c2 (menu_v_deed) (of_decide_eq_true (by kernel_rfl)) (of_decide_eq_true (by kernel_rfl)) (pm_v_deed)
  have t5 : b40_4 (GK 20) [some (.ref 3), some cv4, some cv6, some v_none, some v_place, none, none, none, none, none, none] [x0, x1, x2, SC a2 b2 c2] = .nx [some (.ref 3), some cv4, some cv6, some v_none, some v_place, some v_deed, none, none, none, none, none] [x0, x1, x2, SC a3 b3 c3] := draw_nx rfl (me5_s3 x0 x1 x2 a2 b2 c2 v_none v_place) e5
  obtain ⟨v_owner, a4, b4, c4, h_v_owner, e6⟩ := among_p [x0, x1, x2] [] a3 b3 c3 (menu_v_owner) (of_decide_eq_true (by kernel_rfl)) (of_decide_eq_true (by kernel_rfl)) (pm_v_owner)
  have t6 : b40_5 (GK 20) [some (.ref 3), some cv4, some cv6, some v_none, some v_place, some v_deed, none, none, none, none, none] [x0, x1, x2, SC a3 b3 c3] = .nx [some (.ref 3), some cv4, some cv6, some v_none, some v_place, some v_deed, some v_owner, none, none, none, none] [x0, x1, x2, SC a4 b4 c4] := draw_nx rfl (me6_s3 x0 x1 x2 a3 b3 c3 v_none v_place v_deed) e6
  obtain ⟨v_order, a5, b5, c5, h_v_order, e7⟩ := among_p [x0, x1, x2] [] a4 b4 c4 (menu_v_order) (of_decide_eq_true (by kernel_rfl)) (of_decide_eq_true (by kernel_rfl)) (pm_v_order)
  have t7 : b40_6 (GK 20) [some (.ref 3), some cv4, some cv6, some v_none, some v_place, some v_deed, some v_owner, none, none, none, none] [x0, x1, x2, SC a4 b4 c4] = .nx [some (.ref 3), some cv4, some cv6, some v_none, some v_place, some v_deed, some v_owner, some v_order, none, none, none] [x0, x1, x2, SC a5 b5 c5] := draw_nx rfl (me7_s3 x0 x1 x2 a4 b4 c4 v_none v_place v_deed v_owner) e7
  have t8 : b40_7 (GK 20) [some (.ref 3), some cv4, some cv6, some v_none, some v_place, some v_deed, some v_owner, some v_order, none, none, none] [x0, x1, x2, SC a5 b5 c5] = .nx [some (.ref 3), some cv4, some cv6, some v_none, some v_place, some v_deed, some v_owner, some v_order, some (.ref 4), none, none] [x0, x1, x2, SC a5 b5 c5, .lst [(.str "machine")]] := met_nx (m8_s3 x0 x1 x2 a5 b5 c5 v_none v_place v_deed v_owner v_order h_v_none h_v_place) (ok_0 []).2
  have t9 : b40_8 (GK 20) [some (.ref 3), some cv4, some cv6, some v_none, some v_place, some v_deed, some v_owner, some v_order, some (.ref 4), none, none] [x0, x1, x2, SC a5 b5 c5, .lst [(.str "machine")]] = .nx [some (.ref 3), some cv4, some cv6, some v_none, some v_place, some v_deed, some v_owner, some v_order, some (.ref 4), none, none] [x0, x1, x2, SC a5 b5 c5, .lst [(.str "machine"), (numS "number " v_place)]] := by
    refine app_nx (n := 4) (xs := [(.str "machine")]) (v := (numS "number " v_place)) rfl rfl ?_ (ok_1 [] v_place h_v_place).2 (of_decide_eq_true (by kernel_rfl))
    exact (m9_s3 x0 x1 x2 a5 b5 c5 v_none v_place v_deed v_owner v_order _ h_v_place)
  have t10 : b40_9 (GK 20) [some (.ref 3), some cv4, some cv6, some v_none, some v_place, some v_deed, some v_owner, some v_order, some (.ref 4), none, none] [x0, x1, x2, SC a5 b5 c5, .lst [(.str "machine"), (numS "number " v_place)]] = .nx [some (.ref 3), some cv4, some cv6, some v_none, some v_place, some v_deed, some v_owner, some v_order, some (.ref 4), none, none] [x0, x1, x2, SC a5 b5 c5, .lst [(.str "machine"), (numS "number " v_place), (.str "fine")]] := by
    refine app_nx (n := 4) (xs := [(.str "machine"), (numS "number " v_place)]) (v := (.str "fine")) rfl rfl ?_ (ok_2 []).2 (of_decide_eq_true (by kernel_rfl))
    exact (m10_s3 x0 x1 x2 a5 b5 c5 v_none v_place v_deed v_owner v_order _)
  have t11 : b40_10 (GK 20) [some (.ref 3), some cv4, some cv6, some v_none, some v_place, some v_deed, some v_owner, some v_order, some (.ref 4), none, none] [x0, x1, x2, SC a5 b5 c5, .lst [(.str "machine"), (numS "number " v_place), (.str "fine")]] = .nx [some (.ref 3), some cv4, some cv6, some v_none, some v_place, some v_deed, some v_owner, some v_order, some (.ref 4), some (.lst [(.str "machine"), (numS "number " v_place), (.str "fine")]), none] [x0, x1, x2, SC a5 b5 c5, .lst [(.str "machine"), (numS "number " v_place), (.str "fine")]] := st11_s3 x0 x1 x2 a5 b5 c5 v_none v_place v_deed v_owner v_order _ h_v_place
  have t12 : lb40_11_0 (GK 20) [some (.ref 3), some cv4, some cv6, some v_none, some v_place, some v_deed, some v_owner, some v_order, some (.ref 4), some (.lst [(.str "machine"), (numS "number " v_place), (.str "fine")]), some (.fn 31)] [x0, x1, x2, SC a5 b5 c5, .lst [(.str "machine"), (numS "number " v_place), (.str "fine")]] = .nx [some (.ref 3), some cv4, some cv6, some v_none, some v_place, some v_deed, some v_owner, some v_order, some (.ref 4), some (.lst [(.str "machine"), (numS "number " v_place), (.str "fine")]), some (.fn 31)] [x0, x1, x2, SC a5 b5 c5, .lst [(.str "machine"), (numS "number " v_place), (.str "fine"), (.str "machine")]] := by
    refine app_nx (n := 4) (xs := [(.str "machine"), (numS "number " v_place), (.str "fine")]) (v := (.str "machine")) rfl rfl ?_ (ok_0 []).2 (of_decide_eq_true (by kernel_rfl))
    exact (m13_s3 x0 x1 x2 a5 b5 c5 v_none v_place v_deed v_owner v_order _ h_v_none h_v_deed)
  have t13 : lb40_11_1 (GK 20) [some (.ref 3), some cv4, some cv6, some v_none, some v_place, some v_deed, some v_owner, some v_order, some (.ref 4), some (.lst [(.str "machine"), (numS "number " v_place), (.str "fine")]), some (.fn 31)] [x0, x1, x2, SC a5 b5 c5, .lst [(.str "machine"), (numS "number " v_place), (.str "fine"), (.str "machine")]] = .nx [some (.ref 3), some cv4, some cv6, some v_none, some v_place, some v_deed, some v_owner, some v_order, some (.ref 4), some (.lst [(.str "machine"), (numS "number " v_place), (.str "fine")]), some (.fn 31)] [x0, x1, x2, SC a5 b5 c5, .lst [(.str "machine"), (numS "number " v_place), (.str "fine"), (.str "machine"), (numS "number " v_deed)]] := by
    refine app_nx (n := 4) (xs := [(.str "machine"), (numS "number " v_place), (.str "fine"), (.str "machine")]) (v := (numS "number " v_deed)) rfl rfl ?_ (ok_3 [] v_deed h_v_deed).2 (of_decide_eq_true (by kernel_rfl))
    exact (m14_s3 x0 x1 x2 a5 b5 c5 v_none v_place v_deed v_owner v_order _ h_v_deed)
  have t14 : lb40_11_2 (GK 20) [some (.ref 3), some cv4, some cv6, some v_none, some v_place, some v_deed, some v_owner, some v_order, some (.ref 4), some (.lst [(.str "machine"), (numS "number " v_place), (.str "fine")]), some (.fn 31)] [x0, x1, x2, SC a5 b5 c5, .lst [(.str "machine"), (numS "number " v_place), (.str "fine"), (.str "machine"), (numS "number " v_deed)]] = .nx [some (.ref 3), some cv4, some cv6, some v_none, some v_place, some v_deed, some v_owner, some v_order, some (.ref 4), some (.lst [(.str "machine"), (numS "number " v_place), (.str "fine")]), some (.fn 31)] [x0, x1, x2, SC a5 b5 c5, .lst [(.str "machine"), (numS "number " v_place), (.str "fine"), (.str "machine"), (numS "number " v_deed), (.str "fine")]] := by
    refine app_nx (n := 4) (xs := [(.str "machine"), (numS "number " v_place), (.str "fine"), (.str "machine"), (numS "number " v_deed)]) (v := (.str "fine")) rfl rfl ?_ (ok_2 []).2 (of_decide_eq_true (by kernel_rfl))
    exact (m15_s3 x0 x1 x2 a5 b5 c5 v_none v_place v_deed v_owner v_order _)
  have t15 : lb40_11_3 (GK 20) [some (.ref 3), some cv4, some cv6, some v_none, some v_place, some v_deed, some v_owner, some v_order, some (.ref 4), some (.lst [(.str "machine"), (numS "number " v_place), (.str "fine")]), some (.fn 31)] [x0, x1, x2, SC a5 b5 c5, .lst [(.str "machine"), (numS "number " v_place), (.str "fine"), (.str "machine"), (numS "number " v_deed), (.str "fine")]] = .nx [some (.ref 3), some cv4, some cv6, some v_none, some v_place, some v_deed, some v_owner, some v_order, some (.ref 4), some (.lst [(.str "machine"), (numS "number " v_place), (.str "fine"), (.str "machine"), (numS "number " v_deed), (.str "fine")]), some (.fn 31)] [x0, x1, x2, SC a5 b5 c5, .lst [(.str "machine"), (numS "number " v_place), (.str "fine"), (.str "machine"), (numS "number " v_deed), (.str "fine")]] := st16_s3 x0 x1 x2 a5 b5 c5 v_none v_place v_deed v_owner v_order _ h_v_deed
  have t16 : lb40_11_0 (GK 20) [some (.ref 3), some cv4, some cv6, some v_none, some v_place, some v_deed, some v_owner, some v_order, some (.ref 4), some (.lst [(.str "machine"), (numS "number " v_place), (.str "fine"), (.str "machine"), (numS "number " v_deed), (.str "fine")]), some (.fn 35)] [x0, x1, x2, SC a5 b5 c5, .lst [(.str "machine"), (numS "number " v_place), (.str "fine"), (.str "machine"), (numS "number " v_deed), (.str "fine")]] = .nx [some (.ref 3), some cv4, some cv6, some v_none, some v_place, some v_deed, some v_owner, some v_order, some (.ref 4), some (.lst [(.str "machine"), (numS "number " v_place), (.str "fine"), (.str "machine"), (numS "number " v_deed), (.str "fine")]), some (.fn 35)] [x0, x1, x2, SC a5 b5 c5, .lst [(.str "machine"), (numS "number " v_place), (.str "fine"), (.str "machine"), (numS "number " v_deed), (.str "fine"), (.str "machine")]] := by
    refine app_nx (n := 4) (xs := [(.str "machine"), (numS "number " v_place), (.str "fine"), (.str "machine"), (numS "number " v_deed), (.str "fine")]) (v := (.str "machine")) rfl rfl ?_ (ok_0 []).2 (of_decide_eq_true (by kernel_rfl))
    exact (m17_s3 x0 x1 x2 a5 b5 c5 v_none v_place v_deed v_owner v_order _ h_v_none h_v_deed)
  have t17 : lb40_11_1 (GK 20) [some (.ref 3), some cv4, some cv6, some v_none, some v_place, some v_deed, some v_owner, some v_order, some (.ref 4), some (.lst [(.str "machine"), (numS "number " v_place), (.str "fine"), (.str "machine"), (numS "number " v_deed), (.str "fine")]), some (.fn 35)] [x0, x1, x2, SC a5 b5 c5, .lst [(.str "machine"), (numS "number " v_place), (.str "fine"), (.str "machine"), (numS "number " v_deed), (.str "fine"), (.str "machine")]] = .nx [some (.ref 3), some cv4, some cv6, some v_none, some v_place, some v_deed, some v_owner, some v_order, some (.ref 4), some (.lst [(.str "machine"), (numS "number " v_place), (.str "fine"), (.str "machine"), (numS "number " v_deed), (.str "fine")]), some (.fn 35)] [x0, x1, x2, SC a5 b5 c5, .lst [(.str "machine"), (numS "number " v_place), (.str "fine"), (.str "machine"), (numS "number " v_deed), (.str "fine"), (.str "machine"), (numS "number " v_deed)]] := by
    refine app_nx (n := 4) (xs := [(.str "machine"), (numS "number " v_place), (.str "fine"), (.str "machine"), (numS "number " v_deed), (.str "fine"), (.str "machine")]) (v := (numS "number " v_deed)) rfl rfl ?_ (ok_3 [] v_deed h_v_deed).2 (of_decide_eq_true (by kernel_rfl))
    exact (m18_s3 x0 x1 x2 a5 b5 c5 v_none v_place v_deed v_owner v_order _ h_v_deed)
  have t18 : lb40_11_2 (GK 20) [some (.ref 3), some cv4, some cv6, some v_none, some v_place, some v_deed, some v_owner, some v_order, some (.ref 4), some (.lst [(.str "machine"), (numS "number " v_place), (.str "fine"), (.str "machine"), (numS "number " v_deed), (.str "fine")]), some (.fn 35)] [x0, x1, x2, SC a5 b5 c5, .lst [(.str "machine"), (numS "number " v_place), (.str "fine"), (.str "machine"), (numS "number " v_deed), (.str "fine"), (.str "machine"), (numS "number " v_deed)]] = .nx [some (.ref 3), some cv4, some cv6, some v_none, some v_place, some v_deed, some v_owner, some v_order, some (.ref 4), some (.lst [(.str "machine"), (numS "number " v_place), (.str "fine"), (.str "machine"), (numS "number " v_deed), (.str "fine")]), some (.fn 35)] [x0, x1, x2, SC a5 b5 c5, .lst [(.str "machine"), (numS "number " v_place), (.str "fine"), (.str "machine"), (numS "number " v_deed), (.str "fine"), (.str "machine"), (numS "number " v_deed), (.str "fine")]] := by
    refine app_nx (n := 4) (xs := [(.str "machine"), (numS "number " v_place), (.str "fine"), (.str "machine"), (numS "number " v_deed), (.str "fine"), (.str "machine"), (numS "number " v_deed)]) (v := (.str "fine")) rfl rfl ?_ (ok_2 []).2 (of_decide_eq_true (by kernel_rfl))
    exact (m19_s3 x0 x1 x2 a5 b5 c5 v_none v_place v_deed v_owner v_order _)
  have t19 : lb40_11_3 (GK 20) [some (.ref 3), some cv4, some cv6, some v_none, some v_place, some v_deed, some v_owner, some v_order, some (.ref 4), some (.lst [(.str "machine"), (numS "number " v_place), (.str "fine"), (.str "machine"), (numS "number " v_deed), (.str "fine")]), some (.fn 35)] [x0, x1, x2, SC a5 b5 c5, .lst [(.str "machine"), (numS "number " v_place), (.str "fine"), (.str "machine"), (numS "number " v_deed), (.str "fine"), (.str "machine"), (numS "number " v_deed), (.str "fine")]] = .nx [some (.ref 3), some cv4, some cv6, some v_none, some v_place, some v_deed, some v_owner, some v_order, some (.ref 4), some (.lst [(.str "machine"), (numS "number " v_place), (.str "fine"), (.str "machine"), (numS "number " v_deed), (.str "fine"), (.str "machine"), (numS "number " v_deed), (.str "fine")]), some (.fn 35)] [x0, x1, x2, SC a5 b5 c5, .lst [(.str "machine"), (numS "number " v_place), (.str "fine"), (.str "machine"), (numS "number " v_deed), (.str "fine"), (.str "machine"), (numS "number " v_deed), (.str "fine")]] := st20_s3 x0 x1 x2 a5 b5 c5 v_none v_place v_deed v_owner v_order _ h_v_deed
  have t20 : b40_11 (GK 20) [some (.ref 3), some cv4, some cv6, some v_none, some v_place, some v_deed, some v_owner, some v_order, some (.ref 4), some (.lst [(.str "machine"), (numS "number " v_place), (.str "fine")]), none] [x0, x1, x2, SC a5 b5 c5, .lst [(.str "machine"), (numS "number " v_place), (.str "fine")]] = .nx [some (.ref 3), some cv4, some cv6, some v_none, some v_place, some v_deed, some v_owner, some v_order, some (.ref 4), some (.lst [(.str "machine"), (numS "number " v_place), (.str "fine"), (.str "machine"), (numS "number " v_deed), (.str "fine"), (.str "machine"), (numS "number " v_deed), (.str "fine")]), some (.fn 35)] [x0, x1, x2, SC a5 b5 c5, .lst [(.str "machine"), (numS "number " v_place), (.str "fine"), (.str "machine"), (numS "number " v_deed), (.str "fine"), (.str "machine"), (numS "number " v_deed), (.str "fine")]] := by
    rw [le40_11]
    refine for_go (it12_s3 x0 x1 x2 a5 b5 c5 v_none v_place v_deed v_owner v_order _) rfl ?_
    refine (for_step (env1 := [some (.ref 3), some cv4, some cv6, some v_none, some v_place, some v_deed, some v_owner, some v_order, some (.ref 4), some (.lst [(.str "machine"), (numS "number " v_place), (.str "fine")]), some (.fn 31)]) (env2 := [some (.ref 3), some cv4, some cv6, some v_none, some v_place, some v_deed, some v_owner, some v_order, some (.ref 4), some (.lst [(.str "machine"), (numS "number " v_place), (.str "fine"), (.str "machine"), (numS "number " v_deed), (.str "fine")]), some (.fn 31)]) (h2 := [x0, x1, x2, SC a5 b5 c5, .lst [(.str "machine"), (numS "number " v_place), (.str "fine"), (.str "machine"), (numS "number " v_deed), (.str "fine")]]) rfl rfl (by rw [seq_nx t12]; rw [seq_nx t13]; rw [seq_nx t14]; exact t15)).trans ?_
    refine (for_step (env1 := [some (.ref 3), some cv4, some cv6, some v_none, some v_place, some v_deed, some v_owner, some v_order, some (.ref 4), some (.lst [(.str "machine"), (numS "number " v_place), (.str "fine"), (.str "machine"), (numS "number " v_deed), (.str "fine")]), some (.fn 35)]) (env2 := [some (.ref 3), some cv4, some cv6, some v_none, some v_place, some v_deed, some v_owner, some v_order, some (.ref 4), some (.lst [(.str "machine"), (numS "number " v_place), (.str "fine"), (.str "machine"), (numS "number " v_deed), (.str "fine"), (.str "machine"), (numS "number " v_deed), (.str "fine")]), some (.fn 35)]) (h2 := [x0, x1, x2, SC a5 b5 c5, .lst [(.str "machine"), (numS "number " v_place), (.str "fine"), (.str "machine"), (numS "number " v_deed), (.str "fine"), (.str "machine"), (numS "number " v_deed), (.str "fine")]]) rfl rfl (by rw [seq_nx t16]; rw [seq_nx t17]; rw [seq_nx t18]; exact t19)).trans ?_
    exact for_end rfl
  have t21 : b40_12 (GK 20) [some (.ref 3), some cv4, some cv6, some v_none, some v_place, some v_deed, some v_owner, some v_order, some (.ref 4), some (.lst [(.str "machine"), (numS "number " v_place), (.str "fine"), (.str "machine"), (numS "number " v_deed), (.str "fine"), (.str "machine"), (numS "number " v_deed), (.str "fine")]), some (.fn 35)] [x0, x1, x2, SC a5 b5 c5, .lst [(.str "machine"), (numS "number " v_place), (.str "fine"), (.str "machine"), (numS "number " v_deed), (.str "fine"), (.str "machine"), (numS "number " v_deed), (.str "fine")]] = .nx [some (.ref 3), some cv4, some cv6, some v_none, some v_place, some v_deed, some v_owner, some v_order, some (.ref 4), some (.lst [(.str "machine"), (numS "number " v_place), (.str "fine"), (.str "machine"), (numS "number " v_deed), (.str "fine"), (.str "machine"), (numS "number " v_deed), (.str "fine")]), some (.fn 35)] [x0, x1, x2, SC a5 b5 c5, .lst [(.str "machine"), (numS "number " v_place), (.str "fine"), (.str "machine"), (numS "number " v_deed), (.str "fine"), (.str "machine"), (numS "number " v_deed), (.str "fine"), (.str "machine")]] := by
    refine app_nx (n := 4) (xs := [(.str "machine"), (numS "number " v_place), (.str "fine"), (.str "machine"), (numS "number " v_deed), (.str "fine"), (.str "machine"), (numS "number " v_deed), (.str "fine")]) (v := (.str "machine")) rfl rfl ?_ (ok_0 []).2 (of_decide_eq_true (by kernel_rfl))
    exact (m21_s3 x0 x1 x2 a5 b5 c5 v_none v_place v_deed v_owner v_order _ h_v_none h_v_place h_v_owner)
  have t22 : b40_13 (GK 20) [some (.ref 3), some cv4, some cv6, some v_none, some v_place, some v_deed, some v_owner, some v_order, some (.ref 4), some (.lst [(.str "machine"), (numS "number " v_place), (.str "fine"), (.str "machine"), (numS "number " v_deed), (.str "fine"), (.str "machine"), (numS "number " v_deed), (.str "fine")]), some (.fn 35)] [x0, x1, x2, SC a5 b5 c5, .lst [(.str "machine"), (numS "number " v_place), (.str "fine"), (.str "machine"), (numS "number " v_deed), (.str "fine"), (.str "machine"), (numS "number " v_deed), (.str "fine"), (.str "machine")]] = .nx [some (.ref 3), some cv4, some cv6, some v_none, some v_place, some v_deed, some v_owner, some v_order, some (.ref 4), some (.lst [(.str "machine"), (numS "number " v_place), (.str "fine"), (.str "machine"), (numS "number " v_deed), (.str "fine"), (.str "machine"), (numS "number " v_deed), (.str "fine")]), some (.fn 35)] [x0, x1, x2, SC a5 b5 c5, .lst [(.str "machine"), (numS "number " v_place), (.str "fine"), (.str "machine"), (numS "number " v_deed), (.str "fine"), (.str "machine"), (numS "number " v_deed), (.str "fine"), (.str "machine"), (numS "number " v_place)]] := by
    refine app_nx (n := 4) (xs := [(.str "machine"), (numS "number " v_place), (.str "fine"), (.str "machine"), (numS "number " v_deed), (.str "fine"), (.str "machine"), (numS "number " v_deed), (.str "fine"), (.str "machine")]) (v := (numS "number " v_place)) rfl rfl ?_ (ok_1 [] v_place h_v_place).2 (of_decide_eq_true (by kernel_rfl))
    exact (m22_s3 x0 x1 x2 a5 b5 c5 v_none v_place v_deed v_owner v_order _ h_v_place h_v_owner)
  have t23 : b40_14 (GK 20) [some (.ref 3), some cv4, some cv6, some v_none, some v_place, some v_deed, some v_owner, some v_order, some (.ref 4), some (.lst [(.str "machine"), (numS "number " v_place), (.str "fine"), (.str "machine"), (numS "number " v_deed), (.str "fine"), (.str "machine"), (numS "number " v_deed), (.str "fine")]), some (.fn 35)] [x0, x1, x2, SC a5 b5 c5, .lst [(.str "machine"), (numS "number " v_place), (.str "fine"), (.str "machine"), (numS "number " v_deed), (.str "fine"), (.str "machine"), (numS "number " v_deed), (.str "fine"), (.str "machine"), (numS "number " v_place)]] = .nx [some (.ref 3), some cv4, some cv6, some v_none, some v_place, some v_deed, some v_owner, some v_order, some (.ref 4), some (.lst [(.str "machine"), (numS "number " v_place), (.str "fine"), (.str "machine"), (numS "number " v_deed), (.str "fine"), (.str "machine"), (numS "number " v_deed), (.str "fine")]), some (.fn 35)] [x0, x1, x2, SC a5 b5 c5, .lst [(.str "machine"), (numS "number " v_place), (.str "fine"), (.str "machine"), (numS "number " v_deed), (.str "fine"), (.str "machine"), (numS "number " v_deed), (.str "fine"), (.str "machine"), (numS "number " v_place), (.str "operation")]] := by
    refine app_nx (n := 4) (xs := [(.str "machine"), (numS "number " v_place), (.str "fine"), (.str "machine"), (numS "number " v_deed), (.str "fine"), (.str "machine"), (numS "number " v_deed), (.str "fine"), (.str "machine"), (numS "number " v_place)]) (v := (.str "operation")) rfl rfl ?_ (ok_4 []).2 (of_decide_eq_true (by kernel_rfl))
    exact (m23_s3 x0 x1 x2 a5 b5 c5 v_none v_place v_deed v_owner v_order _ h_v_owner)
  have t24 : b40_15 (GK 20) [some (.ref 3), some cv4, some cv6, some v_none, some v_place, some v_deed, some v_owner, some v_order, some (.ref 4), some (.lst [(.str "machine"), (numS "number " v_place), (.str "fine"), (.str "machine"), (numS "number " v_deed), (.str "fine"), (.str "machine"), (numS "number " v_deed), (.str "fine")]), some (.fn 35)] [x0, x1, x2, SC a5 b5 c5, .lst [(.str "machine"), (numS "number " v_place), (.str "fine"), (.str "machine"), (numS "number " v_deed), (.str "fine"), (.str "machine"), (numS "number " v_deed), (.str "fine"), (.str "machine"), (numS "number " v_place), (.str "operation")]] = .nx [some (.ref 3), some cv4, some cv6, some v_none, some v_place, some v_deed, some v_owner, some v_order, some (.ref 4), some (.lst [(.str "machine"), (numS "number " v_place), (.str "fine"), (.str "machine"), (numS "number " v_deed), (.str "fine"), (.str "machine"), (numS "number " v_deed), (.str "fine")]), some (.fn 35)] [x0, x1, x2, SC a5 b5 c5, .lst [(.str "machine"), (numS "number " v_place), (.str "fine"), (.str "machine"), (numS "number " v_deed), (.str "fine"), (.str "machine"), (numS "number " v_deed), (.str "fine"), (.str "machine"), (numS "number " v_place), (.str "operation"), (.str "fine")]] := by
    refine app_nx (n := 4) (xs := [(.str "machine"), (numS "number " v_place), (.str "fine"), (.str "machine"), (numS "number " v_deed), (.str "fine"), (.str "machine"), (numS "number " v_deed), (.str "fine"), (.str "machine"), (numS "number " v_place), (.str "operation")]) (v := (.str "fine")) rfl rfl ?_ (ok_2 []).2 (of_decide_eq_true (by kernel_rfl))
    exact (m24_s3 x0 x1 x2 a5 b5 c5 v_none v_place v_deed v_owner v_order _)
  have t25 : b40_16 (GK 20) [some (.ref 3), some cv4, some cv6, some v_none, some v_place, some v_deed, some v_owner, some v_order, some (.ref 4), some (.lst [(.str "machine"), (numS "number " v_place), (.str "fine"), (.str "machine"), (numS "number " v_deed), (.str "fine"), (.str "machine"), (numS "number " v_deed), (.str "fine")]), some (.fn 35)] [x0, x1, x2, SC a5 b5 c5, .lst [(.str "machine"), (numS "number " v_place), (.str "fine"), (.str "machine"), (numS "number " v_deed), (.str "fine"), (.str "machine"), (numS "number " v_deed), (.str "fine"), (.str "machine"), (numS "number " v_place), (.str "operation"), (.str "fine")]] = .nx [some (.ref 3), some cv4, some cv6, some v_none, some v_place, some v_deed, some v_owner, some v_order, some (.ref 4), some (.lst [(.str "machine"), (numS "number " v_place), (.str "fine"), (.str "machine"), (numS "number " v_deed), (.str "fine"), (.str "machine"), (numS "number " v_deed), (.str "fine")]), some (.fn 35)] [x0, x1, x2, SC a5 b5 c5, .lst [(.str "machine"), (numS "number " v_place), (.str "fine"), (.str "machine"), (numS "number " v_deed), (.str "fine"), (.str "machine"), (numS "number " v_deed), (.str "fine"), (.str "machine"), (numS "number " v_place), (.str "operation"), (.str "fine"), (.str "machine")]] := by
    refine app_nx (n := 4) (xs := [(.str "machine"), (numS "number " v_place), (.str "fine"), (.str "machine"), (numS "number " v_deed), (.str "fine"), (.str "machine"), (numS "number " v_deed), (.str "fine"), (.str "machine"), (numS "number " v_place), (.str "operation"), (.str "fine")]) (v := (.str "machine")) rfl rfl ?_ (ok_0 []).2 (of_decide_eq_true (by kernel_rfl))
    exact (m25_s3 x0 x1 x2 a5 b5 c5 v_none v_place v_deed v_owner v_order _ h_v_none h_v_order)
  have t26 : b40_17 (GK 20) [some (.ref 3), some cv4, some cv6, some v_none, some v_place, some v_deed, some v_owner, some v_order, some (.ref 4), some (.lst [(.str "machine"), (numS "number " v_place), (.str "fine"), (.str "machine"), (numS "number " v_deed), (.str "fine"), (.str "machine"), (numS "number " v_deed), (.str "fine")]), some (.fn 35)] [x0, x1, x2, SC a5 b5 c5, .lst [(.str "machine"), (numS "number " v_place), (.str "fine"), (.str "machine"), (numS "number " v_deed), (.str "fine"), (.str "machine"), (numS "number " v_deed), (.str "fine"), (.str "machine"), (numS "number " v_place), (.str "operation"), (.str "fine"), (.str "machine")]] = .nx [some (.ref 3), some cv4, some cv6, some v_none, some v_place, some v_deed, some v_owner, some v_order, some (.ref 4), some (.lst [(.str "machine"), (numS "number " v_place), (.str "fine"), (.str "machine"), (numS "number " v_deed), (.str "fine"), (.str "machine"), (numS "number " v_deed), (.str "fine")]), some (.fn 35)] [x0, x1, x2, SC a5 b5 c5, .lst [(.str "machine"), (numS "number " v_place), (.str "fine"), (.str "machine"), (numS "number " v_deed), (.str "fine"), (.str "machine"), (numS "number " v_deed), (.str "fine"), (.str "machine"), (numS "number " v_place), (.str "operation"), (.str "fine"), (.str "machine"), (.str "places")]] := by
    refine app_nx (n := 4) (xs := [(.str "machine"), (numS "number " v_place), (.str "fine"), (.str "machine"), (numS "number " v_deed), (.str "fine"), (.str "machine"), (numS "number " v_deed), (.str "fine"), (.str "machine"), (numS "number " v_place), (.str "operation"), (.str "fine"), (.str "machine")]) (v := (.str "places")) rfl rfl ?_ (ok_5 []).2 (of_decide_eq_true (by kernel_rfl))
    exact (m26_s3 x0 x1 x2 a5 b5 c5 v_none v_place v_deed v_owner v_order _ h_v_order)
  have t27 : b40_18 (GK 20) [some (.ref 3), some cv4, some cv6, some v_none, some v_place, some v_deed, some v_owner, some v_order, some (.ref 4), some (.lst [(.str "machine"), (numS "number " v_place), (.str "fine"), (.str "machine"), (numS "number " v_deed), (.str "fine"), (.str "machine"), (numS "number " v_deed), (.str "fine")]), some (.fn 35)] [x0, x1, x2, SC a5 b5 c5, .lst [(.str "machine"), (numS "number " v_place), (.str "fine"), (.str "machine"), (numS "number " v_deed), (.str "fine"), (.str "machine"), (numS "number " v_deed), (.str "fine"), (.str "machine"), (numS "number " v_place), (.str "operation"), (.str "fine"), (.str "machine"), (.str "places")]] = .nx [some (.ref 3), some cv4, some cv6, some v_none, some v_place, some v_deed, some v_owner, some v_order, some (.ref 4), some (.lst [(.str "machine"), (numS "number " v_place), (.str "fine"), (.str "machine"), (numS "number " v_deed), (.str "fine"), (.str "machine"), (numS "number " v_deed), (.str "fine")]), some (.fn 35)] [x0, x1, x2, SC a5 b5 c5, .lst [(.str "machine"), (numS "number " v_place), (.str "fine"), (.str "machine"), (numS "number " v_deed), (.str "fine"), (.str "machine"), (numS "number " v_deed), (.str "fine"), (.str "machine"), (numS "number " v_place), (.str "operation"), (.str "fine"), (.str "machine"), (.str "places"), (.str "fine")]] := by
    refine app_nx (n := 4) (xs := [(.str "machine"), (numS "number " v_place), (.str "fine"), (.str "machine"), (numS "number " v_deed), (.str "fine"), (.str "machine"), (numS "number " v_deed), (.str "fine"), (.str "machine"), (numS "number " v_place), (.str "operation"), (.str "fine"), (.str "machine"), (.str "places")]) (v := (.str "fine")) rfl rfl ?_ (ok_2 []).2 (of_decide_eq_true (by kernel_rfl))
    exact (m27_s3 x0 x1 x2 a5 b5 c5 v_none v_place v_deed v_owner v_order _)
  have t28 : b40_19 (GK 20) [some (.ref 3), some cv4, some cv6, some v_none, some v_place, some v_deed, some v_owner, some v_order, some (.ref 4), some (.lst [(.str "machine"), (numS "number " v_place), (.str "fine"), (.str "machine"), (numS "number " v_deed), (.str "fine"), (.str "machine"), (numS "number " v_deed), (.str "fine")]), some (.fn 35)] [x0, x1, x2, SC a5 b5 c5, .lst [(.str "machine"), (numS "number " v_place), (.str "fine"), (.str "machine"), (numS "number " v_deed), (.str "fine"), (.str "machine"), (numS "number " v_deed), (.str "fine"), (.str "machine"), (numS "number " v_place), (.str "operation"), (.str "fine"), (.str "machine"), (.str "places"), (.str "fine")]] = .nx [some (.ref 3), some cv4, some cv6, some v_none, some v_place, some v_deed, some v_owner, some v_order, some (.ref 4), some (.lst [(.str "machine"), (numS "number " v_place), (.str "fine"), (.str "machine"), (numS "number " v_deed), (.str "fine"), (.str "machine"), (numS "number " v_deed), (.str "fine"), (.str "machine"), (numS "number " v_place), (.str "operation"), (.str "fine"), (.str "machine"), (.str "places"), (.str "fine")]), some (.fn 35)] [x0, x1, x2, SC a5 b5 c5, .lst [(.str "machine"), (numS "number " v_place), (.str "fine"), (.str "machine"), (numS "number " v_deed), (.str "fine"), (.str "machine"), (numS "number " v_deed), (.str "fine"), (.str "machine"), (numS "number " v_place), (.str "operation"), (.str "fine"), (.str "machine"), (.str "places"), (.str "fine")]] := st28_s3 x0 x1 x2 a5 b5 c5 v_none v_place v_deed v_owner v_order _ h_v_place
  have t29 : b40_20 (GK 20) [some (.ref 3), some cv4, some cv6, some v_none, some v_place, some v_deed, some v_owner, some v_order, some (.ref 4), some (.lst [(.str "machine"), (numS "number " v_place), (.str "fine"), (.str "machine"), (numS "number " v_deed), (.str "fine"), (.str "machine"), (numS "number " v_deed), (.str "fine"), (.str "machine"), (numS "number " v_place), (.str "operation"), (.str "fine"), (.str "machine"), (.str "places"), (.str "fine")]), some (.fn 35)] [x0, x1, x2, SC a5 b5 c5, .lst [(.str "machine"), (numS "number " v_place), (.str "fine"), (.str "machine"), (numS "number " v_deed), (.str "fine"), (.str "machine"), (numS "number " v_deed), (.str "fine"), (.str "machine"), (numS "number " v_place), (.str "operation"), (.str "fine"), (.str "machine"), (.str "places"), (.str "fine")]] = .nx [some (.ref 3), some cv4, some cv6, some v_none, some v_place, some v_deed, some v_owner, some v_order, some (.ref 4), some (.lst [(.str "machine"), (numS "number " v_place), (.str "fine"), (.str "machine"), (numS "number " v_deed), (.str "fine"), (.str "machine"), (numS "number " v_deed), (.str "fine"), (.str "machine"), (numS "number " v_place), (.str "operation"), (.str "fine"), (.str "machine"), (.str "places"), (.str "fine")]), some (.fn 35)] [x0, x1, x2, SC a5 b5 c5, .lst [(.str "machine"), (numS "number " v_place), (.str "fine"), (.str "machine"), (numS "number " v_deed), (.str "fine"), (.str "machine"), (numS "number " v_deed), (.str "fine"), (.str "machine"), (numS "number " v_place), (.str "operation"), (.str "fine"), (.str "machine"), (.str "places"), (.str "fine"), (.str "machine")]] := by
    refine app_nx (n := 4) (xs := [(.str "machine"), (numS "number " v_place), (.str "fine"), (.str "machine"), (numS "number " v_deed), (.str "fine"), (.str "machine"), (numS "number " v_deed), (.str "fine"), (.str "machine"), (numS "number " v_place), (.str "operation"), (.str "fine"), (.str "machine"), (.str "places"), (.str "fine")]) (v := (.str "machine")) rfl rfl ?_ (ok_0 []).2 (of_decide_eq_true (by kernel_rfl))
    exact (m29_s3 x0 x1 x2 a5 b5 c5 v_none v_place v_deed v_owner v_order _ h_v_none)
  have t30 : b40_21 (GK 20) [some (.ref 3), some cv4, some cv6, some v_none, some v_place, some v_deed, some v_owner, some v_order, some (.ref 4), some (.lst [(.str "machine"), (numS "number " v_place), (.str "fine"), (.str "machine"), (numS "number " v_deed), (.str "fine"), (.str "machine"), (numS "number " v_deed), (.str "fine"), (.str "machine"), (numS "number " v_place), (.str "operation"), (.str "fine"), (.str "machine"), (.str "places"), (.str "fine")]), some (.fn 35)] [x0, x1, x2, SC a5 b5 c5, .lst [(.str "machine"), (numS "number " v_place), (.str "fine"), (.str "machine"), (numS "number " v_deed), (.str "fine"), (.str "machine"), (numS "number " v_deed), (.str "fine"), (.str "machine"), (numS "number " v_place), (.str "operation"), (.str "fine"), (.str "machine"), (.str "places"), (.str "fine"), (.str "machine")]] = .nx [some (.ref 3), some cv4, some cv6, some v_none, some v_place, some v_deed, some v_owner, some v_order, some (.ref 4), some (.lst [(.str "machine"), (numS "number " v_place), (.str "fine"), (.str "machine"), (numS "number " v_deed), (.str "fine"), (.str "machine"), (numS "number " v_deed), (.str "fine"), (.str "machine"), (numS "number " v_place), (.str "operation"), (.str "fine"), (.str "machine"), (.str "places"), (.str "fine")]), some (.fn 35)] [x0, x1, x2, SC a5 b5 c5, .lst [(.str "machine"), (numS "number " v_place), (.str "fine"), (.str "machine"), (numS "number " v_deed), (.str "fine"), (.str "machine"), (numS "number " v_deed), (.str "fine"), (.str "machine"), (numS "number " v_place), (.str "operation"), (.str "fine"), (.str "machine"), (.str "places"), (.str "fine"), (.str "machine"), (.str "machine")]] := by
    refine app_nx (n := 4) (xs := [(.str "machine"), (numS "number " v_place), (.str "fine"), (.str "machine"), (numS "number " v_deed), (.str "fine"), (.str "machine"), (numS "number " v_deed), (.str "fine"), (.str "machine"), (numS "number " v_place), (.str "operation"), (.str "fine"), (.str "machine"), (.str "places"), (.str "fine"), (.str "machine")]) (v := (.str "machine")) rfl rfl ?_ (ok_0 []).2 (of_decide_eq_true (by kernel_rfl))
    exact (m30_s3 x0 x1 x2 a5 b5 c5 v_none v_place v_deed v_owner v_order _ h_v_owner)
  have t31 : b40_22 (GK 20) [some (.ref 3), some cv4, some cv6, some v_none, some v_place, some v_deed, some v_owner, some v_order, some (.ref 4), some (.lst [(.str "machine"), (numS "number " v_place), (.str "fine"), (.str "machine"), (numS "number " v_deed), (.str "fine"), (.str "machine"), (numS "number " v_deed), (.str "fine"), (.str "machine"), (numS "number " v_place), (.str "operation"), (.str "fine"), (.str "machine"), (.str "places"), (.str "fine")]), some (.fn 35)] [x0, x1, x2, SC a5 b5 c5, .lst [(.str "machine"), (numS "number " v_place), (.str "fine"), (.str "machine"), (numS "number " v_deed), (.str "fine"), (.str "machine"), (numS "number " v_deed), (.str "fine"), (.str "machine"), (numS "number " v_place), (.str "operation"), (.str "fine"), (.str "machine"), (.str "places"), (.str "fine"), (.str "machine"), (.str "machine")]] = .ret (.bl true) [x0, x1, x2, SC a5 b5 c5, .lst [(.str "machine"), (numS "number " v_place), (.str "fine"), (.str "machine"), (numS "number " v_deed), (.str "fine"), (.str "machine"), (numS "number " v_deed), (.str "fine"), (.str "machine"), (numS "number " v_place), (.str "operation"), (.str "fine"), (.str "machine"), (.str "places"), (.str "fine"), (.str "machine"), (.str "machine")]] := ret_eq rfl rfl (du31_s3 x0 x1 x2 a5 b5 c5 v_none v_place v_deed v_owner v_order _) (okL_cons (ok_0 _).1 (okL_cons (ok_1 _ v_place h_v_place).1 (okL_cons (ok_2 _).1 (okL_cons (ok_0 _).1 (okL_cons (ok_3 _ v_deed h_v_deed).1 (okL_cons (ok_2 _).1 (okL_cons (ok_0 _).1 (okL_cons (ok_3 _ v_deed h_v_deed).1 (okL_cons (ok_2 _).1 (okL_cons (ok_0 _).1 (okL_cons (ok_1 _ v_place h_v_place).1 (okL_cons (ok_4 _).1 (okL_cons (ok_2 _).1 (okL_cons (ok_0 _).1 (okL_cons (ok_5 _).1 (okL_cons (ok_2 _).1 (okL_cons (ok_0 _).1 (okL_cons (ok_0 _).1 rfl))))))))))))))))))
  refine ⟨a5, b5, c5, ?_⟩
  have e : b40 (GK 20) [some (.ref 3), none, none, none, none, none, none, none, none, none, none] [x0, x1, x2, SC a0 b0 c0] = .ret (.bl true) [x0, x1, x2, SC a5 b5 c5, .lst [(.str "machine"), (numS "number " v_place), (.str "fine"), (.str "machine"), (numS "number " v_deed), (.str "fine"), (.str "machine"), (numS "number " v_deed), (.str "fine"), (.str "machine"), (numS "number " v_place), (.str "operation"), (.str "fine"), (.str "machine"), (.str "places"), (.str "fine"), (.str "machine"), (.str "machine")]] := by
    unfold b40
    rw [seq_nx t1]
    rw [seq_nx t2]
    rw [seq_nx t3]
    rw [seq_nx t4]
    rw [seq_nx t5]
    rw [seq_nx t6]
    rw [seq_nx t7]
    rw [seq_nx t8]
    rw [seq_nx t9]
    rw [seq_nx t10]
    rw [seq_nx t11]
    rw [seq_nx t20]
    rw [seq_nx t21]
    rw [seq_nx t22]
    rw [seq_nx t23]
    rw [seq_nx t24]
    rw [seq_nx t25]
    rw [seq_nx t26]
    rw [seq_nx t27]
    rw [seq_nx t28]
    rw [seq_nx t29]
    rw [seq_nx t30]
    exact t31
  rw [gk40]
  rw [run_eq (rc := false) (n := 11) (args := [.ref 3]) e]
  kernel_rfl
theorem right_p : ∀ (p : AH) (a b c : Int), p.length ≤ 3 → ∃ a' b' c' : Int, GK 21 40 [.ref p.length] (p ++ [SC a b c]) = .ok (.bl true) (p ++ [SC a' b' c'])
  | [], a, b, c, _ => right_s0  a b c
  | [x0], a, b, c, _ => right_s1 x0 a b c
  | [x0, x1], a, b, c, _ => right_s2 x0 x1 a b c
  | [x0, x1, x2], a, b, c, _ => right_s3 x0 x1 x2 a b c
  | _ :: _ :: _ :: _ :: _, _, _, _, h => absurd h (by simp)
def RP (p : AH) (h : AH) : Prop := ∃ a b c : Int, h = p ++ [SC a b c]
theorem outer_ok (ns : List Int) (N : Nat) (hN : N ≤ 4) : ∃ e1 e3 h', forL (.rng 0 N) (.nm 1) (esSeq (esSet (.nm 2) (evCall 2 36 (evCons (evVar 0) (evCons (evVar 1) evNil)))) (esIf (etOr (etNot (etOf (evCall 1 40 (evCons (evVar 2) evNil)))) (etNot (etOf (evCall 1 40 (evCons (evVar 2) evNil))))) (esRet (evC (.bl false))) esNx)) (GK 21) N 0 [some (.kl (ns.map AV.int)), none, none] [] = .nx [some (.kl (ns.map AV.int)), e1, e3] h' ∧ h'.length = N := by
  let I : Nat → Env1 → AH → Prop := fun i env h' => (∃ e1 e3 : Option AV, env = [some (.kl (ns.map AV.int)), e1, e3]) ∧ h'.length = i
  have st : ∀ i : Nat, i < N → ∀ env g, I i env g → ∃ env1, setTg (.nm 1) (.int (0 + i)) env = some env1 ∧ ∃ env' g', ((esSeq (esSet (.nm 2) (evCall 2 36 (evCons (evVar 0) (evCons (evVar 1) evNil)))) (esIf (etOr (etNot (etOf (evCall 1 40 (evCons (evVar 2) evNil)))) (etNot (etOf (evCall 1 40 (evCons (evVar 2) evNil))))) (esRet (evC (.bl false))) esNx)) : EvS) (GK 21) env1 g = .nx env' g' ∧ I (i + 1) env' g' := by
    rintro i hi env g ⟨⟨e1, e3, he⟩, hl⟩
    subst he
    obtain ⟨a, b, c, es⟩ := spins_ok 20 g ns (0 + i) (by omega) (by omega)
    obtain ⟨a1, b1, c1, r1⟩ := right_p g a b c (by omega)
    obtain ⟨a2, b2, c2, r2⟩ := right_p g a1 b1 c1 (by omega)
    refine ⟨_, rfl, [some (.kl (ns.map AV.int)), some (.int (0 + i)), some (.ref g.length)], g ++ [SC a2 b2 c2], ?_, ⟨_, _, rfl⟩, by simp [hl]⟩
    simp only [Int.zero_add] at es ⊢
    simp [es, r1, r2]
  obtain ⟨env', h', e, ⟨e1, e3, he⟩, hl⟩ := for_rngI I st N 0 [some (.kl (ns.map AV.int)), none, none] [] (by omega) (by omega) ⟨⟨none, none, rfl⟩, rfl⟩
  subst he
  exact ⟨e1, e3, h', e, hl⟩
def lawB0 : EvS := (esFor (eiOf opRng1 (evCons (evOf opMax (evCons (evC (.int 1)) (evCons (evOf opMin (evCons (evC (.int 4)) (evCons (evOf opLen (evCons (evVar 0) evNil)) evNil))) evNil))) evNil)) (.nm 1) (esSeq (esSet (.nm 2) (evCall 2 36 (evCons (evVar 0) (evCons (evVar 1) evNil)))) (esIf (etOr (etNot (etOf (evCall 1 40 (evCons (evVar 2) evNil)))) (etNot (etOf (evCall 1 40 (evCons (evVar 2) evNil))))) (esRet (evC (.bl false))) esNx)))
def lawB1 : EvS := (esRet (evC (.bl true)))
theorem lawB : b41 = esSeq lawB0 lawB1 := rfl
theorem end_1 (x0 : Cell) (ns : List Int) (e1 e3 : Option AV) : retV (lawB1 (GK 21) [some (.kl (ns.map AV.int)), e1, e3] [x0]) = some (.bl true) := by kernel_rfl
theorem end_2 (x0 x1 : Cell) (ns : List Int) (e1 e3 : Option AV) : retV (lawB1 (GK 21) [some (.kl (ns.map AV.int)), e1, e3] [x0, x1]) = some (.bl true) := by kernel_rfl
theorem end_3 (x0 x1 x2 : Cell) (ns : List Int) (e1 e3 : Option AV) : retV (lawB1 (GK 21) [some (.kl (ns.map AV.int)), e1, e3] [x0, x1, x2]) = some (.bl true) := by kernel_rfl
theorem end_4 (x0 x1 x2 x3 : Cell) (ns : List Int) (e1 e3 : Option AV) : retV (lawB1 (GK 21) [some (.kl (ns.map AV.int)), e1, e3] [x0, x1, x2, x3]) = some (.bl true) := by kernel_rfl
theorem end_p (ns : List Int) (e1 e3 : Option AV) : ∀ h : AH, 1 ≤ h.length → h.length ≤ 4 → retV (lawB1 (GK 21) [some (.kl (ns.map AV.int)), e1, e3] h) = some (.bl true)
  | [x0], _, _ => end_1 x0 ns e1 e3
  | [x0, x1], _, _ => end_2 x0 x1 ns e1 e3
  | [x0, x1, x2], _, _ => end_3 x0 x1 x2 ns e1 e3
  | [x0, x1, x2, x3], _, _ => end_4 x0 x1 x2 x3 ns e1 e3
  | [], h, _ => absurd h (by simp)
  | _ :: _ :: _ :: _ :: _ :: _, _, h => absurd h (by simp)
theorem body_ok (ns : List Int) : ∃ g, b41 (GK 21) [some (.kl (ns.map AV.int)), none, none] [] = .ret (.bl true) g := by
  obtain ⟨N, hN, hN1, eN⟩ := howmany ns 3
  obtain ⟨e1, e3, g, eo, hl⟩ := outer_ok ns N hN
  have r : ∀ h, opRng1 [.int (N : Int)] h = .ok (.rng 0 N) h := fun h => rng1_ok (by omega) h
  have e1' : lawB0 (GK 21) [some (.kl (ns.map AV.int)), none, none] [] = .nx [some (.kl (ns.map AV.int)), e1, e3] g := by
    unfold lawB0
    simp only [x_for, x_iof, x_cons, x_c, x_of, x_var, x_nil, x_bind_ok, List.getElem?_cons_zero, o_lenK, o_min, o_max, List.length_map]
    simp only [show (((3 : Nat) + 1 : Nat) : Int) = 4 from rfl] at eN
    rw [eN, r]
    simp only [x_s_ok, srcLen_rng]
    exact eo
  obtain ⟨g', e2⟩ := retV_ex (end_p ns e1 e3 g (by omega) (by omega))
  refine ⟨g', ?_⟩
  rw [lawB]
  rw [seq_nx e1']
  exact e2
theorem holds (ns : List Int) (h : ns.length ≤ 63) : runDef false N41.length b41 (GK 21) [.kl (ns.map AV.int)] [] = .ok (.bl true) [] := by
  obtain ⟨g, e⟩ := body_ok ns
  have e' : b41 (GK 21) ([AV.kl (ns.map AV.int)].map some ++ List.replicate (N41.length - [AV.kl (ns.map AV.int)].length) none) [] = .ret (.bl true) g := e
  refine (run_eq e').trans ?_
  rw [f_pure rfl]
  rfl
end Pv.K24
end
section
set_option Elab.async false
set_option linter.all false
set_option maxRecDepth 100000
namespace Pv.K24
open PySem PySem.W PyProof.Rows L2
theorem head_mk {K : PySem.W.Frag}
  {f0 : Addr} {oc0 : Value} {od0 : Option Addr} {kV0 doc0 pm0 : Value} {an0 : Option Addr} {cd0 ct0 : Value} {sl0 : Array (Option Value)}
  (a0 : PySem.W.nsIn K mainGlobals "is_whole" = some (some (.ref f0))) (l0 : K.lookup f0 = some ⟨oc0, od0, .func (PySem.W.fnOf "is_whole" "is_whole" (defArgs s0) (defBody s0) (defScope s0) .none kV0 doc0 pm0 an0 cd0 ct0), sl0⟩) (d0 : PySem.W.codeIn K cd0 "is_whole" = true) (k0 : PySem.W.keepIn K (.ref f0) = true)
  {f1 : Addr} {oc1 : Value} {od1 : Option Addr} {kV1 doc1 pm1 : Value} {an1 : Option Addr} {cd1 ct1 : Value} {sl1 : Array (Option Value)}
  (a1 : PySem.W.nsIn K mainGlobals "is_whole_between" = some (some (.ref f1))) (l1 : K.lookup f1 = some ⟨oc1, od1, .func (PySem.W.fnOf "is_whole_between" "is_whole_between" (defArgs s1) (defBody s1) (defScope s1) .none kV1 doc1 pm1 an1 cd1 ct1), sl1⟩) (d1 : PySem.W.codeIn K cd1 "is_whole_between" = true) (k1 : PySem.W.keepIn K (.ref f1) = true)
  {f2 : Addr} {oc2 : Value} {od2 : Option Addr} {kV2 doc2 pm2 : Value} {an2 : Option Addr} {cd2 ct2 : Value} {sl2 : Array (Option Value)}
  (a2 : PySem.W.nsIn K mainGlobals "is_mark" = some (some (.ref f2))) (l2 : K.lookup f2 = some ⟨oc2, od2, .func (PySem.W.fnOf "is_mark" "is_mark" (defArgs s2) (defBody s2) (defScope s2) .none kV2 doc2 pm2 an2 cd2 ct2), sl2⟩) (d2 : PySem.W.codeIn K cd2 "is_mark" = true) (k2 : PySem.W.keepIn K (.ref f2) = true)
  {f3 : Addr} {oc3 : Value} {od3 : Option Addr} {kV3 doc3 pm3 : Value} {an3 : Option Addr} {cd3 ct3 : Value} {sl3 : Array (Option Value)}
  (a3 : PySem.W.nsIn K mainGlobals "is_pair" = some (some (.ref f3))) (l3 : K.lookup f3 = some ⟨oc3, od3, .func (PySem.W.fnOf "is_pair" "is_pair" (defArgs s3) (defBody s3) (defScope s3) .none kV3 doc3 pm3 an3 cd3 ct3), sl3⟩) (d3 : PySem.W.codeIn K cd3 "is_pair" = true) (k3 : PySem.W.keepIn K (.ref f3) = true)
  {f4 : Addr} {oc4 : Value} {od4 : Option Addr} {kV4 doc4 pm4 : Value} {an4 : Option Addr} {cd4 ct4 : Value} {sl4 : Array (Option Value)}
  (a4 : PySem.W.nsIn K mainGlobals "is_ascending" = some (some (.ref f4))) (l4 : K.lookup f4 = some ⟨oc4, od4, .func (PySem.W.fnOf "is_ascending" "is_ascending" (defArgs s4) (defBody s4) (defScope s4) .none kV4 doc4 pm4 an4 cd4 ct4), sl4⟩) (d4 : PySem.W.codeIn K cd4 "is_ascending" = true) (k4 : PySem.W.keepIn K (.ref f4) = true)
  {f5 : Addr} {oc5 : Value} {od5 : Option Addr} {kV5 doc5 pm5 : Value} {an5 : Option Addr} {cd5 ct5 : Value} {sl5 : Array (Option Value)}
  (a5 : PySem.W.nsIn K mainGlobals "check_clocks" = some (some (.ref f5))) (l5 : K.lookup f5 = some ⟨oc5, od5, .func (PySem.W.fnOf "check_clocks" "check_clocks" (defArgs s5) (defBody s5) (defScope s5) .none kV5 doc5 pm5 an5 cd5 ct5), sl5⟩) (d5 : PySem.W.codeIn K cd5 "check_clocks" = true) (k5 : PySem.W.keepIn K (.ref f5) = true)
  {f6 : Addr} {oc6 : Value} {od6 : Option Addr} {kV6 doc6 pm6 : Value} {an6 : Option Addr} {cd6 ct6 : Value} {sl6 : Array (Option Value)}
  (a6 : PySem.W.nsIn K mainGlobals "code_of" = some (some (.ref f6))) (l6 : K.lookup f6 = some ⟨oc6, od6, .func (PySem.W.fnOf "code_of" "code_of" (defArgs s6) (defBody s6) (defScope s6) .none kV6 doc6 pm6 an6 cd6 ct6), sl6⟩) (d6 : PySem.W.codeIn K cd6 "code_of" = true) (k6 : PySem.W.keepIn K (.ref f6) = true)
  {f7 : Addr} {oc7 : Value} {od7 : Option Addr} {kV7 doc7 pm7 : Value} {an7 : Option Addr} {cd7 ct7 : Value} {sl7 : Array (Option Value)}
  (a7 : PySem.W.nsIn K mainGlobals "bound_of" = some (some (.ref f7))) (l7 : K.lookup f7 = some ⟨oc7, od7, .func (PySem.W.fnOf "bound_of" "bound_of" (defArgs s7) (defBody s7) (defScope s7) .none kV7 doc7 pm7 an7 cd7 ct7), sl7⟩) (d7 : PySem.W.codeIn K cd7 "bound_of" = true) (k7 : PySem.W.keepIn K (.ref f7) = true)
  {f8 : Addr} {oc8 : Value} {od8 : Option Addr} {kV8 doc8 pm8 : Value} {an8 : Option Addr} {cd8 ct8 : Value} {sl8 : Array (Option Value)}
  (a8 : PySem.W.nsIn K mainGlobals "lot_of" = some (some (.ref f8))) (l8 : K.lookup f8 = some ⟨oc8, od8, .func (PySem.W.fnOf "lot_of" "lot_of" (defArgs s8) (defBody s8) (defScope s8) .none kV8 doc8 pm8 an8 cd8 ct8), sl8⟩) (d8 : PySem.W.codeIn K cd8 "lot_of" = true) (k8 : PySem.W.keepIn K (.ref f8) = true)
  {f9 : Addr} {oc9 : Value} {od9 : Option Addr} {kV9 doc9 pm9 : Value} {an9 : Option Addr} {cd9 ct9 : Value} {sl9 : Array (Option Value)}
  (a9 : PySem.W.nsIn K mainGlobals "code_sum" = some (some (.ref f9))) (l9 : K.lookup f9 = some ⟨oc9, od9, .func (PySem.W.fnOf "code_sum" "code_sum" (defArgs s9) (defBody s9) (defScope s9) .none kV9 doc9 pm9 an9 cd9 ct9), sl9⟩) (d9 : PySem.W.codeIn K cd9 "code_sum" = true) (k9 : PySem.W.keepIn K (.ref f9) = true)
  {f10 : Addr} {oc10 : Value} {od10 : Option Addr} {kV10 doc10 pm10 : Value} {an10 : Option Addr} {cd10 ct10 : Value} {sl10 : Array (Option Value)}
  (a10 : PySem.W.nsIn K mainGlobals "free_row" = some (some (.ref f10))) (l10 : K.lookup f10 = some ⟨oc10, od10, .func (PySem.W.fnOf "free_row" "free_row" (defArgs s10) (defBody s10) (defScope s10) .none kV10 doc10 pm10 an10 cd10 ct10), sl10⟩) (d10 : PySem.W.codeIn K cd10 "free_row" = true) (k10 : PySem.W.keepIn K (.ref f10) = true)
  {f11 : Addr} {oc11 : Value} {od11 : Option Addr} {kV11 doc11 pm11 : Value} {an11 : Option Addr} {cd11 ct11 : Value} {sl11 : Array (Option Value)}
  (a11 : PySem.W.nsIn K mainGlobals "whole_grid" = some (some (.ref f11))) (l11 : K.lookup f11 = some ⟨oc11, od11, .func (PySem.W.fnOf "whole_grid" "whole_grid" (defArgs s11) (defBody s11) (defScope s11) .none kV11 doc11 pm11 an11 cd11 ct11), sl11⟩) (d11 : PySem.W.codeIn K cd11 "whole_grid" = true) (k11 : PySem.W.keepIn K (.ref f11) = true)
  {f12 : Addr} {oc12 : Value} {od12 : Option Addr} {kV12 doc12 pm12 : Value} {an12 : Option Addr} {cd12 ct12 : Value} {sl12 : Array (Option Value)}
  (a12 : PySem.W.nsIn K mainGlobals "tighter_row" = some (some (.ref f12))) (l12 : K.lookup f12 = some ⟨oc12, od12, .func (PySem.W.fnOf "tighter_row" "tighter_row" (defArgs s12) (defBody s12) (defScope s12) .none kV12 doc12 pm12 an12 cd12 ct12), sl12⟩) (d12 : PySem.W.codeIn K cd12 "tighter_row" = true) (k12 : PySem.W.keepIn K (.ref f12) = true)
  {f13 : Addr} {oc13 : Value} {od13 : Option Addr} {kV13 doc13 pm13 : Value} {an13 : Option Addr} {cd13 ct13 : Value} {sl13 : Array (Option Value)}
  (a13 : PySem.W.nsIn K mainGlobals "cut_grid" = some (some (.ref f13))) (l13 : K.lookup f13 = some ⟨oc13, od13, .func (PySem.W.fnOf "cut_grid" "cut_grid" (defArgs s13) (defBody s13) (defScope s13) .none kV13 doc13 pm13 an13 cd13 ct13), sl13⟩) (d13 : PySem.W.codeIn K cd13 "cut_grid" = true) (k13 : PySem.W.keepIn K (.ref f13) = true)
  {f14 : Addr} {oc14 : Value} {od14 : Option Addr} {kV14 doc14 pm14 : Value} {an14 : Option Addr} {cd14 ct14 : Value} {sl14 : Array (Option Value)}
  (a14 : PySem.W.nsIn K mainGlobals "kept_grid" = some (some (.ref f14))) (l14 : K.lookup f14 = some ⟨oc14, od14, .func (PySem.W.fnOf "kept_grid" "kept_grid" (defArgs s14) (defBody s14) (defScope s14) .none kV14 doc14 pm14 an14 cd14 ct14), sl14⟩) (d14 : PySem.W.codeIn K cd14 "kept_grid" = true) (k14 : PySem.W.keepIn K (.ref f14) = true)
  {f15 : Addr} {oc15 : Value} {od15 : Option Addr} {kV15 doc15 pm15 : Value} {an15 : Option Addr} {cd15 ct15 : Value} {sl15 : Array (Option Value)}
  (a15 : PySem.W.nsIn K mainGlobals "is_rule_up_to" = some (some (.ref f15))) (l15 : K.lookup f15 = some ⟨oc15, od15, .func (PySem.W.fnOf "is_rule_up_to" "is_rule_up_to" (defArgs s15) (defBody s15) (defScope s15) .none kV15 doc15 pm15 an15 cd15 ct15), sl15⟩) (d15 : PySem.W.codeIn K cd15 "is_rule_up_to" = true) (k15 : PySem.W.keepIn K (.ref f15) = true)
  {f16 : Addr} {oc16 : Value} {od16 : Option Addr} {kV16 doc16 pm16 : Value} {an16 : Option Addr} {cd16 ct16 : Value} {sl16 : Array (Option Value)}
  (a16 : PySem.W.nsIn K mainGlobals "is_rule" = some (some (.ref f16))) (l16 : K.lookup f16 = some ⟨oc16, od16, .func (PySem.W.fnOf "is_rule" "is_rule" (defArgs s16) (defBody s16) (defScope s16) .none kV16 doc16 pm16 an16 cd16 ct16), sl16⟩) (d16 : PySem.W.codeIn K cd16 "is_rule" = true) (k16 : PySem.W.keepIn K (.ref f16) = true)
  {f17 : Addr} {oc17 : Value} {od17 : Option Addr} {kV17 doc17 pm17 : Value} {an17 : Option Addr} {cd17 ct17 : Value} {sl17 : Array (Option Value)}
  (a17 : PySem.W.nsIn K mainGlobals "is_from_above" = some (some (.ref f17))) (l17 : K.lookup f17 = some ⟨oc17, od17, .func (PySem.W.fnOf "is_from_above" "is_from_above" (defArgs s17) (defBody s17) (defScope s17) .none kV17 doc17 pm17 an17 cd17 ct17), sl17⟩) (d17 : PySem.W.codeIn K cd17 "is_from_above" = true) (k17 : PySem.W.keepIn K (.ref f17) = true)
  {f18 : Addr} {oc18 : Value} {od18 : Option Addr} {kV18 doc18 pm18 : Value} {an18 : Option Addr} {cd18 ct18 : Value} {sl18 : Array (Option Value)}
  (a18 : PySem.W.nsIn K mainGlobals "is_from_below" = some (some (.ref f18))) (l18 : K.lookup f18 = some ⟨oc18, od18, .func (PySem.W.fnOf "is_from_below" "is_from_below" (defArgs s18) (defBody s18) (defScope s18) .none kV18 doc18 pm18 an18 cd18 ct18), sl18⟩) (d18 : PySem.W.codeIn K cd18 "is_from_below" = true) (k18 : PySem.W.keepIn K (.ref f18) = true)
  {f19 : Addr} {oc19 : Value} {od19 : Option Addr} {kV19 doc19 pm19 : Value} {an19 : Option Addr} {cd19 ct19 : Value} {sl19 : Array (Option Value)}
  (a19 : PySem.W.nsIn K mainGlobals "are_sides_ascending" = some (some (.ref f19))) (l19 : K.lookup f19 = some ⟨oc19, od19, .func (PySem.W.fnOf "are_sides_ascending" "are_sides_ascending" (defArgs s19) (defBody s19) (defScope s19) .none kV19 doc19 pm19 an19 cd19 ct19), sl19⟩) (d19 : PySem.W.codeIn K cd19 "are_sides_ascending" = true) (k19 : PySem.W.keepIn K (.ref f19) = true)
  {f20 : Addr} {oc20 : Value} {od20 : Option Addr} {kV20 doc20 pm20 : Value} {an20 : Option Addr} {cd20 ct20 : Value} {sl20 : Array (Option Value)}
  (a20 : PySem.W.nsIn K mainGlobals "is_place" = some (some (.ref f20))) (l20 : K.lookup f20 = some ⟨oc20, od20, .func (PySem.W.fnOf "is_place" "is_place" (defArgs s20) (defBody s20) (defScope s20) .none kV20 doc20 pm20 an20 cd20 ct20), sl20⟩) (d20 : PySem.W.codeIn K cd20 "is_place" = true) (k20 : PySem.W.keepIn K (.ref f20) = true)
  {f21 : Addr} {oc21 : Value} {od21 : Option Addr} {kV21 doc21 pm21 : Value} {an21 : Option Addr} {cd21 ct21 : Value} {sl21 : Array (Option Value)}
  (a21 : PySem.W.nsIn K mainGlobals "are_rules_of_deed" = some (some (.ref f21))) (l21 : K.lookup f21 = some ⟨oc21, od21, .func (PySem.W.fnOf "are_rules_of_deed" "are_rules_of_deed" (defArgs s21) (defBody s21) (defScope s21) .none kV21 doc21 pm21 an21 cd21 ct21), sl21⟩) (d21 : PySem.W.codeIn K cd21 "are_rules_of_deed" = true) (k21 : PySem.W.keepIn K (.ref f21) = true)
  {f22 : Addr} {oc22 : Value} {od22 : Option Addr} {kV22 doc22 pm22 : Value} {an22 : Option Addr} {cd22 ct22 : Value} {sl22 : Array (Option Value)}
  (a22 : PySem.W.nsIn K mainGlobals "wrong_part" = some (some (.ref f22))) (l22 : K.lookup f22 = some ⟨oc22, od22, .func (PySem.W.fnOf "wrong_part" "wrong_part" (defArgs s22) (defBody s22) (defScope s22) .none kV22 doc22 pm22 an22 cd22 ct22), sl22⟩) (d22 : PySem.W.codeIn K cd22 "wrong_part" = true) (k22 : PySem.W.keepIn K (.ref f22) = true)
  {f23 : Addr} {oc23 : Value} {od23 : Option Addr} {kV23 doc23 pm23 : Value} {an23 : Option Addr} {cd23 ct23 : Value} {sl23 : Array (Option Value)}
  (a23 : PySem.W.nsIn K mainGlobals "machine_fault" = some (some (.ref f23))) (l23 : K.lookup f23 = some ⟨oc23, od23, .func (PySem.W.fnOf "machine_fault" "machine_fault" (defArgs s23) (defBody s23) (defScope s23) .none kV23 doc23 pm23 an23 cd23 ct23), sl23⟩) (d23 : PySem.W.codeIn K cd23 "machine_fault" = true) (k23 : PySem.W.keepIn K (.ref f23) = true)
  {f24 : Addr} {oc24 : Value} {od24 : Option Addr} {kV24 doc24 pm24 : Value} {an24 : Option Addr} {cd24 ct24 : Value} {sl24 : Array (Option Value)}
  (a24 : PySem.W.nsIn K mainGlobals "greatest_number" = some (some (.ref f24))) (l24 : K.lookup f24 = some ⟨oc24, od24, .func (PySem.W.fnOf "greatest_number" "greatest_number" (defArgs s24) (defBody s24) (defScope s24) .none kV24 doc24 pm24 an24 cd24 ct24), sl24⟩) (d24 : PySem.W.codeIn K cd24 "greatest_number" = true) (k24 : PySem.W.keepIn K (.ref f24) = true)
  {f25 : Addr} {oc25 : Value} {od25 : Option Addr} {kV25 doc25 pm25 : Value} {an25 : Option Addr} {cd25 ct25 : Value} {sl25 : Array (Option Value)}
  (a25 : PySem.W.nsIn K mainGlobals "check_machine" = some (some (.ref f25))) (l25 : K.lookup f25 = some ⟨oc25, od25, .func (PySem.W.fnOf "check_machine" "check_machine" (defArgs s25) (defBody s25) (defScope s25) .none kV25 doc25 pm25 an25 cd25 ct25), sl25⟩) (d25 : PySem.W.codeIn K cd25 "check_machine" = true) (k25 : PySem.W.keepIn K (.ref f25) = true)
  {f26 : Addr} {oc26 : Value} {od26 : Option Addr} {kV26 doc26 pm26 : Value} {an26 : Option Addr} {cd26 ct26 : Value} {sl26 : Array (Option Value)}
  (a26 : PySem.W.nsIn K mainGlobals "check_place" = some (some (.ref f26))) (l26 : K.lookup f26 = some ⟨oc26, od26, .func (PySem.W.fnOf "check_place" "check_place" (defArgs s26) (defBody s26) (defScope s26) .none kV26 doc26 pm26 an26 cd26 ct26), sl26⟩) (d26 : PySem.W.codeIn K cd26 "check_place" = true) (k26 : PySem.W.keepIn K (.ref f26) = true)
  {f27 : Addr} {oc27 : Value} {od27 : Option Addr} {kV27 doc27 pm27 : Value} {an27 : Option Addr} {cd27 ct27 : Value} {sl27 : Array (Option Value)}
  (a27 : PySem.W.nsIn K mainGlobals "check_deed" = some (some (.ref f27))) (l27 : K.lookup f27 = some ⟨oc27, od27, .func (PySem.W.fnOf "check_deed" "check_deed" (defArgs s27) (defBody s27) (defScope s27) .none kV27 doc27 pm27 an27 cd27 ct27), sl27⟩) (d27 : PySem.W.codeIn K cd27 "check_deed" = true) (k27 : PySem.W.keepIn K (.ref f27) = true)
  {f28 : Addr} {oc28 : Value} {od28 : Option Addr} {kV28 doc28 pm28 : Value} {an28 : Option Addr} {cd28 ct28 : Value} {sl28 : Array (Option Value)}
  (a28 : PySem.W.nsIn K mainGlobals "limits_grid" = some (some (.ref f28))) (l28 : K.lookup f28 = some ⟨oc28, od28, .func (PySem.W.fnOf "limits_grid" "limits_grid" (defArgs s28) (defBody s28) (defScope s28) .none kV28 doc28 pm28 an28 cd28 ct28), sl28⟩) (d28 : PySem.W.codeIn K cd28 "limits_grid" = true) (k28 : PySem.W.keepIn K (.ref f28) = true)
  {f29 : Addr} {oc29 : Value} {od29 : Option Addr} {kV29 doc29 pm29 : Value} {an29 : Option Addr} {cd29 ct29 : Value} {sl29 : Array (Option Value)}
  (a29 : PySem.W.nsIn K mainGlobals "open_grid" = some (some (.ref f29))) (l29 : K.lookup f29 = some ⟨oc29, od29, .func (PySem.W.fnOf "open_grid" "open_grid" (defArgs s29) (defBody s29) (defScope s29) .none kV29 doc29 pm29 an29 cd29 ct29), sl29⟩) (d29 : PySem.W.codeIn K cd29 "open_grid" = true) (k29 : PySem.W.keepIn K (.ref f29) = true)
  {f30 : Addr} {oc30 : Value} {od30 : Option Addr} {kV30 doc30 pm30 : Value} {an30 : Option Addr} {cd30 ct30 : Value} {sl30 : Array (Option Value)}
  (a30 : PySem.W.nsIn K mainGlobals "limits" = some (some (.ref f30))) (l30 : K.lookup f30 = some ⟨oc30, od30, .func (PySem.W.fnOf "limits" "limits" (defArgs s30) (defBody s30) (defScope s30) .none kV30 doc30 pm30 an30 cd30 ct30), sl30⟩) (d30 : PySem.W.codeIn K cd30 "limits" = true) (k30 : PySem.W.keepIn K (.ref f30) = true)
  {f31 : Addr} {oc31 : Value} {od31 : Option Addr} {kV31 doc31 pm31 : Value} {an31 : Option Addr} {cd31 ct31 : Value} {sl31 : Array (Option Value)}
  (a31 : PySem.W.nsIn K mainGlobals "open_lot" = some (some (.ref f31))) (l31 : K.lookup f31 = some ⟨oc31, od31, .func (PySem.W.fnOf "open_lot" "open_lot" (defArgs s31) (defBody s31) (defScope s31) .none kV31 doc31 pm31 an31 cd31 ct31), sl31⟩) (d31 : PySem.W.codeIn K cd31 "open_lot" = true) (k31 : PySem.W.keepIn K (.ref f31) = true)
  {f32 : Addr} {oc32 : Value} {od32 : Option Addr} {kV32 doc32 pm32 : Value} {an32 : Option Addr} {cd32 ct32 : Value} {sl32 : Array (Option Value)}
  (a32 : PySem.W.nsIn K mainGlobals "deeds_at" = some (some (.ref f32))) (l32 : K.lookup f32 = some ⟨oc32, od32, .func (PySem.W.fnOf "deeds_at" "deeds_at" (defArgs s32) (defBody s32) (defScope s32) .none kV32 doc32 pm32 an32 cd32 ct32), sl32⟩) (d32 : PySem.W.codeIn K cd32 "deeds_at" = true) (k32 : PySem.W.keepIn K (.ref f32) = true)
  {f33 : Addr} {oc33 : Value} {od33 : Option Addr} {kV33 doc33 pm33 : Value} {an33 : Option Addr} {cd33 ct33 : Value} {sl33 : Array (Option Value)}
  (a33 : PySem.W.nsIn K mainGlobals "is_order" = some (some (.ref f33))) (l33 : K.lookup f33 = some ⟨oc33, od33, .func (PySem.W.fnOf "is_order" "is_order" (defArgs s33) (defBody s33) (defScope s33) .none kV33 doc33 pm33 an33 cd33 ct33), sl33⟩) (d33 : PySem.W.codeIn K cd33 "is_order" = true) (k33 : PySem.W.keepIn K (.ref f33) = true)
  {f34 : Addr} {oc34 : Value} {od34 : Option Addr} {kV34 doc34 pm34 : Value} {an34 : Option Addr} {cd34 ct34 : Value} {sl34 : Array (Option Value)}
  (a34 : PySem.W.nsIn K mainGlobals "placed" = some (some (.ref f34))) (l34 : K.lookup f34 = some ⟨oc34, od34, .func (PySem.W.fnOf "placed" "placed" (defArgs s34) (defBody s34) (defScope s34) .none kV34 doc34 pm34 an34 cd34 ct34), sl34⟩) (d34 : PySem.W.codeIn K cd34 "placed" = true) (k34 : PySem.W.keepIn K (.ref f34) = true)
  {f35 : Addr} {oc35 : Value} {od35 : Option Addr} {kV35 doc35 pm35 : Value} {an35 : Option Addr} {cd35 ct35 : Value} {sl35 : Array (Option Value)}
  (a35 : PySem.W.nsIn K mainGlobals "without_deed" = some (some (.ref f35))) (l35 : K.lookup f35 = some ⟨oc35, od35, .func (PySem.W.fnOf "without_deed" "without_deed" (defArgs s35) (defBody s35) (defScope s35) .none kV35 doc35 pm35 an35 cd35 ct35), sl35⟩) (d35 : PySem.W.codeIn K cd35 "without_deed" = true) (k35 : PySem.W.keepIn K (.ref f35) = true)
  {f36 : Addr} {oc36 : Value} {od36 : Option Addr} {kV36 doc36 pm36 : Value} {an36 : Option Addr} {cd36 ct36 : Value} {sl36 : Array (Option Value)}
  (a36 : PySem.W.nsIn K mainGlobals "_law_spins" = some (some (.ref f36))) (l36 : K.lookup f36 = some ⟨oc36, od36, .func (PySem.W.fnOf "_law_spins" "_law_spins" (defArgs s36) (defBody s36) (defScope s36) .none kV36 doc36 pm36 an36 cd36 ct36), sl36⟩) (d36 : PySem.W.codeIn K cd36 "_law_spins" = true) (k36 : PySem.W.keepIn K (.ref f36) = true)
  {f37 : Addr} {oc37 : Value} {od37 : Option Addr} {kV37 doc37 pm37 : Value} {an37 : Option Addr} {cd37 ct37 : Value} {sl37 : Array (Option Value)}
  (a37 : PySem.W.nsIn K mainGlobals "_law_spin" = some (some (.ref f37))) (l37 : K.lookup f37 = some ⟨oc37, od37, .func (PySem.W.fnOf "_law_spin" "_law_spin" (defArgs s37) (defBody s37) (defScope s37) .none kV37 doc37 pm37 an37 cd37 ct37), sl37⟩) (d37 : PySem.W.codeIn K cd37 "_law_spin" = true) (k37 : PySem.W.keepIn K (.ref f37) = true)
  {f38 : Addr} {oc38 : Value} {od38 : Option Addr} {kV38 doc38 pm38 : Value} {an38 : Option Addr} {cd38 ct38 : Value} {sl38 : Array (Option Value)}
  (a38 : PySem.W.nsIn K mainGlobals "_law_among" = some (some (.ref f38))) (l38 : K.lookup f38 = some ⟨oc38, od38, .func (PySem.W.fnOf "_law_among" "_law_among" (defArgs s38) (defBody s38) (defScope s38) .none kV38 doc38 pm38 an38 cd38 ct38), sl38⟩) (d38 : PySem.W.codeIn K cd38 "_law_among" = true) (k38 : PySem.W.keepIn K (.ref f38) = true)
  {f39 : Addr} {oc39 : Value} {od39 : Option Addr} {kV39 doc39 pm39 : Value} {an39 : Option Addr} {cd39 ct39 : Value} {sl39 : Array (Option Value)}
  (a39 : PySem.W.nsIn K mainGlobals "_law_met" = some (some (.ref f39))) (l39 : K.lookup f39 = some ⟨oc39, od39, .func (PySem.W.fnOf "_law_met" "_law_met" (defArgs s39) (defBody s39) (defScope s39) .none kV39 doc39 pm39 an39 cd39 ct39), sl39⟩) (d39 : PySem.W.codeIn K cd39 "_law_met" = true) (k39 : PySem.W.keepIn K (.ref f39) = true)
  {f40 : Addr} {oc40 : Value} {od40 : Option Addr} {kV40 doc40 pm40 : Value} {an40 : Option Addr} {ct40 : Value} {sl40 : Array (Option Value)} {c40 p40 : Addr} {dd40 : Option Addr} {vs40 : Array Value} {sk40 : Array (Option Value)} {fi40 : Str} {tf40 : Tok} {fg40 : Int} {tg40 : Tok} {inF40 : Bool} {tx40 : Int} {tt40 : Tok}
  (a40 : PySem.W.nsIn K mainGlobals "_law_right" = some (some (.ref f40))) (l40 : K.lookup f40 = some ⟨oc40, od40, .func (PySem.W.fnOf "_law_right" "_law_right" (defArgs s40) (defBody s40) (defScope s40) .none kV40 doc40 pm40 an40 (.ref c40) ct40), sl40⟩) (d40 : PySem.W.codeIn K (.ref c40) "_law_right" = true) (k40 : PySem.W.keepIn K (.ref f40) = true)
  (y40 : K.lookup c40 = some ⟨.type "code", dd40, .fields vs40, sk40⟩) (ya40 : vs40[11]? = some (.ref p40)) (yb40 : vs40.getD 11 .none = .ref p40) (yc40 : vs40.getD 18 .none = .str fi40 tf40) (yd40 : vs40.getD 7 .none = .int fg40 tg40) (ye40 : vs40.getD 9 .none = .bool inF40) (yf40 : vs40.getD 10 .none = .int tx40 tt40) (yg40 : c40 ≠ p40) (yh40 : K.lookup p40 = none)
  {f41 : Addr} {oc41 : Value} {od41 : Option Addr} {kV41 doc41 pm41 : Value} {an41 : Option Addr} {cd41 ct41 : Value} {sl41 : Array (Option Value)}
  (a41 : PySem.W.nsIn K mainGlobals "law" = some (some (.ref f41))) (l41 : K.lookup f41 = some ⟨oc41, od41, .func (PySem.W.fnOf "law" "law" (defArgs s41) (defBody s41) (defScope s41) .none kV41 doc41 pm41 an41 cd41 ct41), sl41⟩) (d41 : PySem.W.codeIn K cd41 "law" = true) (k41 : PySem.W.keepIn K (.ref f41) = true)
  (z_abs : PySem.W.nsIn K mainGlobals "abs" = some none)
  (z_all : PySem.W.nsIn K mainGlobals "all" = some none)
  (z_bool : PySem.W.nsIn K mainGlobals "bool" = some none)
  (z_enumerate : PySem.W.nsIn K mainGlobals "enumerate" = some none)
  (z_int : PySem.W.nsIn K mainGlobals "int" = some none)
  (z_isinstance : PySem.W.nsIn K mainGlobals "isinstance" = some none)
  (z_len : PySem.W.nsIn K mainGlobals "len" = some none)
  (z_list : PySem.W.nsIn K mainGlobals "list" = some none)
  (z_max : PySem.W.nsIn K mainGlobals "max" = some none)
  (z_min : PySem.W.nsIn K mainGlobals "min" = some none)
  (z_range : PySem.W.nsIn K mainGlobals "range" = some none)
  (z_repr : PySem.W.nsIn K mainGlobals "repr" = some none)
  (z_sorted : PySem.W.nsIn K mainGlobals "sorted" = some none)
  (z_tuple : PySem.W.nsIn K mainGlobals "tuple" = some none)
  (z_zip : PySem.W.nsIn K mainGlobals "zip" = some none)
  {t_TOO_GREAT : Tok} (c_TOO_GREAT : PySem.W.nsIn K mainGlobals "TOO_GREAT" = some (some (.int (1000000000000000000000000000000000000000000000000000000000000) t_TOO_GREAT)))
  {t_MOST_CLOCKS : Tok} (c_MOST_CLOCKS : PySem.W.nsIn K mainGlobals "MOST_CLOCKS" = some (some (.int (4) t_MOST_CLOCKS)))
  {t_NO_BOUND : Tok} (c_NO_BOUND : PySem.W.nsIn K mainGlobals "NO_BOUND" = some (some (.int (115792089237316195423570985008687907853269984665640564039457584007913129639936) t_NO_BOUND)))
  {t_AT_MOST_NOUGHT : Tok} (c_AT_MOST_NOUGHT : PySem.W.nsIn K mainGlobals "AT_MOST_NOUGHT" = some (some (.int (1) t_AT_MOST_NOUGHT)))
  {t_LEAST_OF_RING : Tok} (c_LEAST_OF_RING : PySem.W.nsIn K mainGlobals "LEAST_OF_RING" = some (some (.int (2) t_LEAST_OF_RING)))
  {t_GREATEST_NUMBER : Tok} (c_GREATEST_NUMBER : PySem.W.nsIn K mainGlobals "GREATEST_NUMBER" = some (some (.int (1000000000) t_GREATEST_NUMBER)))
  {t_MOST_PLACES : Tok} (c_MOST_PLACES : PySem.W.nsIn K mainGlobals "MOST_PLACES" = some (some (.int (12) t_MOST_PLACES)))
  {t_MOST_DEEDS : Tok} (c_MOST_DEEDS : PySem.W.nsIn K mainGlobals "MOST_DEEDS" = some (some (.int (40) t_MOST_DEEDS)))
  {t_MOST_NUMBER : Tok} (c_MOST_NUMBER : PySem.W.nsIn K mainGlobals "MOST_NUMBER" = some (some (.int (20) t_MOST_NUMBER)))
  {ad_OWNERS : Addr} {dd_OWNERS : Option Addr} {n_OWNERS : Nat} {sl_OWNERS : Array (Option Value)} {t_OWNERS_0 t_OWNERS_1 : Tok} (c_OWNERS : PySem.W.nsIn K mainGlobals "OWNERS" = some (some (.ref ad_OWNERS))) (cl_OWNERS : K.lookup ad_OWNERS = some ⟨.type "tuple", dd_OWNERS, .seq #[.str "own" t_OWNERS_0, .str "foe" t_OWNERS_1] n_OWNERS, sl_OWNERS⟩)
  {C0 : Addr} (xa0 : PySem.W.nsIn K mainGlobals "PlayError" = some (some (.ref C0))) (xb0 : PySem.W.excIn K C0 bm_ValueError "ValueError.__new__" = true) (xc0 : PySem.W.keepIn K (.ref C0) = true) (xd0 : PySem.W.subIn K (.ref C0) (.type "BaseException") = some true) (xe0 : PySem.W.typeIn K (.ref C0) = some (.type "type"))
  {C1 : Addr} (xa1 : PySem.W.nsIn K mainGlobals "InvalidMachine" = some (some (.ref C1))) (xb1 : PySem.W.excIn K C1 bm_ValueError "ValueError.__new__" = true) (xc1 : PySem.W.keepIn K (.ref C1) = true) (xd1 : PySem.W.subIn K (.ref C1) (.type "BaseException") = some true) (xe1 : PySem.W.typeIn K (.ref C1) = some (.type "type"))
  {C2 : Addr} (xa2 : PySem.W.nsIn K mainGlobals "InvalidPlaces" = some (some (.ref C2))) (xb2 : PySem.W.excIn K C2 bm_ValueError "ValueError.__new__" = true) (xc2 : PySem.W.keepIn K (.ref C2) = true) (xd2 : PySem.W.subIn K (.ref C2) (.type "BaseException") = some true) (xe2 : PySem.W.typeIn K (.ref C2) = some (.type "type"))
  {C3 : Addr} (xa3 : PySem.W.nsIn K mainGlobals "InvalidOperation" = some (some (.ref C3))) (xb3 : PySem.W.excIn K C3 bm_ValueError "ValueError.__new__" = true) (xc3 : PySem.W.keepIn K (.ref C3) = true) (xd3 : PySem.W.subIn K (.ref C3) (.type "BaseException") = some true) (xe3 : PySem.W.typeIn K (.ref C3) = some (.type "type"))
  {C4 fI4 : Addr} {oc4x : Value} {od4x : Option Addr} {kV4x doc4x pm4x : Value} {an4x : Option Addr} {cd4x ct4x : Value} {sl4x : Array (Option Value)} (xa4 : PySem.W.nsIn K mainGlobals "InvalidNumber" = some (some (.ref C4))) (xb4 : PySem.W.excInitIn K C4 bm_IndexError "IndexError.__new__" = true) (xo4 : PySem.W.excOver K C4 bm_IndexError = true) (xs4 : PySem.W.findIn K (.ref C4) "__setattr__" = some (some (.builtin "object.__setattr__"))) (xt4 : PySem.W.takerIn K C4 "given" = some none) (xh4 : PySem.W.hasDictIn K C4 = true)
  (xc4 : PySem.W.keepIn K (.ref C4) = true) (xd4 : PySem.W.subIn K (.ref C4) (.type "BaseException") = some true) (xe4 : PySem.W.typeIn K (.ref C4) = some (.type "type")) (xf4 : PySem.W.findIn K (.ref C4) "__init__" = some (some (.ref fI4))) (xg4 : PySem.W.typeIn K (.ref fI4) = some (.type "function"))
  (xi4 : K.lookup fI4 = some ⟨oc4x, od4x, .func (PySem.W.fnOf "__init__" "InvalidNumber.__init__" (defArgs (iniOf (topS 12))) (defBody (iniOf (topS 12))) (defScope (iniOf (topS 12))) .none kV4x doc4x pm4x an4x cd4x ct4x), sl4x⟩) (xj4 : PySem.W.codeIn K cd4x "InvalidNumber.__init__" = true) (xk4 : xfB K C4 = true) (xl4 : PySem.W.findIn K (.ref C4) "given" = some none)
  {O0 : Addr} (qa0 : PySem.W.nsIn K mainGlobals "Machine" = some (some (.ref O0))) (qb0 : clB K O0 = true) (qc0 : PySem.W.keepIn K (.ref O0) = true) (qd0 : PySem.W.findIn K (.ref O0) "__setattr__" = some (some (.builtin "object.__setattr__"))) (qe0 : PySem.W.findIn K (.ref O0) "__class__" = some (some (.builtin "object.__class__"))) (qf0 : PySem.W.specialIn K (.builtin "object.__class__") "__get__" = some (some (.builtin "getset_descriptor.__get__")))
  (qn0_0 : PySem.W.findIn K (.ref O0) "_clocks" = some none)
  (qn0_1 : PySem.W.findIn K (.ref O0) "_places" = some none)
  (qn0_2 : PySem.W.findIn K (.ref O0) "_deeds" = some none)
  (qn0_3 : PySem.W.findIn K (.ref O0) "_most" = some none)
  {f42 : Addr} {oc42 : Value} {od42 : Option Addr} {kV42 doc42 pm42 : Value} {an42 : Option Addr} {cd42 ct42 : Value} {sl42 : Array (Option Value)}
  (wa42 : PySem.W.findIn K (.ref O0) "__init__" = some (some (.ref f42))) (wb42 : PySem.W.isFn K (.ref f42) = true)
  (wk42 : PySem.W.keepIn K (.ref f42) = true) (wl42 : K.lookup f42 = some ⟨oc42, od42, .func (PySem.W.fnOf "__init__" "Machine.__init__" (defArgs s42) (defBody s42) (defScope s42) .none kV42 doc42 pm42 an42 cd42 ct42), sl42⟩) (wd42 : PySem.W.codeIn K cd42 "Machine.__init__" = true)
  {f43 : Addr} {oc43 : Value} {od43 : Option Addr} {kV43 doc43 pm43 : Value} {an43 : Option Addr} {cd43 ct43 : Value} {sl43 : Array (Option Value)}
  {pp43 : Addr} {rs43 : List Value} (wa43 : PySem.W.findIn K (.ref O0) "clocks" = some (some (.ref pp43))) (wb43 : PySem.W.specialIn K (.ref pp43) "__get__" = some (some (.builtin "property.__get__"))) (wt43 : PySem.W.takesIn K (.ref pp43) = some true) (wr43 : PySem.W.recIn K pp43 "property" = some (.ref f43 :: rs43))
  (wk43 : PySem.W.keepIn K (.ref f43) = true) (wl43 : K.lookup f43 = some ⟨oc43, od43, .func (PySem.W.fnOf "clocks" "Machine.clocks" (defArgs s43) (defBody s43) (defScope s43) .none kV43 doc43 pm43 an43 cd43 ct43), sl43⟩) (wd43 : PySem.W.codeIn K cd43 "Machine.clocks" = true)
  {f44 : Addr} {oc44 : Value} {od44 : Option Addr} {kV44 doc44 pm44 : Value} {an44 : Option Addr} {cd44 ct44 : Value} {sl44 : Array (Option Value)}
  {pp44 : Addr} {rs44 : List Value} (wa44 : PySem.W.findIn K (.ref O0) "places" = some (some (.ref pp44))) (wb44 : PySem.W.specialIn K (.ref pp44) "__get__" = some (some (.builtin "property.__get__"))) (wt44 : PySem.W.takesIn K (.ref pp44) = some true) (wr44 : PySem.W.recIn K pp44 "property" = some (.ref f44 :: rs44))
  (wk44 : PySem.W.keepIn K (.ref f44) = true) (wl44 : K.lookup f44 = some ⟨oc44, od44, .func (PySem.W.fnOf "places" "Machine.places" (defArgs s44) (defBody s44) (defScope s44) .none kV44 doc44 pm44 an44 cd44 ct44), sl44⟩) (wd44 : PySem.W.codeIn K cd44 "Machine.places" = true)
  {f45 : Addr} {oc45 : Value} {od45 : Option Addr} {kV45 doc45 pm45 : Value} {an45 : Option Addr} {cd45 ct45 : Value} {sl45 : Array (Option Value)}
  {pp45 : Addr} {rs45 : List Value} (wa45 : PySem.W.findIn K (.ref O0) "deeds" = some (some (.ref pp45))) (wb45 : PySem.W.specialIn K (.ref pp45) "__get__" = some (some (.builtin "property.__get__"))) (wt45 : PySem.W.takesIn K (.ref pp45) = some true) (wr45 : PySem.W.recIn K pp45 "property" = some (.ref f45 :: rs45))
  (wk45 : PySem.W.keepIn K (.ref f45) = true) (wl45 : K.lookup f45 = some ⟨oc45, od45, .func (PySem.W.fnOf "deeds" "Machine.deeds" (defArgs s45) (defBody s45) (defScope s45) .none kV45 doc45 pm45 an45 cd45 ct45), sl45⟩) (wd45 : PySem.W.codeIn K cd45 "Machine.deeds" = true)
  {f46 : Addr} {oc46 : Value} {od46 : Option Addr} {kV46 doc46 pm46 : Value} {an46 : Option Addr} {cd46 ct46 : Value} {sl46 : Array (Option Value)}
  {pp46 : Addr} {rs46 : List Value} (wa46 : PySem.W.findIn K (.ref O0) "most" = some (some (.ref pp46))) (wb46 : PySem.W.specialIn K (.ref pp46) "__get__" = some (some (.builtin "property.__get__"))) (wt46 : PySem.W.takesIn K (.ref pp46) = some true) (wr46 : PySem.W.recIn K pp46 "property" = some (.ref f46 :: rs46))
  (wk46 : PySem.W.keepIn K (.ref f46) = true) (wl46 : K.lookup f46 = some ⟨oc46, od46, .func (PySem.W.fnOf "most" "Machine.most" (defArgs s46) (defBody s46) (defScope s46) .none kV46 doc46 pm46 an46 cd46 ct46), sl46⟩) (wd46 : PySem.W.codeIn K cd46 "Machine.most" = true)
  (qkt : ktC K [O0] = true)
  (cat : catB K [C0, C1, C2, C3, C4] S.exs = true)
  : Head K c40 p40 C0 C1 C2 C3 C4 O0 := ⟨⟨_, fnF_mk a0 l0 d0 k0⟩, ⟨_, fnF_mk a1 l1 d1 k1⟩, ⟨_, fnF_mk a2 l2 d2 k2⟩, ⟨_, fnF_mk a3 l3 d3 k3⟩, ⟨_, fnF_mk a4 l4 d4 k4⟩, ⟨_, fnF_mk a5 l5 d5 k5⟩, ⟨_, fnF_mk a6 l6 d6 k6⟩, ⟨_, fnF_mk a7 l7 d7 k7⟩, ⟨_, fnF_mk a8 l8 d8 k8⟩, ⟨_, fnF_mk a9 l9 d9 k9⟩, ⟨_, fnF_mk a10 l10 d10 k10⟩, ⟨_, fnF_mk a11 l11 d11 k11⟩, ⟨_, fnF_mk a12 l12 d12 k12⟩, ⟨_, fnF_mk a13 l13 d13 k13⟩, ⟨_, fnF_mk a14 l14 d14 k14⟩, ⟨_, fnF_mk a15 l15 d15 k15⟩, ⟨_, fnF_mk a16 l16 d16 k16⟩, ⟨_, fnF_mk a17 l17 d17 k17⟩, ⟨_, fnF_mk a18 l18 d18 k18⟩, ⟨_, fnF_mk a19 l19 d19 k19⟩, ⟨_, fnF_mk a20 l20 d20 k20⟩, ⟨_, fnF_mk a21 l21 d21 k21⟩, ⟨_, fnF_mk a22 l22 d22 k22⟩, ⟨_, fnF_mk a23 l23 d23 k23⟩, ⟨_, fnF_mk a24 l24 d24 k24⟩, ⟨_, fnF_mk a25 l25 d25 k25⟩, ⟨_, fnF_mk a26 l26 d26 k26⟩, ⟨_, fnF_mk a27 l27 d27 k27⟩, ⟨_, fnF_mk a28 l28 d28 k28⟩, ⟨_, fnF_mk a29 l29 d29 k29⟩, ⟨_, fnF_mk a30 l30 d30 k30⟩, ⟨_, fnF_mk a31 l31 d31 k31⟩, ⟨_, fnF_mk a32 l32 d32 k32⟩, ⟨_, fnF_mk a33 l33 d33 k33⟩, ⟨_, fnF_mk a34 l34 d34 k34⟩, ⟨_, fnF_mk a35 l35 d35 k35⟩, ⟨_, fnF_mk a36 l36 d36 k36⟩, ⟨_, fnF_mk a37 l37 d37 k37⟩, ⟨_, fnF_mk a38 l38 d38 k38⟩, ⟨_, fnF_mk a39 l39 d39 k39⟩, fnF_mk a40 l40 d40 k40, ⟨_, fnF_mk a41 l41 d41 k41⟩, codeK_mk y40 ya40 yb40 yc40 yd40 ye40 yf40 yg40 yh40, ⟨List.Mem.head _, (all_cons (fun _ => rfl) all_nil)⟩, z_abs, z_all, z_bool, z_enumerate, z_int, z_isinstance, z_len, z_list, z_max, z_min, z_range, z_repr, z_sorted, z_tuple, z_zip, ⟨_, c_TOO_GREAT⟩, ⟨_, c_MOST_CLOCKS⟩, ⟨_, c_NO_BOUND⟩, ⟨_, c_AT_MOST_NOUGHT⟩, ⟨_, c_LEAST_OF_RING⟩, ⟨_, c_GREATEST_NUMBER⟩, ⟨_, c_MOST_PLACES⟩, ⟨_, c_MOST_DEEDS⟩, ⟨_, c_MOST_NUMBER⟩, tupC_mk c_OWNERS cl_OWNERS (Nat.le_of_ble_eq_true rfl) (.cons ⟨_, rfl⟩ (.cons ⟨_, rfl⟩ .nil)), ⟨qa0, qb0, qc0, qd0, qe0, qf0, (all_cons qn0_0 (all_cons qn0_1 (all_cons qn0_2 (all_cons qn0_3 all_nil)))), ⟨by decide, by decide⟩⟩, mtF_mk wa42 wb42 wk42 wl42 wd42, prF_mk wa43 wb43 wt43 wr43 wk43 wl43 wd43, prF_mk wa44 wb44 wt44 wr44 wk44 wl44 wd44, prF_mk wa45 wb45 wt45 wr45 wk45 wl45 wd45, prF_mk wa46 wb46 wt46 wr46 wk46 wl46 wd46, qkt, ⟨xa0, xb0, xc0, xd0, xe0⟩, ⟨xa1, xb1, xc1, xd1, xe1⟩, ⟨xa2, xb2, xc2, xd2, xe2⟩, ⟨xa3, xb3, xc3, xd3, xe3⟩, kpF_mk (rt := rt_IndexError) xa4 xb4 xo4 xs4 xt4 xh4 xc4 xd4 xe4 xf4 xg4 xi4 xj4 xk4 xl4 ⟨rfl, rfl, rfl, by decide +kernel, rfl, by decide +kernel, by decide +kernel⟩ (by kernel_rfl) (fun us hl => match us, hl with | [_, _], _ => rfl) rfl rfl, cat⟩
theorem fin {P : Program} {w : World} {K : PySem.W.Frag} {mg : Str → Option Value} {fa : Addr} {h : Heap} {c40 p40 : Addr} {C0 : Addr} {C1 : Addr} {C2 : Addr} {C3 : Addr} {C4 : Addr} {O0 : Addr} (Hd : Head K c40 p40 C0 C1 C2 C3 C4 O0) (KX : K.In h) (G : h.Ns mainGlobals mg) (hmg : mg "law" = some (.ref fa)) (own : ∀ x ∈ ([("_law_right" : Str)] : List Str), ∀ fx, mg x = some (.ref fx) → TabE K fx h) :
    LawG P w K (21 + 1) "script" (runDef false N41.length b41 (GK 21)) mg fa h := by
  obtain ⟨cdL, fL⟩ := Hd.f41
  exact law_f (lam := false) (cs := [(c40, p40, (("_law_right" : Str) ++ ".<locals>.") ++ "<lambda>")]) (Cs := [C0, C1, C2, C3, C4]) KX G hmg (tabs_in KX (all_cons ⟨Hd.t40, _, _, Hd.f40, fun fx e => own _ (by simp) fx (PySem.W.mg_of KX G e)⟩ all_nil)) fL bi41 sc41 h41 (by decide) (fun z => absurd z (by decide)) (by decide) (fun Γ eK B => stat c40 p40 C0 C1 C2 C3 C4 O0 B (eK ▸ Hd) 21)
end Pv.K24
end
set_option Elab.async false
set_option linter.all false
set_option maxRecDepth 100000
open PySem PySem.W PyProof.Rows
set_option maxRecDepth 100000 in
set_option maxHeartbeats 0 in
theorem PySem.Challenge.cw_pauseplay_k24_errors_of_machines_holds : PySem.Challenge.rw_pauseplay_k24_errors_of_machines.Holds := by
  w_on; o_law; k_head; (case hw => w_witness2)
  k_fill
  refine Pv.walk_g (l := PySem.Challenge.rw_pauseplay_k24_errors_of_machines) (n := 63) (k := 21 + 1) (x := "script") (g := Pv.runDef false Pv.K24.N41.length Pv.K24.b41 (Pv.K24.GK 21)) [("_law_right" : Str)] rfl (by decide) rfl ⟨rfl, by decide, by decide⟩ (by decide +kernel) (fun w h Y => by first | exact PySem.W.kIn_of Y | exact PySem.W.km_in_of Y) ?F (fun ns hl => Pv.K24.holds ns hl)
  case F =>
    intro w mg fa h KX G hmg own
    refine' Pv.K24.fin (Pv.K24.head_mk ?a0 ?l0 ?d0 ?k0 ?a1 ?l1 ?d1 ?k1 ?a2 ?l2 ?d2 ?k2 ?a3 ?l3 ?d3 ?k3 ?a4 ?l4 ?d4 ?k4 ?a5 ?l5 ?d5 ?k5 ?a6 ?l6 ?d6 ?k6 ?a7 ?l7 ?d7 ?k7 ?a8 ?l8 ?d8 ?k8 ?a9 ?l9 ?d9 ?k9 ?a10 ?l10 ?d10 ?k10 ?a11 ?l11 ?d11 ?k11 ?a12 ?l12 ?d12 ?k12 ?a13 ?l13 ?d13 ?k13 ?a14 ?l14 ?d14 ?k14 ?a15 ?l15 ?d15 ?k15 ?a16 ?l16 ?d16 ?k16 ?a17 ?l17 ?d17 ?k17 ?a18 ?l18 ?d18 ?k18 ?a19 ?l19 ?d19 ?k19 ?a20 ?l20 ?d20 ?k20 ?a21 ?l21 ?d21 ?k21 ?a22 ?l22 ?d22 ?k22 ?a23 ?l23 ?d23 ?k23 ?a24 ?l24 ?d24 ?k24 ?a25 ?l25 ?d25 ?k25 ?a26 ?l26 ?d26 ?k26 ?a27 ?l27 ?d27 ?k27 ?a28 ?l28 ?d28 ?k28 ?a29 ?l29 ?d29 ?k29 ?a30 ?l30 ?d30 ?k30 ?a31 ?l31 ?d31 ?k31 ?a32 ?l32 ?d32 ?k32 ?a33 ?l33 ?d33 ?k33 ?a34 ?l34 ?d34 ?k34 ?a35 ?l35 ?d35 ?k35 ?a36 ?l36 ?d36 ?k36 ?a37 ?l37 ?d37 ?k37 ?a38 ?l38 ?d38 ?k38 ?a39 ?l39 ?d39 ?k39 ?a40 ?l40 ?d40 ?k40 ?y40 ?ya40 ?yb40 ?yc40 ?yd40 ?ye40 ?yf40 ?yg40 ?yh40 ?a41 ?l41 ?d41 ?k41 ?z_abs ?z_all ?z_bool ?z_enumerate ?z_int ?z_isinstance ?z_len ?z_list ?z_max ?z_min ?z_range ?z_repr ?z_sorted ?z_tuple ?z_zip ?c_TOO_GREAT ?c_MOST_CLOCKS ?c_NO_BOUND ?c_AT_MOST_NOUGHT ?c_LEAST_OF_RING ?c_GREATEST_NUMBER ?c_MOST_PLACES ?c_MOST_DEEDS ?c_MOST_NUMBER ?c_OWNERS ?cl_OWNERS ?xa0 ?xb0 ?xc0 ?xd0 ?xe0 ?xa1 ?xb1 ?xc1 ?xd1 ?xe1 ?xa2 ?xb2 ?xc2 ?xd2 ?xe2 ?xa3 ?xb3 ?xc3 ?xd3 ?xe3 ?xa4 ?xb4 ?xo4 ?xs4 ?xt4 ?xh4 ?xc4 ?xd4 ?xe4 ?xf4 ?xg4 ?xi4 ?xj4 ?xk4 ?xl4 ?qa0 ?qb0 ?qc0 ?qd0 ?qe0 ?qf0 ?qn0_0 ?qn0_1 ?qn0_2 ?qn0_3 ?wa42 ?wb42 ?wk42 ?wl42 ?wd42 ?wa43 ?wb43 ?wt43 ?wr43 ?wk43 ?wl43 ?wd43 ?wa44 ?wb44 ?wt44 ?wr44 ?wk44 ?wl44 ?wd44 ?wa45 ?wb45 ?wt45 ?wr45 ?wk45 ?wl45 ?wd45 ?wa46 ?wb46 ?wt46 ?wr46 ?wk46 ?wl46 ?wd46 ?qkt ?cat) KX G hmg own
    (case a0 => k_is); (case l0 => k_is); (case d0 => k_is); (case k0 => k_is); (case a1 => k_is); (case l1 => k_is); (case d1 => k_is); (case k1 => k_is)
    (case a2 => k_is); (case l2 => k_is); (case d2 => k_is); (case k2 => k_is); (case a3 => k_is); (case l3 => k_is); (case d3 => k_is); (case k3 => k_is)
    (case a4 => k_is); (case l4 => k_is); (case d4 => k_is); (case k4 => k_is); (case a5 => k_is); (case l5 => k_is); (case d5 => k_is); (case k5 => k_is)
    (case a6 => k_is); (case l6 => k_is); (case d6 => k_is); (case k6 => k_is); (case a7 => k_is); (case l7 => k_is); (case d7 => k_is); (case k7 => k_is)
    (case a8 => k_is); (case l8 => k_is); (case d8 => k_is); (case k8 => k_is); (case a9 => k_is); (case l9 => k_is); (case d9 => k_is); (case k9 => k_is)
    (case a10 => k_is); (case l10 => k_is); (case d10 => k_is); (case k10 => k_is); (case a11 => k_is); (case l11 => k_is); (case d11 => k_is); (case k11 => k_is)
    (case a12 => k_is); (case l12 => k_is); (case d12 => k_is); (case k12 => k_is); (case a13 => k_is); (case l13 => k_is); (case d13 => k_is); (case k13 => k_is)
    (case a14 => k_is); (case l14 => k_is); (case d14 => k_is); (case k14 => k_is); (case a15 => k_is); (case l15 => k_is); (case d15 => k_is); (case k15 => k_is)
    (case a16 => k_is); (case l16 => k_is); (case d16 => k_is); (case k16 => k_is); (case a17 => k_is); (case l17 => k_is); (case d17 => k_is); (case k17 => k_is)
    (case a18 => k_is); (case l18 => k_is); (case d18 => k_is); (case k18 => k_is); (case a19 => k_is); (case l19 => k_is); (case d19 => k_is); (case k19 => k_is)
    (case a20 => k_is); (case l20 => k_is); (case d20 => k_is); (case k20 => k_is); (case a21 => k_is); (case l21 => k_is); (case d21 => k_is); (case k21 => k_is)
    (case a22 => k_is); (case l22 => k_is); (case d22 => k_is); (case k22 => k_is); (case a23 => k_is); (case l23 => k_is); (case d23 => k_is); (case k23 => k_is)
    (case a24 => k_is); (case l24 => k_is); (case d24 => k_is); (case k24 => k_is); (case a25 => k_is); (case l25 => k_is); (case d25 => k_is); (case k25 => k_is)
    (case a26 => k_is); (case l26 => k_is); (case d26 => k_is); (case k26 => k_is); (case a27 => k_is); (case l27 => k_is); (case d27 => k_is); (case k27 => k_is)
    (case a28 => k_is); (case l28 => k_is); (case d28 => k_is); (case k28 => k_is); (case a29 => k_is); (case l29 => k_is); (case d29 => k_is); (case k29 => k_is)
    (case a30 => k_is); (case l30 => k_is); (case d30 => k_is); (case k30 => k_is); (case a31 => k_is); (case l31 => k_is); (case d31 => k_is); (case k31 => k_is)
    (case a32 => k_is); (case l32 => k_is); (case d32 => k_is); (case k32 => k_is); (case a33 => k_is); (case l33 => k_is); (case d33 => k_is); (case k33 => k_is)
    (case a34 => k_is); (case l34 => k_is); (case d34 => k_is); (case k34 => k_is); (case a35 => k_is); (case l35 => k_is); (case d35 => k_is); (case k35 => k_is)
    (case a36 => k_is); (case l36 => k_is); (case d36 => k_is); (case k36 => k_is); (case a37 => k_is); (case l37 => k_is); (case d37 => k_is); (case k37 => k_is)
    (case a38 => k_is); (case l38 => k_is); (case d38 => k_is); (case k38 => k_is); (case a39 => k_is); (case l39 => k_is); (case d39 => k_is); (case k39 => k_is)
    (case a40 => k_is); (case l40 => k_is); (case d40 => k_is); (case k40 => k_is); (case y40 => k_is); (case ya40 => first | exact rfl | kernel_rfl); (case yb40 => first | exact rfl | kernel_rfl); (case yc40 => first | exact rfl | kernel_rfl)
    (case yd40 => first | exact rfl | kernel_rfl); (case ye40 => first | exact rfl | kernel_rfl); (case yf40 => first | exact rfl | kernel_rfl); (case yg40 => decide); (case yh40 => first | exact rfl | kernel_rfl | k_is); (case a41 => k_is); (case l41 => k_is); (case d41 => k_is)
    (case k41 => k_is); (case z_abs => k_is); (case z_all => k_is); (case z_bool => k_is); (case z_enumerate => k_is); (case z_int => k_is); (case z_isinstance => k_is); (case z_len => k_is)
    (case z_list => k_is); (case z_max => k_is); (case z_min => k_is); (case z_range => k_is); (case z_repr => k_is); (case z_sorted => k_is); (case z_tuple => k_is); (case z_zip => k_is)
    (case c_TOO_GREAT => k_is); (case c_MOST_CLOCKS => k_is); (case c_NO_BOUND => k_is); (case c_AT_MOST_NOUGHT => k_is); (case c_LEAST_OF_RING => k_is); (case c_GREATEST_NUMBER => k_is); (case c_MOST_PLACES => k_is); (case c_MOST_DEEDS => k_is)
    (case c_MOST_NUMBER => k_is); (case c_OWNERS => k_is); (case cl_OWNERS => k_is); (case xa0 => k_is); (case xb0 => first | k_exc | kx_is | kernel_rfl); (case xc0 => k_is); (case xd0 => k_is); (case xe0 => k_is)
    (case xa1 => k_is); (case xb1 => first | k_exc | kx_is | kernel_rfl); (case xc1 => k_is); (case xd1 => k_is); (case xe1 => k_is); (case xa2 => k_is); (case xb2 => first | k_exc | kx_is | kernel_rfl); (case xc2 => k_is)
    (case xd2 => k_is); (case xe2 => k_is); (case xa3 => k_is); (case xb3 => first | k_exc | kx_is | kernel_rfl); (case xc3 => k_is); (case xd3 => k_is); (case xe3 => k_is); (case xa4 => k_is)
    (case xb4 => first | kx_is | kernel_rfl); (case xo4 => first | kx_is | kernel_rfl); (case xs4 => k_is); (case xt4 => k_is); (case xh4 => k_is); (case xc4 => k_is); (case xd4 => k_is); (case xe4 => k_is)
    (case xf4 => k_is); (case xg4 => k_is); (case xi4 => k_is); (case xj4 => k_is); (case xk4 => kernel_rfl); (case xl4 => k_is); (case qa0 => k_is); (case qb0 => kernel_rfl)
    (case qc0 => k_is); (case qd0 => first | k_is | kernel_rfl); (case qe0 => first | k_is | kernel_rfl); (case qf0 => first | k_is | kernel_rfl); (case qn0_0 => first | k_is | kernel_rfl); (case qn0_1 => first | k_is | kernel_rfl); (case qn0_2 => first | k_is | kernel_rfl); (case qn0_3 => first | k_is | kernel_rfl)
    (case wa42 => k_is); (case wb42 => first | k_is | kernel_rfl); (case wk42 => k_is); (case wl42 => k_is); (case wd42 => first | k_is | kernel_rfl); (case wa43 => k_is); (case wb43 => first | k_is | kernel_rfl); (case wt43 => first | k_is | kernel_rfl)
    (case wr43 => first | k_is | kernel_rfl); (case wk43 => k_is); (case wl43 => k_is); (case wd43 => first | k_is | kernel_rfl); (case wa44 => k_is); (case wb44 => first | k_is | kernel_rfl); (case wt44 => first | k_is | kernel_rfl); (case wr44 => first | k_is | kernel_rfl)
    (case wk44 => k_is); (case wl44 => k_is); (case wd44 => first | k_is | kernel_rfl); (case wa45 => k_is); (case wb45 => first | k_is | kernel_rfl); (case wt45 => first | k_is | kernel_rfl); (case wr45 => first | k_is | kernel_rfl); (case wk45 => k_is)
    (case wl45 => k_is); (case wd45 => first | k_is | kernel_rfl); (case wa46 => k_is); (case wb46 => first | k_is | kernel_rfl); (case wt46 => first | k_is | kernel_rfl); (case wr46 => first | k_is | kernel_rfl); (case wk46 => k_is); (case wl46 => k_is)
    (case wd46 => first | k_is | kernel_rfl); (case qkt => kernel_rfl); (case cat => kernel_rfl)
